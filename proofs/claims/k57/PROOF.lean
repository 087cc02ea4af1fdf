import PyProof.Rows.All
import Wide.All
import OpenK.AllK
import Wide.FinOn
import Lean
import PyProof.EqAt
import PyProof.EqKinds
import PyProof.TupleCall
import PySem.Challenge.RW_undivide_k57_whole_none_cheaper
set_option Elab.async false
set_option linter.all false
set_option maxRecDepth 100000
set_option compiler.extract_closed false
local macro_rules | `(tactic| omega)=> `(tactic| lia)
noncomputable section
open Lean in
local macro_rules|`(tactic|have($a,$b,*):=$e)=>do
 let p<-(#[a]++b.getElems).mapM λx=>match x with|`($i:ident)=>`(Parser.Tactic.rcasesPatLo|$i:ident)|_=>`(Parser.Tactic.rcasesPatLo|_)
 `(tactic|obtain⟨$p,*⟩:=$e)
namespace L2
open PySem PySem.Spec PyProof.Rows
abbrev À.{u,v}:=@List.mem_map.{u,v}
abbrev Á.{u}:=@List.mem_append.{u}
abbrev Â.{u}:=@List.mem_of_getElem?.{u}
abbrev Ã:=@PySem.F.slot_dict_itemiterator_next
abbrev Ä:=@Nat.pow_le_pow_right
abbrev Å:=@Nat.zero_le
abbrev Æ:=@PySem.W.mg_none_of
abbrev Ç:=@Nat.lt_irrefl
abbrev È:=@PySem.F.plainAttrs_list
abbrev É.{u,v}:=@List.map_congr_left.{u,v}
abbrev Ê:=@PySem.Heap.get?_update_other
abbrev Ë:=@PySem.Heap.SameBut.update
abbrev Ì:=@PyProof.Rows.boot_tuple
abbrev Í.{u}:=@List.mem_append_left.{u}
abbrev Î:=@PySem.F.slot_list_append
abbrev Ï:=@PySem.F.type_list_append
abbrev Ð:=@PySem.Heap.get?_update_self
abbrev Ñ:=@PySem.boot_len
abbrev Ò:=@PySem.W.kia_one
abbrev Ó:=@Nat.lt_of_le_of_lt
abbrev Ô.{u}:=@List.length_filter_le.{u}
abbrev Õ:=@Nat.mul_le_mul
abbrev Ö:=@PyProof.Rows.callWith_type1
abbrev Ø:=@Nat.mul_le_mul_right
abbrev Ù.{u}:=@List.pairwise_cons.{u}
abbrev Ú:=@PySem.F.slot_dict_keyiterator_next
abbrev Û.{u,v}:=@List.of_mem_zip.{u,v}
abbrev Ü:=@PySem.Calls.callWith_builtin
abbrev Ý:=@Nat.lt_succ_self
abbrev Þ:=@PySem.F.args_dict_itemiterator_next_1
abbrev ß.{u}:=@List.mem_filter.{u}
abbrev à:=@PySem.F.entry_dict_itemiterator_next
abbrev á:=@PySem.W.mg_of
abbrev â.{u,v}:=@List.mem_flatMap.{u,v}
abbrev ã.{u}:=@List.getElem?_set_self.{u}
abbrev ä:=@Nat.lt_succ_of_lt
abbrev å.{u}:=@List.pairwise_iff_getElem.{u}
abbrev æ:=@Int.le_refl
abbrev ç:=@List.mem_range
abbrev è.{u}:=@Option.isSome_iff_exists.{u}
abbrev é:=@Int.le_of_lt
abbrev ê.{u}:=@List.any_eq_true.{u}
abbrev ë:=@Int.mul_ediv_cancel_left
abbrev ì:=@PySem.mem_of_lookup
abbrev í:=@PySem.F.slot_tuple_hash
abbrev î.{u}:=@List.length_eq_zero_iff.{u}
abbrev ï:=@PySem.Calls.spliced_cons
abbrev ð:=@Nat.le_succ
abbrev ñ.{u}:=@List.eq_nil_of_length_eq_zero.{u}
abbrev ò:=@Int.dvd_gcd_mul_iff_dvd_mul
abbrev ó:=@PySem.Calls.evalArgs_plain
abbrev ô.{u}:=@List.all_eq_true.{u}
abbrev õ:=@Int.eq_of_mul_eq_mul_right
abbrev ö.{u}:=@List.nodup_cons.{u}
abbrev ø:=@Int.emod_nonneg
abbrev ù:=@Nat.lt_trans
abbrev ú:=@Int.emod_lt_of_pos
abbrev Qa.{u}:=@List.{u}
abbrev Qb.{u}:=@Option.{u}
abbrev Qc:=Value
abbrev Qd:=Shared
abbrev Qe:=Program
abbrev Qf:=Around
abbrev Qg:=Addr
abbrev Qh:=World
abbrev qa:=@wpAny_bind
abbrev qb:=@wpAny_pure
abbrev qc:=PySem.W.Frag
abbrev qd:=@Heap.get?_push_of_some
abbrev qe:=@Nat.le_refl
abbrev qf:=@Bool.false_ne_true
abbrev qg:=@Heap.get?_push_size
abbrev qh:=@Heap.lt_size
abbrev qi:=@Nat.lt_of_lt_of_le
abbrev qj:=@Nat.ne_of_lt
abbrev qk.{u}:=@List.getElem?_eq_some_iff.{u}
abbrev qm.{u}:=@List.getElem?_eq_getElem.{u}
abbrev qo.{u}:=@List.mem_cons_of_mem.{u}
abbrev qp.{u}:=@List.mem_cons_self.{u}
abbrev qq.{u}:=@List.mem_singleton.{u}
abbrev qr.{u,v}:=@Option.map_eq_some_iff.{u,v}
abbrev qt.{u}:=@List.length_append.{u}
abbrev qu.{u}:=@List.length_cons.{u}
abbrev qv.{u}:=@List.mem_cons.{u}
abbrev qw.{u}:=@List.mem_append_right.{u}
abbrev qx.{u}:=@Option.some.inj.{u}
abbrev qy:=@Nat.le_trans
abbrev qA:=@wpAny_newObj_type
abbrev qB.{u}:=@List.getD_eq_getElem?_getD.{u}
abbrev qC.{u}:=@List.getElem?_set_ne.{u}
abbrev Key:=Sum Int Str
def uW:Key->Qc->Bool
 | .inl k,v=>Value.isInt k v
 | .inr x,v=>Value.isStrOf x v
def Kl(w:Qh):Key->Int
 | .inl k=>hashInt k
 | .inr x=>hashStr w x
theorem kA:∀ {k:Key} {v:Qc},uW k v=true->(∃ i t,k=Sum.inl i/\v=Value.int i t)\/(∃ x t,k=Sum.inr x/\v=Value.str x t)
 | .inl i,v,h=>by
  have(t,e):=Value.isInt_shape (k:=i) (v:=v) h;exact .inl ⟨i,t,rfl,e⟩
 | .inr x,v,h=>by
  have(t,e):=Value.isStrOf_shape (x:=x) (v:=v) h;exact .inr ⟨x,t,rfl,e⟩
theorem zoG(i:Int)(t:Tok):uW (.inl i) (.int i t)=true:=by simp[uW,Value.isInt]
theorem zoH(x:Str)(t:Tok):uW (.inr x) (.str x t)=true:=by simp[uW,Value.isStrOf]
theorem WR(a b:Int):decide ((Sum.inl a:Key)=Sum.inl b)=(a==b):=by
 by_cases e:a=b
 .subst e; simp
 .have h:¬(Sum.inl a:Key)=Sum.inl b:=λq=>e<|Sum.inl.inj q
  rw[decide_eq_false h];exact(beq_eq_false_iff_ne.mpr e).symm
theorem WQ(a b:Str):decide ((Sum.inr a:Key)=Sum.inr b)=decide (a=b):=by
 by_cases e:a=b
 .subst e; simp
 .have h:¬(Sum.inr a:Key)=Sum.inr b:=λq=>e<|Sum.inr.inj q
  rw[decide_eq_false h,decide_eq_false e]
theorem WO(a:Int)(b:Str):decide ((Sum.inl a:Key)=Sum.inr b)=false:=decide_eq_false (λq=>nomatch q)
theorem WN(a:Str)(b:Int):decide ((Sum.inr a:Key)=Sum.inl b)=false:=decide_eq_false (λq=>nomatch q)
def zD(prog:Qe)(w:Qh):PySem.KeyKind prog w Key where
 is:=uW
 hash:=Kl w
 inj:=λv a b ha hb=>by
  rcases kA ha with⟨i,t,rfl,rfl⟩|⟨x,t,rfl,rfl⟩
  .rcases kA hb with⟨j,u,rfl,e⟩|⟨y,u,rfl,e⟩
   .injection e with e1 _; rw[e1]
   .exact nomatch e
  .rcases kA hb with⟨j,u,rfl,e⟩|⟨y,u,rfl,e⟩
   .exact nomatch e
   .injection e with e1 _; rw[e1]
 byValue:=λk v h=>by
  rcases kA h with⟨i,t,rfl,rfl⟩|⟨x,t,rfl,rfl⟩<;>rfl
 pyHash:=λhv h=>by
  rcases kA hv with⟨i,t,rfl,rfl⟩|⟨x,t,rfl,rfl⟩
  .exact wpAny_pyHash_int h
  .exact wpAny_pyHash_str h
 eqBool:=λhu hv h=>by
  rcases kA hu with⟨i,t,rfl,rfl⟩|⟨x,t,rfl,rfl⟩
  .rcases kA hv with⟨j,u,rfl,rfl⟩|⟨y,u,rfl,rfl⟩
   .rw[WR]at h; exact wpAny_eqBool_int h
   .rw[WO]at h; exact SeqAt.EqAt.int_str i t y u _ _ _ _ h
  .rcases kA hv with⟨j,u,rfl,rfl⟩|⟨y,u,rfl,rfl⟩
   .rw[WN]at h; exact SeqAt.EqAt.str_int x t j u _ _ _ _ h
   .rw[WQ]at h; exact wpAny_eqBool_str h
 «strs»:=λk x t v h=>by
  rcases kA h with⟨i,u,rfl,e⟩|⟨y,u,rfl,e⟩
  .exact nomatch e
  .injection e with e1 _
   subst e1;cases v<;>rfl
theorem zkb(prog:Qe)(w:Qh)(i:Int)(t:Tok):(zD prog w).is (.inl i) (.int i t)=true:=zoG i t
theorem zkc(prog:Qe)(w:Qh)(x:Str)(t:Tok):(zD prog w).is (.inr x) (.str x t)=true:=zoH x t
inductive V where
 | aF|bl (b:Bool) | int (i:Int) | str (x:Str) | j3 (b:Array UInt8) | uu (b:UInt64) | ref (a:Qg) | ty (n:String)
 deriving DecidableEq
def zA:V->Qc->Prop
 | .aF,u=>u=Value.none
 | .bl b,u=>u=Value.bool b
 | .int i,u=>∃ t,u=Value.int i t
 | .str x,u=>∃ t,u=Value.str x t
 | .j3 b,u=>∃ t,u=Value.bytes b t
 | .uu b,u=>∃ t,u=Value.float b t
 | .ref a,u=>u=Value.ref a
 | .ty n,u=>u=Value.type n
abbrev zC:Qa V->Qa Qc->Prop:=Paired zA
theorem zC.length{xs:Qa V}{us:Qa Qc}(r:zC xs us):xs.length=us.length:=Paired.length r
theorem zC.get:∀ {xs:Qa V} {us:Qa Qc} {i:Nat} {x:V},zC xs us->xs[i]?=some x->∃ u,us[i]?=some u/\zA x u
 | _,_,_,_,.nil,e=>by simp at e
 | _,_,0,_,.cons r _,e=>by simp at e; subst e; exact⟨_,rfl,r⟩
 | _,_,i+1,x,.cons _ t,e=>by
  have(u,h1,h2):=zC.get (i:=i) (x:=x) t (by simpa using e);exact⟨u,by simpa using h1,h2⟩
theorem zC.set{x:V}{u:Qc}(r:zA x u):∀ {xs:Qa V} {us:Qa Qc} (i:Nat),zC xs us->zC (xs.set i x) (us.set i u)
 | _,_,_,.nil=>.nil
 | _,_,0,.cons _ t=>.cons r t
 | _,_,i+1,.cons q t=>.cons q<|zC.set r i t
theorem zC.append:∀ {xs ys:Qa V} {us ws:Qa Qc},zC xs us->zC ys ws->zC (xs++ys) (us++ws)
 | _,_,_,_,.nil,s=>s
 | _,_,_,_,.cons r t,s=>.cons r<|zC.append t s
theorem zC.take:∀ {xs:Qa V} {us:Qa Qc} (n:Nat),zC xs us->zC (xs.take n) (us.take n)
 | _,_,0,_=>.nil
 | _,_,_+1,.nil=>.nil
 | _,_,n+1,.cons r t=>.cons r<|zC.take n t
theorem zC.drop:∀ {xs:Qa V} {us:Qa Qc} (n:Nat),zC xs us->zC (xs.drop n) (us.drop n)
 | _,_,0,r=>r
 | _,_,_+1,.nil=>.nil
 | _,_,n+1,.cons _ t=>zC.drop n t
def gk:Qb V->Qb Qc->Prop
 | some v,some u=>zA v u
 | none,none=>True
 | _,_=>False
def KV{κ:Type}:Qa (κ×V)->Qa (κ×Qc)->Prop:=Paired λ(p:κ×V) (q:κ×Qc)=>p.1=q.1/\zA p.2 q.2
def kV:Key->V
 | .inl i=>.int i
 | .inr x=>.str x
structure IK (prog:Qe) (w:Qh) (J:Type) [DecidableEq J] where
 is:Heap->J->Qc->Prop
 hash:J->Int
 draws:J->Nat
 iK:Nat
 inj:∀ {h:Heap} {v:Qc} {x y:J},is h x v->is h y v->x=y
 keeps:∀ {h h':Heap} {k:J} {v:Qc} {d:Qg} {o:Obj} {es ep},is h k v->h.get? d=some o->o.data=.dict es ep->Heap.SameBut d h h'->is h' k v
 pyHash:∀ {A:Qf} {E:Qc->Qd->Prop} {s:Qd} {k:J} {v:Qc} {Q:Int->Qd->Prop},A.units+iK < cLine->is s.heap k v->Q (hash k) {s with toks:=s.toks+draws k}->
  wpAny (model prog w) A (PySem.pyHash v) Q E s
 eqBool:∀ {A:Qf} {E:Qc->Qd->Prop} {s:Qd} {x y:J} {u v:Qc} {Q:Bool->Qd->Prop},A.units+iK < cLine->is s.heap x u->is s.heap y v->Q (decide<|x=y) s->
  wpAny (model prog w) A (PySem.eqBool u v) Q E s
 quiet:∀ {A:Qf} {E:Qc->Qd->Prop} {s:Qd} {k:J} {v:Qc} {Q:Bool->Qd->Prop} (n:Nat),iK<=n->is s.heap k v->Q true s->wpAny (model prog w) A (eqIsQuiet n v) Q E s
section
variable{prog:Qe}{w:Qh}{J:Type}[DecidableEq J](I:IK prog w J)
inductive aN (h:Heap):Qa J->Qa Qc->Prop
 | nil:aN h [] []
 | cons {k:J} {v:Qc} {ks:Qa J} {vs:Qa Qc}:I.is h k v->aN h ks vs->aN h (k::ks) (v::vs)
def fH(h:Heap)(ks:Qa J)(a:Qg):Prop:=∃ o items n,h.get? a=some o/\o.cls=.type "tuple"/\o.data=.seq items n/\aN I h ks items.toList
def Cd(ks:Qa J):Int:=reduceHash (Builtin.Tuple.tupleHashOf<|ks.map I.hash)
def Cz(ks:Qa J):Nat:=(ks.map I.draws).sum+1
variable{I}
theorem aN.inj{h:Heap}{x y:Qa J}{vs:Qa Qc}(hx:aN I h x vs)(hy:aN I h y vs):x=y:=by
 induction hx generalizing y with
 | nil=>cases hy; rfl
 | cons h1 _ ih=>
  cases hy with
  | cons h2 t2=>rw[I.inj h1 h2,ih t2]
theorem aN.keeps{h h':Heap}{x:Qa J}{vs:Qa Qc}{d:Qg}{o:Obj}{es ep}(hx:aN I h x vs)(ho:h.get? d=some o)(hd:o.data=.dict es ep)(hs:Heap.SameBut d h h'):aN I h' x vs:=by
 induction hx with
 | nil=>exact .nil
 | cons h1 _ ih=>exact .cons (I.keeps h1 ho hd hs) ih
theorem fH.typeIs{s:Qd}{ks:Qa J}{a:Qg}(x:fH I s.heap ks a):s.TypeIs (.ref a) "tuple":=let ⟨o,_,_,ho,hc,_⟩:=x; ⟨o,ho,hc⟩
theorem fH.tup{h:Heap}{ks:Qa J}{a:Qg}(x:fH I h ks a):∃ items,h.IsTuple a items:=let ⟨o,af,n,ho,hc,hd,_⟩:=x; ⟨af,o,ho,hc,n,hd⟩
theorem fH.inj{h:Heap}{a:Qg}{x y:Qa J}(hx:fH I h x a)(hy:fH I h y a):x=y:=by
 have(o,items,n,ho,_,hd,hi):=hx;have(o',Jj,n',gR,_,n9,cU):=hy;obtain rfl:o=o':=qx (ho.symm.trans gR);rw[hd]at n9;injection n9 with h1 _;subst h1;exact hi.inj cU
theorem fH.keeps{h h':Heap}{ks:Qa J}{a d:Qg}{o:Obj}{es ep}(x:fH I h ks a)(ho:h.get? d=some o)(hd:o.data=.dict es ep)(hs:Heap.SameBut d h h'):fH I h' ks a:=by
 have(o',items,n,gR,hc,n9,hi):=x;have rY:a≠d:=by
  rintro rfl;obtain rfl:o'=o:=qx (gR.symm.trans ho);rw[hd]at n9; exact nomatch n9
 exact⟨o',items,n,(hs.2 a rY).trans gR,hc,n9,hi.keeps ho hd hs⟩
variable{A:Qf}{E:Qc->Qd->Prop}{s:Qd}
theorem Nx{ks:Qa J}{a:Qg}{Q:Int->Qd->Prop}(hu:A.units+(I.iK+1) < cLine)(hk:fH I s.heap ks a)(h:Q (Cd I ks) {s with toks:=s.toks+Cz I ks}):
  wpAny (model prog w) A (pyHash<|.ref a) Q E s:=by
 have hT:=hk.typeIs;have(o,items,n,ho,_,hd,hi):=hk;unfold pyHash
 first|unfold pyHashByItsType|skip
 first|refine qa (wpAny_cRoomFor_or (.inr (by omega)) ?_) | skip
 refine qa<|wpAny_specialOf hT í.lookup ?_;show wpAny _ _ (if(some (Value.builtin "tuple.__hash__")==some Value.none)=true then _ else _) Q E s;rw[if_neg (by rw[beq_builtin_none]; exact qf)];refine qa<|wpAny_specialOf hT í.lookup ?_;show wpAny _ _ (callSpecialIfBoundUnlessNone? (.ref a) "__hash__" _ >>= _) Q E s;refine qa<|wpAny_callSpecialIfBoundUnlessNone?_slot hT í<|wpAny_call_entry í hT PySem.F.entry_tuple_hash ?_<|PySem.F.args_tuple_hash_1 _;show wpAny _ _ (Builtin.Tuple.tupleItemsOf (.ref a) >>= _) _ _ s;refine qa<|wpAny_tupleItemsOf ho hd ?_;refine qa ?_;rw[<-Array.forIn_toList];refine wpAny_forIn_list _
  (λrest (b:Array Int) s'=>∃ done left,ks=done++left/\aN I s.heap left rest/\b.toList=done.map I.hash/\s'={s with toks:=s.toks+(done.map I.draws).sum})
  _ ?_ ?_ _ _ ⟨[],ks,rfl,hi,rfl,rfl⟩
 .rintro x rest b s' ⟨done,left,rfl,hl,hb,rfl⟩
  cases hl with
  | @cons k _ mT _ h1 uf=>
   refine qa (I.pyHash (s:={s with toks:=s.toks+(done.map I.draws).sum}) (by show A.units+1+I.iK < _; omega) h1 ?_)
   first
    | exact qb ⟨done++[k],mT,by simp,uf,by simp[hb],by simp[Nat.add_assoc]⟩
    | exact qa<|qb<|qb ⟨done++[k],mT,by simp,uf,by simp[hb],by simp[Nat.add_assoc]⟩
 .rintro b s' ⟨done,left,rfl,hl,hb,rfl⟩
  cases hl;rw[List.append_nil]at h;show wpAny _ _ (retInt<|Builtin.Tuple.tupleHashOf b.toList) _ _ _;rw[hb];refine wpAny_ret_mkInt ?_;show wpAny _ _ (if(decide (-(2:Int)^63<=Builtin.Tuple.tupleHashOf (done.map I.hash)) && decide (Builtin.Tuple.tupleHashOf (done.map I.hash) < 2^63))=true then _ else _) Q E _;unfold Cd reduceHash at h;unfold Cz at h
  by_cases hr:(decide (-(2:Int)^63<=Builtin.Tuple.tupleHashOf (done.map I.hash)) && decide (Builtin.Tuple.tupleHashOf (done.map I.hash) < 2^63))=true
  .rw[if_pos hr]
   rw[if_pos hr]at h;exact qb (by simpa [Nat.add_assoc] using h)
  .rw[if_neg hr]
   rw[if_neg hr]at h;exact qa<|wpAny_rule<|qb (by simpa [Nat.add_assoc] using h)
theorem zlF{x y:Qa J}{a b:Qg}{P:Fin->Qd->Prop}(hu:A.units+I.iK < cLine)(hx:fH I s.heap x a)(hy:fH I s.heap y b)(h:P (.done<|.ret<|.bool<|decide<|x=y) s):
  wpAny (model prog w) A (Builtin.«tuple.__eq__» ⟨[.ref a,.ref b],[]⟩) P E s:=by
 have hTb:=hy.typeIs;have(oa,xs,na,hoa,_,hda,hia):=hx;have(ob,ys,nb,hob,_,cV,hib):=hy;show wpAny _ _ (isInstance (.ref b) (.type "tuple") >>= _) _ _ s;refine qa<|wpAny_isInstance hTb isSubtype_tuple_tuple ?_;simp only[Bool.not_true,Bool.false_eq_true,if_false];refine qa<|wpAny_tupleItemsOf hoa hda ?_;refine qa<|wpAny_tupleItemsOf hob cV ?_;refine qa ?_;refine wpAny_forIn_list _
  (λrest r s'=>r.1=none/\s'=s/\∃ x' y' gv jU,rest=List.zip gv jU/\aN I s.heap x' gv/\aN I s.heap y' jU/\decide (x'=y')=decide (x=y)/\(gv.length==jU.length)=(xs.size==ys.size))
  _ ?_ ?_ _ _ ⟨rfl,rfl,x,y,xs.toList,ys.toList,rfl,hia,hib,rfl,by simp⟩
 .rintro⟨u,v⟩ rest r s' ⟨hr,rfl,x',y',gv,jU,hz,n8,DN,pW,hlen⟩
  cases n8 with
  | nil=>simp at hz
  | @cons k1 u' RA Ig h1 Ju=>
   cases DN with
   | nil=>simp at hz
   | @cons k2 v' Rx Ic h2 Jr=>
    simp only[List.zip_cons_cons,List.cons.injEq,Prod.mk.injEq]at hz;obtain⟨⟨rfl,rfl⟩,rfl⟩:=hz;refine qa<|I.eqBool (x:=k1) (y:=k2) hu h1 h2 ?_
    by_cases hk:k1=k2
    .subst hk
     rw[decide_eq_true rfl];simp only[Bool.not_true,Bool.false_eq_true,if_false];refine qb ⟨rfl,rfl,RA,Rx,Ig,Ic,rfl,Ju,Jr,?_,by simpa using hlen⟩;rw[<-pW]
     by_cases R5:RA=Rx
     .simp[R5]
     .simp[R5]
    .rw[decide_eq_false hk]
     simp only[Bool.not_false,if_true];have hf:decide (x=y)=false:=by rw[<-pW]; simp[hk]
     rw[hf]at h;exact qa<|qb<|qb<|qb h
 .rintro⟨r1,r2⟩ s' ⟨hr,rfl,x',y',gv,jU,hz,n8,DN,pW,hlen⟩
  simp only at hr;subst hr;refine qb ?_;have JL:(xs.size==ys.size)=decide (x=y):=by
   rw[<-pW,<-hlen];cases n8 with
   | nil=>
    cases DN with
    | nil=>simp
    | cons _ _=>simp
   | cons _ _=>
    cases DN with
    | nil=>simp
    | cons _ _=>simp at hz
  show P (.done<|.ret<|.bool<|xs.size==ys.size) s';rw[JL]; exact h
theorem Ls{x y:Qa J}{a b:Qg}{Q:Bool->Qd->Prop}(hu:A.units+(I.iK+1) < cLine)(hx:fH I s.heap x a)(hy:fH I s.heap y b)(h:Q (decide<|x=y) s):
  wpAny (model prog w) A (eqBool (.ref a)<|.ref b) Q E s:=by
 unfold eqBool
 try with_reducible refine wpAny_holding ?_
 show wpAny _ _ (if(Value.ref a==Value.ref b)=true then _ else _) Q E s
 by_cases pX:(Value.ref a==Value.ref b)=true
 .rw[if_pos pX]
  have e:a=b:=by have:=eq_of_beq pX; injection this
  subst e;obtain rfl:=hx.inj hy;exact qa<|wpAny_rule<|qb (by simpa using h)
 .rw[if_neg pX]
  exact qa (wpAny_richCompare_same_room (op:=.Eq) hx.typeIs hy.typeIs PySem.F.slot_tuple_eq
   (wpAny_call_entry PySem.F.slot_tuple_eq hx.typeIs PySem.F.entry_tuple_eq (zlF (by show A.units+1+I.iK < _; omega) hx hy ⟨_,rfl,(λe=>nomatch e),wpAny_truthy_bool h⟩)<|PySem.F.args_tuple_eq_2 _ _) (by omega))
theorem N7{ks:Qa J}{a:Qg}{Q:Bool->Qd->Prop}(n:Nat)(hn:I.iK+1<=n)(hk:fH I s.heap ks a)(h:Q true s):wpAny (model prog w) A (eqIsQuiet n<|.ref a) Q E s:=by
 have hT:=hk.typeIs;obtain⟨m,rfl⟩:∃ m,n=m+1:=⟨n - 1,by omega⟩;have(o,items,n',ho,_,hd,hi):=hk;unfold eqIsQuiet;refine qa<|wpAny_specialOf hT PySem.F.slot_tuple_eq.lookup ?_;show wpAny _ _ (isInstance (.ref a) (.type "tuple") >>= _) _ _ s;refine qa<|wpAny_isInstance hT isSubtype_tuple_tuple ?_;simp only[Bool.not_true,Bool.false_eq_true,if_false];refine qa<|wpAny_seqItems ho hd ?_;refine qa ?_;show wpAny _ _ (forIn items _ _) _ _ s;rw[<-Array.forIn_toList];refine wpAny_forIn_list _ (λrest r s'=>r.1=none/\s'=s/\∃ mT,aN I s.heap mT rest) _ ?_ ?_ _ _ ⟨rfl,rfl,ks,hi⟩
 .rintro v rest r s' ⟨hr,rfl,mT,um⟩
  cases um with
  | cons h1 t1=>
   refine qa<|I.quiet m (by omega) h1 ?_;simp only[Bool.not_true,Bool.false_eq_true,if_false];exact qb ⟨rfl,rfl,_,t1⟩
 .rintro⟨r1,r2⟩ s' ⟨hr,rfl,_⟩
  simp only at hr;subst hr;exact qb h
end
def Jn(prog:Qe)(w:Qh):IK prog w Key where
 is:=λ_ k v=>(zD prog w).is k v=true
 hash:=(zD prog w).hash
 draws:=λ_=>1
 iK:=0
 inj:=λhx hy=>(zD prog w).inj _ _ _ hx hy
 keeps:=λx _ _ _=>x
 pyHash:=λ_ hk h=>(zD prog w).pyHash hk h
 eqBool:=λ_ hx hy h=>(zD prog w).eqBool hx hy h
 quiet:=λn _ hk h=>by rw[eqIsQuiet_byValue n<|(zD prog w).byValue _ _ hk]; exact qb h
def yz{prog:Qe}{w:Qh}{J:Type}[DecidableEq J](I:IK prog w J):IK prog w (Key ⊕ Qa J) where
 is:=λh x v=>match x with
  | .inl k=>(zD prog w).is k v=true
  | .inr ks=>∃ a,v=.ref a/\fH I h ks a
 hash:=λx=>match x with
  | .inl k=>(zD prog w).hash k
  | .inr ks=>Cd I ks
 draws:=λx=>match x with
  | .inl _=>1
  | .inr ks=>Cz I ks
 iK:=I.iK+1
 inj:=λ{h v x y} hx hy=>by
  cases x with
  | inl k=>
   cases y with
   | inl k'=>exact congrArg Sum.inl<|(zD prog w).inj _ _ _ hx hy
   | inr ks=>
    have(a,rfl,_):=hy;rcases kA hx with⟨i,t,_,e⟩|⟨z,t,_,e⟩<;>cases e
  | inr ks=>
   have(a,rfl,hx):=hx;cases y with
   | inl k'=>rcases kA hy with⟨i,t,_,e⟩|⟨z,t,_,e⟩<;>cases e
   | inr mT=>
    have(b,e,hy):=hy;cases e;exact congrArg Sum.inr (hx.inj hy)
 keeps:=λ{h h' k v d o es ep} x ho hd hs=>by
  cases k with
  | inl k=>exact x
  | inr ks=>
   have(a,e,x):=x;exact⟨a,e,x.keeps ho hd hs⟩
 pyHash:=λ{A E s k v Q} hu hk h=>by
  cases k with
  | inl k=>exact(zD prog w).pyHash hk h
  | inr ks=>
   have(a,rfl,x):=hk;exact Nx hu x h
 eqBool:=λ{A E s x y u v Q} hu hx hy h=>by
  cases x with
  | inl k=>
   cases y with
   | inl k'=>exact(zD prog w).eqBool hx hy (by simpa using h)
   | inr ks=>
    have(b,rfl,hy):=hy;have(af,ht):=hy.tup;have h':Q false s:=by simpa using h
    rcases kA hx with⟨i,t,rfl,rfl⟩|⟨z,t,rfl,rfl⟩
    .exact SeqAt.EqAt.int_tuple i t ht (by omega) _ _ _ _ h'
    .exact SeqAt.EqAt.str_tuple z t ht (by omega) _ _ _ _ h'
  | inr ks=>
   have(a,rfl,hx):=hx;have(af,ht):=hx.tup;cases y with
   | inl k'=>
    have h':Q false s:=by simpa using h
    rcases kA hy with⟨i,t,rfl,rfl⟩|⟨z,t,rfl,rfl⟩
    .exact SeqAt.EqAt.tuple_int i t ht (by omega) _ _ _ _ h'
    .exact SeqAt.EqAt.tuple_str z t ht (by omega) _ _ _ _ h'
   | inr mT=>
    have(b,rfl,hy):=hy;exact Ls hu hx hy (by simpa using h)
 quiet:=λ{A E s k v Q} n hn hk h=>by
  cases k with
  | inl k=>rw[eqIsQuiet_byValue n<|(zD prog w).byValue _ _ hk]; exact qb h
  | inr ks=>
   have(a,rfl,x):=hk;exact N7 n hn x h
def WM{prog:Qe}{w:Qh}{J:Type}[DecidableEq J](I:IK prog w J)(hI:I.iK<=7):HeapKind prog w (Qa J) where
 is:=fH I
 hash:=Cd I
 draws:=Cz I
 room:=λA=>A.units+(I.iK+1) < cLine
 inj:=λhx hy=>hx.inj hy
 keeps:=λx ho hd hs=>x.keeps ho hd hs
 pyHash:=λhu hk h=>Nx hu hk h
 eqBool:=λhu hx hy h=>Ls hu hx hy h
 quiet:=λhk h=>N7 8 (by omega) hk h
abbrev K1:=Key ⊕ Qa Key
instance dK1:DecidableEq K1:=instDecidableEqSum
abbrev K2:=Key ⊕ Qa K1
instance dK2:DecidableEq K2:=instDecidableEqSum
abbrev K3:=Key ⊕ Qa K2
instance dK3:DecidableEq K3:=instDecidableEqSum
instance dL3:DecidableEq (Qa K3):=instDecidableEqList
def wW(prog:Qe)(w:Qh):HeapKind prog w (Qa K3):=WM (yz<|yz<|yz<|Jn prog w) (by show 3<=7; decide)
inductive HO where
 | lst (xs:Qa V)
 | tup (xs:Qa V)
 | dK (kvs:Qa (Key×V)) | dT (kvs:Qa (Qa Key×V))
 | set (S:Int->Bool) (n:Nat)
 | ins (C dx:Qg) (fs:Qa (Str×V))
 | own (x:Qg)
 | xd (fs:Qa (Str×V))
 | met (f x:Qg)
 | IQ (lo hi:Int)
 | aW (o:Obj) (u:HO)
 | lH (ps:Array Qc)
 | ext (φ:Heap->Prop)
 | sub (b:Qg) (p u:HO)
 | dX (kvs:Qa (Qa K3×V))
def HO.flat:HO->Bool
 | .lst _=>true
 | .dK _=>true
 | .dT _=>true
 | .dX _=>true
 | _=>false
abbrev Hp:=Qg->Qb HO
def upd(H:Hp)(a:Qg)(o:HO):Hp:=λb=>if b=a then some o else H b
theorem zp{H:Hp}{a:Qg}{o:HO}:upd H a o a=some o:=by unfold upd; rw[if_pos rfl]
theorem zq{H:Hp}{a b:Qg}{o:HO}(h:b≠a):upd H a o b=H b:=by unfold upd; rw[if_neg h]
theorem YO{H:Hp}{a:Qg}{o u:HO}:upd (upd H a o) a u=upd H a u:=by
 funext b; unfold upd; split<;>rfl
theorem qS{H:Hp}{a b:Qg}{o u:HO}(h:H a=some o)(h':H b=some u)(d:o≠u):a≠b:=by
 intro e; subst e; rw[h]at h'; exact d<|qx h'
theorem ku{H:Hp}{a b:Qg}{o:HO}(h:H a=some o)(h':H b=none):a≠b:=by
 intro e; subst e; rw[h]at h'; cases h'
def zBr(K:qc)(a:Qg)(xs:Qa V):Prop:=∃ (o:Obj) (af:Array Qc) (n:Nat),K.lookup a=some o/\o.cls=.type "tuple"/\o.data=.seq af n/\af.size<=sizeLine/\zC xs af.toList/\∃ i r,xs=.int i::r
def aK(K:qc)(H:Hp)(a:Qg)(xs:Qa V):Prop:=H a=some (.tup xs)\/zBr K a xs
theorem aK.keeps{K:qc}{H H':Hp}{a:Qg}{xs:Qa V}(h:aK K H a xs)(ht:∀ b ys,H b=some (.tup ys)->H' b=some (.tup ys)):aK K H' a xs:=h.imp (ht _ _) id
def oX(h:Heap)(a:Qg)(items:Array Qc):Prop:=∃ o,h.get? a=some o/\o.cls=.type "tuple"/\(∃ n,o.data=.seq items n)/\(o.dict=none\/∃ i t r,items.toList=.int i t::r)
theorem oX.tup{h:Heap}{a:Qg}{items:Array Qc}(x:oX h a items):IsTup h a items:=let ⟨o,e,c,d,_⟩:=x; ⟨o,e,c,d⟩
theorem oX.lt{h:Heap}{a:Qg}{items:Array Qc}(x:oX h a items):a < h.objs.size:=x.tup.lt
theorem oX.new(h:Heap)(items:Array Qc):oX (h.push {cls:=.type "tuple",data:=.seq items}) h.objs.size items:=⟨_,qg _ rfl,rfl,⟨_,rfl⟩,.inl rfl⟩
def N0(K:qc)(H:Hp)(ks:Qa Key)(a:Qg):Prop:=aK K H a (ks.map kV)
def NI{J:Type}(P:Qa J->Qg->Prop)(x:Key ⊕ Qa J)(v:V):Prop:=match x with
 | .inl k=>v=kV k
 | .inr ks=>∃ b,v=.ref b/\P ks b
def jF{J:Type}(K:qc)(H:Hp)(P:Qa J->Qg->Prop)(xs:Qa (Key ⊕ Qa J))(a:Qg):Prop:=∃ vs,aK K H a vs/\Paired (NI P) xs vs
def N3(K:qc)(H:Hp):Qa K3->Qg->Prop:=jF K H (jF K H<|jF K H<|N0 K H)
theorem Nv{α β:Type}{F G:α->β->Prop}:∀ {mP:Qa α} {mO:Qa β},Paired F mP mO->(∀ a b,F a b->G a b)->Paired G mP mO
 | _,_,.nil,_=>.nil
 | _,_,.cons r t,f=>.cons (f _ _ r)<|Nv t f
theorem jF.keeps{J:Type}{K:qc}{H H':Hp}{P P':Qa J->Qg->Prop}{xs:Qa (Key ⊕ Qa J)}{a:Qg}(h:jF K H P xs a)(ht:∀ b ys,H b=some (.tup ys)->H' b=some (.tup ys))(hp:∀ ks b,P ks b->P' ks b):jF K H' P' xs a:=by
 have(vs,h1,h2):=h;refine⟨vs,h1.keeps ht,Nv h2 λx v z=>?_⟩;cases x with
 | inl k=>exact z
 | inr ks=>have(b,e,z):=z; exact⟨b,e,hp _ _ z⟩
theorem N3.keeps{K:qc}{H H':Hp}{xs:Qa K3}{a:Qg}(h:N3 K H xs a)(ht:∀ b ys,H b=some (.tup ys)->H' b=some (.tup ys)):N3 K H' xs a :=
 jF.keeps h ht λ_ _ h=>jF.keeps h ht λ_ _ h=>jF.keeps h ht λ_ _ h=>aK.keeps h ht
section
variable(P:Qe)(w:Qh)(K:qc)
def zI(H:Hp)(h:Heap)(a:Qg):HO->Prop
 | .lst xs=>xs.length<=sizeLine/\∃ (af:Qa Qc) (n:Nat),zC xs af/\h.get? a=some {cls:=.type "list",data:=.seq af.toArray n}
 | .tup xs=>xs.length<=sizeLine/\∃ af:Qa Qc,zC xs af/\oX h a af.toArray
 | .dK kvs=>kvs.length<=sizeLine/\(a==sysModules)=false/\∃ vs,KV kvs vs/\h.DictOf (zD P w) a vs
 | .dT kvs=>kvs.length<=sizeLine/\(a==sysModules)=false/\∃ xs:Qa (Qa Key×Qg×Qc),
   Paired (λ(p:Qa Key×V) (q:Qa Key×Qg×Qc)=>p.1=q.1/\aK K H q.2.1 (p.1.map kV)/\zA p.2 q.2.2) kvs xs/\
   ∃ o es ep,h.get? a=some o/\o.ExactDict/\o.data=.dict es ep/\es.toList=xs.map (entryOfKey<|tupleKind<|zD P w)/\(xs.map (·.1)).Nodup
 | .dX kvs=>kvs.length<=sizeLine/\(a==sysModules)=false/\∃ xs:Qa (Qa K3×Qg×Qc),
   Paired (λ(p:Qa K3×V) (q:Qa K3×Qg×Qc)=>p.1=q.1/\N3 K H p.1 q.2.1/\zA p.2 q.2.2) kvs xs/\
   ∃ o es ep,h.get? a=some o/\o.ExactDict/\o.data=.dict es ep/\es.toList=xs.map (entryOfKey<|wW P w)/\(xs.map (·.1)).Nodup
 | .set S n=>h.SetOf (intKind P w) a S n
 | .ins C dx fs=>H dx=some (.own a)/\fs.length<=1000/\dx≠a/\h.get? a=some (PySem.W.instObj C dx)/\
   ∃ mA,h.Ns1 dx mA/\(∀ f,gk (fs.lookup f)<|mA f)/\PySem.Within mA (fs.map (·.1))
 | .own _=>∃ o,h.get? a=some o
 | .xd fs=>∃ mA,h.Ns1 a mA/\∀ f,gk (fs.lookup f)<|mA f
 | .IQ lo hi=>∃ t u v,h.get? a=some {cls:=.type "range",data:=.fields #[.int lo t,.int hi u,.int 1 v]}
 | .aW o u=>h.get? a=some o/\zI H h a u
 | .lH ps=>h.get? a=some {cls:=.none,data:=.fields ps}
 | .met f x=>h.get? a=some (PySem.W.methodObj (.ref f)<|.ref x)
 | .ext φ=>φ h/\(∃ o,h.get? a=some o)/\∀ h1 h2:Heap,φ h1->(∀ o,h1.get? a=some o->h2.get? a=some o)->φ h2
 | .sub b p u=>zI H h a u/\H b=some (.own a)/\b≠a/\p.flat=true/\zI H h b p
def bE(H:Hp)(h:Heap):Prop:=∀ a o,H a=some o->zI P w K H h a o
end
section
variable{P:Qe}{w:Qh}{K:qc}{H H':Hp}{h h':Heap}{a:Qg}{o:HO}
theorem zI.lt(x:zI P w K H h a o):a < h.objs.size:=by
 induction o with
 | sub b p u _ ih=>exact ih x.1
 | lst xs=>have(_,_,_,_,e):=x; exact qh e
 | tup xs=>have(_,_,_,p):=x; exact p.lt
 | dK kvs=>have(_,_,_,_,o,_,_,e,_):=x; exact qh e
 | dT kvs=>have(_,_,_,_,o,_,_,e,_):=x; exact qh e
 | dX kvs=>have(_,_,_,_,o,_,_,e,_):=x; exact qh e
 | set S n=>have(o,_,_,_,e,_):=x; exact qh e
 | ins C dx fs=>have(_,_,_,e,_):=x; exact qh e
 | own y=>have(_,e):=x; exact qh e
 | xd fs=>obtain⟨_,⟨_,_,_,e,_⟩,_⟩:=x; exact qh e
 | IQ lo hi=>have(_,_,_,e):=x; exact qh e
 | aW ob u _=>have(e,_):=x; exact qh e
 | lH ps=>exact qh (show h.get? a=some _ from x)
 | met f y=>exact qh (show h.get? a=some _ from x)
 | ext φ=>obtain⟨_,⟨_,e⟩,_⟩:=x; exact qh e
theorem Paired.gL{α β:Type}{F G:α->β->Prop}:∀ {mP:Qa α} {mO:Qa β},Paired F mP mO->(∀ a b,F a b->G a b)->Paired G mP mO
 | _,_,.nil,_=>.nil
 | _,_,.cons r t,f=>.cons (f _ _ r)<|Paired.gL t f
theorem zI.mF(x:zI P w K H h a o)(f:o.flat=true)(k:∀ u,h.get? a=some u->h'.get? a=some u)(ht:∀ b xs,H b=some (.tup xs)->H' b=some (.tup xs)):zI P w K H' h' a o:=by
 cases o with
 | lst xs=>have(z,af,n,r,e):=x; exact⟨z,af,n,r,k _ e⟩
 | dK kvs=>have(z,y,vs,r,ob,es,ep,e,c):=x; exact⟨z,y,vs,r,ob,es,ep,k _ e,c⟩
 | dT kvs=>
  have(z,y,xs,r,ob,es,ep,e,c):=x;exact⟨z,y,xs,Paired.gL r λp q z=>⟨z.1,z.2.1.keeps ht,z.2.2⟩,ob,es,ep,k _ e,c⟩
 | dX kvs=>
  have(z,y,xs,r,ob,es,ep,e,c):=x;exact⟨z,y,xs,Paired.gL r λp q z=>⟨z.1,z.2.1.keeps ht,z.2.2⟩,ob,es,ep,k _ e,c⟩
 | _=>cases f
theorem zI.cA(x:zI P w K H h a o)(k:∀ b u,(b=a\/H b=some (.own a))->h.get? b=some u->h'.get? b=some u)
  (ho:∀ b,H b=some (.own a)->H' b=some (.own a)) (ht:∀ b xs,H b=some (.tup xs)->H' b=some (.tup xs)):zI P w K H' h' a o:=by
 induction o with
 | lst xs=>have(z,af,n,r,e):=x; exact⟨z,af,n,r,k _ _ (.inl rfl) e⟩
 | tup xs=>have(z,af,r,ob,e,c):=x; exact⟨z,af,r,ob,k _ _ (.inl rfl) e,c⟩
 | dK kvs=>have(z,y,vs,r,ob,es,ep,e,c):=x; exact⟨z,y,vs,r,ob,es,ep,k _ _ (.inl rfl) e,c⟩
 | dT kvs=>
  have(z,y,xs,r,ob,es,ep,e,c):=x;exact⟨z,y,xs,Paired.gL r λp q z=>⟨z.1,z.2.1.keeps ht,z.2.2⟩,ob,es,ep,k _ _ (.inl rfl) e,c⟩
 | dX kvs=>
  have(z,y,xs,r,ob,es,ep,e,c):=x;exact⟨z,y,xs,Paired.gL r λp q z=>⟨z.1,z.2.1.keeps ht,z.2.2⟩,ob,es,ep,k _ _ (.inl rfl) e,c⟩
 | set S n=>have(ob,es,ep,t,e,c):=x; exact⟨ob,es,ep,t,k _ _ (.inl rfl) e,c⟩
 | ins C dx fs=>
  obtain⟨d,z,ne,e,mA,⟨od,es,ep,e2,c⟩,r⟩:=x;exact⟨ho _ d,z,ne,k _ _ (.inl rfl) e,mA,⟨od,es,ep,k _ _ (.inr d) e2,c⟩,r⟩
 | own y=>have(ob,e):=x; exact⟨ob,k _ _ (.inl rfl) e⟩
 | xd fs=>obtain⟨mA,⟨od,es,ep,e,c⟩,r⟩:=x; exact⟨mA,⟨od,es,ep,k _ _ (.inl rfl) e,c⟩,r⟩
 | IQ lo hi=>have(t,u,v,e):=x; exact⟨t,u,v,k _ _ (.inl rfl) e⟩
 | aW ob u ih=>have(e,q):=x; exact⟨k _ _ (.inl rfl) e,ih q⟩
 | lH ps=>
  have e:h.get? a=some {cls:=.none,data:=.fields ps}:=x;show h'.get? a=some {cls:=.none,data:=.fields ps};exact k a _ (.inl rfl) e
 | met f y=>
  have e:h.get? a=some (PySem.W.methodObj (.ref f)<|.ref y):=x;show h'.get? a=some (PySem.W.methodObj (.ref f)<|.ref y);exact k a _ (.inl rfl) e
 | ext φ=>obtain⟨p,⟨o,e⟩,st⟩:=x; exact⟨st _ _ p λo q=>k _ _ (.inl rfl) q,⟨o,k _ _ (.inl rfl) e⟩,st⟩
 | sub b p u _ ih=>have(y,e,n,f,q):=x; exact⟨ih y,ho _ e,n,f,q.mF f (λu z=>k _ _ (.inr e) z) ht⟩
theorem bE.lt(x:bE P w K H h)(e:H a=some o):a < h.objs.size:=(x a o e).lt
theorem bE.fresh(x:bE P w K H h)(e:h.objs.size<=a):H a=none:=by
 cases q:H a with
 | none=>rfl
 | some u=>exact absurd (qi (x.lt q) e)<|Ç _
theorem bE.kept(x:bE P w K H h)(k:∀ b u,h.get? b=some u->h'.get? b=some u):bE P w K H h':=λa o e=>
 (x a o e).cA (λb u _ q=>k b u q) (λ_ q=>q) λ_ _ q=>q
theorem bE.laid(x:bE P w K H h)(k:∀ b u,h.get? b=some u->h'.get? b=some u)(hp:h.objs.size<=a)(new:zI P w K (upd H a o) h' a o):bE P w K (upd H a o) h':=λb u e=>by
 have hn:=x.fresh hp
 by_cases hb:b=a
 .subst hb; rw[zp]at e; cases e; exact new
 .rw[zq hb]at e
  exact(x b u e).cA (λc v _ q=>k c v q) (λc q=>by rw[zq<|ku q hn]; exact q) λc xs q=>by rw[zq<|ku q hn]; exact q
end
def Rd(H:Hp)(a:Qg)(u:HO):Prop:=H a=some u\/∃ o,H a=some (.aW o u)
theorem Rd.ok{P:Qe}{w:Qh}{K:qc}{H:Hp}{h:Heap}{a:Qg}{u:HO}(r:Rd H a u)(x:bE P w K H h):zI P w K H h a u:=by
 rcases r with r|⟨o,r⟩
 .exact x a u r
 .have(_,q):=x a _ r
  exact q
def AA:Qb HO->Prop
 | some (.lst _)=>True
 | some (.dK _)=>True
 | some (.dT _)=>True
 | some (.set _ _)=>True
 | some (.ins _ _ _)=>True
 | some (.ext _)=>True
 | some (.sub _ _ _)=>True
 | some (.dX _)=>True
 | _=>False
section
variable{P:Qe}{w:Qh}{K:qc}{H:Hp}{h h':Heap}{x e:Qg}{o':HO}
theorem bE.write(ok:bE P w K H h)(mu:AA (H x))(he:e=x\/H e=some (.own x))(k:∀ b u,b≠e->h.get? b=some u->h'.get? b=some u)(wm:∃ u,h'.get? e=some u)
  (new:zI P w K (upd H x o') h' x o'):bE P w K (upd H x o') h':=λb u q=>by
 have ye:∀ c y,H c=some (.own y)->c≠x:=λc y r z=>by subst z; rw[r]at mu; exact mu
 have I0:∀ c xs,H c=some (.tup xs)->c≠x:=λc xs r z=>by subst z; rw[r]at mu; exact mu
 by_cases hb:b=x
 .subst hb; rw[zp]at q; cases q; exact new
 .rw[zq hb]at q
  by_cases uj:b=e
  .have q':H b=some (.own x):=by
    rcases he with z|z
    .exact absurd (uj.trans z) hb
    .rw[uj]; exact z
   rw[q]at q'; cases q';have(v,hv):=wm;exact⟨v,by rw[uj]; exact hv⟩
  .refine(ok b u q).cA (λc v hc r=>k c v ?_ r) (λc r=>by rw[zq<|ye c b r]; exact r) λc xs r=>by rw[zq<|I0 c xs r]; exact r
   rcases hc with rfl|hc
   .exact uj
   .rintro rfl
    rcases he with z|z
    .exact ye c b hc z
    .rw[hc]at z; cases z; exact hb rfl
end
structure Un (fs ex:Qa Qg) (H H':Hp) (h h':Heap):Prop where
 keep:∀ b o,h.get? b=some o->H b=none->b∉fs->b∉ex->h'.get? b=some o
 slot:∀ b o,h.get? b=some o->H b=none->b∈fs->b∉ex->∃ sl,h'.get? b=some {o with slots:=sl}
 free:∀ b o,h.get? b=some o->H b=none->b∉ex->H' b=none
 there:∀ b o,h.get? b=some o->b∉ex->∃ o',h'.get? b=some o'
 eS:∀ b xs,H b=some (.tup xs)->H' b=some (.tup xs)
 d0:∀ b o u,H b=some (.aW o u)->H' b=some (.aW o u)
 f7:∀ b ps,H b=some (.lH ps)->∃ more,H' b=some (.lH<|ps++more)
section
variable{fs fs' ex ex':Qa Qg}{H H1 H2:Hp}{h h1 h2 h':Heap}{a x e:Qg}{o:HO}
theorem Un.any(u:Un fs ex H H1 h h1){b:Qg}{ob:Obj}(q:h.get? b=some ob)(n:H b=none)(hx:b∉ex):∃ sl,h1.get? b=some {ob with slots:=sl}:=by
 by_cases hb:b∈fs
 .exact u.slot b ob q n hb hx
 .exact⟨ob.slots,u.keep b ob q n hb hx⟩
theorem Un.kept(k:∀ b u,h.get? b=some u->h'.get? b=some u):Un fs ex H H h h' :=
 ⟨λb ob q _ _ _=>k b ob q,λb ob q _ _ _=>⟨ob.slots,k b ob q⟩,λ_ _ _ n _=>n,λb ob q _=>⟨ob,k b ob q⟩,λ_ _ q=>q,λ_ _ _ q=>q,λ_ ps q=>⟨#[],by rw[q]; simp⟩⟩
theorem Un.refl:Un fs ex H H h h:=Un.kept λ_ _ q=>q
theorem Un.laid(k:∀ b u,h.get? b=some u->h'.get? b=some u)(hp:h.objs.size<=a)(hn:H a=none):Un fs ex H (upd H a o) h h' where
 keep:=λb u q _ _ _=>k b u q
 slot:=λb u q _ _ _=>⟨u.slots,k b u q⟩
 free:=λb u q n _=>by rw[zq<|qj<|qi (qh q) hp]; exact n
 there:=λb u q _=>⟨u,k b u q⟩
 eS:=λb xs q=>by rw[zq<|ku q hn]; exact q
 d0:=λb u xs q=>by rw[zq<|ku q hn]; exact q
 f7:=λb ps q=>⟨#[],by rw[zq<|ku q hn,q]; simp⟩
theorem Un.write(mu:AA (H x))(he:e=x\/H e=some (.own x))(k:∀ b u,b≠e->h.get? b=some u->h'.get? b=some u)(wm:∃ u,h'.get? e=some u):Un fs ex H (upd H x o) h h':=by
 have hx:∀ b,H b=none->b≠x:=λb n z=>by subst z; rw[n]at mu; exact mu
 have hb:∀ b,H b=none->b≠e:=λb n z=>by
  subst z;rcases he with r|r
  .exact hx b n r
  .rw[n]at r; cases r
 have hm:∀ b u,H b=some u->¬AA (some u)->b≠x:=λb u q nm z=>by subst z; rw[q]at mu; exact nm mu
 refine⟨λb u q n _ _=>k b u (hb b n) q,λb u q n _ _=>⟨u.slots,k b u (hb b n) q⟩,λb u q n _=>by rw[zq<|hx b n]; exact n,λb u q _=>?_,
  λb xs q=>by rw[zq<|hm b _ q λz=>z]; exact q,λb u xs q=>by rw[zq<|hm b _ q λz=>z]; exact q,λb ps q=>⟨#[],by rw[zq<|hm b _ q λz=>z,q]; simp⟩⟩
 by_cases uj:b=e
 .subst uj; exact wm
 .exact⟨u,k b u uj q⟩
end
def Ds(h:Heap)(H:Hp):Qa Qg:=(List.range h.objs.size).filter λa=>(H a).isSome
def oI(h:Heap)(H:Hp):Heap:=PySem.W.hideAll h (Ds h H)
theorem zoI(h:Heap)(H:Hp):(oI h H).objs.size=h.objs.size:=PySem.W.hideAll_size _ _
theorem zpH{h:Heap}{H:Hp}{b:Qg}{o:Obj}(e:h.get? b=some o)(n:H b=none):(oI h H).get? b=some o :=
 PySem.W.hideAll_get _ e λhm=>by
  have q:(H b).isSome=true:=(ß.mp hm).2;rw[n]at q; simp at q
theorem YN{h:Heap}{H:Hp}{b:Qg}{o:Obj}(e:(oI h H).get? b=some o):h.get? b=some o/\H b=none:=by
 have e':h.get? b=some o:=PySem.W.of_hideAll (Ds h H) e;refine⟨e',?_⟩;cases q:H b with
 | none=>rfl
 | some x=>
  have hm:b∈Ds h H:=ß.mpr ⟨ç.mpr<|qh e',by simp[q]⟩;have z:(oI h H).get? b=none:=PySem.W.hideAll_none (Ds h H) hm;rw[z]at e; cases e
def YM(g h:Heap)(L:Qg):Qa (Qg×Obj):=(List.range h.objs.size).filterMap λa=>if a=L\/(g.get? a).isSome=true then none else(h.get? a).map λo=>(a,o)
def rest(g h:Heap)(L d:Qg):Qa (Qg×Obj):=(YM g h L).filter λp=>decide<|p.1≠d
structure Mod (K:qc) (mg:Str->Qb Qc) (base:Heap):Prop where
 eG:K.In base
 glob:base.Ns mainGlobals mg
 blt:∃ mb,base.Ns builtinsNs mb/\∀ x:Str,x ≠ "__name__"->mb x=bootBuiltins x
 nolimit:base.NoLimit
structure Cx where
 prog:Qe
 w:Qh
 K:qc
 mg:Str->Qb Qc
 base:Heap
 A:Qf
 N:Qa Str
 aX:Qd
 H₀:Hp
 env:Env
 outer:Qa Env
 stack:Qa Env
 ex:Qa Qg
 fn:Str->Bool
 calm:Bool
 pn:Qa (Qg×Obj)
 xe:Qc->Qd->Prop
def k8(l:Qa Env):Qa Qg:=l.filterMap (·.frame)
abbrev Cx.fs(X:Cx):Qa Qg:=k8 X.outer
def D3(sc:Scope)(x:Str):Prop:=sc.names.lookup x=some .local\/sc.names.lookup x=some .cell\/sc.names.lookup x=some .free
def Loc(sc:Scope)(x:Str):Prop:=sc.names.lookup x=some .local\/sc.names.lookup x=some .cell
def zBs(env:Env)(h:Heap)(m:Str->Qb Qc)(x:Str)(u:Qc):Prop :=
 (env.kindOf x=some .local/\m x=some u)\/((env.kindOf x=some .cell\/env.kindOf x=some .free)/\∃ c,env.cells.lookup x=some c/\h.IsCell c (some u))
structure Cx.Ok (X:Cx):Prop where
 mod:Mod X.K X.mg X.base
 kind:X.env.scope.kind=.function
 glob:X.env.globals=mainGlobals
 blt:X.env.builtins=builtinsNs
 above:X.aX.heap.objs.size<=X.env.locals
 inj:∀ x y c,X.env.cells.lookup x=some c->X.env.cells.lookup y=some c->x=y
 has:∀ x,(X.env.kindOf x=some .cell\/X.env.kindOf x=some .free)->∃ c,X.env.cells.lookup x=some c
 wu:∀ x c,X.fn x=true->X.env.cells.lookup x=some c->X.aX.heap.objs.size<=c
 hd:X.calm=true->X.A.handled=none
 frames:X.A.frames=some X.stack
 x9:X.stack=X.outer\/(X.stack=X.env::X.outer/\X.env.frame=some X.env.locals)
 Am:∀ b∈X.ex,b≠X.env.locals/\∀ x c,X.env.cells.lookup x=some c->c≠b
 bs:∀ b o,X.base.get? b=some o->X.aX.heap.get? b=some o/\X.H₀ b=none
 oA:X.base.objs.size<=X.aX.heap.objs.size
 kK:∀ b o,X.base.get? b=some o->b∉X.ex
 m9:∀ b∈X.ex,b∉X.fs
 dH:X.aX.heap.FunFrames X.base X.outer
 sA:∀ b∈X.fs,X.H₀ b=none
structure Inv (X:Cx) (pins:Qa (Qg×Obj)) (σ:Qa (Qb V)) (H:Hp) (s:Qd):Prop where
 ok:X.Ok
 os:s.os=X.aX.os
 bare:AllBare s.gens
 base:Un X.fs X.ex X.H₀ H X.aX.heap s.heap
 loc:∃ m,s.heap.Ns X.env.locals m/\∀ (i:Nat) (x:Str) (v:V),X.N[i]?=some x->σ[i]?=some (some v)->D3 X.env.scope x->∃ u,zA v u/\zBs X.env s.heap m x u
 cell:∀ x c,X.env.cells.lookup x=some c->∃ v,s.heap.IsCell c v
 free:H X.env.locals=none
 bC:∀ x c,X.env.cells.lookup x=some c->H c=none
 pin:∀ p∈X.pn++pins,s.heap.get? p.1=some p.2/\H p.1=none/\p.1≠X.env.locals/\p.1∉X.fs/\∀ v,p.2.data≠.cell v
 aq:bE X.prog X.w X.K H s.heap
 len:σ.length=X.N.length
section
variable{X:Cx}{pins:Qa (Qg×Obj)}{σ:Qa (Qb V)}{H H':Hp}{s:Qd}{h':Heap}
theorem Cx.Ok.Jb(ok:X.Ok){b:Qg}{o:Obj}(e:X.base.get? b=some o):b∉X.fs:=λhb=>by
 have:=(ok.dH.mem hb).1;rw[e]at this; cases this
theorem Inv.bs(I:Inv X pins σ H s):∀ b o,X.base.get? b=some o->s.heap.get? b=some o/\H b=none:=λb o e=>
 ⟨I.base.keep b o (I.ok.bs b o e).1 (I.ok.bs b o e).2 (I.ok.Jb e)<|I.ok.kK b o e,I.base.free b o (I.ok.bs b o e).1 (I.ok.bs b o e).2<|I.ok.kK b o e⟩
theorem Inv.bk(I:Inv X pins σ H s):∀ b o,X.base.get? b=some o->s.heap.get? b=some o:=λb o e=>(I.bs b o e).1
theorem Inv.mod(I:Inv X pins σ H s):Mod X.K X.mg X.base:=I.ok.mod
theorem Inv.aU(I:Inv X pins σ H s):X.K.In s.heap:=I.ok.mod.eG.keeps I.bk
theorem Inv.fr(I:Inv X pins σ H s):∃ m,Fr X.base X.env.locals s.heap m :=
 let ⟨m,hn,_⟩:=I.loc
 ⟨m,hn,I.bk,qy I.ok.oA I.ok.above⟩
theorem Inv.lt(I:Inv X pins σ H s):X.env.locals < s.heap.objs.size:=let ⟨_,hn,_⟩:=I.loc; hn.lt
theorem Inv.sz(I:Inv X pins σ H s):X.aX.heap.objs.size<=s.heap.objs.size:=qy I.ok.above (Nat.le_of_lt I.lt)
theorem Inv.Ja(I:Inv X pins σ H s){a:Qg}(h:s.heap.objs.size<=a):a∉X.fs:=λhb=>by
 have(_,o,ho,_):=I.ok.dH.mem hb;exact absurd (qi (qh ho)<|qy I.sz h)<|Ç _
theorem Inv.oz(I:Inv X pins σ H s):∀ x c,X.env.cells.lookup x=some c->c≠X.env.locals:=λx c e z=>by
 have(v,o,ho,hd):=I.cell x c e;obtain⟨m,⟨o',es,ep,gR,n9,_⟩,_⟩:=I.loc;rw[z,gR]at ho; cases ho; rw[n9]at hd; cases hd
theorem Inv.dH(I:Inv X pins σ H s):s.heap.FunFrames X.base X.outer:=by
 have all:∀ (l:Qa Env),(∀ b∈k8 l,b∈X.fs)->X.aX.heap.FunFrames X.base l->s.heap.FunFrames X.base l:=by
  intro l
  induction l with
  | nil=>intro _ _; trivial
  | cons env r ih=>
   intro hs hl;obtain⟨hk,⟨L,o,hf,hn,ho,hd⟩,hr⟩:=hl;have hL:L∈X.fs:=hs L (by unfold k8; rw[List.filterMap_cons,hf]; exact qp);have(sl,e):=I.base.slot L o ho (I.ok.sA L hL) hL λz=>I.ok.m9 L z hL;exact⟨hk,⟨L,_,hf,hn,e,hd⟩,ih (λb hb=>hs b (by unfold k8; rw[List.filterMap_cons,hf]; exact qo _ hb)) hr⟩
 exact all X.outer (λ_ hb=>hb) I.ok.dH
theorem Inv.stack(I:Inv X pins σ H s):s.heap.FunFrames X.base X.stack:=by
 rcases I.ok.x9 with e|⟨e,hf⟩
 .rw[e]; exact I.dH
 .rw[e]
  have(m,hn,_):=I.loc;refine .cons (by rw[I.ok.kind]; decide) hf hn ?_ I.dH;exact Heap.get?_none_of_le<|qy I.ok.oA I.ok.above
theorem Inv.eV(I:Inv X pins σ H s):∀ b∈k8 X.stack,b∈X.env.locals::X.fs:=λb hb=>by
 rcases I.ok.x9 with e|⟨e,hf⟩
 .rw[e]at hb; exact qo _ hb
 .rw[e]at hb
  unfold k8 at hb;rw[List.filterMap_cons,hf]at hb;exact hb
theorem Inv.jV(I:Inv X pins σ H s):∀ b∈k8 X.stack,H b=none:=λb hb=>by
 rcases qv.mp (I.eV b hb)with e|hb
 .rw[e]; exact I.free
 .have(_,o,ho,_):=I.ok.dH.mem hb
  exact I.base.free b o ho (I.ok.sA b hb) λz=>I.ok.m9 b z hb
theorem Inv.step{g':Array GenState}{t':Nat}{d':Drawn}{ch:Qa Qg}(I:Inv X pins σ H s)
  (og:∀ b∈ch,(b∈X.ex\/X.aX.heap.objs.size<=b)/\b≠X.env.locals/\(∀ x c,X.env.cells.lookup x=some c->c≠b)/\∀ p∈X.pn++pins,p.1≠b)
  (keep:∀ b o,b≠X.env.locals->b∉X.fs->b∉ch->s.heap.get? b=some o->H b=none->h'.get? b=some o)
  (slot:∀ b o,b≠X.env.locals->b∈X.fs->b∉ch->s.heap.get? b=some o->H b=none->∃ sl,h'.get? b=some {o with slots:=sl}) (free:∀ b o,b∉ch->s.heap.get? b=some o->H b=none->H' b=none)
  (there:∀ b o,b∉ch->s.heap.get? b=some o->∃ o',h'.get? b=some o')
  (eS:∀ b xs,H b=some (.tup xs)->H' b=some (.tup xs)) (d0:∀ b o u,H b=some (.aW o u)->H' b=some (.aW o u)) (f7:∀ b ps,H b=some (.lH ps)->∃ more,H' b=some (.lH<|ps++more))
  (ns:∀ m,s.heap.Ns X.env.locals m->h'.Ns X.env.locals m) (aq:bE X.prog X.w X.K H' h') (hg:AllBare g'):
  Inv X pins σ H' {s with heap:=h',gens:=g',drawn:=d',toks:=t'}:=by
 have RQ:∀ b o,X.aX.heap.get? b=some o->b≠X.env.locals:=λb o e=>qj<|qi (qh e) I.ok.above;have DG:∀ b o,X.aX.heap.get? b=some o->b∉X.ex->b∉ch:=λb o e hx hb=>by
  rcases(og b hb).1 with z|z
  .exact hx z
  .exact absurd (qi (qh e) z) (Ç _)
 have cellK:∀ x c,X.env.cells.lookup x=some c->∀ v,s.heap.IsCell c v->h'.IsCell c v:=λx c e v ⟨o,ho,hd⟩=>by
  have yi:c∉ch:=λz=>(og c z).2.2.1 x c e rfl
  by_cases hc:c∈X.fs
  .have(sl,q):=slot c o (I.oz x c e) hc yi ho (I.bC x c e)
   exact⟨_,q,hd⟩
  .exact⟨o,keep c o (I.oz x c e) hc yi ho<|I.bC x c e,hd⟩
 refine⟨I.ok,I.os,hg,⟨λb o e n hb hx=>?_,λb o e n hb hx=>?_,λb o e n hx=>?_,λb o e hx=>?_,λb xs e=>eS b xs<|I.base.eS b xs e,λb o xs e=>d0 b o xs<|I.base.d0 b o xs e,λb ps e=>?_⟩,?_,λx c e=>?_,?_,λx c e=>?_,λp hp=>?_,aq,I.len⟩
 .exact keep b o (RQ b o e) hb (DG b o e hx) (I.base.keep b o e n hb hx) (I.base.free b o e n hx)
 .have(sl,e1):=I.base.slot b o e n hb hx
  have(sl',e2):=slot b _ (RQ b o e) hb (DG b o e hx) e1 (I.base.free b o e n hx);exact⟨sl',e2⟩
 .have(o',e1):=I.base.there b o e hx
  exact free b o' (DG b o e hx) e1<|I.base.free b o e n hx
 .have(o',e1):=I.base.there b o e hx
  exact there b o' (DG b o e hx) e1
 .have(m1,e1):=I.base.f7 b ps e
  have(m2,e2):=f7 b _ e1;exact⟨m1++m2,by rw[e2,Array.append_assoc]⟩
 .have(m,hn,hl):=I.loc
  refine⟨m,ns m hn,λi x v e1 e2 e3=>?_⟩;have(u,r,l):=hl i x v e1 e2 e3;refine⟨u,r,?_⟩;rcases l with l|⟨k,c,e,z⟩
  .exact .inl l
  .exact .inr ⟨k,c,e,cellK x c e _ z⟩
 .have(v,z):=I.cell x c e
  exact⟨v,cellK x c e v z⟩
 .obtain⟨m,⟨o,_,_,ho,_⟩,_⟩:=I.loc
  exact free _ o (λz=>(og _ z).2.1 rfl) ho I.free
 .have(v,o,ho,hd):=I.cell x c e
  exact free c o (λz=>(og c z).2.2.1 x c e rfl) ho<|I.bC x c e
 .have(e,n,ne,nf,d):=I.pin p hp
  have yi:p.1∉ch:=λz=>(og p.1 z).2.2.2 p hp rfl;exact⟨keep p.1 p.2 ne nf yi e n,free p.1 p.2 yi e n,ne,nf,d⟩
theorem Inv.un{t':Nat}(I:Inv X pins σ H s)(u:Un X.fs [] H H' s.heap h')(aq:bE X.prog X.w X.K H' h'):Inv X pins σ H' {s with heap:=h',toks:=t'}:=by
 obtain⟨m,⟨o,es,ep,ho,r⟩,_⟩:=id I.loc;have(sl,hL):=u.any ho I.free (by simp);exact I.step (g':=s.gens) (d':=s.drawn) (ch:=[]) (λ_ z=>nomatch z) (λb o _ hb _ e n=>u.keep b o e n hb (by simp)) (λb o _ hb _ e n=>u.slot b o e n hb (by simp)) (λb o _ e n=>u.free b o e n (by simp)) (λb o _ e=>u.there b o e (by simp)) u.eS u.d0 u.f7 (λm' hm=>by
  have(o',p7,ig,gR,r'):=hm;rw[ho]at gR; cases gR;exact⟨_,p7,ig,hL,r'⟩) aq I.bare
theorem Inv.call{g':Array GenState}{t':Nat}{d':Drawn}{ch:Qa Qg}(I:Inv X pins σ H s)(u:Un (k8 X.stack) ch H H' s.heap h')(aq:bE X.prog X.w X.K H' h')(hg:AllBare g')
  (og:∀ b∈ch,(b∈X.ex\/X.aX.heap.objs.size<=b)/\b≠X.env.locals/\(∀ x c,X.env.cells.lookup x=some c->c≠b)/\∀ p∈X.pn++pins,p.1≠b):
  Inv X pins σ H' {s with heap:=h',gens:=g',drawn:=d',toks:=t'}:=by
 obtain⟨m,⟨o,es,ep,ho,r⟩,_⟩:=id I.loc;have(sl,hL):=u.any ho I.free λz=>(og _ z).2.1 rfl;exact I.step (ch:=ch) og (λb o hL hb hc e n=>u.keep b o e n (λz=>(qv.mp<|I.eV b z).elim hL hb) hc) (λb o _ _ hc e n=>u.any e n hc) (λb o hc e n=>u.free b o e n hc) (λb o hc e=>u.there b o e hc) u.eS u.d0 u.f7 (λm' hm=>by
  have(o',p7,ig,gR,r'):=hm;rw[ho]at gR; cases gR;exact⟨_,p7,ig,hL,r'⟩) aq hg
theorem Inv.turned{t':Nat}{it:Qg}(I:Inv X pins σ H s)(k:∀ b o,b≠it->s.heap.get? b=some o->h'.get? b=some o)(hn:H it=none)(hL:it≠X.env.locals)
  (h1:it∈X.ex\/X.aX.heap.objs.size<=it) (h2:∀ x c,X.env.cells.lookup x=some c->c≠it) (h3:∀ p∈X.pn++pins,p.1≠it):Inv X pins σ H {s with heap:=h',toks:=t'}:=by
 have gJ:∀ b u,H b=some u->b≠it:=λb u e z=>by rw[z,hn]at e; cases e
 refine I.step (g':=s.gens) (d':=s.drawn) (ch:=[it]) (λb hb=>?_) (λb o _ _ hc e _=>k b o (λz=>hc (by simp[z])) e) (λb o _ _ hc e _=>⟨o.slots,k b o (λz=>hc (by simp[z])) e⟩) (λ_ _ _ _ n=>n)
  (λb o hc e=>⟨o,k b o (λz=>hc (by simp[z])) e⟩) (λ_ _ e=>e) (λ_ _ _ e=>e) (λb ps e=>⟨#[],by rw[e]; simp⟩) (λm hm=>?_) (λb u e=>?_) I.bare
 .have e:b=it:=by simpa using hb
  subst e;exact⟨h1,hL,h2,h3⟩
 .have(o,es,ep,ho,r):=hm
  exact⟨o,es,ep,k _ o (Ne.symm hL) ho,r⟩
 .refine(I.aq b u e).cA (λc v hc q=>k c v ?_ q) (λ_ q=>q) λ_ _ q=>q
  rcases hc with z|z
  .rw[z]; exact gJ b u e
  .exact gJ c _ z
theorem Inv.tok(I:Inv X pins σ H s)(t:Nat):Inv X pins σ H {s with toks:=t}:=I.un (h':=s.heap) (t':=t) Un.refl I.aq
theorem Inv.kept{t':Nat}(I:Inv X pins σ H s)(k:∀ b u,s.heap.get? b=some u->h'.get? b=some u):Inv X pins σ H {s with heap:=h',toks:=t'}:=I.un (Un.kept k) (I.aq.kept k)
theorem Inv.laid{a:Qg}{o:HO}{t':Nat}(I:Inv X pins σ H s)(k:∀ b u,s.heap.get? b=some u->h'.get? b=some u)(hp:s.heap.objs.size<=a)(new:zI X.prog X.w X.K (upd H a o) h' a o):
  Inv X pins σ (upd H a o) {s with heap:=h',toks:=t'}:=I.un (Un.laid k hp<|I.aq.fresh hp) (I.aq.laid k hp new)
theorem Inv.write{x e:Qg}{o:HO}{t':Nat}(I:Inv X pins σ H s)(mu:AA (H x))(he:e=x\/H e=some (.own x))(k:∀ b u,b≠e->s.heap.get? b=some u->h'.get? b=some u)(wm:∃ u,h'.get? e=some u)
  (new:zI X.prog X.w X.K (upd H x o) h' x o):Inv X pins σ (upd H x o) {s with heap:=h',toks:=t'}:=I.un (Un.write mu he k wm) (I.aq.write mu he k wm new)
theorem Inv.weak{aE:Qa (Qb V)}(I:Inv X pins σ H s)(hl:aE.length=σ.length)(w:∀ (i:Nat) v,aE[i]?=some (some v)->σ[i]?=some (some v)):Inv X pins aE H s :=
 ⟨I.ok,I.os,I.bare,I.base,let ⟨m,hn,uf⟩:=I.loc; ⟨m,hn,λi x v e1 e2 e3=>uf i x v e1 (w i v e2) e3⟩,I.cell,I.free,I.bC,I.pin,I.aq,hl.trans I.len⟩
theorem Inv.bT{rN:Qa (Qg×Obj)}(I:Inv X pins σ H s)(h:∀ p∈rN,s.heap.get? p.1=some p.2/\H p.1=none/\p.1≠X.env.locals/\p.1∉X.fs/\∀ v,p.2.data≠.cell v):Inv X rN σ H s :=
 ⟨I.ok,I.os,I.bare,I.base,I.loc,I.cell,I.free,I.bC,λp hp=>(Á.mp hp).elim (λz=>I.pin p<|Í _ z)<|h p,I.aq,I.len⟩
theorem N6{N:Qa Str}(hN:N.Nodup){i j:Nat}{x:Str}(a:N[i]?=some x)(b:N[j]?=some x):i=j:=by
 have(h1,e1):=qk.mp a;have(h2,e2):=qk.mp b;exact(List.getElem_inj hN).mp<|e1.trans e2.symm
theorem HD{M:Model}{A:Qf}{E:Qc->Qd->Prop}{i:Nat}{x:Str}{v:V}{u:Qc}{Q:Unit->Qd->Prop}(I:Inv X pins σ H s)(hN:X.N.Nodup)(hi:X.N[i]?=some x)(hx:Loc X.env.scope x)(r:zA v u)
  (h:∀ s',Inv X pins (σ.set i<|some v) H s'->(∃ a,Heap.SameBut a s.heap s'.heap/\(a=X.env.locals\/X.env.cells.lookup x=some a))->Q () s') (hf:X.fn x=true\/X.env.scope.names.lookup x=some .local:=by first|exact .inl rfl|exact .inr rfl|assumption):wpAny M A (storeName X.env x u) Q E s:=by
 have(m,hn,hl):=id I.loc;have JM:(X.env.scope.kind==.class || (X.env.scope.kind==.module && X.env.locals != X.env.globals))=false:=by rw[I.ok.kind]; rfl
 have y8:i < σ.length:=by rw[I.len]; exact(qk.mp hi).1
 have oz:=I.oz;have tracked:∀ {a:Qg} {h':Heap},(∃ o,s.heap.get? a=some o/\H a=none)->Heap.SameBut a s.heap h'->bE X.prog X.w X.K H h':=λ{a h'} ha hs b ob e=>by
  have(_,_,r8):=ha;refine(I.aq b ob e).cA (λc w' hc q=>(hs.2 c ?_).trans q) (λ_ q=>q) λ_ _ q=>q;rintro rfl;rcases hc with rfl|hc
  .rw[r8]at e; cases e
  .rw[r8]at hc; cases hc
 rcases hx with hk|hk
 .refine wpAny_storeName_local hk hn (λh' hn' hs=>?_) JM
  have(oL,_,_,yY,_):=id hn;refine h _ ⟨I.ok,I.os,I.bare,⟨λb o e n hb hx=>?_,λb o e n hb hx=>?_,I.base.free,λb o e hx=>?_,I.base.eS,I.base.d0,I.base.f7⟩,⟨_,hn',λj y v' e1 e2 e3=>?_⟩,λy c e=>?_,I.free,I.bC,λp hp=>?_,tracked ⟨oL,yY,I.free⟩ hs,by simpa using I.len⟩ ⟨_,hs,.inl rfl⟩
  .exact(hs.2 b<|qj<|qi (qh e) I.ok.above).trans (I.base.keep b o e n hb hx)
  .have(sl,e1):=I.base.slot b o e n hb hx
   exact⟨sl,(hs.2 b<|qj<|qi (qh e) I.ok.above).trans e1⟩
  .have(o',e1):=I.base.there b o e hx
   exact⟨o',(hs.2 b<|qj<|qi (qh e) I.ok.above).trans e1⟩
  .by_cases hj:j=i
   .subst hj
    rw[hi]at e1; cases e1;rw[List.getElem?_set_self y8]at e2;cases e2;exact⟨u,r,.inl ⟨hk,by simp⟩⟩
   .rw[qC<|Ne.symm hj]at e2
    have(u',r',q):=hl j y v' e1 e2 e3;refine⟨u',r',?_⟩;rcases q with⟨k,e⟩|⟨k,c,e,z⟩
    .refine .inl ⟨k,?_⟩
     have:y≠x:=λe=>hj<|N6 hN e1<|e▸hi;simp[this,e]
    .exact .inr ⟨k,c,e,z.sameBut hs<|oz y c e⟩
  .have(w',z):=I.cell y c e
   exact⟨w',z.sameBut hs<|oz y c e⟩
  .have(e,n,ne,nf,d):=I.pin p hp
   exact⟨(hs.2 p.1 ne).trans e,n,ne,nf,d⟩
 .have JJ:X.fn x=true:=by
   rcases hf with z|z
   .exact z
   .rw[z]at hk; cases hk
  have(c,hc):=I.ok.has x (.inl hk);have(w',z):=I.cell x c hc;refine wpAny_storeName_cell I.ok.kind hk hc z λh' kZ hs=>?_;have(oc,Sa,JE):=id z;refine h {s with heap:=h'} ⟨I.ok,I.os,I.bare,⟨λb o e n hb hx=>?_,λb o e n hb hx=>?_,I.base.free,λb o e hx=>?_,I.base.eS,I.base.d0,I.base.f7⟩,⟨m,hn.sameBut hs<|Ne.symm<|oz x c hc,λj y v' e1 e2 e3=>?_⟩,λy c' e=>?_,I.free,I.bC,λp hp=>?_,tracked ⟨oc,Sa,I.bC x c hc⟩ hs,by simpa using I.len⟩ ⟨c,hs,.inr hc⟩
  .exact(hs.2 b<|qj<|qi (qh e)<|I.ok.wu x c JJ hc).trans (I.base.keep b o e n hb hx)
  .have(sl,e1):=I.base.slot b o e n hb hx
   exact⟨sl,(hs.2 b<|qj<|qi (qh e)<|I.ok.wu x c JJ hc).trans e1⟩
  .have(o',e1):=I.base.there b o e hx
   exact⟨o',(hs.2 b<|qj<|qi (qh e)<|I.ok.wu x c JJ hc).trans e1⟩
  .by_cases hj:j=i
   .subst hj
    rw[hi]at e1; cases e1;rw[List.getElem?_set_self y8]at e2;cases e2;exact⟨u,r,.inr ⟨.inl hk,c,hc,kZ⟩⟩
   .rw[qC<|Ne.symm hj]at e2
    have(u',r',q):=hl j y v' e1 e2 e3;refine⟨u',r',?_⟩;rcases q with q|⟨k,c',e,z'⟩
    .exact .inl q
    .refine .inr ⟨k,c',e,z'.sameBut hs ?_⟩
     rintro rfl;exact hj<|N6 hN e1<|I.ok.inj _ _ _ e hc▸hi
  .by_cases Ss:c'=c
   .subst Ss; exact⟨_,kZ⟩
   .have(w2,z2):=I.cell y c' e
    exact⟨w2,z2.sameBut hs Ss⟩
  .have(e,n,ne,nf,d):=I.pin p hp
   refine⟨(hs.2 p.1 ?_).trans e,n,ne,nf,d⟩;intro q;rw[q,Sa]at e;have q':oc=p.2:=qx e;exact d w' (by rw[<-q']; exact JE)
theorem CG{M:Model}{A:Qf}{E:Qc->Qd->Prop}{i:Nat}{x:Str}{v:V}{u:Qc}{Q:Unit->Qd->Prop}(I:Inv X pins σ H s)(hN:X.N.Nodup)(hi:X.N[i]?=some x)(hx:Loc X.env.scope x)(r:zA v u)
  (h:∀ s',Inv X pins (σ.set i<|some v) H s'->Q () s') (hf:X.fn x=true\/X.env.scope.names.lookup x=some .local:=by first|exact .inl rfl|exact .inr rfl|assumption):wpAny M A (storeName X.env x u) Q E s :=
 HD I hN hi hx r (λs' I' _=>h s' I') hf
theorem Inv.sE{s':Qd}{ch:Qa Qg}(I:Inv X pins σ H s)(ho:s'.os=s.os)(u:Un (k8 X.stack) ch H H' s.heap s'.heap)(aq:bE X.prog X.w X.K H' s'.heap)(hg:AllBare s'.gens)
  (og:∀ b∈ch,(b∈X.ex\/X.aX.heap.objs.size<=b)/\b≠X.env.locals/\(∀ x c,X.env.cells.lookup x=some c->c≠b)/\∀ p∈X.pn++pins,p.1≠b):Inv X pins σ H' s':=by
 have(h',g',d',t',o'):=s';have e:o'=s.os:=ho;subst e;exact I.call (g':=g') (t':=t') (d':=d') u aq hg og
end
abbrev XK:=Qc->Qb Qg->Hp->Prop
abbrev St:=Qa (Qb V)
abbrev VK:=V->Hp->Prop
abbrev TE:=St->Hp->VK->Prop
abbrev TT:=St->Hp->(Bool->Hp->Prop)->Prop
abbrev TA:=St->Hp->(Qa V->Hp->Prop)->Prop
structure Ends where
 nx:St->Hp->Prop
 rt:VK
 bk:St->Hp->Prop:=λ_ _=>False
 ct:St->Hp->Prop:=λ_ _=>False
abbrev TS:=Ends->St->Hp->Prop
def EP(X:Cx)(pins:Qa (Qg×Obj))(σ:St)(Q:VK)(u:Qc)(s':Qd):Prop:=∃ v H',Inv X pins σ H' s'/\zA v u/\Q v H'
def TP(X:Cx)(pins:Qa (Qg×Obj))(σ:St)(Q:Bool->Hp->Prop)(b:Bool)(s':Qd):Prop:=∃ H',Inv X pins σ H' s'/\Q b H'
def AP(X:Cx)(pins:Qa (Qg×Obj))(σ:St)(Q:Qa V->Hp->Prop)(us:Qa Qc)(s':Qd):Prop:=∃ vs H',Inv X pins σ H' s'/\zC vs us/\Q vs H'
def SP(X:Cx)(pins:Qa (Qg×Obj))(D:Ends)(f:Flow)(s':Qd):Prop :=
 match f with
 | .next=>∃ aE H',Inv X pins aE H' s'/\D.nx aE H'
 | .brk=>∃ aE H',Inv X pins aE H' s'/\D.bk aE H'
 | .cont=>∃ aE H',Inv X pins aE H' s'/\D.ct aE H'
 | .ret u=>∃ v aE H',Inv X pins aE H' s'/\zA v u/\D.rt v H'
def PE(X:Cx)(e:Expr)(t:TE):Prop :=
 ∀ (pins:Qa (Qg×Obj)) (s:Qd) (σ:St) (H:Hp) (Q:VK),Inv X pins σ H s->t σ H Q->wpAny (model X.prog X.w) X.A (eval e X.env) (EP X pins σ Q) X.xe s
def PT(X:Cx)(e:Expr)(t:TT):Prop :=
 ∀ (pins:Qa (Qg×Obj)) (s:Qd) (σ:St) (H:Hp) (Q:Bool->Hp->Prop),Inv X pins σ H s->t σ H Q->wpAny (model X.prog X.w) X.A (isTrue e X.env<|eval e X.env) (TP X pins σ Q) X.xe s
def PW(X:Cx)(e:Expr)(t:TT):Prop :=
 ∀ (whole:Sem Qc) (pins:Qa (Qg×Obj)) (s:Qd) (σ:St) (H:Hp) (Q:Bool->Hp->Prop),Inv X pins σ H s->t σ H Q->wpAny (model X.prog X.w) X.A (isTrue e X.env whole) (TP X pins σ Q) X.xe s
theorem PW.pt{X:Cx}{e:Expr}{t:TT}(h:PW X e t):PT X e t:=h _
def PA(X:Cx)(es:Qa Expr)(t:TA):Prop :=
 ∀ (pos:Pos) (pins:Qa (Qg×Obj)) (s:Qd) (σ:St) (H:Hp) (Q:Qa V->Hp->Prop),Inv X pins σ H s->t σ H Q->wpAny (model X.prog X.w) X.A (spliced<|backTo pos<|starEach es X.env) (AP X pins σ Q) X.xe s
def PS(X:Cx)(st:Stmt)(t:TS):Prop :=
 ∀ (pins:Qa (Qg×Obj)) (s:Qd) (σ:St) (H:Hp) (D:Ends),Inv X pins σ H s->t D σ H->wpAny (model X.prog X.w) X.A (exec st X.env) (SP X pins D) X.xe s
def d5(X:Cx)(st:Qa Stmt)(t:TS):Prop :=
 ∀ (pins:Qa (Qg×Obj)) (s:Qd) (σ:St) (H:Hp) (D:Ends),Inv X pins σ H s->t D σ H->wpAny (model X.prog X.w) X.A (execs st X.env) (SP X pins D) X.xe s
theorem aw{α:Type}{t:Sem α}{Q Q':α->Qd->Prop}{M:Model}{A:Qf}{E:Qc->Qd->Prop}{s:Qd}(h:wpAny M A t Q E s)(hQ:∀ a s,Q a s->Q' a s):wpAny M A t Q' E s:=wpAny_mono h hQ λ_ _ x=>x
section
variable{X:Cx}
def dW(i:Nat):TE:=λσ H Q=>∃ v,σ[i]?=some (some v)/\Q v H
def tC(v:V):TE:=λ_ H Q=>Q v H
theorem WL{i:Nat}{x:Str}{pos:Pos}(hN:X.N[i]?=some x)(hv:D3 X.env.scope x)(hd:(x==("__debug__":Str))=false:=by decide)(kY:(x==("__classdict__":Str))=false:=by decide):PE X (.Name x pos) (dW i):=by
 intro pins s σ H Q I h;have(v,e,h):=h;have(m,hn,hl):=I.loc;have(u,r,l):=hl i x v hN e hv;have fin:EP X pins σ Q u s:=⟨v,H,I,r,h⟩;rcases l with⟨hk,hm⟩|⟨hk,c,hc,sf⟩
 .exact wpAny_Name (wpAny_loadName_local I.ok.kind hk hn hm fin) hd
 .rcases hk with hk|hk
  .exact wpAny_Name (wpAny_loadName_cell I.ok.kind hk hc sf fin) hd
  .exact wpAny_Name (wpAny_loadName_free I.ok.kind hk hc sf fin kY) hd
theorem VL{i j pos}:PE X (.Constant (.int i) j pos) (tC<|.int i):=λ_ _ _ H _ I h=>wpAny_Constant_int ⟨.int i,H,I.tok _,⟨_,rfl⟩,h⟩
theorem Uv{b j pos}:PE X (.Constant (.bool b) j pos) (tC<|.bl b):=λ_ _ _ H _ I h=>Constant_bool ⟨.bl b,H,I,rfl,h⟩
theorem VJ{j pos}:PE X (.Constant .none j pos) (tC .aF):=λ_ _ _ H _ I h=>Constant_none ⟨.aF,H,I,rfl,h⟩
theorem VH{x j pos}:PE X (.Constant (.str x) j pos) (tC<|.str x):=λ_ _ _ H _ I h=>Calls.Constant_str ⟨.str x,H,I.tok _,⟨_,rfl⟩,h⟩
def Gl(X:Cx)(x:Str):Prop:=X.env.kindOf x=some .globalImplicit
theorem Cy{E:Qc->Qd->Prop}{pins:Qa (Qg×Obj)}{s:Qd}{σ:St}{H:Hp}{x:Str}{u:Qc}{pos:Pos}{Q:Qc->Qd->Prop}(I:Inv X pins σ H s)(hg:Gl X x)(hm:X.mg x=some u)(h:Q u s)
  (hd:(x==("__debug__":Str))=false:=by decide):wpAny (model X.prog X.w) X.A (eval (.Name x pos) X.env) Q E s :=
 Calls.Name_function_global I.ok.kind hg (Calls.loadGlobal_global (by rw[I.ok.glob]; exact I.mod.glob.keeps I.bk) hm h) hd
theorem rq{E:Qc->Qd->Prop}{pins:Qa (Qg×Obj)}{s:Qd}{σ:St}{H:Hp}{x:Str}{u:Qc}{pos:Pos}{Q:Qc->Qd->Prop}(I:Inv X pins σ H s)(hg:Gl X x)(hm:X.mg x=none)(hv:bootBuiltins x=some u)(h:Q u s)
  (hn:x ≠ "__name__":=by decide) (hd:(x==("__debug__":Str))=false:=by decide):wpAny (model X.prog X.w) X.A (eval (.Name x pos) X.env) Q E s:=by
 have(mb,h1,h2):=I.mod.blt;exact Calls.Name_function_global I.ok.kind hg (Calls.loadGlobal_builtin (by rw[I.ok.glob]; exact I.mod.glob.keeps I.bk) hm (by rw[I.ok.blt]; exact h1.keeps I.bk) ((h2 x hn).trans hv) h) hd
theorem YL{x:Str}{v:V}{u:Qc}{pos:Pos}(hg:Gl X x)(hm:X.mg x=some u)(r:zA v u)(hd:(x==("__debug__":Str))=false:=by decide):PE X (.Name x pos) (tC v):=
 λ_ _ _ H _ I h=>Cy I hg hm ⟨v,H,I,r,h⟩ hd
theorem YK{x:Str}{v:V}{u:Qc}{pos:Pos}(hg:Gl X x)(hm:X.mg x=none)(hv:bootBuiltins x=some u)(r:zA v u)(hn:x ≠ "__name__":=by decide)(hd:(x==("__debug__":Str))=false:=by decide):PE X (.Name x pos) (tC v):=
 λ_ _ _ H _ I h=>rq I hg hm hv ⟨v,H,I,r,h⟩ hn hd
variable{a b:Expr}{ta tb:TE}{pos:Pos}
def PC(X:Cx)(op:CmpOp)(a b:Expr)(t:TE):Prop :=
 ∀ (pins:Qa (Qg×Obj)) (s:Qd) (σ:St) (H:Hp) (Q:VK),Inv X pins σ H s->t σ H Q->
  wpAny (model X.prog X.w) X.A (eval a X.env) (λv aB=>wpAny (model X.prog X.w) X.A (eval b X.env) (λu f9=>wpAny (model X.prog X.w) X.A (compareOp op v u) (EP X pins σ Q) X.xe f9) X.xe aB) X.xe s
theorem zpI(b:Expr){op:CmpOp}(h:op≠.In)(h2:op≠.NotIn):behindInMarks op b=false:=by
 have e1:(op==CmpOp.In)=false:=by cases op<;>first|rfl|exact absurd rfl h
 have e2:(op==CmpOp.NotIn)=false:=by cases op<;>first|rfl|exact absurd rfl h2
 cases b<;>simp[behindInMarks,e1,e2]
def tB(t:TE):TT:=λσ H Q=>t σ H λx H1=>∃ c,x=.bl c/\Q c H1
theorem Mu{op:CmpOp}{t:TE}(h:PC X op a b t)(h1:behindInMarks op b=false:=by first|exact zpI _ (by decide) (by decide) | rfl):PT X (.Compare a [op] [b] pos) (tB t):=by
 intro pins s σ H Q I hw;refine wpAny_isTrue_Compare1 (aw (h pins s σ H _ I hw) λv s1 h1=>aw h1 λu s2 h2=>aw h2 λc s3 hZ=>?_) h1;have(x,H1,I1,r1,q1):=hZ;have(d,rfl,q):=q1;cases r1;exact wpAny_truthy_bool ⟨H1,I1,q⟩
theorem VG{e:Expr}{t:TE}(h:PE X e t)(he:∀ whole,isTrue e X.env whole=(do let v <-whole; standAt e.pos; holding [v] (truthy v)):=by intro _; rfl):PT X e (tB t):=by
 intro pins s σ H Q I hw;refine isTrue_plain (aw (h pins s σ H _ I hw) λv s1 hZ=>?_)<|he _;have(x,H1,I1,r1,q1):=hZ;have(d,rfl,q):=q1;cases r1;exact wpAny_truthy_bool ⟨H1,I1,q⟩
variable{tA nW:TT}{rest:Qa Expr}
def EM(t u:TT):TT:=λσ H Q=>t σ H λc H1=>if c=true then u σ H1 Q else Q false H1
def Iw(t u:TT):TT:=λσ H Q=>t σ H λc H1=>if c=true then Q true H1 else u σ H1 Q
def EL(t:TT):TT:=λσ H Q=>t σ H λc H1=>Q (!c) H1
theorem YJ(ha:PT X a tA):PW X (.BoolOp .And [a] pos) tA:=by
 intro wh pins s σ H Q I h;refine isTrue_and<|aw (ha pins s σ H Q I h) λc s1 e=>?_;cases c with
 | true=>exact isTrue_and_nil e
 | false=>exact e
theorem VF(ha:PT X a tA):PW X (.BoolOp .Or [a] pos) tA:=by
 intro wh pins s σ H Q I h;refine isTrue_or<|aw (ha pins s σ H Q I h) λc s1 e=>?_;cases c with
 | false=>exact isTrue_or_nil e
 | true=>exact e
theorem VD(ha:PT X a tA)(hb:PW X (.BoolOp .And (b::rest) pos) nW):PW X (.BoolOp .And (a::b::rest) pos) (EM tA nW):=by
 intro wh pins s σ H Q I h;refine isTrue_and<|aw (ha pins s σ H _ I h) λc s1 hZ=>?_;have(H1,I1,q1):=hZ;cases c with
 | true=>exact hb wh pins s1 σ H1 Q I1 q1
 | false=>exact⟨H1,I1,q1⟩
theorem Uu(ha:PT X a tA)(hb:PW X (.BoolOp .Or (b::rest) pos) nW):PW X (.BoolOp .Or (a::b::rest) pos) (Iw tA nW):=by
 intro wh pins s σ H Q I h;refine isTrue_or<|aw (ha pins s σ H _ I h) λc s1 hZ=>?_;have(H1,I1,q1):=hZ;cases c with
 | true=>exact⟨H1,I1,q1⟩
 | false=>exact hb wh pins s1 σ H1 Q I1 q1
theorem VB(ha:PT X a tA):PT X (.UnaryOp .Not a pos) (EL tA):=by
 intro pins s σ H Q I h;exact isTrue_not<|ha pins s σ H (λc H1=>Q (!c) H1) I h
def FV(ta tb:TE):TE:=λσ H Q=>ta σ H λx H1=>∃ c,x=.bl c/\if c=true then tb σ H1 Q else Q (.bl false) H1
def FU(ta:TE):TE:=λσ H Q=>ta σ H λx H1=>∃ c,x=.bl c/\Q (.bl (!c)) H1
theorem VA{op}{t:TE}(h:PE X a t):PE X (.BoolOp op [a] pos) t:=λpins s σ H Q I hw=>BoolOp_one<|h pins s σ H Q I hw
theorem Vz(ha:PE X a ta)(hb:PE X (.BoolOp .And (b::rest) pos) tb):PE X (.BoolOp .And (a::b::rest) pos) (FV ta tb):=by
 intro pins s σ H Q I h;refine BoolOp_and<|aw (ha pins s σ H _ I h) λv s1 hZ=>?_;have(x,H1,I1,r1,q1):=hZ;have(c,rfl,q1):=q1;cases r1;refine wpAny_truthy_bool ?_;cases c with
 | true=>exact hb pins s1 σ H1 Q I1 q1
 | false=>exact⟨.bl false,H1,I1,rfl,q1⟩
theorem Vy(ha:PE X a ta):PE X (.UnaryOp .Not a pos) (FU ta):=by
 intro pins s σ H Q I h;refine UnaryOp_<|aw (ha pins s σ H _ I h) λv s1 hZ=>?_;have(x,H1,I1,r1,q1):=hZ;have(c,rfl,q1):=q1;cases r1;exact not_of<|wpAny_truthy_bool ⟨.bl (!c),H1,I1,rfl,q1⟩
def Iy(t:TT)(ta tb:TE):TE:=λσ H Q=>t σ H λc H1=>if c=true then ta σ H1 Q else tb σ H1 Q
theorem zpM{c:Expr}(hc:PT X c tA)(ha:PE X a ta)(hb:PE X b tb):PE X (.IfExp c a b pos) (Iy tA ta tb):=by
 intro pins s σ H Q I h;refine wpAny_IfExp<|aw (hc pins s σ H _ I h) λd s1 hZ=>?_;have(H1,I1,q1):=hZ;cases d with
 | true=>exact ha pins s1 σ H1 Q I1 q1
 | false=>exact hb pins s1 σ H1 Q I1 q1
end
def aO(K:qc)(H:Hp)(a:Qg)(xs:Qa V):Prop :=
 Rd H a (.lst xs)\/
  ∃ (o:Obj) (af:Array Qc) (n:Nat),K.lookup a=some o/\o.cls=.type "list"/\o.dict=none/\o.data=.seq af n/\af.size<=sizeLine/\zC xs af.toList
def bw(K:qc)(H:Hp)(a:Qg)(xs:Qa V):Prop :=
 Rd H a (.tup xs)\/
  ∃ (o:Obj) (af:Array Qc) (n:Nat),K.lookup a=some o/\o.cls=.type "tuple"/\o.data=.seq af n/\af.size<=sizeLine/\zC xs af.toList
def zBt:Qc->Qb V
 | .none=>some .aF
 | .bool b=>some<|.bl b
 | .int i _=>some<|.int i
 | .str x _=>some<|.str x
 | .bytes b _=>some<|.j3 b
 | .float b _=>some<|.uu b
 | .ref a=>some<|.ref a
 | .type n=>some<|.ty n
 | _=>none
theorem zA.abs{x:V}{u:Qc}(r:zA x u):zBt u=some x:=by
 cases x with
 | aF=>cases r; rfl
 | bl _=>cases r; rfl
 | int _=>have(t,rfl):=r; rfl
 | str _=>have(t,rfl):=r; rfl
 | j3 _=>have(t,rfl):=r; rfl
 | uu _=>have(t,rfl):=r; rfl
 | ref _=>cases r; rfl
 | ty _=>cases r; rfl
theorem zA.inj{x y:V}{u:Qc}(r:zA x u)(q:zA y u):x=y:=qx (r.abs.symm.trans q.abs)
theorem zC.inj:∀ {xs ys:Qa V} {us:Qa Qc},zC xs us->zC ys us->xs=ys
 | _,_,_,.nil,.nil=>rfl
 | _,_,_,.cons r t,.cons r' t'=>by rw[r.inj r',zC.inj t t']
section
variable{X:Cx}{pins:Qa (Qg×Obj)}{σ:St}{H:Hp}{s:Qd}{a:Qg}{xs ys:Qa V}
theorem aO.of{K:qc}(h:H a=some (.lst xs)):aO K H a xs:=.inl (.inl h)
theorem Inv.list(I:Inv X pins σ H s)(h:aO X.K H a xs):∃ af:Qa Qc,zC xs af/\PlainL s.heap a af.toArray/\xs.length<=sizeLine:=by
 rcases h with h|⟨o,af,n,hk,hc,hd,hs,hz,r⟩
 .have(z,af,n,r,e):=h.ok I.aq
  exact⟨af,r,⟨_,n,e,rfl,rfl,rfl⟩,z⟩
 .refine⟨af.toList,r,⟨o,n,I.aU a o hk,hc,hd,by simpa using hs⟩,?_⟩
  have e:=r.length;simp only[Array.length_toList]at e;omega
theorem Inv.tuple(I:Inv X pins σ H s)(h:bw X.K H a xs):∃ af:Qa Qc,zC xs af/\IsTup s.heap a af.toArray/\xs.length<=sizeLine:=by
 rcases h with h|⟨o,af,n,hk,hc,hs,hz,r⟩
 .have(z,af,r,p):=h.ok I.aq
  exact⟨af,r,p.tup,z⟩
 .refine⟨af.toList,r,⟨o,I.aU a o hk,hc,n,by simpa using hs⟩,?_⟩
  have e:=r.length;simp only[Array.length_toList]at e;omega
theorem Inv.cQ(I:Inv X pins σ H s)(h:aO X.K H a xs)(h':aO X.K H a ys):xs=ys:=by
 obtain⟨af,r,⟨o,n,e,_,_,d⟩,_⟩:=I.list h;obtain⟨its',r',⟨o',n',e',_,_,d'⟩,_⟩:=I.list h';rw[e]at e'; cases e';rw[d]at d';injection d' with d1 _;have:af=its':=by simpa using congrArg Array.toList d1
 subst this;exact r.inj r'
theorem Inv.bS(I:Inv X pins σ H s)(h:bw X.K H a xs)(h':bw X.K H a ys):xs=ys:=by
 obtain⟨af,r,⟨o,e,_,n,d⟩,_⟩:=I.tuple h;obtain⟨its',r',⟨o',e',_,n',d'⟩,_⟩:=I.tuple h';rw[e]at e'; cases e';rw[d]at d';injection d' with d1 _;have:af=its':=by simpa using congrArg Array.toList d1
 subst this;exact r.inj r'
end
abbrev Cx.fY(X:Cx)(E:Qc->Qd->Prop):Cx:={X with xe:=E}
abbrev Cx.rO(X:Cx):Cx:=X.fY λ_ _=>False
theorem Cx.Ok.fY{X:Cx}(ok:X.Ok)(E:Qc->Qd->Prop):(X.fY E).Ok :=
 ⟨ok.mod,ok.kind,ok.glob,ok.blt,ok.above,ok.inj,ok.has,ok.wu,ok.hd,ok.frames,ok.x9,ok.Am,ok.bs,ok.oA,ok.kK,ok.m9,ok.dH,ok.sA⟩
theorem Cx.Ok.bN{X:Cx}{E:Qc->Qd->Prop}(ok:(X.fY E).Ok):X.Ok :=
 ⟨ok.mod,ok.kind,ok.glob,ok.blt,ok.above,ok.inj,ok.has,ok.wu,ok.hd,ok.frames,ok.x9,ok.Am,ok.bs,ok.oA,ok.kK,ok.m9,ok.dH,ok.sA⟩
section
variable{X:Cx}{pins:Qa (Qg×Obj)}{σ:St}{H:Hp}{s:Qd}{E:Qc->Qd->Prop}
theorem Inv.fY(I:Inv X pins σ H s)(E:Qc->Qd->Prop):Inv (X.fY E) pins σ H s:=⟨I.ok.fY E,I.os,I.bare,I.base,I.loc,I.cell,I.free,I.bC,I.pin,I.aq,I.len⟩
theorem Inv.bN(I:Inv (X.fY E) pins σ H s):Inv X pins σ H s:=⟨I.ok.bN,I.os,I.bare,I.base,I.loc,I.cell,I.free,I.bC,I.pin,I.aq,I.len⟩
theorem SP.bN{D:Ends}{f:Flow}{s':Qd}(h:SP (X.fY E) pins D f s'):SP X pins D f s':=by
 cases f with
 | next=>have(aE,H',I,q):=h; exact⟨aE,H',I.bN,q⟩
 | brk=>have(aE,H',I,q):=h; exact⟨aE,H',I.bN,q⟩
 | cont=>have(aE,H',I,q):=h; exact⟨aE,H',I.bN,q⟩
 | ret u=>have(v,aE,H',I,r,q):=h; exact⟨v,aE,H',I.bN,r,q⟩
theorem d5.rO{st:Qa Stmt}{t:TS}(h:d5 X.rO st t):d5 X st t:=λpins s σ H D I hw=>
 wpAny_mono (h pins s σ H D (I.fY _) hw) (λ_ _ q=>q.bN) λ_ _ z=>False.elim z
end
section
variable{X:Cx}{st:Stmt}{rest:Qa Stmt}{t u:TS}{e:Expr}{te:TE}{pos:Pos}
def FT:TS:=λD σ H=>D.nx σ H
def Bg(t u:TS):TS:=λD σ H=>t {D with nx:=u D} σ H
theorem YI:d5 X [] FT:=λ_ _ σ H _ I h=>wpAny_execs_nil ⟨σ,H,I,h⟩
theorem zpO(h1:PS X st t)(h2:d5 X rest u):d5 X (st::rest) (Bg t u):=by
 intro pins s σ H D I h;refine wpAny_execs_cons<|aw (h1 pins s σ H {D with nx:=u D} I h) λf s1 q=>?_;cases f with
 | next=>
  have(aE,H',I',q):=q;exact h2 pins s1 aE H' D I' q
 | ret v=>exact q
 | brk=>exact q
 | cont=>exact q
theorem YH(h1:PS X st t):d5 X [st] t:=by
 intro pins s σ H D I h;refine wpAny_execs_cons<|aw (h1 pins s σ H D I h) λf s1 q=>?_;cases f with
 | next=>exact wpAny_execs_nil q
 | ret v=>exact q
 | brk=>exact q
 | cont=>exact q
theorem Inv.quiet{pins:Qa (Qg×Obj)}{σ:St}{H:Hp}{s:Qd}(I:Inv X pins σ H s):interactive X.env=false:=by simp[interactive,I.ok.kind]
def FR(te:TE):TS:=λD σ H=>te σ H λ_ H1=>D.nx σ H1
theorem YG(he:PE X e te)(hs:swapsWith e none pos.line X.env=pure false:=by rfl):PS X (.Expr e pos) (FR te):=by
 intro pins s σ H D I h;exact wpAny_Expr_any (aw (he pins s σ H _ I h) λv s1 ⟨x,H1,I1,r1,q1⟩=>⟨σ,H1,I1,q1⟩) I.quiet hs
def Bf(te:TE):TS:=λD σ H=>te σ H D.rt
theorem Vx(he:PE X e te):PS X (.Return (some e) pos) (Bf te):=by
 intro pins s σ H D I h;exact wpAny_Return_some<|aw (he pins s σ H _ I h) λv s1 ⟨x,H1,I1,r1,q1⟩=>⟨x,σ,H1,I1,r1,q1⟩
def EK(c:TT)(t u:TS):TS:=λD σ H=>c σ H λb H1=>if b=true then t D σ H1 else u D σ H1
theorem Ut{c:Expr}{a b:Qa Stmt}{tc:TT}(hc:PT X c tc)(ha:d5 X a t)(hb:d5 X b u):PS X (.If c a b pos) (EK tc t u):=by
 intro pins s σ H D I h;refine wpAny_If<|aw (hc pins s σ H _ I h) λd s1 hZ=>?_;have(H1,I1,q1):=hZ;cases d with
 | true=>exact ha pins s1 σ H1 D I1 q1
 | false=>exact hb pins s1 σ H1 D I1 q1
end
abbrev TG:=V->St->Hp->(St->Hp->Prop)->Prop
abbrev i9:=Qa V->St->Hp->(St->Hp->Prop)->Prop
def PG(X:Cx)(target:Expr)(t:TG):Prop :=
 ∀ (pins:Qa (Qg×Obj)) (s:Qd) (σ:St) (H:Hp) (v:V) (u:Qc) (Q:St->Hp->Prop),Inv X pins σ H s->zA v u->t v σ H Q->
  wpAny (model X.prog X.w) X.A (assign target X.env u) (λ_ s'=>∃ aE H',Inv X pins aE H' s'/\Q aE H') X.xe s
def sF(X:Cx)(ts:Qa Expr)(t:i9):Prop :=
 ∀ (pins:Qa (Qg×Obj)) (s:Qd) (σ:St) (H:Hp) (vs:Qa V) (us:Qa Qc) (Q:St->Hp->Prop),Inv X pins σ H s->zC vs us->t vs σ H Q->
  wpAny (model X.prog X.w) X.A (assignInOrder ((assignEach ts X.env).map (·.2)) us) (λ_ s'=>∃ aE H',Inv X pins aE H' s'/\Q aE H') X.xe s
abbrev uS:=V->V->V->Hp->(Hp->Prop)->Prop
def Be(X:Cx)(t:uS):Prop :=
 ∀ (pins:Qa (Qg×Obj)) (s:Qd) (σ:St) (H:Hp) (o i v:V) (ov iv u:Qc) (Q:Hp->Prop),Inv X pins σ H s->zA o ov->zA i iv->zA v u->t o i v H Q->
  wpAny (model X.prog X.w) X.A (setItem ov iv u) (λ_ s'=>∃ H',Inv X pins σ H' s'/\Q H') X.xe s
abbrev D6:=V->V->Hp->VK->Prop
def Tj(X:Cx)(op:Operator)(t:D6):Prop :=
 ∀ (pins:Qa (Qg×Obj)) (s:Qd) (σ:St) (H:Hp) (x y:V) (v u:Qc) (Q:VK),Inv X pins σ H s->zA x v->zA y u->t x y H Q->
  wpAny (model X.prog X.w) X.A (inplaceOp op v u) (EP X pins σ Q) X.xe s
section
variable{X:Cx}{pos:Pos}
def hE(i:Nat):TG:=λv σ H Q=>Q (σ.set i<|some v) H
theorem YF{i:Nat}{x:Str}(hN:X.N.Nodup)(hi:X.N[i]?=some x)(hx:Loc X.env.scope x)(hf:X.fn x=true\/X.env.scope.names.lookup x=some .local:=by first|exact .inl rfl|exact .inr rfl|assumption):PG X (.Name x pos) (hE i):=by
 intro pins s σ H v u Q I r h;exact wpAny_assign_Name<|CG I hN hi hx r (λs' I'=>⟨_,H,I',h⟩) hf
def Bc:i9:=λvs σ H Q=>vs=[]/\Q σ H
def wV(t:TG)(u:i9):i9:=λvs σ H Q=>∃ v r,vs=v::r/\t v σ H λaE H'=>u r aE H' Q
theorem YE:sF X [] Bc:=by
 intro pins s σ H vs us Q I r h;have(e,h):=h;subst e;cases r;exact assignInOrder_nil ⟨σ,H,I,h⟩
theorem zpQ{e:Expr}{es:Qa Expr}{t:TG}{u:i9}(h1:PG X e t)(h2:sF X es u)
  (hs:(assignEach (e::es) X.env).map (·.2)=assign e X.env::(assignEach es X.env).map (·.2):=by rfl):sF X (e::es) (wV t u):=by
 intro pins s σ H vs us Q I r h;have(v,vr,e1,h):=h;subst e1;cases r with
 | cons r rr=>
  rw[hs];refine assignInOrder_cons<|aw (h1 pins s σ H _ _ _ I r h) λ_ s1 hZ=>?_;have(d6,H1,I1,q1):=hZ;exact h2 pins s1 d6 H1 _ _ Q I1 rr q1
def Bb(K:qc)(n:Nat)(t:i9):TG:=λv σ H Q=>∃ a xs,v=.ref a/\bw K H a xs/\xs.length=n/\t xs σ H Q
theorem Vw{es:Qa Expr}{k:Nat}{t:i9}{n:Nat}(hc:X.calm=true)(h:sF X es t)
  (hn:(assignEach es X.env).length=n:=by rfl) (pO:(assignEach es X.env).findIdx? (·.1)=none:=by rfl):PG X (.Tuple es k pos) (Bb X.K n t):=by
 intro pins s σ H v u Q I r hw;have(a,xs,e1,hq,hl,hw):=hw;subst e1;cases r;have(af,rv,ht,hz):=I.tuple hq;refine assign_Tuple_tuple (I.ok.hd hc) ht (by simp[hn,<-hl,rv.length]) pO λh' hx=>?_;have I1:Inv X pins σ H {s with heap:=h'}:=I.kept (t':=s.toks) λb o e=>hx b o (qj<|qh e) e;exact h pins _ σ H xs _ Q I1 (by simpa using rv) hw
def EJ(to ti:TE)(t:uS):TG:=λv σ H Q=>to σ H λo H1=>ti σ H1 λi H2=>t o i v H2 λH3=>Q σ H3
theorem Vv{o i:Expr}{to ti:TE}{t:uS}(ho:PE X o to)(hi:PE X i ti)(hs:Be X t)
  (ha:∀ v,assign (.Subscript o i pos) X.env v=(do
   let ov <-holding [v] (eval o X.env)
   let iv <-holding [v,ov] (eval i X.env)
   standAt pos
   holding [v,ov,iv] (setItem ov iv v)
   release [v,ov,iv] []):=by intro _; rfl):PG X (.Subscript o i pos) (EJ to ti t):=by
 intro pins s σ H v u Q I r h;rw[ha];refine qa<|wpAny_holding<|aw (ho pins s σ H _ I h) λov s1 hZ=>?_;have(x,H1,I1,r1,q1):=hZ;refine qa<|wpAny_holding<|aw (hi pins s1 σ H1 _ I1 q1) λiv s2 hZ=>?_;have(y,H2,I2,r2,q2):=hZ;refine qa<|wpAny_standAt<|qa<|wpAny_holding<|aw (hs pins s2 σ H2 x y v ov iv u _ I2 r1 r2 r q2) λ_ s3 hZ=>?_;have(H3,I3,q3):=hZ;exact wpAny_release ⟨σ,H3,I3,q3⟩
def qN(te:TE)(g:TG):TS:=λD σ H=>te σ H λx H1=>g x σ H1 D.nx
theorem Vu{tg e:Expr}{te:TE}{g:TG}(he:PE X e te)(hg:PG X tg g)(hs:swapsWithSole [tg] e pos.line X.env=pure false:=by rfl)(hw:swappedStores [tg] e X.env=pure none:=by rfl)
  (h1:(assignEach [tg] X.env).map (·.2)=[assign tg X.env]:=by rfl):PS X (.Assign [tg] e pos) (qN te g):=by
 intro pins s σ H D I h;refine wpAny_Assign_stores (aw (he pins s σ H _ I h) λv s1 hZ=>?_) hs hw;have(x,H1,I1,r1,q1):=hZ;rw[h1];exact aw (hg pins s1 σ H1 x v _ I1 r1 q1) λ_ s2 q=>q
theorem Vt{i:Nat}{x:Str}{e:Expr}{te:TE}{pos':Pos}(hN:X.N.Nodup)(hi:X.N[i]?=some x)(hx:Loc X.env.scope x)(he:PE X e te)(hs:swapsWith e (some<|.Name x pos') pos.line X.env=pure false:=by rfl)(hf:X.fn x=true\/X.env.scope.names.lookup x=some .local:=by first|exact .inl rfl|exact .inr rfl|assumption):
  PS X (.Assign [.Name x pos'] e pos) (qN te<|hE i):=by
 intro pins s σ H D I h;refine wpAny_Assign_Name (aw (he pins s σ H _ I h) λv s1 hZ=>?_) hs;have(y,H1,I1,r1,q1):=hZ;exact CG I1 hN hi hx r1 (λs2 I2=>⟨_,H1,I2,q1⟩) hf
def EI(i j:Nat)(ta:TA):TS:=λD σ H=>ta σ H λvs H1=>∃ v w,vs=[v,w]/\D.nx ((σ.set i<|some v).set j<|some w) H1
theorem Vs{i j:Nat}{x y:Str}{a b:Expr}{ta:TA}{px py pt:Pos}{kt k2 tQ}(hc:X.calm=true)(hN:X.N.Nodup)(hi:X.N[i]?=some x)(hj:X.N[j]?=some y)(gy:i≠j)
  (hx:X.env.scope.names.lookup x=some .local) (hy:X.env.scope.names.lookup y=some .local) (ha:PA X [a,b] ta)
  (hw:swappedStores [.Tuple [.Name x px,.Name y py] kt pt] (.Tuple [a,b] k2 tQ) X.env=pure (some [x,y]))
  (hs:swapsWithSole [.Tuple [.Name x px,.Name y py] kt pt] (.Tuple [a,b] k2 tQ) pos.line X.env=pure false:=by rfl):
  PS X (.Assign [.Tuple [.Name x px,.Name y py] kt pt] (.Tuple [a,b] k2 tQ) pos) (EI i j ta):=by
 intro pins s σ H D I h;rw[exec_Assign_arm];refine qa<|wpAny_standAt ?_;rw[hs];refine qa<|qb ?_;rw[if_neg (by decide)];refine qa<|Tuple_<|aw (ha _ pins s σ H _ I h) λus s1 hZ=>?_;have(vs,H1,I1,r1,q1):=hZ;have(v,w,e1,q1):=q1;subst e1;obtain⟨u1,u2,rfl,rv,gc⟩:∃ u1 u2,us=[u1,u2]/\zA v u1/\zA w u2:=by
  cases r1 with
  | cons p q=>
   cases q with
   | cons p' q'=>
    cases q';exact⟨_,_,rfl,p,p'⟩
 refine qA ?_ (by show 2<=sizeLine; decide);have I2:Inv X pins σ H1 {s1 with heap:=s1.heap.push {cls:=.type "tuple",data:=.seq [u1,u2].toArray}}:=I1.kept (t':=s1.toks) λb o e=>qd _ e;rw[hw];refine qa<|qb ?_;show wpAny (model X.prog X.w) X.A (do rule "assign.swapped-stores"; let items <-unpackItems (.ref s1.heap.objs.size) 2 none; assignInOrder [λv=>bindName X.env y v,λv=>bindName X.env x v] items.reverse; pure Flow.next) _ _ _;refine qa<|wpAny_rule<|qa<|unpackItems_tuple (items:=#[u1,u2]) (I.ok.hd hc) (IsTup.new s1.heap _) λh' n8=>?_;have I3:=I2.kept (h':=h') (t':=s1.toks) λb o e=>n8 b o (qj<|qh e) e;show wpAny _ _ (assignInOrder [λv=>bindName X.env y v,λv=>bindName X.env x v] [u2,u1] >>= λ_=>pure Flow.next) _ _ _;refine qa<|assignInOrder_cons<|wpAny_bindName<|CG I3 hN hj (.inl hy) gc (λs2 I4=>?_)<|.inr hy;refine assignInOrder_cons<|wpAny_bindName<|CG I4 hN hi (.inl hx) rv (λs3 I5=>assignInOrder_nil<|qb ?_)<|.inr hx;rw[List.set_comm _ _<|Ne.symm gy]at I5;exact⟨_,H1,I5,q1⟩
def FQ(to ti te:TE)(pj:V->V->Hp->VK->Prop)(Du:D6)(jf:uS):TS:=λD σ H=>to σ H λo H1=>ti σ H1 λi H2=>pj o i H2 λx H3=>te σ H3 λy H4=>Du x y H4 λz H5=>jf o i z H5 λH6=>D.nx σ H6
def Kv(X:Cx)(t:V->V->Hp->VK->Prop):Prop :=
 ∀ (pins:Qa (Qg×Obj)) (s:Qd) (σ:St) (H:Hp) (o i:V) (ov iv:Qc) (Q:VK),Inv X pins σ H s->zA o ov->zA i iv->t o i H Q->
  wpAny (model X.prog X.w) X.A (getItem ov iv) (EP X pins σ Q) X.xe s
theorem YD{o i e:Expr}{to ti te:TE}{pj:V->V->Hp->VK->Prop}{Du:D6}{jf:uS}{op:Operator}{gG:Pos}(ho:PE X o to)(hi:PE X i ti)(hg:Kv X pj)(he:PE X e te)(hp:Tj X op Du)(hs:Be X jf)
  (ha:∀ ov iv new,augStore i ov iv new=(do holding [new,ov,iv] (setItem ov iv new); release [new,ov,iv] []; pure .next):=by intros; rfl):PS X (.AugAssign (.Subscript o i gG) op e pos) (FQ to ti te pj Du jf):=by
 intro pins s σ H D I h;refine wpAny_AugAssign_SubscriptAny (aw (ho pins s σ H _ I h) λov s1 hZ=>?_) ha;have(x1,H1,I1,r1,q1):=hZ;refine aw (hi pins s1 σ H1 _ I1 q1) λiv s2 hZ=>?_;have(x2,H2,I2,r2,q2):=hZ;refine aw (hg pins s2 σ H2 x1 x2 ov iv _ I2 r1 r2 q2) λold s3 hZ=>?_;have(x3,H3,I3,r3,q3):=hZ;refine aw (he pins s3 σ H3 _ I3 q3) λv s4 hZ=>?_;have(x4,H4,I4,r4,q4):=hZ;refine aw (hp pins s4 σ H4 x3 x4 old v _ I4 r3 r4 q4) λnew s5 hZ=>?_;have(x5,H5,I5,r5,q5):=hZ;exact aw (hs pins s5 σ H5 x1 x2 x5 ov iv new _ I5 r1 r2 r5 q5) λ_ s6 ⟨H6,I6,q6⟩=>⟨σ,H6,I6,q6⟩
def Jl(f:Int->Int->Int):D6:=λx y H Q=>∃ i j,x=.int i/\y=.int j/\Q (.int<|f i j) H
theorem Vr:Tj X .Add (Jl λi j=>i+j):=by
 intro pins s σ H x y v u Q I r1 r2 h;have(i,j,e1,e2,q):=h;subst e1; subst e2;have(t,rfl):=r1;have(t',rfl):=r2;exact iadd_int ⟨.int _,H,I.tok _,⟨_,rfl⟩,q⟩
end
section
variable{X:Cx}{pos:Pos}
def Gp(c:TT)(tb:TS):TS:=λD σ H=>∃ W:Nat->St->Hp->Prop,(∃ m,W m σ H)/\∀ m σ H,W m σ H->
 c σ H λb H1=>if b=true then ∃ N:St->Hp->Prop,(∀ aE H',N aE H'->∃ m',m' < m/\W m' aE H')/\tb {D with nx:=N,ct:=N,bk:=D.nx} σ H1 else D.nx σ H1
theorem zpS{c:Expr}{body:Qa Stmt}{tc:TT}{tb:TS}(hp:PassesOwn (model X.prog X.w) X.A X.env X.xe)(hc:PT X c tc)(hb:d5 X body tb):PS X (.While c body [] pos) (Gp tc tb):=by
 intro pins s σ H D I h;obtain⟨W,⟨m0,w0⟩,turn⟩:=h;refine wpAny_While<|codeAny_whileLoop (λn s'=>∃ aE H',Inv X pins aE H' s'/\W n aE H') ?_ m0 ⟨σ,H,I,w0⟩;rintro n s1 ⟨d6,H1,I1,w1⟩;refine wpAny_passesOwn hp<|aw (hc pins s1 d6 H1 _ I1<|turn n d6 H1 w1) λb s2 hZ=>?_;have(H2,I2,q2):=hZ;cases b with
 | true=>
  have(N,hN,q2):=q2;rw[if_pos rfl];refine wpAny_passesOwn hp<|aw (hb pins s2 d6 H2 _ I2 q2) λf s3 q3=>?_;cases f with
  | next=>
   have(c7,H3,I3,n3):=q3;have(m',hm,w3):=hN c7 H3 n3;exact⟨m',hm,c7,H3,I3,w3⟩
  | cont=>
   have(c7,H3,I3,n3):=q3;have(m',hm,w3):=hN c7 H3 n3;exact⟨m',hm,c7,H3,I3,w3⟩
  | brk=>exact q3
  | ret v=>exact q3
 | false=>
  rw[if_neg qf];exact wpAny_execs_nil ⟨d6,H2,I2,q2⟩
end
structure It where
 go:Nat->Hp->Prop
 tK:Nat->Hp->V->Hp->Prop
 stop:Nat->Hp->Prop
def bM(X:Cx)(pins:Qa (Qg×Obj))(H:Hp)(b:Qg):Prop :=
 H b=none/\b≠X.env.locals/\b∉X.fs/\(b∈X.ex\/X.aX.heap.objs.size<=b)/\(∀ x c,X.env.cells.lookup x=some c->c≠b)/\∀ p∈X.pn++pins,p.1≠b
theorem Inv.bJ{X:Cx}{pins:Qa (Qg×Obj)}{σ:St}{H H':Hp}{s:Qd}{b:Qg}(I:Inv X pins σ H s)(hb:s.heap.objs.size<=b)(hn:H' b=none):bM X pins H' b:=by
 refine⟨hn,Nat.ne_of_gt<|qi I.lt hb,I.Ja hb,.inr<|qy I.sz hb,λx c e z=>?_,λp hp z=>?_⟩
 .have(v,q):=I.cell x c e
  exact absurd (qi q.lt (by rw[z]; exact hb))<|Ç _
 .exact absurd (qi (qh (I.pin p hp).1) (by rw[z]; exact hb)) (Ç _)
structure Turn (P:Qe) (w:Qh) (K:qc) (tg:Expr) (J:It) (fp:Qa Qg) (it:Qg) (tn:Nat->Heap->Prop):Prop where
 mem:it∈fp
 obj:∀ i h,tn i h->∀ b∈fp,∃ o,h.get? b=some o/\∀ v,o.data≠.cell v
 keep:∀ i h h',tn i h->(∀ b∈fp,∀ o,h.get? b=some o->h'.get? b=some o)->tn i h'
 item:∀ (X:Cx),X.prog=P->X.w=w->X.K=K->X.calm=true->∀ (i:Nat) (pins:Qa (Qg×Obj)) (s:Qd) (σ:St) (H:Hp) (E:Qc->Qd->Prop),Inv X pins σ H s->(∀ b∈fp,bM X pins H b)->tn i s.heap->J.go i H->
  wpAny (model P w) X.A (pyNext<|.ref it) (λr s1=>∃ u,r=some u/\
   wpAny (model P w) X.A (letOwnedTupleGo tg (.ref it) u) (λ_ s2=>∃ x H',Inv X pins σ H' s2/\zA x u/\J.tK i H x H'/\tn (i+1) s2.heap/\∀ b∈fp,H' b=none) E s1) E s
 done:∀ (X:Cx),X.prog=P->X.w=w->X.K=K->X.calm=true->∀ (i:Nat) (pins:Qa (Qg×Obj)) (s:Qd) (σ:St) (H:Hp) (E:Qc->Qd->Prop),Inv X pins σ H s->(∀ b∈fp,bM X pins H b)->tn i s.heap->J.stop i H->
  wpAny (model P w) X.A (pyNext<|.ref it) (λr s1=>r=none/\Inv X pins σ H s1) E s
 self:∀ (A:Qf) (i:Nat) (s:Qd) (Q:Qc->Qd->Prop) (E:Qc->Qd->Prop),tn i s.heap->Q (.ref it) s->wpAny (model P w) A (pyIter<|.ref it) Q E s
abbrev TI:=St->Hp->(It->Hp->Prop)->Prop
def Kf(X:Cx)(pins:Qa (Qg×Obj))(σ:St)(tg:Expr)(R:It->Hp->Prop)(yx:Qc)(s2:Qd):Prop :=
 ∃ (it:Qg) (fp:Qa Qg) (tn:Nat->Heap->Prop) (J:It) (H':Hp),yx=.ref it/\Inv X pins σ H' s2/\Turn X.prog X.w X.K tg J fp it tn/\tn 0 s2.heap/\(∀ b∈fp,bM X pins H' b)/\R J H'
def PI(X:Cx)(tg iter:Expr)(wi:TI):Prop :=
 ∀ (pins:Qa (Qg×Obj)) (s:Qd) (σ:St) (H:Hp) (R:It->Hp->Prop),Inv X pins σ H s->wi σ H R->
  wpAny (model X.prog X.w) X.A (eval iter X.env) (λv s1=>wpAny (model X.prog X.w) X.A (pyIter v) (Kf X pins σ tg R) X.xe s1) X.xe s
theorem BF{M:Model}{A:Qf}{E:Qc->Qd->Prop}{s:Qd}{tg:Expr}{it:Qg}{u:Qc}{o:Obj}{n:String}{vs:Array Qc}{Q:Unit->Qd->Prop}(ho:s.heap.get? it=some o)(hc:o.cls=.type n)(hd:o.data=.fields vs)
  (hn:["enumerate", "zip", "dict_itemiterator", "dict_reverseitemiterator", "odict_iterator", "itertools.zip_longest", "itertools.pairwise"].contains n=false) (hQ:Q () s):wpAny M A (letOwnedTupleGo tg (.ref it) u) Q E s:=by
 unfold letOwnedTupleGo;cases tg<;>first
  | exact qb hQ
  | (cases u<;>first
    | exact qb hQ
    | (refine qa<|wpAny_load ho ?_
       rw[hc,hd];show wpAny M A (if(["enumerate", "zip", "dict_itemiterator", "dict_reverseitemiterator", "odict_iterator", "itertools.zip_longest", "itertools.pairwise"].contains n && vs[0]?==some (rawInt _))=true then _ else _) Q E s;rw[if_neg (by intro h; rw[hn,Bool.false_and]at h; cases h)];exact qb hQ))
def Tp(K:qc)(a:Qg):It :=
 ⟨λi H=>∃ xs x,aO K H a xs/\xs[i]?=some x,λi H x H'=>H'=H/\∀ xs,aO K H a xs->xs[i]?=some x,λi H=>∃ xs,aO K H a xs/\xs.length<=i⟩
def To(K:qc)(a:Qg):It :=
 ⟨λi H=>∃ xs x,bw K H a xs/\xs[i]?=some x,λi H x H'=>H'=H/\∀ xs,bw K H a xs->xs[i]?=some x,λi H=>∃ xs,bw K H a xs/\xs.length<=i⟩
def Ea(lo:Int)(n:Nat):It:=⟨λi _=>i < n,λi H x H'=>H'=H/\x=.int (lo+i),λi _=>n<=i⟩
theorem zoK{P:Qe}{w:Qh}{K:qc}{tg:Expr}(a it:Qg):Turn P w K tg (Tp K a) [it] it (λi h=>h.IsListIter it a i) where
 mem:=by simp
 obj:=λi h st b hb=>by
  have e:b=it:=by simpa using hb
  subst e;have(o,e,c,d):=st;exact⟨o,e,λv z=>by rw[d]at z; cases z⟩
 keep:=λi h h' st k=>st.at λo e=>k it (by simp) o e
 item:=by
  intro X hP hw hK hc i pins s σ H E I hf st hg;subst hP hw hK;have(xs,x,hq,hx):=hg;have(af,rv,p,hz):=I.list hq;have(u,hu,ru):=rv.get hx;have(f0,f1,f2,f3,f4,f5):=hf it (by simp);refine wpAny_pyNext_list_item st p.isList (x:=u) (by simpa using hu) λh' iC sb=>?_;have I1:Inv X pins σ H {s with heap:=h'}:=I.turned (t':=s.toks) (λb o hb e=>(sb.2 b hb).trans e) f0 f1 f3 f4 f5;have(o,e,c,d):=id iC;exact⟨u,rfl,BF (s:={s with heap:=h'}) e c d (by decide) ⟨x,H,I1,ru,⟨rfl,λys hy=>by rw[I.cQ hy hq]; exact hx⟩,iC,λb hb=>(hf b hb).1⟩⟩
 done:=by
  intro X hP hw hK hc i pins s σ H E I hf st hg;subst hP hw hK;have(xs,hq,hx):=hg;have(af,rv,p,hz):=I.list hq;have(f0,f1,f2,f3,f4,f5):=hf it (by simp);have hl:=rv.length;exact wpAny_pyNext_list_end (I.ok.hd hc) st p.isList (by simp; omega) λh' eb=>⟨rfl,I.turned (t':=s.toks) (λb o hb e=>eb b o hb e) f0 f1 f3 f4 f5⟩
 self:=λ_ _ _ _ _ st h=>wpAny_pyIter_listiter st h
theorem zlH{P:Qe}{w:Qh}{K:qc}{tg:Expr}(a it:Qg):Turn P w K tg (To K a) [it] it (λi h=>h.IsTupleIter it a i) where
 mem:=by simp
 obj:=λi h st b hb=>by
  have e:b=it:=by simpa using hb
  subst e;have(o,e,c,d):=st;exact⟨o,e,λv z=>by rw[d]at z; cases z⟩
 keep:=λi h h' st k=>st.at λo e=>k it (by simp) o e
 item:=by
  intro X hP hw hK hc i pins s σ H E I hf st hg;subst hP hw hK;have(xs,x,hq,hx):=hg;have(af,rv,p,hz):=I.tuple hq;have(u,hu,ru):=rv.get hx;have(f0,f1,f2,f3,f4,f5):=hf it (by simp);refine wpAny_pyNext_tuple_item st (show s.heap.IsTuple a af.toArray from p) (x:=u) (by simpa using hu) λh' iC sb=>?_;have I1:Inv X pins σ H {s with heap:=h'}:=I.turned (t':=s.toks) (λb o hb e=>(sb.2 b hb).trans e) f0 f1 f3 f4 f5;have(o,e,c,d):=id iC;exact⟨u,rfl,BF (s:={s with heap:=h'}) e c d (by decide) ⟨x,H,I1,ru,⟨rfl,λys hy=>by rw[I.bS hy hq]; exact hx⟩,iC,λb hb=>(hf b hb).1⟩⟩
 done:=by
  intro X hP hw hK hc i pins s σ H E I hf st hg;subst hP hw hK;have(xs,hq,hx):=hg;have(af,rv,p,hz):=I.tuple hq;have(f0,f1,f2,f3,f4,f5):=hf it (by simp);have hl:=rv.length;exact wpAny_pyNext_tuple_end (I.ok.hd hc) st (show s.heap.IsTuple a af.toArray from p) (by simp; omega) λh' eb=>⟨rfl,I.turned (t':=s.toks) (λb o hb e=>eb b o hb e) f0 f1 f3 f4 f5⟩
 self:=λ_ _ _ _ _ st h=>wpAny_pyIter_tupleiter st h
theorem zlI{P:Qe}{w:Qh}{K:qc}{tg:Expr}(it:Qg)(lo:Int)(n:Nat):Turn P w K tg (Ea lo n) [it] it (λi h=>IsRangeIter h it (lo+(i:Nat) * 1) ((n:Int) - (i:Nat)) 1) where
 mem:=by simp
 obj:=λi h st b hb=>by
  have e:b=it:=by simpa using hb
  subst e;exact⟨_,st,λv z=>by
   have z':Data.fields _=Data.cell v:=z;cases z'⟩
 keep:=λi h h' st k=>k it (by simp) _ st
 item:=by
  intro X hP hw hK hc i pins s σ H E I hf st hg;subst hP hw hK;have(f0,f1,f2,f3,f4,f5):=hf it (by simp);have W:=Walks.range (prog:=X.prog) (w:=X.w) (I.ok.hd hc) it lo 1 n;refine W.item i s _ _ hg st λv h' tk hv iC kk=>?_;have(t,rfl):=hv;have I1:Inv X pins σ H {s with heap:=h',toks:=tk}:=I.turned (λb o hb e=>kk b o (by simpa using hb) e) f0 f1 f3 f4 f5;refine⟨_,rfl,BF (s:={s with heap:=h',toks:=tk}) (n := "range_iterator") iC rfl rfl (by decide) ⟨.int<|lo+i,H,I1,⟨t,?_⟩,⟨rfl,rfl⟩,iC,λb hb=>(hf b hb).1⟩⟩;rw[Int.mul_one]
 done:=by
  intro X hP hw hK hc i pins s σ H E I hf st hg;subst hP hw hK;have(f0,f1,f2,f3,f4,f5):=hf it (by simp);exact wpAny_pyNext_range_end (I.ok.hd hc) st (by have:n<=i:=hg; omega) λh' eb=>⟨rfl,I.turned (t':=s.toks) (λb o hb e=>eb b o hb e) f0 f1 f3 f4 f5⟩
 self:=λ_ _ _ _ _ st h=>wpAny_pyIter_rangeiter st h
section
variable{X:Cx}{tg:Expr}
def FP(K:qc)(tl:TE):TI:=λσ H R=>tl σ H λx H1=>∃ a,x=.ref a/\(∃ xs,aO K H1 a xs)/\R (Tp K a) H1
def EH(K:qc)(tl:TE):TI:=λσ H R=>tl σ H λx H1=>∃ a,x=.ref a/\(∃ xs,bw K H1 a xs)/\R (To K a) H1
theorem YC{l:Expr}{tl:TE}(hl:PE X l tl):PI X tg l (FP X.K tl):=by
 intro pins s σ H R I h;refine aw (hl pins s σ H _ I h) λv s1 hZ=>?_;have(x,H1,I1,r1,q1):=hZ;obtain⟨a,e,⟨xs,hq⟩,q⟩:=q1;subst e;cases r1;have(af,rv,p,hz):=I1.list hq;refine wpAny_pyIter_list p.isList ?_;refine⟨s1.heap.objs.size,[s1.heap.objs.size],_,_,H1,rfl,I1.kept (t':=s1.toks) λb o e=>qd _ e,zoK a _,⟨_,qg _ rfl,rfl,rfl⟩,λb hb=>?_,q⟩;have e:b=s1.heap.objs.size:=by simpa using hb
 subst e;exact I1.bJ (qe _)<|I1.aq.fresh<|qe _
theorem Vq{l:Expr}{tl:TE}(hl:PE X l tl):PI X tg l (EH X.K tl):=by
 intro pins s σ H R I h;refine aw (hl pins s σ H _ I h) λv s1 hZ=>?_;have(x,H1,I1,r1,q1):=hZ;obtain⟨a,e,⟨xs,hq⟩,q⟩:=q1;subst e;cases r1;have(af,rv,p,hz):=I1.tuple hq;refine wpAny_pyIter_tuple (show s1.heap.IsTuple a af.toArray from p) ?_;refine⟨s1.heap.objs.size,[s1.heap.objs.size],_,_,H1,rfl,I1.kept (t':=s1.toks) λb o e=>qd _ e,zlH a _,⟨_,qg _ rfl,rfl,rfl⟩,λb hb=>?_,q⟩;have e:b=s1.heap.objs.size:=by simpa using hb
 subst e;exact I1.bJ (qe _)<|I1.aq.fresh<|qe _
theorem zpU{pins:Qa (Qg×Obj)}{σ:St}{H:Hp}{s:Qd}{R:It->Hp->Prop}{E:Qc->Qd->Prop}{lo hi:Int}{t u v:Tok}{tk:Nat}(I:Inv X pins σ H s)(h1:-(2^62)<=lo)(h2:lo < 2^62)(h3:-(2^62)<=hi)(h4:hi < 2^62)
  (q:R (Ea lo (hi - lo).toNat) H):wpAny (model X.prog X.w) X.A (pyIter<|.ref s.heap.objs.size) (Kf X pins σ tg R) E {s with heap:=s.heap.push {cls:=.type "range",data:=.fields #[.int lo t,.int hi u,.int 1 v]},toks:=tk}:=by
 refine wpAny_pyIter_range (IsRange.new ..) (small_one h1 h2 h3 h4) ?_;have I1:Inv X pins σ H {s with heap:=s.heap.push {cls:=.type "range",data:=.fields #[.int lo t,.int hi u,.int 1 v]},toks:=tk}:=I.kept λb o e=>qd _ e;refine⟨(s.heap.push {cls:=.type "range",data:=.fields #[.int lo t,.int hi u,.int 1 v]}).objs.size,[(s.heap.push {cls:=.type "range",data:=.fields #[.int lo t,.int hi u,.int 1 v]}).objs.size],_,_,H,rfl,
  I1.kept (t':=tk) λb o e=>qd _ e,zlI _ lo (hi - lo).toNat,?_,λb hb=>?_,q⟩
 .have e1:lo+((0:Nat):Int) * 1=lo:=by simp
  have e2:(((hi - lo).toNat:Nat):Int) - ((0:Nat):Int)=Builtin.Range.rangeSize lo hi 1:=by rw[rangeSize_one]; split<;>omega
  show IsRangeIter _ _ (lo+((0:Nat):Int) * 1) ((((hi - lo).toNat:Nat):Int) - ((0:Nat):Int)) 1;rw[e1,e2];exact qg _ rfl
 .have e:b=(s.heap.push {cls:=.type "range",data:=.fields #[.int lo t,.int hi u,.int 1 v]}).objs.size:=by simpa using hb
  subst e;exact I1.bJ (qe _)<|I1.aq.fresh<|qe _
def FN(ta:TA):TI:=λσ H R=>ta σ H λvs H1=>∃ j:Int,vs=[.int j]/\-(2^62)<=j/\j < 2^62/\R (Ea 0 j.toNat) H1
theorem zoL{a:Expr}{ta:TA}{p pos:Pos}(hg:Gl X "range")(hm:X.mg "range"=none)(ha:PA X [a] ta)(hs:starEach [a] X.env=[(false,eval a X.env)]:=by rfl):PI X tg (.Call (.Name "range" p) [a] [] pos) (FN ta):=by
 intro pins s σ H R I h;refine Call_<|rq I hg hm boot_range<|Ö (aw (ha pos pins s σ H _ I h) λus s1 hZ=>?_) hs rfl;have(vs,H1,I1,r1,q1):=hZ;have(j,e,q1,q2,q):=q1;subst e;cases r1 with
 | cons r rr=>
  cases rr;have(t,rfl):=r;exact call_range_1<|zpU I1 (by omega) (by omega) q1 q2 (by simpa using q)
def EG(wi:TI)(g:TG)(tb:TS):TS:=λD σ H=>wi σ H λJ H1=>∃ W:Nat->Nat->St->Hp->Prop,(∃ m,W 0 m σ H1)/\∀ i m σ H,W i m σ H->
 (J.stop i H/\D.nx σ H)\/(J.go i H/\∃ N:St->Hp->Prop,(∀ aE H',N aE H'->∃ m',m' < m/\W (i+1) m' aE H')/\∀ x H',J.tK i H x H'->g x σ H' λdR H2=>tb {D with nx:=N,ct:=N,bk:=D.nx} dR H2)
def xh(fp:Qa Qg)(h:Heap):Qa (Qg×Obj):=fp.filterMap λb=>(h.get? b).map λo=>(b,o)
theorem rH{fp:Qa Qg}{h:Heap}{b:Qg}{o:Obj}(hb:b∈fp)(e:h.get? b=some o):(b,o)∈xh fp h:=List.mem_filterMap.mpr ⟨b,hb,by rw[e]; rfl⟩
theorem zoM{fp:Qa Qg}{h:Heap}{p:Qg×Obj}(hp:p∈xh fp h):p.1∈fp/\h.get? p.1=some p.2:=by
 have(b,hb,e):=List.mem_filterMap.mp hp;cases q:h.get? b with
 | none=>rw[q]at e; cases e
 | some o=>
  rw[q]at e;have e':(b,o)=p:=qx e;subst e';exact⟨hb,q⟩
theorem Inv.pinned{pins:Qa (Qg×Obj)}{σ:St}{H:Hp}{s:Qd}{fp:Qa Qg}(I:Inv X pins σ H s)(hf:∀ b∈fp,bM X pins H b)(ho:∀ b∈fp,∃ o,s.heap.get? b=some o/\∀ v,o.data≠.cell v):Inv X (pins++xh fp s.heap) σ H s :=
 I.bT λp hp=>(Á.mp hp).elim (λz=>I.pin p<|qw _ z) λz=>by
  have(hb,e):=zoM z;have(f0,f1,f2,_):=hf p.1 hb;have(o,e',d):=ho p.1 hb;rw[e]at e'; cases e';exact⟨e,f0,f1,f2,d⟩
theorem Inv.eR{pins pl:Qa (Qg×Obj)}{σ:St}{H:Hp}{s:Qd}(I:Inv X (pins++pl) σ H s):Inv X pins σ H s:=I.bT λp hp=>I.pin p<|qw _<|Í _ hp
theorem Vp{iter:Expr}{body:Qa Stmt}{wi:TI}{g:TG}{tb:TS}{pos:Pos}(hp:PassesOwn (model X.prog X.w) X.A X.env X.xe)(hc:X.calm=true)(hi:PI X tg iter wi)(hg:PG X tg g)(hb:d5 X body tb)
  (hs:∀ x,foldedSetIterable iter X.env x=pure x:=by intro _; rfl):PS X (.For tg iter body [] pos) (EG wi g tb):=by
 intro pins s σ H D I h;refine wpAny_For (aw (hi pins s σ H _ I h) λv s1 h1=>aw h1 λyx s2 h2=>?_) hs;obtain⟨it,fp,tn,J,H2,e,I2,T,jh,f2,W,⟨m0,w0⟩,turn⟩:=h2;subst e;have tM:∀ {H':Hp},(∀ b∈fp,H' b=none)->∀ b∈fp,bM X pins H' b:=λhn b hb=>⟨hn b hb,(f2 b hb).2⟩;refine codeAny_forLoop_any (λn s'=>∃ i aE H',Inv X pins aE H' s'/\tn i s'.heap/\(∀ b∈fp,H' b=none)/\W i n aE H') ?_ m0 ⟨0,σ,H2,I2,jh,λb hb=>(f2 b hb).1,w0⟩;rintro n s3 ⟨i,c7,H3,I3,mG,m7,w3⟩;rcases turn i n c7 H3 w3 with⟨stop,qn⟩|⟨go,N,hN,step⟩
 .refine wpAny_passesOwn hp (aw (T.done X rfl rfl rfl hc i pins s3 c7 H3 X.xe I3 (tM m7) mG stop) λr s4 hZ=>?_)
  have(hr,I4):=hZ;subst hr;exact wpAny_execs_nil ⟨c7,H3,I4,qn⟩
 .refine wpAny_passesOwn hp (aw (T.item X rfl rfl rfl hc i pins s3 c7 H3 X.xe I3 (tM m7) mG go) λr s4 hZ=>?_)
  have(u,hr,h4):=hZ;subst hr;refine wpAny_passesOwn hp<|aw h4 λ_ s5 hZ=>?_;have(x,H5,I5,r5,y5,jg,ur):=hZ;have uJ:=I5.pinned (tM ur) (T.obj _ _ jg);refine wpAny_passesOwn hp<|aw (hg _ s5 c7 H5 x u _ uJ r5<|step x H5 y5) λ_ s6 hZ=>?_;have(jI,H6,I6,q6):=hZ;refine wpAny_passesOwn hp<|aw (hb _ s6 jI H6 _ I6 q6) λf s7 q7=>?_;have again:∀ {lT:St} {H7:Hp},Inv X (pins++xh fp s5.heap) lT H7 s7->N lT H7->∃ m,m < n/\∃ i aE H',Inv X pins aE H' s7/\tn i s7.heap/\(∀ b∈fp,H' b=none)/\W i m aE H':=λ{lT H7} I7 n7=>by
   have(m',hm,w7):=hN lT H7 n7;refine⟨m',hm,i+1,lT,H7,I7.eR,T.keep _ _ _ jg λb hb o e=>(I7.pin (b,o)<|qw _<|qw _<|rH hb e).1,λb hb=>?_,w7⟩;have(o,e,d):=T.obj _ _ jg b hb;exact(I7.pin (b,o)<|qw _<|qw _<|rH hb e).2.1
  cases f with
  | next=>have(lT,H7,I7,n7):=q7; exact again I7 n7
  | cont=>have(lT,H7,I7,n7):=q7; exact again I7 n7
  | brk=>have(lT,H7,I7,q7):=q7; exact⟨lT,H7,I7.eR,q7⟩
  | ret v=>have(x7,lT,H7,I7,r7,q7):=q7; exact⟨x7,lT,H7,I7.eR,r7,q7⟩
end
abbrev R2:=V->V->Hp->VK->Prop
def bQ(X:Cx)(f:Qc->Qc->Sem Qc)(r:R2):Prop :=
 ∀ (pins:Qa (Qg×Obj)) (s:Qd) (σ:St) (H:Hp) (x y:V) (v u:Qc) (Q:VK),Inv X pins σ H s->zA x v->zA y u->r x y H Q->
  wpAny (model X.prog X.w) X.A (f v u) (EP X pins σ Q) X.xe s
def D5(X:Cx)(f:Qc->Sem Qc)(r:V->Hp->VK->Prop):Prop :=
 ∀ (pins:Qa (Qg×Obj)) (s:Qd) (σ:St) (H:Hp) (x:V) (v:Qc) (Q:VK),Inv X pins σ H s->zA x v->r x H Q->
  wpAny (model X.prog X.w) X.A (f v) (EP X pins σ Q) X.xe s
def fO(X:Cx)(f:Qc)(r:Qa V->Hp->VK->Prop):Prop :=
 ∀ (pins:Qa (Qg×Obj)) (s:Qd) (σ:St) (H:Hp) (xs:Qa V) (us:Qa Qc) (Q:VK),Inv X pins σ H s->zC xs us->r xs H Q->
  wpAny (model X.prog X.w) X.A (call f us) (EP X pins σ Q) X.xe s
def zBu(X:Cx)(r:V->Hp->(Bool->Hp->Prop)->Prop):Prop :=
 ∀ (pins:Qa (Qg×Obj)) (s:Qd) (σ:St) (H:Hp) (x:V) (v:Qc) (Q:Bool->Hp->Prop),Inv X pins σ H s->zA x v->r x H Q->
  wpAny (model X.prog X.w) X.A (truthy v) (TP X pins σ Q) X.xe s
def pq(r:R2)(ta tb:TE):TE:=λσ H Q=>ta σ H λx H1=>tb σ H1 λy H2=>r x y H2 Q
def Ir(r:V->Hp->VK->Prop)(ta:TE):TE:=λσ H Q=>ta σ H λx H1=>r x H1 Q
def rI(C:Int->Int->Prop)(g:Int->Int->V):R2:=λx y H Q=>∃ i j,x=.int i/\y=.int j/\C i j/\Q (g i j) H
def kG(g:Int->Int->V):R2:=λx y H Q=>∃ i j,x=.int i/\y=.int j/\Q (g i j) H
def rU(g:Int->V):V->Hp->VK->Prop:=λx H Q=>∃ i,x=.int i/\Q (g i) H
section
variable{X:Cx}{a b c:Expr}{ta tb tc:TE}{pos:Pos}
theorem E2(ha:PE X a ta)(hb:PE X b tb){pins:Qa (Qg×Obj)}{s:Qd}{σ:St}{H:Hp}{R:V->V->Hp->Prop}(I:Inv X pins σ H s)
  (h:ta σ H λx H1=>tb σ H1 λy H2=>R x y H2) {Q:Qc->Qd->Prop} {f:Qc->Qc->Sem Qc}
  (hf:∀ v u s2 x y H2,Inv X pins σ H2 s2->zA x v->zA y u->R x y H2->wpAny (model X.prog X.w) X.A (f v u) Q X.xe s2):
  wpAny (model X.prog X.w) X.A (eval a X.env) (λv aB=>wpAny (model X.prog X.w) X.A (eval b X.env) (λu f9=>wpAny (model X.prog X.w) X.A (f v u) Q X.xe f9) X.xe aB) X.xe s:=by
 refine aw (ha pins s σ H _ I h) λv s1 hZ=>?_;have(x,H1,I1,r1,q1):=hZ;refine aw (hb pins s1 σ H1 _ I1 q1) λu s2 hZ=>?_;have(y,H2,I2,r2,q2):=hZ;exact hf v u s2 x y H2 I2 r1 r2 q2
theorem Us{op:Operator}{r:R2}(ho:bQ X (binaryOp op) r)(ha:PE X a ta)(hb:PE X b tb):PE X (.BinOp a op b pos) (pq r ta tb):=by
 intro pins s σ H Q I h;exact wpAny_BinOp<|E2 ha hb I h λv u s2 x y H2 I2 rx ry q=>ho pins s2 σ H2 x y v u Q I2 rx ry q
theorem Ur{op:UnaryOp}{r:V->Hp->VK->Prop}(ho:D5 X (unaryOp op) r)(ha:PE X a ta):PE X (.UnaryOp op a pos) (Ir r ta):=by
 intro pins s σ H Q I h;exact UnaryOp_<|aw (ha pins s σ H _ I h) λv s1 ⟨x,H1,I1,r1,q1⟩=>ho pins s1 σ H1 x v Q I1 r1 q1
theorem vY{f:Qc->Qc->Sem Qc}{C:Int->Int->Prop}{g:Int->Int->Int}
  (rule:∀ (i j:Int) (t u:Tok) (s:Qd) (Q:Qc->Qd->Prop) (E:Qc->Qd->Prop),C i j->Q (.int (g i j) s.toks) {s with toks:=s.toks+1}->wpAny (model X.prog X.w) X.A (f (.int i t)<|.int j u) Q E s):
  bQ X f (rI C λi j=>.int<|g i j):=by
 intro pins s σ H x y v u Q I rx ry h;have(i,j,rfl,rfl,hc,q):=h;have(t,rfl):=rx;have(t',rfl):=ry;exact rule i j t t' s _ _ hc ⟨.int<|g i j,H,I.tok _,⟨_,rfl⟩,q⟩
theorem Ku{f:Qc->Qc->Sem Qc}{g:Int->Int->Int}
  (rule:∀ (i j:Int) (t u:Tok) (s:Qd) (Q:Qc->Qd->Prop) (E:Qc->Qd->Prop),Q (.int (g i j) s.toks) {s with toks:=s.toks+1}->wpAny (model X.prog X.w) X.A (f (.int i t)<|.int j u) Q E s):
  bQ X f (kG λi j=>.int<|g i j):=by
 intro pins s σ H x y v u Q I rx ry h;have(i,j,rfl,rfl,q):=h;have(t,rfl):=rx;have(t',rfl):=ry;exact rule i j t t' s _ _ ⟨.int<|g i j,H,I.tok _,⟨_,rfl⟩,q⟩
theorem E1{f:Qc->Qc->Sem Qc}{g:Int->Int->Bool}
  (rule:∀ (i j:Int) (t u:Tok) (s:Qd) (Q:Qc->Qd->Prop) (E:Qc->Qd->Prop),Q (.bool<|g i j) s->wpAny (model X.prog X.w) X.A (f (.int i t)<|.int j u) Q E s):
  bQ X f (kG λi j=>.bl<|g i j):=by
 intro pins s σ H x y v u Q I rx ry h;have(i,j,rfl,rfl,q):=h;have(t,rfl):=rx;have(t',rfl):=ry;exact rule i j t t' s _ _ ⟨.bl<|g i j,H,I,rfl,q⟩
def Ba(i j:Int):Prop:=0<=j/\j<=1000000/\i.natAbs < 2^64
def uR(i j:Int):Prop:=(-(2^64) < i/\i < 2^64)\/(-(2^64) < j/\j < 2^64)
theorem uR.ok{i j:Int}(h:uR i j):IntMulOk i j:=by
 rcases h with⟨h1,h2⟩|⟨h1,h2⟩
 .exact .of_left (intBits_le_64 h1 h2)
 .exact .of_right (intBits_le_64 h1 h2)
theorem i0:bQ X (binaryOp .Add) (kG λi j=>.int<|i+j):=Ku λ_ _ _ _ _ _ _ q=>add_int q
theorem rn:bQ X (binaryOp .Sub) (kG λi j=>.int<|i - j):=Ku λ_ _ _ _ _ _ _ q=>sub_int q
theorem jR:bQ X (binaryOp .Mult) (rI uR λi j=>.int<|i * j):=vY λ_ _ _ _ _ _ _ hc q=>mul_int q hc.ok
theorem oW:bQ X (binaryOp .Mod) (rI (λ_ j=>0 < j) λi j=>.int<|i % j):=vY λi j _ _ _ _ _ hc q=>by
 have h1:(0:Int) < j:=hc;exact mod_int' (by omega) (by rw[Int.fmod_eq_emod_of_nonneg i (by omega)]; exact q)
theorem V4:bQ X (binaryOp .Pow) (rI Ba λi j=>.int<|i^j.toNat):=vY λ_ _ _ _ _ _ _ hc q=>pow_int_small hc.1 hc.2.1 hc.2.2 q
theorem unI{f:Qc->Sem Qc}{g:Int->Int}
  (rule:∀ (i:Int) (t:Tok) (s:Qd) (Q:Qc->Qd->Prop) (E:Qc->Qd->Prop),Q (.int (g i) s.toks) {s with toks:=s.toks+1}->wpAny (model X.prog X.w) X.A (f<|.int i t) Q E s):
  D5 X f (rU λi=>.int<|g i):=by
 intro pins s σ H x v Q I rx h;have(i,rfl,q):=h;have(t,rfl):=rx;exact rule i t s _ _ ⟨.int<|g i,H,I.tok _,⟨_,rfl⟩,q⟩
theorem nR:D5 X (unaryOp .USub) (rU λi=>.int (-i)):=unI λ_ _ _ _ _ q=>neg_int q
end
def EZ:V->V->Bool
 | .aF,.aF=>true | .aF,.int _=>true | .int _,.aF=>true | .aF,.bl _=>true | .bl _,.aF=>true | .aF,.str _=>true | .str _,.aF=>true
 | .int _,.int _=>true | .bl _,.bl _=>true | .str _,.str _=>true | .j3 _,.j3 _=>true
 | .int _,.str _=>true | .str _,.int _=>true | .bl _,.str _=>true | .str _,.bl _=>true
 | _,_=>false
def RL:R2:=λx y H Q=>EZ x y=true/\Q (.bl<|decide<|x=y) H
def RK:R2:=λx y H Q=>EZ x y=true/\Q (.bl (!decide (x=y))) H
theorem Nu{i j:Int}:decide (V.int i=V.int j)=(i==j):=by
 rw[Bool.eq_iff_iff];simp
theorem Mt{i j:Bool}:decide (V.bl i=V.bl j)=(i==j):=by
 rw[Bool.eq_iff_iff];simp
theorem Nt{i j:Str}:decide (V.str i=V.str j)=(i==j):=by
 rw[Bool.eq_iff_iff];simp
theorem Nr{i j:Array UInt8}:decide (V.j3 i=V.j3 j)=(i.toList==j.toList):=by
 rw[Bool.eq_iff_iff];cases i;cases j;simp
section
variable{X:Cx}{a b c:Expr}{ta tb tc:TE}{pos:Pos}
theorem zX{pins:Qa (Qg×Obj)}{σ:St}{H:Hp}{s:Qd}{Q:VK}{k k':Bool}(I:Inv X pins σ H s)(q:Q (.bl k) H)(e:k=k'):EP X pins σ Q (.bool k') s:=by
 subst e;exact⟨.bl k,H,I,rfl,q⟩
theorem jP:bQ X (compareOp .Eq) RL:=by
 intro pins s σ H x y v u Q I rx ry h;have(hs,q):=h;cases x with
 | aF=>
  cases rx;cases y with
  | aF=>cases ry; exact PySem.EqNone.eq_none_none<|zX I q (by simp)
  | bl j=>cases ry; exact PySem.EqNone.eq_none_bool<|zX I q (by simp)
  | int j=>have(t',rfl):=ry; exact PySem.EqNone.eq_none_int<|zX I q (by simp)
  | str j=>have(t',rfl):=ry; exact PySem.EqNone.eq_none_str<|zX I q (by simp)
  | _=>exact absurd (show false=true from hs) qf
 | bl i=>
  cases rx;cases y with
  | aF=>cases ry; exact PySem.EqNone.eq_bool_none<|zX I q (by simp)
  | bl j=>cases ry; exact eq_bool<|zX I q Mt
  | str j=>have(t',rfl):=ry; exact PySem.EqMixed.eq_bool_str<|zX I q (by simp)
  | _=>exact absurd (show false=true from hs) qf
 | int i=>
  have(t,rfl):=rx;cases y with
  | aF=>cases ry; exact PySem.EqNone.eq_int_none<|zX I q (by simp)
  | int j=>have(t',rfl):=ry; exact eq_int<|zX I q Nu
  | str j=>have(t',rfl):=ry; exact PySem.EqMixed.eq_int_str<|zX I q (by simp)
  | _=>exact absurd (show false=true from hs) qf
 | str i=>
  have(t,rfl):=rx;cases y with
  | aF=>cases ry; exact PySem.EqNone.eq_str_none<|zX I q (by simp)
  | bl j=>cases ry; exact PySem.EqMixed.eq_str_bool<|zX I q (by simp)
  | int j=>have(t',rfl):=ry; exact PySem.EqMixed.eq_str_int<|zX I q (by simp)
  | str j=>have(t',rfl):=ry; exact eq_str<|zX I q Nt
  | _=>exact absurd (show false=true from hs) qf
 | j3 i=>
  have(t,rfl):=rx;cases y with
  | j3 j=>have(t',rfl):=ry; exact PySem.W.eq_bytes<|zX I q Nr
  | _=>exact absurd (show false=true from hs) qf
 | _=>cases y<;>exact absurd (show false=true from hs) qf
theorem oK:bQ X (compareOp .NotEq) RK:=by
 intro pins s σ H x y v u Q I rx ry h;have(hs,q):=h;cases x with
 | aF=>
  cases rx;cases y with
  | aF=>cases ry; exact PySem.EqNone.ne_none_none<|zX I q (by simp)
  | bl j=>cases ry; exact PySem.EqNone.ne_none_bool<|zX I q (by simp)
  | int j=>have(t',rfl):=ry; exact PySem.EqNone.ne_none_int<|zX I q (by simp)
  | str j=>have(t',rfl):=ry; exact PySem.EqNone.ne_none_str<|zX I q (by simp)
  | _=>exact absurd (show false=true from hs) qf
 | bl i=>
  cases rx;cases y with
  | aF=>cases ry; exact PySem.EqNone.ne_bool_none<|zX I q (by simp)
  | bl j=>cases ry; exact ne_bool<|zX I q<|congrArg not Mt
  | str j=>have(t',rfl):=ry; exact PySem.EqMixed.ne_bool_str<|zX I q (by simp)
  | _=>exact absurd (show false=true from hs) qf
 | int i=>
  have(t,rfl):=rx;cases y with
  | aF=>cases ry; exact PySem.EqNone.ne_int_none<|zX I q (by simp)
  | int j=>have(t',rfl):=ry; exact ne_int<|zX I q<|congrArg not Nu
  | str j=>have(t',rfl):=ry; exact PySem.EqMixed.ne_int_str<|zX I q (by simp)
  | _=>exact absurd (show false=true from hs) qf
 | str i=>
  have(t,rfl):=rx;cases y with
  | aF=>cases ry; exact PySem.EqNone.ne_str_none<|zX I q (by simp)
  | bl j=>cases ry; exact PySem.EqMixed.ne_str_bool<|zX I q (by simp)
  | int j=>have(t',rfl):=ry; exact PySem.EqMixed.ne_str_int<|zX I q (by simp)
  | str j=>have(t',rfl):=ry; exact ne_str<|zX I q<|congrArg not Nt
  | _=>exact absurd (show false=true from hs) qf
 | j3 i=>
  have(t,rfl):=rx;cases y with
  | j3 j=>have(t',rfl):=ry; exact PySem.W.ne_bytes<|zX I q<|congrArg not Nr
  | _=>exact absurd (show false=true from hs) qf
 | _=>cases y<;>exact absurd (show false=true from hs) qf
theorem Lr:bQ X (compareOp .Lt) (kG λi j=>.bl<|decide<|i < j):=E1 λ_ _ _ _ _ _ _ q=>lt_int q
theorem FL:bQ X (compareOp .Gt) (kG λi j=>.bl<|decide<|j < i):=E1 λ_ _ _ _ _ _ _ q=>gt_int q
theorem Lq:bQ X (compareOp .GtE) (kG λi j=>.bl<|decide<|j<=i):=E1 λ_ _ _ _ _ _ _ q=>ge_int q
theorem Ms:bQ X (compareOp .Is) (λx y H Q=>y=.aF/\Q (.bl<|decide<|x=.aF) H):=by
 intro pins s σ H x y v u Q I rx ry h;have(rfl,q):=h;cases ry;refine is_none_gen<|zX I q ?_;cases x<;>first
  | (cases rx; rfl)
  | (have(t,rfl):=rx; rfl)
theorem YB:bQ X (compareOp .IsNot) (λx y H Q=>y=.aF/\Q (.bl (!decide (x=.aF))) H):=by
 intro pins s σ H x y v u Q I rx ry h;have(rfl,q):=h;cases ry;refine isnot_none_gen<|zX I q ?_;cases x<;>first
  | (cases rx; rfl)
  | (have(t,rfl):=rx; rfl)
theorem Mr(b:Expr){op:CmpOp}(h:op≠.In:=by decide)(h2:op≠.NotIn:=by decide):behindInMarks op b=false:=by
 have e1:(op==CmpOp.In)=false:=by cases op<;>first|rfl|exact absurd rfl h
 have e2:(op==CmpOp.NotIn)=false:=by cases op<;>first|rfl|exact absurd rfl h2
 cases b<;>simp[behindInMarks,e1,e2]
theorem YA{op:CmpOp}{r:R2}(ho:bQ X (compareOp op) r)(ha:PE X a ta)(hb:PE X b tb)(hm:behindInMarks op b=false):PE X (.Compare a [op] [b] pos) (pq r ta tb):=by
 intro pins s σ H Q I h;exact wpAny_Compare1 (E2 ha hb I h λv u s2 x y H2 I2 rx ry q=>ho pins s2 σ H2 x y v u Q I2 rx ry q) hm
def FY(t:TE):TT:=λσ H Q=>t σ H λx H'=>∃ k,x=.bl k/\Q k H'
theorem YZ{op:CmpOp}{r:R2}(ho:bQ X (compareOp op) r)(ha:PE X a ta)(hb:PE X b tb)(hm:behindInMarks op b=false):PT X (.Compare a [op] [b] pos) (FY<|pq r ta tb):=by
 intro pins s σ H Q I h;refine wpAny_isTrue_Compare1 (aw (ha pins s σ H _ I h) λv s1 ⟨x,H1,I1,r1,q1⟩=>aw (hb pins s1 σ H1 _ I1 q1) λu s2 ⟨y,H2,I2,r2,q2⟩=>
  aw (ho pins s2 σ H2 x y v u _ I2 r1 r2 q2) λc s3 ⟨z,H3,I3,r3,k,e,q3⟩=>?_) hm
 subst e;cases r3;exact wpAny_truthy_bool ⟨H3,I3,q3⟩
def EY(K:qc)(x:V)(H:Hp)(k:Bool):Prop :=
 match x with
 | .aF=>k=false
 | .bl b=>k=b
 | .int i=>k=(i != 0)
 | .str y=>y.length<=sizeLine/\k=((y.length:Int) != 0)
 | .j3 y=>y.size<=sizeLine/\k=((y.size:Int) != 0)
 | .ref p=>(∃ xs,aO K H p xs/\k=!xs.isEmpty)\/(∃ xs,bw K H p xs/\k=!xs.isEmpty)\/∃ kvs,H p=some (.dK kvs)/\k=!kvs.isEmpty
 | _=>False
theorem zlJ{κ:Type}{kvs:Qa (κ×V)}{vs:Qa (κ×Qc)}(r:KV kvs vs):(!vs.isEmpty)=!kvs.isEmpty:=by
 cases r<;>rfl
theorem OT{xs:Qa V}{af:Qa Qc}(r:zC xs af):(!af.toArray.isEmpty)=!xs.isEmpty:=by
 cases r<;>simp
theorem vB:(sizeLine:Nat) < 2^63:=by rw[sizeLine_eq]; decide
theorem V3:zBu X (λx H Q=>∃ k,EY X.K x H k/\Q k H):=by
 intro pins s σ H x v Q I rx h;have(k,e,q):=h;have hl:=vB;have hs:sizeLine=16777216:=sizeLine_eq;cases x with
 | aF=>
  cases rx;have e':k=false:=e;subst e';exact truthy_none ⟨H,I,q⟩
 | bl b=>
  cases rx;have e':k=b:=e;subst e';exact wpAny_truthy_bool ⟨H,I,q⟩
 | int i=>
  have(t,rfl):=rx;have e':k=(i != 0):=e;subst e';exact PySem.P.truthy_int ⟨H,I,q⟩
 | str y=>
  have(t,rfl):=rx;obtain⟨hy,e'⟩:y.length<=sizeLine/\k=((y.length:Int) != 0):=e;subst e';exact PySem.P.truthy_str (by omega) ⟨H,I.tok _,q⟩
 | j3 y=>
  have(t,rfl):=rx;obtain⟨hy,e'⟩:y.size<=sizeLine/\k=((y.size:Int) != 0):=e;subst e';exact PySem.W.truthy_bytes (by omega) ⟨H,I.tok _,q⟩
 | ref p=>
  cases rx;have e':(∃ xs,aO X.K H p xs/\k=!xs.isEmpty)\/(∃ xs,bw X.K H p xs/\k=!xs.isEmpty)\/∃ kvs,H p=some (.dK kvs)/\k=!kvs.isEmpty:=e;rcases e' with⟨xs,hx,e'⟩|⟨xs,hx,e'⟩|⟨kvs,hx,e'⟩
  .subst e'
   have(af,r,pl,hz):=I.list hx;have hlen:=r.length;exact wpAny_truthy_list pl.isList (by simp only[List.size_toArray]; omega) ⟨H,I.tok _,by rw[OT r]; exact q⟩
  .subst e'
   have(af,r,pl,hz):=I.tuple hx;have hlen:=r.length;exact truthy_tuple pl (by simp only[List.size_toArray]; omega) ⟨H,I.tok _,by rw[OT r]; exact q⟩
  .subst e'
   obtain⟨hz,hS,vs,r,m⟩:kvs.length<=sizeLine/\(p==sysModules)=false/\∃ vs,KV kvs vs/\s.heap.DictOf (zD X.prog X.w) p vs:=I.aq p _ hx;have hlen:kvs.length=vs.length:=Paired.length r;exact wpAny_truthy_dict hS m (by omega) ⟨H,I.tok _,by rw[zlJ r]; exact q⟩
 | _=>exact(show False from e).elim
theorem zp1(ha:PE X a ta)(he:∀ whole,isTrue a X.env whole=(do let v <-whole; standAt a.pos; holding [v] (truthy v))):
  PT X a (λσ H Q=>ta σ H λx H'=>∃ k,EY X.K x H' k/\Q k H'):=by
 intro pins s σ H Q I h;exact isTrue_plain (aw (ha pins s σ H _ I h) λv s1 ⟨x,H1,I1,r1,q1⟩=>V3 pins s1 σ H1 x v Q I1 r1 q1)<|he _
theorem l6{x:V}{us:Qa Qc}(r:zC [x] us):∃ u,us=[u]/\zA x u:=by
 cases r with
 | cons r1 r2=>cases r2; exact⟨_,rfl,r1⟩
theorem wU{x y:V}{us:Qa Qc}(r:zC [x,y] us):∃ u w',us=[u,w']/\zA x u/\zA y w':=by
 cases r with
 | cons r1 r2=>
  cases r2 with
  | cons r3 r4=>cases r4; exact⟨_,_,rfl,r1,r3⟩
theorem N5:fO X (.builtin "abs") (λxs H Q=>∃ i,xs=[.int i]/\Q (.int (if i < 0 then -i else i)) H):=by
 intro pins s σ H xs us Q I r h;have(i,rfl,q):=h;have(u,rfl,t,rfl):=l6 r;exact call_abs_int λu tk=>⟨.int (if i < 0 then -i else i),H,I.tok _,⟨_,rfl⟩,q⟩
theorem zoO(hc:X.calm=true):fO X (.builtin "max") (λxs H Q=>∃ i j,xs=[.int i,.int j]/\Q (.int (if j > i then j else i)) H):=by
 intro pins s σ H xs us Q I r h;have(i,j,rfl,q):=h;obtain⟨u,w',rfl,⟨t,rfl⟩,⟨t',rfl⟩⟩:=wU r;refine max_two_ints (I.ok.hd hc) λh' tk k=>⟨_,H,I.kept k,?_,q⟩
 by_cases hj:j > i
 .rw[if_pos hj,if_pos hj]; exact⟨_,rfl⟩
 .rw[if_neg hj,if_neg hj]; exact⟨_,rfl⟩
theorem zoP(hc:X.calm=true):fO X (.builtin "min") (λxs H Q=>∃ i j,xs=[.int i,.int j]/\Q (.int (if j < i then j else i)) H):=by
 intro pins s σ H xs us Q I r h;have(i,j,rfl,q):=h;obtain⟨u,w',rfl,⟨t,rfl⟩,⟨t',rfl⟩⟩:=wU r;refine min_two_ints (I.ok.hd hc) λh' tk k=>⟨_,H,I.kept k,?_,q⟩
 by_cases hj:j < i
 .rw[if_pos hj,if_pos hj]; exact⟨_,rfl⟩
 .rw[if_neg hj,if_neg hj]; exact⟨_,rfl⟩
theorem OC:fO X (.type "int") (λxs H Q=>(∃ i,xs=[.int i]/\Q (.int i) H)\/∃ k,xs=[.bl k]/\Q (.int (if k then 1 else 0)) H):=by
 intro pins s σ H xs us Q I r h;rcases h with⟨i,rfl,q⟩|⟨k,rfl,q⟩
 .have(u,rfl,t,rfl):=l6 r
  exact call_int_int ⟨.int i,H,I,⟨_,rfl⟩,q⟩
 .have(u,rfl,r1):=l6 r
  cases r1;exact call_int_bool ⟨.int (if k then 1 else 0),H,I.tok _,⟨_,rfl⟩,q⟩
end
structure jE (h:Heap) (x dx C:Qg) (mA:Str->Qb Qc):Prop where
 obj:h.get? x=some (PySem.W.instObj C dx)
 ns:h.Ns1 dx mA
 ne:dx≠x
theorem zoQ{h:Heap}{dx:Qg}{mA:Str->Qb Qc}(n:h.Ns1 dx mA):∃ od,h.get? dx=some od/\∀ name,PySem.W.lookIn name od=some (mA name):=by
 have(o,es,ep,ho,hd,hk,_,hm):=n;refine⟨o,ho,λname=>?_⟩;have e:=hm name;unfold nsFind findBy at e;rw[<-Array.find?_toList]at e;unfold PySem.W.lookIn;rw[hd];dsimp only;split
 .rename_i y q
  rw[q]at e;exact congrArg some e
 .rename_i q
  rw[q]at e;have a:es.toList.any (·.refKey)=false:=by
   rw[List.any_eq_false];intro y hy;have(z,t,mY):=hk y (Array.mem_toList_iff.mp hy);simp[DictEntry.refKey,mY]
  have a':¬es.toList.any (·.refKey)=true:=by rw[a]; exact qf
  rw[if_neg a'];exact congrArg some e
theorem jE.look{h:Heap}{x dx C:Qg}{mA:Str->Qb Qc}(I:jE h x dx C mA):∃ od,PySem.W.InstAt h x (PySem.W.instObj C dx) C (some od)/\∀ name,PySem.W.lookIn name od=some (mA name):=
 let ⟨od,ho,hl⟩:=zoQ I.ns
 ⟨od,⟨I.obj,rfl,rfl,ho⟩,hl⟩
section
variable{prog:Qe}{w:Qh}{A:Qf}{E:Qc->Qd->Prop}{s:Qd}{K:qc}{x dx C f:Qg}{mA:Str->Qb Qc}{name:Str}{v:Qc}
theorem YY{expr:Bool}{Q:Qc->Qd->Prop}(X:K.In s.heap)(I:jE s.heap x dx C mA)(hg:PySem.W.plainGet K C name=true)(hh:PySem.W.hasDictIn K C=true)
  (ha:PySem.W.findIn K (.ref C) name=some none) (hv:mA name=some v) (hv':PySem.W.handedIn v=true) (h:Q v {s with toks:=s.toks+1}):
  wpAny (model prog w) A (getAttr (.ref x) name expr) Q E s:=by
 have(od,J,hl):=I.look;exact PySem.W.get_value X J (PySem.W.plainGet_of hg).1 (PySem.W.findObj_own hh ha rfl (by rw[hl,hv])) hv' h
theorem zp2{pl:Sem Bool}{Q:Qc×Qa Qc->Qd->Prop}(X:K.In s.heap)(I:jE s.heap x dx C mA)(hg:PySem.W.plainGet K C name=true)
  (hf:PySem.W.findIn K (.ref C) name=some (some<|.ref f)) (ht:PySem.W.isFn K (.ref f)=true) (hv:mA name=none) (h:Q (.ref f,[.ref x]) s):
  wpAny (model prog w) A (getMethod (.ref x) name pl) Q E s:=by
 have(od,J,hl):=I.look;exact PySem.W.method_fn X J (PySem.W.plainGet_of hg).1 (PySem.W.plainGet_of hg).2 hf (beq_iff_eq.mp ht) (by show(PySem.W.lookIn name od).map (·.isSome)=some false; rw[hl,hv]; rfl) h
theorem YX{ns:Qa Str}{Q:Unit->Qd->Prop}(X:K.In s.heap)(I:jE s.heap x dx C mA)
  (hs:PySem.W.findIn K (.ref C) "__setattr__"=some (some<|.builtin "object.__setattr__")) (hp:PySem.W.plainOver K C=true) (ht:PySem.W.takerIn K C name=some none) (hh:PySem.W.hasDictIn K C=true)
  (hw:PySem.Within mA ns) (hsz:ns.length<=sizeLine)
  (h:∀ h',jE h' x dx C (λy=>if y=name then some v else mA y)->Heap.SameBut dx s.heap h'->Q () {s with heap:=h',toks:=s.toks+2}):
  wpAny (model prog w) A (setAttr (.ref x) name v) Q E s:=by
 have(od,J,hl):=I.look;refine PySem.W.set_plain X J hs<|PySem.W.osa_open (s:={s with toks:=s.toks+1}) (r:=none) X J hp ht λb=>?_;have(cd,hc,n9):=PySem.W.any_some hh;have hx:s.heap.get? x=some ⟨.ref C,some dx,.plain,#[]⟩:=I.obj;refine qa<|qb<|qa<|qa<|wpAny_loadPart hx<|qa<|PySem.W.Looks.here (s:={s with toks:=s.toks+1}) (PySem.W.looks_clsIn X hc) ?_;rw[n9];refine qb (a:=some dx)<|qa<|qb<|qa ?_;refine wpAny_nsSet1 (s:={s with toks:=s.toks+1}) I.ns λh' DQ lL=>?_;have(oD,esD,epD,hoD,hdD,hcD):=DQ.count (PySem.Within.cons name v hw);refine qa<|wpAny_lookBehind hoD (by rw[hdD]; exact pastItsLine_dict<|qy hcD (by rw[qu]; omega)) ?_;exact qb<|h _ ⟨(lL.2 _<|Ne.symm I.ne).trans I.obj,DQ,I.ne⟩ lL
theorem zp3{R:Result->Qd->Prop}{vs:Qa Qc}{kw:Qa (Str×Qc)}(X:K.In s.heap)(hm:PySem.W.makesIn K C=true)
  (hi:PySem.W.findIn K (.ref C) "__init__"=some (some<|.ref f)) (hf:PySem.W.typeIn K (.ref f)=some (.type "function"))
  (h:codeAny (model prog w) (A.under<|.builtin "type.__call__" ⟨.ref C::vs,kw⟩) (.call (.ref f) ⟨.ref (s.heap.objs.size+1)::vs,kw⟩) (PySem.W.InitBack (s.heap.objs.size+1) R)
   {s with heap:=(s.heap.push PySem.W.emptyDict).push (PySem.W.instObj C s.heap.objs.size)}):
  codeAny (model prog w) A (.call (.ref C) ⟨vs,kw⟩) R s:=by
 have(hh,g,d,t,os):=s;exact PySem.W.make_core (PySem.W.makes_of X hm) (PySem.W.looks_findIn X hi) (λself=>PySem.W.bind_fn X self hf) (.inl rfl) h
end
def gZ(f:Str)(v:V):Qa (Str×V)->Qa (Str×V)
 | []=>[(f,v)]
 | (g,x)::r=>if g=f then(g,v)::r else(g,x)::gZ f v r
theorem O3(f g:Str)(v:V):∀ fs:Qa (Str×V),(gZ f v fs).lookup g=if g=f then some v else fs.lookup g
 | []=>by
  show List.lookup g [(f,v)]=_
  by_cases h:g=f
  .have hb:(g==f)=true:=beq_iff_eq.mpr h
   simp only[List.lookup,hb,if_pos h]
  .have hb:(g==f)=false:=beq_eq_false_iff_ne.mpr h
   simp only[List.lookup,hb,if_neg h]
 | (k,x)::r=>by
  have ih:=O3 f g v r;rw[show gZ f v ((k,x)::r)=(if k=f then(k,v)::r else(k,x)::gZ f v r) from rfl]
  by_cases hk:k=f
  .rw[if_pos hk]
   by_cases h:g=k
   .have hb:(g==k)=true:=beq_iff_eq.mpr h
    simp only[List.lookup,hb,if_pos<|h.trans hk]
   .have hb:(g==k)=false:=beq_eq_false_iff_ne.mpr h
    simp only[List.lookup,hb,if_neg (λe:g=f=>h<|e.trans hk.symm)]
  .rw[if_neg hk]
   by_cases h:g=k
   .have hb:(g==k)=true:=beq_iff_eq.mpr h
    simp only[List.lookup,hb,if_neg (λe:g=f=>hk<|h.symm.trans e)]
   .have hb:(g==k)=false:=beq_eq_false_iff_ne.mpr h
    simp only[List.lookup,hb];exact ih
theorem HC(f:Str)(v:V):∀ fs:Qa (Str×V),f∈(gZ f v fs).map (·.1)/\∀ g,g∈fs.map (·.1)->g∈(gZ f v fs).map (·.1)
 | []=>⟨by simp[gZ],λg h=>by simp at h⟩
 | (k,x)::r=>by
  have(i1,i2):=HC f v r;rw[show gZ f v ((k,x)::r)=(if k=f then(k,v)::r else(k,x)::gZ f v r) from rfl]
  by_cases hk:k=f
  .rw[if_pos hk]
   subst hk;exact⟨by simp,λg h=>by simpa using h⟩
  .rw[if_neg hk]
   refine⟨?_,λg h=>?_⟩
   .rw[List.map_cons]
    exact qo _ i1
   .rw[List.map_cons]at h ⊢
    rcases qv.mp h with e|e
    .exact qv.mpr (.inl e)
    .exact qo _ (i2 g e)
theorem O2(f:Str)(v:V):∀ fs:Qa (Str×V),(gZ f v fs).length<=fs.length+1
 | []=>by simp[gZ]
 | (k,x)::r=>by
  have ih:=O2 f v r;rw[show gZ f v ((k,x)::r)=(if k=f then(k,v)::r else(k,x)::gZ f v r) from rfl]
  by_cases hk:k=f
  .rw[if_pos hk,qu,qu]; omega
  .rw[if_neg hk,qu,qu]; omega
theorem gk.some_of{v:V}{o:Qb Qc}(r:gk (some v) o):∃ u,o=some u/\zA v u:=by
 cases o with
 | none=>exact(show False from r).elim
 | some u=>exact⟨u,rfl,r⟩
theorem gk.none_of{o:Qb Qc}(r:gk none o):o=none:=by
 cases o with
 | none=>rfl
 | some u=>exact(show False from r).elim
theorem zoR{v:V}{u:Qc}(r:zA v u):PySem.W.handedIn u=true:=by
 cases v with
 | aF=>cases(show u=Value.none from r); rfl
 | bl b=>cases(show u=Value.bool b from r); rfl
 | int i=>have(t,e):=(show ∃ t,u=Value.int i t from r); cases e; rfl
 | str x=>have(t,e):=(show ∃ t,u=Value.str x t from r); cases e; rfl
 | j3 b=>have(t,e):=(show ∃ t,u=Value.bytes b t from r); cases e; rfl
 | uu b=>have(t,e):=(show ∃ t,u=Value.float b t from r); cases e; rfl
 | ref a=>cases(show u=Value.ref a from r); rfl
 | ty n=>cases(show u=Value.type n from r); rfl
section
variable{P:Qe}{w:Qh}{K:qc}{H H':Hp}{h h':Heap}{a C dx:Qg}{fs fs':Qa (Str×V)}
theorem Cv(aq:bE P w K H h)(e:H a=some (.ins C dx fs)):∃ mA,jE h a dx C mA/\(∀ f,gk (fs.lookup f)<|mA f)/\PySem.Within mA (fs.map (·.1))/\fs.length<=1000/\H dx=some (.own a):=by
 have(d,z,ne,ob,mA,n,r,q):=(show zI P w K H h a (.ins C dx fs) from aq a _ e);exact⟨mA,⟨ob,n,ne⟩,r,q,z,d⟩
end
structure fG (K:qc) (C:Qg):Prop where
 pg:PySem.W.plainGet K C Str.empty=true
 hd:PySem.W.hasDictIn K C=true
 po:PySem.W.plainOver K C=true
 sa:PySem.W.findIn K (.ref C) "__setattr__"=some (some<|.builtin "object.__setattr__")
theorem fG.get{K:qc}{C:Qg}(c:fG K C)(f:Str):PySem.W.plainGet K C f=true:=c.pg
def gu(K:qc)(C:Qg)(f:Str):Prop:=PySem.W.findIn K (.ref C) f=some none
theorem gu.xX{K:qc}{C:Qg}{f:Str}(n:gu K C f):PySem.W.takerIn K C f=some none:=by
 unfold PySem.W.takerIn;rw[show PySem.W.findIn K (.ref C) f=some none from n];rfl
structure uI (K:qc) (C:Qg) (m:Str) (f:Qg):Prop where
 at_:PySem.W.findIn K (.ref C) m=some (some<|.ref f)
 fn:PySem.W.isFn K (.ref f)=true
 kp:PySem.W.keepIn K (.ref f)=true
section
variable{X:Cx}{pins:Qa (Qg×Obj)}{σ:St}{H:Hp}{s:Qd}{a C dx:Qg}{fs:Qa (Str×V)}{f:Str}{v:V}{A:Qf}{E:Qc->Qd->Prop}
theorem zlK{b:Bool}{Q:Qc->Qd->Prop}(I:Inv X pins σ H s)(e:H a=some (.ins C dx fs))(c:fG X.K C)(n:gu X.K C f)(l:fs.lookup f=some v)
  (h:∀ u s',Inv X pins σ H s'->zA v u->Q u s'):wpAny (model X.prog X.w) A (getAttr (.ref a) f b) Q E s:=by
 have(mA,O,r,_,_,_):=Cv I.aq e;have(u,hu,ru):=gk.some_of (v:=v) (o:=mA f) (by rw[<-l]; exact r f);exact YY I.aU O (c.get f) c.hd n hu (zoR ru)<|h u _ (I.tok _) ru
theorem zlL{m:Str}{g:Qg}{pl:Sem Bool}{Q:Qc×Qa Qc->Qd->Prop}(I:Inv X pins σ H s)(e:H a=some (.ins C dx fs))(c:fG X.K C)(k:uI X.K C m g)(l:fs.lookup m=none)
  (h:Q (.ref g,[.ref a]) s):wpAny (model X.prog X.w) A (getMethod (.ref a) m pl) Q E s:=by
 have(mA,O,r,_,_,_):=Cv I.aq e;have hn:mA m=none:=gk.none_of (by rw[<-l]; exact r m);exact zp2 I.aU O (c.get m) k.at_ k.fn hn h
theorem zlM{y:V}{u:Qc}{Q:Unit->Qd->Prop}(I:Inv X pins σ H s)(e:H a=some (.ins C dx fs))(c:fG X.K C)(n:gu X.K C f)(hl:fs.length < 1000)(ry:zA y u)
  (h:∀ s',Inv X pins σ (upd H a<|.ins C dx<|gZ f y fs) s'->Q () s'):wpAny (model X.prog X.w) A (setAttr (.ref a) f u) Q E s:=by
 have(mA,O,r,wi,_,ho):=Cv I.aq e;have hz:(fs.map (·.1)).length<=sizeLine:=by rw[List.length_map,sizeLine_eq]; omega
 refine YX I.aU O c.sa c.po n.xX c.hd wi hz λh' O' sb=>h _ ?_;have hd:∃ o,h'.get? dx=some o:=let ⟨o,_,_,e',_⟩:=O'.ns; ⟨o,e'⟩;refine I.write (x:=a) (e:=dx) (by rw[e]; exact True.intro) (.inr ho) (λb q hb z=>(sb.2 b hb).trans z) hd ?_;refine⟨by rw[zq O.ne]; exact ho,?_,O.ne,O'.obj,_,O'.ns,λg=>?_,λg hg=>?_⟩
 .have:=O2 f y fs; omega
 .show gk ((gZ f y fs).lookup g) (if g=f then some u else mA g)
  rw[O3]
  by_cases q:g=f
  .rw[if_pos q,if_pos q]; exact ry
  .rw[if_neg q,if_neg q]; exact r g
 .by_cases q:g=f
  .rw[q]; exact(HC f y fs).1
  .refine(HC f y fs).2 g (wi g λz=>hg ?_)
   show(if g=f then some u else mA g)=none;rw[if_neg q]; exact z
theorem Inv.made(I:Inv X pins σ H s):Inv X pins σ (upd (upd H s.heap.objs.size<|.own<|s.heap.objs.size+1) (s.heap.objs.size+1)<|.ins C s.heap.objs.size [])
  {s with heap:=(s.heap.push PySem.W.emptyDict).push (PySem.W.instObj C s.heap.objs.size)}:=by
 have e1:(s.heap.push PySem.W.emptyDict).get? s.heap.objs.size=some PySem.W.emptyDict:=qg s.heap rfl;have e2:((s.heap.push PySem.W.emptyDict).push<|PySem.W.instObj C s.heap.objs.size).get? (s.heap.objs.size+1)=some (PySem.W.instObj C s.heap.objs.size):=by
  have:=qg (s.heap.push PySem.W.emptyDict) (o:=PySem.W.instObj C s.heap.objs.size) rfl
  rwa[Heap.size_push]at this
 have e3:(s.heap.push PySem.W.emptyDict).Ns s.heap.objs.size (λ_=>none):=⟨PySem.W.emptyDict,#[],_,e1,rfl,(λe he=>absurd he (by simp)),λ_=>rfl⟩;have I1:=I.laid (a:=s.heap.objs.size) (o:=.own (s.heap.objs.size+1)) (h':=s.heap.push PySem.W.emptyDict) (t':=s.toks) (λb u q=>qd _ q) (qe _) ⟨_,e1⟩;refine I1.laid (a:=s.heap.objs.size+1) (o:=.ins C s.heap.objs.size []) (t':=s.toks) (λb u q=>qd _ q) (Nat.le_of_eq<|Heap.size_push _ _) ?_;have ne:s.heap.objs.size≠s.heap.objs.size+1:=qj (Ý _);refine⟨by rw[zq ne,zp],Å _,ne,e2,λ_=>none,(Heap.Ns1.of_empty e3).at λo q=>qd _ q,λ_=>True.intro,λy hy=>absurd rfl hy⟩
theorem YW{prog:Qe}{w:Qh}{env:Env}{e:Expr}{f:Str}{pos:Pos}{s:Qd}{Q:Qc->Qd->Prop}(hb:attributeBase e f env (eval e env)=eval e env)
  (h:wpAny (model prog w) A (eval e env) (λo aB=>wpAny (model prog w) A (getAttr o f true) Q E aB) E s):wpAny (model prog w) A (eval (.Attribute e f pos) env) Q E s :=
 Attribute_any_ h (by rw[arm_eval_Attribute,hb])
end
def Kt(K:qc)(ta:TE)(f:Str):TE:=λσ H Q=>ta σ H λx H1=>∃ a C dx fs v,x=.ref a/\H1 a=some (.ins C dx fs)/\fG K C/\gu K C f/\fs.lookup f=some v/\Q v H1
def wM(K:qc)(ta tv:TE)(f:Str):TS:=λD σ H=>tv σ H λy H1=>ta σ H1 λx H2=>∃ a C dx fs,x=.ref a/\H2 a=some (.ins C dx fs)/\fG K C/\gu K C f/\fs.length < 1000/\
 D.nx σ (upd H2 a<|.ins C dx<|gZ f y fs)
section
variable{X:Cx}{o e value:Expr}{f:Str}{pos pos' gG:Pos}{ta tv:TE}
theorem V2(he:PE X e ta)(hb:attributeBase e f X.env (eval e X.env)=eval e X.env):PE X (.Attribute e f pos) (Kt X.K ta f):=by
 intro pins s σ H Q I h;refine YW hb<|aw (he pins s σ H _ I h) λu s1 hZ=>?_;have(x,H1,I1,rx,a,C,dx,fs,v,ex,ea,c,n,l,q):=hZ;subst ex;obtain rfl:u=Value.ref a:=rx;exact zlK I1 ea c n l λu' s2 I2 ru=>⟨v,H1,I2,ru,q⟩
theorem V1(ha:PE X o ta)(hv:PE X value tv)(hs:swapsWith value (some<|.Attribute o f pos') pos.line X.env=pure false):PS X (.Assign [.Attribute o f pos'] value pos) (wM X.K ta tv f):=by
 intro pins s σ H D I h;refine plainObj_wpAny_Assign_Attribute (aw (hv pins s σ H _ I h) λu s1 ⟨y,H1,I1,ry,q⟩=>aw (ha pins s1 σ H1 _ I1 q) λov s2 hZ=>?_) hs;have(x,H2,I2,rx,a,C,dx,fs,ex,ea,c,n,l,q2):=hZ;subst ex;obtain rfl:ov=Value.ref a:=rx;exact zlM I2 ea c n l ry λs3 I3=>⟨σ,_,I3,q2⟩
end
section
variable{X:Cx}{pins:Qa (Qg×Obj)}{σ:St}{H:Hp}{s:Qd}{A:Qf}{E:Qc->Qd->Prop}{Q:Qc->Qd->Prop}{c:Qc}{b:Bool}
inductive cX (K:qc) (H:Hp):V->Qc->Prop where
 | aF:cX K H .aF (.type "NoneType")
 | bl (x:Bool):cX K H (.bl x) (.type "bool")
 | int (i:Int):cX K H (.int i) (.type "int")
 | str (x:Str):cX K H (.str x) (.type "str")
 | uu (x:UInt64):cX K H (.uu x) (.type "float")
 | lst {a:Qg} {xs:Qa V} (e:H a=some (.lst xs)):cX K H (.ref a) (.type "list")
 | aW {a:Qg} {o:Obj} {xs:Qa V} (e:H a=some (.aW o<|.lst xs)):cX K H (.ref a) (.type "list")
 | tup {a:Qg} {xs:Qa V} (e:aK K H a xs):cX K H (.ref a) (.type "tuple")
 | dK {a:Qg} {kvs:Qa (Key×V)} (e:H a=some (.dK kvs)):cX K H (.ref a) (.type "dict")
 | dT {a:Qg} {kvs:Qa (Qa Key×V)} (e:H a=some (.dT kvs)):cX K H (.ref a) (.type "dict")
 | ins {a C dx:Qg} {fs:Qa (Str×V)} (e:H a=some (.ins C dx fs)) (cl:fG K C) (ha:PySem.W.findIn K (.ref C) "__class__"=some (some<|.builtin "object.__class__"))
   (hn:PySem.W.specialIn K (.builtin "object.__class__") "__get__"=some (some<|.builtin "getset_descriptor.__get__")) (R9:PySem.W.takesIn K (.builtin "object.__class__")=some true)
   (hm:PySem.W.mroIn K C (.type "object")=some true):cX K H (.ref a) (.ref C)
theorem zoS{x:V}{u t:Qc}(I:Inv X pins σ H s)(rx:zA x u)(ty:cX X.K H x t)(e:PySem.W.kitOne X.K t c=some b)(h:∀ tk,Q (.bool b) {s with toks:=tk}):
  wpAny (model X.prog X.w) A (call (.builtin "isinstance") [u,c]) Q E s:=by
 cases ty with
 | aF=>cases(show u=Value.none from rx); exact Ò PySem.W.kitx_none I.aU True.intro e (λz=>nomatch z) h
 | bl y=>cases(show u=Value.bool y from rx); exact Ò PySem.W.kitx_bool I.aU True.intro e (λz=>nomatch z) h
 | int i=>have(t,q):=(show ∃ t,u=Value.int i t from rx); cases q; exact Ò PySem.W.kitx_int I.aU True.intro e (λz=>nomatch z) h
 | str y=>have(t,q):=(show ∃ t,u=Value.str y t from rx); cases q; exact Ò PySem.W.kitx_str I.aU True.intro e (λz=>nomatch z) h
 | uu y=>have(t,q):=(show ∃ t,u=Value.float y t from rx); cases q; exact Ò PySem.W.kitx_float I.aU True.intro e (λz=>nomatch z) h
 | @lst a xs ea=>
  cases(show u=Value.ref a from rx);have(_,_,n,_,h1):=(show zI X.prog X.w X.K H s.heap a (.lst xs) from I.aq a _ ea);exact Ò PySem.W.kitx_list I.aU ⟨_,h1,rfl⟩ e (λz=>nomatch z) h
 | @aW a ob xs ea=>
  cases(show u=Value.ref a from rx);have(_,_,_,n,_,h1):=(show zI X.prog X.w X.K H s.heap a (.aW ob<|.lst xs) from I.aq a _ ea);exact Ò PySem.W.kitx_list I.aU ⟨_,h1,rfl⟩ e (λz=>nomatch z) h
 | @tup a xs ea=>
  cases(show u=Value.ref a from rx);rcases ea with ea|⟨o,af,n,hk,hc,_⟩
  case inr=>exact Ò PySem.W.kitx_tuple I.aU ⟨o,I.aU a o hk,hc⟩ e (λz=>nomatch z) h
  have(_,_,_,p):=(show zI X.prog X.w X.K H s.heap a (.tup xs) from I.aq a _ ea);have(o,h1,h2,_):=p;exact Ò PySem.W.kitx_tuple I.aU ⟨o,h1,h2⟩ e (λz=>nomatch z) h
 | @dK a kvs ea=>
  cases(show u=Value.ref a from rx);have(_,_,vs,_,p):=(show zI X.prog X.w X.K H s.heap a (.dK kvs) from I.aq a _ ea);have(o,es,ep,h1,h2,_):=p;exact Ò PySem.W.kitx_dict I.aU ⟨o,h1,h2.1⟩ e (λz=>nomatch z) h
 | @dT a kvs ea=>
  cases(show u=Value.ref a from rx);have(_,_,xs,_,o,es,ep,h1,h2,_):=(show zI X.prog X.w X.K H s.heap a (.dT kvs) from I.aq a _ ea);exact Ò PySem.W.kitx_dict I.aU ⟨o,h1,h2.1⟩ e (λz=>nomatch z) h
 | @ins a C dx fs ea cl ha hn R9 hm=>
  cases(show u=Value.ref a from rx);have(mA,O,_):=Cv I.aq ea;have(od,J,_):=O.look;exact Ò (PySem.W.kitx_own (cl.get _) cl.hd ha hn R9 hm) I.aU J e (λz=>nomatch z) h
end
structure aA (k:Nat) (A:Qf):Prop where
 hd:A.handled=none
 dp:A.depth+3 * k+5 < recursionLimit
 un:A.units+16 * k+200 < cLine
 gd:A.guards=some []
theorem aA.mono{j k:Nat}{A:Qf}(r:aA k A)(h:j<=k):aA j A:=⟨r.hd,by have:=r.dp; omega,by have:=r.un; omega,r.gd⟩
theorem aA.deeper{k:Nat}{A:Qf}(r:aA (k+1) A)(env:Env):aA k (A.deeper env):=
 ⟨r.hd,by have:=r.dp; show A.depth+1+3 * k+5 < _; omega,by have:=r.un; show A.units+3+16 * k+200 < _; omega,r.gd⟩
theorem zlN{A:Qf}{C:Qg}{us:Qa Qc}{kw:Qa (Str×Qc)}:(A.under<|.builtin "type.__call__" ⟨.ref C::us,kw⟩).depth=A.depth+1:=by
 first|rfl|simp[Around.under,Code.weight,Code.isCreation,Code.isGuard,Code.isCaller,Code.frames,Code.isFrame,guardIds]
theorem zlO{A:Qf}{C:Qg}{us:Qa Qc}{kw:Qa (Str×Qc)}:(A.under<|.builtin "type.__call__" ⟨.ref C::us,kw⟩).units=A.units+1:=by
 first|rfl|simp[Around.under,Code.cUnits,Code.frames,Code.isFrame]
theorem aA.make{k:Nat}{A:Qf}(r:aA (k+1) A)(C:Qg)(us:Qa Qc)(kw:Qa (Str×Qc)):aA k (A.under<|.builtin "type.__call__" ⟨.ref C::us,kw⟩):=
 ⟨r.hd,by have:=r.dp; rw[zlN]; omega,by have:=r.un; rw[zlO]; omega,by have:=r.gd; first|exact this|simpa [Around.under,Code.isGuard,guardIds] using this⟩
theorem aA.depth{k:Nat}{A:Qf}(r:aA k A):A.depth < recursionLimit:=by have:=r.dp; omega
theorem aA.units{k:Nat}{A:Qf}(r:aA k A):A.units+64 < cLine:=by have:=r.un; omega
def ip:TA:=λ_ H Q=>Q [] H
def jO(ta:TE)(tr:TA):TA:=λσ H Q=>ta σ H λx H1=>tr σ H1 λxs H2=>Q (x::xs) H2
section
variable{X:Cx}{e:Expr}{es:Qa Expr}{te:TE}{t:TA}{pos:Pos}
theorem V0:PA X [] ip:=λ_ _ _ _ H Q I h=>Calls.spliced_nil ⟨[],H,I,.nil,h⟩
theorem YV(ha:PE X e te)(hr:PA X es t)(hs:starEach (e::es) X.env=(false,eval e X.env)::starEach es X.env:=by rfl):PA X (e::es) (jO te t):=by
 intro pos pins s σ H Q I h;rw[hs];show wpAny _ _ (spliced<|(false,eval e X.env)::backTo pos (starEach es X.env)) _ _ s;refine ï<|aw (ha pins s σ H _ I h) λu s1 hZ=>?_;have(x,H1,I1,r1,q1):=hZ;exact aw (hr pos pins s1 σ H1 _ I1 q1) λus s2 ⟨xs,H2,I2,r2,q2⟩=>⟨x::xs,H2,I2,.cons r1 r2,q2⟩
def EW(t:TA):TE:=λσ H Q=>t σ H λxs H1=>xs.length<=sizeLine/\∀ p,H1 p=none->Q (.ref p) (upd H1 p<|.tup xs)
def Bh(t:TA):TE:=λσ H Q=>t σ H λxs H1=>xs.length<=sizeLine/\∀ p,H1 p=none->Q (.ref p) (upd H1 p<|.lst xs)
theorem VZ{x1}(h:PA X es t):PE X (.Tuple es x1 pos) (EW t):=by
 intro pins s σ H Q I hq;refine wpAny_Tuple_spliced<|aw (h pos pins s σ H _ I hq) λus s1 ⟨xs,H1,I1,r,z,q⟩=>⟨by rw[<-r.length]; exact z,?_⟩;have hf:H1 s1.heap.objs.size=none:=I1.aq.fresh (qe _);refine⟨.ref s1.heap.objs.size,upd H1 s1.heap.objs.size<|.tup xs,I1.laid (t':=s1.toks) (λb u e=>qd _ e) (qe _) ?_,rfl,q _ hf⟩;exact⟨z,us,r,⟨_,qg _ rfl,rfl,⟨_,rfl⟩,.inl rfl⟩⟩
theorem VY(h:PA X es t):PE X (.List es pos) (Bh t):=by
 intro pins s σ H Q I hq;refine wpAny_List_spliced<|aw (h pos pins s σ H _ I hq) λus s1 ⟨xs,H1,I1,r,z,q⟩=>⟨by rw[<-r.length]; exact z,?_⟩;have hf:H1 s1.heap.objs.size=none:=I1.aq.fresh (qe _);refine⟨.ref s1.heap.objs.size,upd H1 s1.heap.objs.size<|.lst xs,I1.laid (t':=s1.toks) (λb u e=>qd _ e) (qe _) ?_,rfl,q _ hf⟩;exact⟨z,us,0,r,qg _ rfl⟩
end
abbrev Sp:=Qa V->Hp->VK->XK->Prop
abbrev j6:=Qa Env->Hp->Qd->XK->Qc->Qd->Prop
structure jH (P:Qe) (w:Qh) (K:qc) (mg:Str->Qb Qc) (base:Heap) (A:Qf) (outer:Qa Env) (s:Qd) (H:Hp):Prop where
 frames:A.frames=some outer
 mod:Mod K mg base
 bs:∀ b o,base.get? b=some o->s.heap.get? b=some o/\H b=none
 oA:base.objs.size<=s.heap.objs.size
 dH:s.heap.FunFrames base outer
 sA:∀ b∈k8 outer,H b=none
 aq:bE P w K H s.heap
 bare:AllBare s.gens
def CE(outer:Qa Env)(P:Qe)(w:Qh)(K:qc)(H:Hp)(s:Qd)(Q:VK)(u:Qc)(s':Qd):Prop :=
 ∃ v H',s'.os=s.os/\AllBare s'.gens/\Un (k8 outer) [] H H' s.heap s'.heap/\bE P w K H' s'.heap/\zA v u/\Q v H'
def CR(CX:j6)(outer:Qa Env)(P:Qe)(w:Qh)(K:qc)(H:Hp)(s:Qd)(Q:VK)(E:XK)(r:Result)(s':Qd):Prop :=
 match r with
 | .ok (.ret u)=>CE outer P w K H s Q u s'
 | .ok _=>False
 | .error e=>CX outer H s E e s'
structure bK (P:Qe) (w:Qh) (K:qc) (mg:Str->Qb Qc) (base:Heap) (CX:j6) (k:Nat) (f:Qg) (fd:FuncData) (ps:Qa Str) (sp:Sp):Prop where
 len:∀ vs H Q E,sp vs H Q E->vs.length=ps.length
 run:∀ (A:Qf) (outer:Qa Env) (s:Qd) (H:Hp) (args:Args) (us:Qa Qc) (vs:Qa V) (Q:VK) (E:XK),aA k A->jH P w K mg base A outer s H->BindsTo s fd args (ps.zip us)->zC vs us->sp vs H Q E->
  codeAny (model P w) A (.call (.ref f) args) (CR CX outer P w K H s Q E) s
theorem jH.make{P:Qe}{w:Qh}{K:qc}{mg:Str->Qb Qc}{base:Heap}{A:Qf}{outer:Qa Env}{s:Qd}{H:Hp}(e:jH P w K mg base A outer s H)(C:Qg)(us:Qa Qc)(kw:Qa (Str×Qc)):
  jH P w K mg base (A.under<|.builtin "type.__call__" ⟨.ref C::us,kw⟩) outer s H:=⟨by first|exact e.frames | (simpa [Around.under,Code.envs,Code.isFrame,pushEnvs] using e.frames),e.mod,e.bs,e.oA,e.dH,e.sA,e.aq,e.bare⟩
section
variable{X:Cx}{pins:Qa (Qg×Obj)}{σ:St}{H:Hp}{s s':Qd}
theorem Inv.Aq(I:Inv X pins σ H s):jH X.prog X.w X.K X.mg X.base X.A X.stack s H :=
 ⟨I.ok.frames,I.ok.mod,I.bs,qy I.ok.oA I.sz,I.stack,I.jV,I.aq,I.bare⟩
theorem Inv.after{Q:VK}{u:Qc}(I:Inv X pins σ H s)(h:CE X.stack X.prog X.w X.K H s Q u s'):EP X pins σ Q u s':=by
 have(v,H',os,bare,un,aq,r,q):=h;have(hh,g,d,t,DA):=s';obtain rfl:DA=s.os:=os;exact⟨v,H',I.call (h':=hh) (g':=g) (d':=d) (t':=t) (ch:=[]) un aq bare (λb z=>absurd z (by simp)),r,q⟩
end
def Lp(sp:Sp)(dvs:Qa V)(E:XK)(t:TA):TE:=λσ H Q=>t σ H λvs H1=>sp (vs++dvs) H1 Q E
def Lo(C:Qg)(sp:Sp)(dvs:Qa V)(E:XK)(t:TA):TE:=λσ H Q=>t σ H λvs H1=>∀ x dx,H1 x=none->H1 dx=none->dx≠x->
 sp (.ref x::(vs++dvs)) (upd (upd H1 dx<|.own x) x<|.ins C dx []) (λv H2=>v=.aF/\Q (.ref x) H2) E
def lA(K:qc)(fd:FuncData)(ps:Qa Str)(ds:Qa Qc):Prop :=
 ∀ (s:Qd) (us:Qa Qc),K.In s.heap->(us++ds).length=ps.length->BindsTo s fd ⟨us,[]⟩ (ps.zip<|us++ds)
theorem lA.all{K:qc}{fd:FuncData}{ps:Qa Str}(h:∀ us:Qa Qc,us.length=ps.length->bindArgs fd ⟨us,[]⟩=pure (ps.zip us)):lA K fd ps []:=λs us _ hl=>by
 rw[List.append_nil]at hl ⊢;exact .of_eq<|h us hl
def vA(CX:j6)(X:Cx)(E:XK):Prop:=∀ (pins:Qa (Qg×Obj)) (σ:St) (H:Hp) (s:Qd) (e:Qc) (s':Qd),Inv X pins σ H s->CX X.stack H s E e s'->X.xe e s'
section
variable{X:Cx}{CX:j6}{k:Nat}{f C:Qg}{fd:FuncData}{ps:Qa Str}{sp:Sp}{dvs:Qa V}{ds:Qa Qc}{E:XK}{x m:Str}{p pos apos:Pos}{e o:Expr}{es:Qa Expr}{ta:TE}{t:TA}
theorem Gn{pins:Qa (Qg×Obj)}{σ:St}{H:Hp}{s:Qd}{Q:VK}{us:Qa Qc}{vs:Qa V}(F:bK X.prog X.w X.K X.mg X.base CX k f fd ps sp)(hr:aA k X.A)(hb:lA X.K fd ps ds)(hd:zC dvs ds)(hx:vA CX X E)
  (I:Inv X pins σ H s) (r:zC vs us) (h:sp (vs++dvs) H Q E):wpAny (model X.prog X.w) X.A (call (.ref f) us) (EP X pins σ Q) X.xe s:=by
 have r2:zC (vs++dvs) (us++ds):=r.append hd;have hl:(us++ds).length=ps.length:=by rw[<-r2.length]; exact F.len _ _ _ _ h
 refine wpAny_call<|codeAny_mono (F.run X.A X.stack s H ⟨us,[]⟩ (us++ds) (vs++dvs) Q E hr I.Aq (hb s us I.aU hl) r2 h) λr s' hq=>?_;cases r with
 | error e=>exact hx pins σ H s e s' I hq
 | ok fl=>
  cases fl with
  | ret u=>exact I.after hq
  | next=>exact False.elim hq
  | brk=>exact False.elim hq
  | cont=>exact False.elim hq
theorem YU(F:bK X.prog X.w X.K X.mg X.base CX k f fd ps sp)(hr:aA k X.A)(hg:Gl X x)(hm:X.mg x=some (.ref f))(hk:PySem.W.keepIn X.K (.ref f)=true)(hb:lA X.K fd ps ds)(hd:zC dvs ds)(hx:vA CX X E)
  (ha:PA X (e::es) t) (cV:(x==("__debug__":Str))=false:=by decide) (he:starEach (e::es) X.env=(false,eval e X.env)::starEach es X.env:=by rfl) (cL:(backTo pos<|starEach es X.env).any (·.1)=false:=by rfl):
  PE X (.Call (.Name x p) (e::es) [] pos) (Lp sp dvs E t):=by
 intro pins s σ H Q I h;refine wpAny_Call_Name_kw<|Cy I hg hm ?_ cV;refine PySem.W.callWith_K (h₀:=X.base) I.ok.mod.eG hk (aw (ha pos pins s σ H _ I h) λus s1 ⟨vs,H1,I1,r,q⟩=>⟨I1.aU,?_⟩) he cL;exact Gn F hr hb hd hx I1 r q
theorem zp5(F:bK X.prog X.w X.K X.mg X.base CX k f fd ps sp)(hr:aA k X.A)(hg:Gl X x)(hm:X.mg x=some (.ref f))(hk:PySem.W.keepIn X.K (.ref f)=true)(hb:lA X.K fd ps ds)(hd:zC dvs ds)(hx:vA CX X E)
  (cV:(x==("__debug__":Str))=false:=by decide):PE X (.Call (.Name x p) [] [] pos) (Lp sp dvs E ip):=by
 intro pins s σ H Q I h;refine wpAny_Call_Name_kw<|Cy I hg hm ?_ cV;exact PySem.W.callWith_K0 I.aU hk<|Gn (us:=[]) F hr hb hd hx I .nil h
structure Mk (K:qc) (C f:Qg):Prop where
 makes:PySem.W.makesIn K C=true
 init:PySem.W.findIn K (.ref C) "__init__"=some (some<|.ref f)
 fn:PySem.W.isFn K (.ref f)=true
 kp:PySem.W.keepIn K (.ref C)=true
theorem zp6{pins:Qa (Qg×Obj)}{σ:St}{H:Hp}{s:Qd}{Q:VK}{us:Qa Qc}{vs:Qa V}(M:Mk X.K C f)(F:bK X.prog X.w X.K X.mg X.base CX k f fd ps sp)(hr:aA (k+1) X.A)(hb:lA X.K fd ps ds)(hd:zC dvs ds)
  (hx:vA CX X E) (I:Inv X pins σ H s) (r:zC vs us)
  (h:∀ x dx,H x=none->H dx=none->dx≠x->sp (.ref x::(vs++dvs)) (upd (upd H dx<|.own x) x<|.ins C dx []) (λv H2=>v=.aF/\Q (.ref x) H2) E):
  wpAny (model X.prog X.w) X.A (call (.ref C) us) (EP X pins σ Q) X.xe s:=by
 have hq:=h (s.heap.objs.size+1) s.heap.objs.size (I.aq.fresh<|ð _) (I.aq.fresh<|qe _) (qj<|Ý _);have I2:=Inv.made (C:=C) I;have r2:zC (V.ref (s.heap.objs.size+1)::(vs++dvs)) (Value.ref (s.heap.objs.size+1)::(us++ds)):=.cons rfl (r.append hd);have hl:(Value.ref (s.heap.objs.size+1)::us++ds).length=ps.length:=by
  have e:=r2.length;rw[F.len _ _ _ _ hq]at e;exact e.symm
 refine wpAny_call<|zp3 (f:=f) I.aU M.makes M.init (beq_iff_eq.mp M.fn)<|codeAny_mono (F.run _ X.stack _ _ ⟨Value.ref (s.heap.objs.size+1)::us,[]⟩ (Value.ref (s.heap.objs.size+1)::(us++ds)) _ _ E (hr.make C us [])
  (I2.Aq.make C us []) (hb _ (Value.ref (s.heap.objs.size+1)::us) I2.aU hl) r2 hq) λr s' pP=>?_
 cases r with
 | error e=>exact hx pins σ _ _ e s' I2 pP
 | ok fl=>
  cases fl with
  | ret u=>
   have(v,H',I3,rv,ev,q3):=I2.after pP;subst ev;exact⟨rv,⟨V.ref<|s.heap.objs.size+1,H',I3,rfl,q3⟩⟩
  | next=>exact False.elim pP
  | brk=>exact False.elim pP
  | cont=>exact False.elim pP
theorem zp7(M:Mk X.K C f)(F:bK X.prog X.w X.K X.mg X.base CX k f fd ps sp)(hr:aA (k+1) X.A)(hg:Gl X x)(hm:X.mg x=some (.ref C))(hb:lA X.K fd ps ds)(hd:zC dvs ds)(hx:vA CX X E)
  (cV:(x==("__debug__":Str))=false:=by decide):PE X (.Call (.Name x p) [] [] pos) (Lo C sp dvs E ip):=by
 intro pins s σ H Q I h;refine wpAny_Call_Name_kw<|Cy I hg hm ?_ cV;exact PySem.W.callWith_K0 I.aU M.kp<|zp6 (us:=[]) M F hr hb hd hx I .nil h
end
section
variable{X:Cx}{CX:j6}{k:Nat}{f C:Qg}{fd:FuncData}{ps ks:Qa Str}{sp:Sp}{E:XK}{x m:Str}{p pos apos kpos:Pos}{e o:Expr}{es:Qa Expr}{kws:Qa Keyword}{te ta:TE}{t tk:TA}{nm:Qb Str}
variable{g:Qa Qc->Qa Qc->Qa Qc}{gV:Qa V->Qa V->Qa V}
end
structure bj (N P:Qa Str) (sc:Scope):Prop where
 kind:sc.kind=.function
 co:sc.isCoroutine=false
 gen:sc.isGenerator=false
 nd:N.Nodup
 pre:N.take P.length=P
 par:∀ x∈P,sc.names.lookup x=some .local\/sc.names.lookup x=some .cell
 tV:∀ y∈sc.names,y.2≠.free
theorem OA{kindOf:Str->Qb NameKind}{x:Str}:∀ {binds:Qa (Str×Qc)} {m:Str->Qb Qc},(∀ v,(x,v)∉binds)->bindL kindOf binds m x=m x
 | [],_,_=>rfl
 | (n,v)::r,m,h=>by
  unfold bindL;rw[OA λw hw=>h w<|qo _ hw];split
  .have:x≠n:=by rintro rfl; exact h v qp
   simp[this]
  .rfl
theorem Oz{kindOf:Str->Qb NameKind}{x:Str}:∀ {binds:Qa (Str×Qc)} {m:Str->Qb Qc},(∀ v,(x,v)∉binds)->bindC kindOf binds m x=m x
 | [],_,_=>rfl
 | (n,v)::r,m,h=>by
  unfold bindC;rw[Oz λw hw=>h w<|qo _ hw];split
  .rfl
  .have:x≠n:=by rintro rfl; exact h v qp
   simp[this]
theorem Oy{kindOf:Str->Qb NameKind}{x:Str}{v:Qc}:∀ {P:Qa Str} {vs:Qa Qc} {i:Nat} {m:Str->Qb Qc},P.Nodup->P[i]?=some x->vs[i]?=some v->kindOf x=some .local->
  bindL kindOf (P.zip vs) m x=some v
 | [],_,_,_,_,h,_,_=>by simp at h
 | _::_,[],_,_,_,_,h,_=>by simp at h
 | p::P,w::vs,0,m,nd,h1,h2,hk=>by
  simp at h1 h2; subst h1; subst h2;show bindL kindOf ((p,w)::P.zip vs) m p=_;unfold bindL;rw[OA λv hv=>(List.nodup_cons.mp nd).1 (List.of_mem_zip hv).1,if_pos hk];simp
 | p::P,w::vs,i+1,m,nd,h1,h2,hk=>by
  show bindL kindOf ((p,w)::P.zip vs) m x=_;unfold bindL;exact Oy (i:=i) (ö.mp nd).2 (by simpa using h1) (by simpa using h2) hk
theorem Ox{kindOf:Str->Qb NameKind}{x:Str}{v:Qc}:∀ {P:Qa Str} {vs:Qa Qc} {i:Nat} {m:Str->Qb Qc},P.Nodup->P[i]?=some x->vs[i]?=some v->kindOf x≠some .local->
  bindC kindOf (P.zip vs) m x=some v
 | [],_,_,_,_,h,_,_=>by simp at h
 | _::_,[],_,_,_,_,h,_=>by simp at h
 | p::P,w::vs,0,m,nd,h1,h2,hk=>by
  simp at h1 h2; subst h1; subst h2;show bindC kindOf ((p,w)::P.zip vs) m p=_;unfold bindC;rw[Oz λv hv=>(List.nodup_cons.mp nd).1 (List.of_mem_zip hv).1,if_neg hk];simp
 | p::P,w::vs,i+1,m,nd,h1,h2,hk=>by
  show bindC kindOf ((p,w)::P.zip vs) m x=_;unfold bindC;exact Ox (i:=i) (ö.mp nd).2 (by simpa using h1) (by simpa using h2) hk
def gr(N:Qa Str)(vs:Qa V):St:=vs.map some++List.replicate (N.length - vs.length) none
def nJ(CX:j6)(P:Qe)(w:Qh)(K:qc)(mg:Str->Qb Qc)(base:Heap)(N:Qa Str)(qual:Str)(scope:Scope)(f:Qg)(cd:Qc)(A:Qf)(outer:Qa Env)(s:Qd)(H:Hp)(E:XK):Cx where
 prog:=P
 w:=w
 K:=K
 mg:=mg
 base:=base
 A:=A.deeper (envOfC qual scope s.heap.objs.size f cd)
 N:=N
 aX:=s
 H₀:=H
 env:=envOfC qual scope s.heap.objs.size f cd
 outer:=outer
 stack:=envOfC qual scope s.heap.objs.size f cd::outer
 ex:=[]
 calm:=true
 fn:=λ_=>true
 pn:=[]
 xe:=λe s'=>wpAny (model P w) (A.deeper<|envOfC qual scope s.heap.objs.size f cd) (leaving (envOfC qual scope s.heap.objs.size f cd) e) (λ_ ya=>CX outer H s E e ya) (λe' ya=>CX outer H s E e' ya) s'
theorem N4{sc:Scope}{n:Nat}{x:Str}(h:sc.names.lookup x=some .cell):∃ c,(cellsFrom n sc.names []).lookup x=some c:=by
 have q:=PySem.W.cellsFrom_some sc.names n [] (.inl h);exact è.mp q
theorem zoT{CX:j6}{P:Qe}{w:Qh}{K:qc}{mg:Str->Qb Qc}{base:Heap}{N ps:Qa Str}{qual:Str}{scope:Scope}{f:Qg}{cd:Qc}{A:Qf}{outer:Qa Env}{s s1:Qd}{H:Hp}{E:XK}{us:Qa Qc}{vs:Qa V}
  (S:bj N ps scope) (hd:A.handled=none) (e0:jH P w K mg base A outer s H) (hl:vs.length=ps.length) (r:zC vs us)
  (x:InCallC s s.heap.objs.size (bindL (envOfC qual scope s.heap.objs.size f cd).kindOf (ps.zip us) λ_=>none) (cellsFrom (s.heap.objs.size+1) scope.names []) (bindC (envOfC qual scope s.heap.objs.size f cd).kindOf (ps.zip us) λ_=>none) s1):
  Inv (nJ CX P w K mg base N qual scope f cd A outer s H E) [] (gr N vs) H s1:=by
 have cL:ps.length<=N.length:=by have:=congrArg List.length S.pre; rw[List.length_take]at this; omega
 have(h1,tk,rfl,hk):=x.done;have yh:∀ b:Qg,b∉(nJ CX P w K mg base N qual scope f cd A outer s H E).ex:=λb z=>absurd (show b∈([]:Qa Qg) from z) (by simp);refine⟨⟨e0.mod,S.kind,rfl,rfl,qe _,λy z c h1 h2=>?_,λy hy=>?_,λy c _ h=>?_,λ_=>hd,Around.frames_deeper e0.frames,.inr ⟨rfl,rfl⟩,λb z=>absurd z<|yh b,e0.bs,e0.oA,λb _ _=>yh b,λb z=>absurd z<|yh b,e0.dH,e0.sA⟩,
  rfl,e0.bare,Un.kept hk,⟨_,x.toInCall.ns,λi y v h1 h2 h3=>?_⟩,λy c h=>⟨_,x.cell y c h⟩,e0.aq.fresh<|qe _,λy c h=>?_,λp hp=>absurd (show p∈([]:Qa (Qg×Obj)) from hp) (by simp),e0.aq.kept hk,?_⟩
 .exact name_of_addr x.apart (ì h1) (ì h2)
 .have hy:scope.names.lookup y=some .cell\/scope.names.lookup y=some .free:=hy
  rcases hy with hy|hy
  .exact N4 hy
  .exact absurd rfl (S.tV _<|ì hy)
 .exact Nat.le_of_lt (x.above y c<|ì h)
 .have hi:i < vs.length:=by
   unfold gr at h2
   by_cases hi:i < vs.length
   .exact hi
   .rw[List.getElem?_append_right (by simpa using hi)]at h2
    rw[List.getElem?_replicate]at h2;split at h2<;>cases h2
  have ha:vs[i]?=some v:=by
   unfold gr at h2;rw[List.getElem?_append_left (by simpa using hi),List.getElem?_map]at h2;cases e:vs[i]? with
   | none=>rw[e]at h2; cases h2
   | some a=>rw[e]at h2; cases h2; rfl
  have(u,hu,rv):=r.get ha;have hp:ps[i]?=some y:=by
   rw[<-S.pre,List.getElem?_take_of_lt (by omega)]; exact h1
  have RS:ps.Nodup:=by rw[<-S.pre]; exact S.nd.sublist<|List.take_sublist _ _
  refine⟨u,rv,?_⟩;rcases S.par y (Â hp)with k|k
  .exact .inl ⟨k,Oy RS hp hu k⟩
  .have(c,e):=N4 (n:=s.heap.objs.size+1) k
   refine .inr ⟨.inl k,c,e,?_⟩;have q:=x.cell y c e;rw[Ox RS hp hu (by show scope.names.lookup y≠_; rw[k]; decide)]at q;exact q
 .exact e0.aq.fresh (Nat.le_of_lt<|x.above y c<|ì h)
 .unfold gr
  show _=N.length;rw[qt,List.length_map,List.length_replicate];omega
theorem Uq{CX:j6}{P:Qe}{w:Qh}{K:qc}{mg:Str->Qb Qc}{base:Heap}{k:Nat}{f:Qg}{name qual:Str}{params:Arguments}{body:Qa Stmt}{scope:Scope}{dV kV doc pm be ct oc:Qc}{an od:Qb Qg}
  {n5:Array (Qb Qc)} {N ps:Qa Str} {sp:Sp} (lk:K.lookup f=some ⟨oc,od,.func<|PySem.W.fnOf name qual params body scope dV kV doc pm an be ct,n5⟩) (kY:PySem.W.codeIn K be qual=true) (S:bj N ps scope)
  (len:∀ vs H Q E,sp vs H Q E->vs.length=ps.length)
  (bB:∀ (A:Qf) (outer:Qa Env) (s:Qd) (H:Hp) (vs:Qa V) (Q:VK) (E:XK),aA k (A.deeper<|envOfC qual scope s.heap.objs.size f be)->sp vs H Q E->
   ∃ t,d5 (nJ CX P w K mg base N qual scope f be A outer s H E) body t/\t {nx:=λ_ H'=>Q .aF H',rt:=Q} (gr N vs) H):
  bK P w K mg base CX (k+1) f (PySem.W.fnOf name qual params body scope dV kV doc pm an be ct) ps sp:=by
 refine⟨len,λA outer s H args us vs Q E hr e0 hb r rT=>?_⟩;have hl:=len _ _ _ _ rT;have KX:K.In s.heap:=e0.mod.eG.keeps λb o e=>(e0.bs b o e).1;have lim:s.heap.NoLimit:=e0.mod.nolimit.keeps λb o e=>(e0.bs b o e).1;have y7:∀ y∈ps.zip us,scope.names.lookup y.1=some .local\/(scope.names.lookup y.1=some .cell/\((cellsFrom (s.heap.objs.size+1) scope.names []).lookup y.1).isSome=true):=λ⟨n,v⟩ hy=>by
  rcases S.par n (Û hy).1 with q|q
  .exact .inl q
  .exact .inr ⟨q,PySem.W.cellsFrom_some _ _ _<|.inl q⟩
 refine codeAny_call_function hr.depth (KX _ _ lk) rfl S.co S.gen rfl (PySem.W.codeRec_of KX kY)<|hb _ _ _ _ ?_;refine wpAny_newFunctionEnv_cells S.kind y7 λenv he s1 x=>?_;subst he;refine⟨lim.keeps x.toInCall.keep,codeAny_func ?_⟩;have(t,ht,hq):=bB A outer s H vs Q E (hr.deeper _) rT;have I:Inv (nJ CX P w K mg base N qual scope f be A outer s H E) [] (gr N vs) H s1:=zoT S hr.hd e0 hl r x;refine wpAny_mono (ht [] s1 (gr N vs) H _ I hq) (λfl s' hs=>?_) λe s' hs=>hs;have fin:∀ {aE:St} {H':Hp} {v:V} {u:Qc},Inv (nJ CX P w K mg base N qual scope f be A outer s H E) [] aE H' s'->zA v u->Q v H'->CE outer P w K H s Q u s' :=
  λ{aE H' v u} J rv q=>⟨v,H',J.os,J.bare,J.base,J.aq,rv,q⟩
 cases fl with
 | ret u=>
  have(v,aE,H',J,rv,q):=hs;exact fin J rv q
 | next=>
  have(aE,H',J,q):=hs;exact fin (v:=V.aF) (u:=Value.none) J rfl q
 | brk=>
  have(_,_,_,q):=hs;exact False.elim q
 | cont=>
  have(_,_,_,q):=hs;exact False.elim q
section
variable{X:Cx}{x:Str}{p pos:Pos}{e:Expr}{es:Qa Expr}{t:TA}{id T:String}{r:Qa V->Hp->VK->Prop}
def mE(r:Qa V->Hp->VK->Prop)(t:TA):TE:=λσ H Q=>t σ H λvs H1=>r vs H1 Q
theorem zp8(hc:fO X (.builtin id) r)(hg:Gl X x)(hm:X.mg x=none)(hv:bootBuiltins x=some (.builtin id))(ha:PA X (e::es) t)(hn:x ≠ "__name__":=by decide)(cV:(x==("__debug__":Str))=false:=by decide)
  (he:starEach (e::es) X.env=(false,eval e X.env)::starEach es X.env:=by rfl) (cL:(backTo pos<|starEach es X.env).any (·.1)=false:=by rfl):PE X (.Call (.Name x p) (e::es) [] pos) (mE r t):=by
 intro pins s σ H Q I h;refine wpAny_Call_Name_kw<|rq I hg hm hv ?_ hn cV;exact PyProof.Rows.callWith_builtin1 (aw (ha pos pins s σ H _ I h) λus s1 ⟨vs,H1,I1,r1,q1⟩=>hc pins s1 σ H1 vs us Q I1 r1 q1) he cL
theorem zoU(hc:fO X (.type T) r)(hg:Gl X x)(hm:X.mg x=none)(hv:bootBuiltins x=some (.type T))(ha:PA X (e::es) t)(hn:x ≠ "__name__":=by decide)(cV:(x==("__debug__":Str))=false:=by decide)
  (he:starEach (e::es) X.env=(false,eval e X.env)::starEach es X.env:=by rfl) (cL:(backTo pos<|starEach es X.env).any (·.1)=false:=by rfl):PE X (.Call (.Name x p) (e::es) [] pos) (mE r t):=by
 intro pins s σ H Q I h;refine wpAny_Call_Name_kw<|rq I hg hm hv ?_ hn cV;exact Ö (aw (ha pos pins s σ H _ I h) λus s1 ⟨vs,H1,I1,r1,q1⟩=>hc pins s1 σ H1 vs us Q I1 r1 q1) he cL
end
end L2
variable{K:L2.qc}{E:L2.Qc->L2.Qd->Prop}{H:L2.Hp}{pins:L2.Qa (L2.Qg×Obj)}{i:Nat}{s:L2.Qd}{α:Type}{w:L2.Qh}{pos:Pos}{Q:L2.Qc->L2.Qd->Prop}{A:L2.Qf}{n:Nat}{σ:L2.St}{a:L2.Qg}{kvs:L2.Qa (L2.Qa L2.Key×L2.V)}{js:L2.Qa Nat}{vs:L2.Qa (L2.Qa Int)}{nt:Nat}{R:Result->L2.Qd->Prop}{pn:L2.Qa Nat}{p:Array Nat}{H':L2.Hp}{v:L2.Qa Int}{e:Expr}{prog:L2.Qe}{x:Str}{es:Array DictEntry}{l:L2.Qa Int}{j:Nat}{b:L2.Qa Int}{te:L2.TE}{ps:L2.Qa Str}{elts:L2.Qa Expr}{cl:L2.Qa (Str×L2.Qg)}{r:L2.Qa L2.V->L2.Hp->L2.VK->Prop}{f:Str}{P:L2.Qe}{o:Expr}{fd:FuncData}{h:Heap}{β:Type}{mg:Str->L2.Qb L2.Qc}{c:Str}{tv:L2.TE}{st:Stmt}{tg:Expr}{sg:L2.Qa Int}{ta:L2.TE}{u:L2.Qc}{scope:Scope}{it:L2.Qg}{g:L2.TG}{ns:L2.Qa Int}{T:String}{gG:Pos}{N:L2.Qa Str}{tn:Nat->Heap->Prop}{tab:L2.Qa (Str×L2.Qa Str)}{td:L2.TE}{ws:L2.Qa (L2.Qa Int)}{apos:Pos}{y:L2.V}{iter:Expr}{ty:L2.TE}{sp:L2.Sp}{ep:Nat}{tk:L2.TE}{d:L2.Qg}{aM:Pos}{RR:L2.Qc->L2.Qg->Result->L2.Qd->Prop}{m:Nat}{ifs:L2.Qa Expr}{dx:L2.Qg}{pos':Pos}{n5:Array (L2.Qb L2.Qc)}{B:Nat}{tt:L2.TT}{H₀:L2.Hp}{rows:L2.Qa Nat}{h':Heap}{env:Env}{us:L2.Qa L2.Qc}{wi:L2.TI}{ai:L2.St}{ao:L2.Hp}{key:L2.Qa L2.K3}{cmp:Nat->Nat->(Bool->L2.Qd->Prop)->L2.Qd->Prop}{G:Array GenState->Array GenState->Prop}{ks:L2.Qa L2.Key}{qual:Str}{tb:L2.TE}{ys:L2.Qa L2.V}{κ:Type}{value elt:Expr}{as:L2.Qa α}{J:Type}{kx vx t2 i2:Expr}{Z:L2.Hp->Prop}{sl:Array (L2.Qb L2.Qc)}
namespace HT
open PySem PyProof.Rows
section
open PySem.SeqAt
open PySem.AutoSeq1 (wpAny_loadPart')
open PySem.MeetsSeq PySem.MeetsSeq2 PySem.MeetsSeq3
end
section
variable{prog:Program} {w:World} {A:Around} {E:Value->Shared->Prop} {s:Shared}
theorem p9{t b:Addr}{vs ws:List Value}{Q:Value->Shared->Prop}(ht:IsTup s.heap t vs.toArray)(hb:IsTup s.heap b ws.toArray)(hv:vs≠[])
  (h1:ws=[]->Q (.ref t) s) (h2:ws≠[]->Q (.ref s.heap.objs.size) {s with heap:=s.heap.push {cls:=.type "tuple",data:=.seq (vs++ws).toArray}})
  (hsz:vs.length+ws.length<=sizeLine):wpAny (model prog w) A (binaryOp .Add (.ref t)<|.ref b) Q E s:=by
 obtain⟨⟨cls,dd,data,sl⟩,ho,hc,n,hd⟩:=id ht;obtain⟨⟨Aw,uF,data2,nY⟩,ud,Ad,n2,hd2⟩:=id hb;simp only at hc hd Ad hd2;subst hc hd Ad hd2;have e:vs.toArray++ws.toArray=(vs++ws).toArray:=by simp
 by_cases hw:ws=[]
 .exact concat_meets ⟨_,ho,rfl⟩ ⟨_,ud,rfl⟩ noFill_tuple_add seq_tuple_add PySem.F.slot_tuple_add PySem.F.entry_tuple_add (PySem.F.args_tuple_add_2 _ _)
   (tuple_addW1 t b vs.toArray ws.toArray n n2 dd uF sl nY (by simpa using hv) (by simp[hw])) ⟨ho,ud,h1 hw⟩
 .refine concat_meets ⟨_,ho,rfl⟩ ⟨_,ud,rfl⟩ noFill_tuple_add seq_tuple_add PySem.F.slot_tuple_add PySem.F.entry_tuple_add (PySem.F.args_tuple_add_2 _ _)
   (tuple_addW2 t b vs.toArray ws.toArray n n2 dd uF sl nY (by simpa using hv) (by simpa using hw) (by rw[List.size_toArray,List.size_toArray]; exact hsz)) ⟨ho,ud,?_⟩
  rw[e];exact h2 hw
def gx(n d:Nat):Option Int->Nat
 | none=>d
 | some v=>if v < 0 then(v+(n:Int)).toNat else min v.toNat n
theorem iE(n d:Nat):gx n d none=d:=rfl
theorem jX(n d k:Nat):gx n d (some (k:Int))=min k n:=by
 show(if(k:Int) < 0 then((k:Int)+(n:Int)).toNat else min (k:Int).toNat n)=min k n;rw[if_neg (by omega),Int.toNat_natCast]
end
end HT
namespace L2
open PySem PySem.Spec PyProof.Rows
abbrev TO:=St->Hp->(Qb Int->Hp->Prop)->Prop
def PO(X:Cx)(e:Qb Expr)(t:TO):Prop :=
 ∀ (pins:Qa (Qg×Obj)) (s:Qd) (σ:St) (H:Hp) (Q:Qb Int->Hp->Prop),Inv X pins σ H s->t σ H Q->
  wpAny (model X.prog X.w) X.A (evalPart e X.env) (λu s'=>∃ o H',Inv X pins σ H' s'/\IsPart u o/\Q o H') X.xe s
def GZ:TO:=λ_ H Q=>Q none H
def FW(t:TE):TO:=λσ H Q=>t σ H λx H1=>∃ i,x=.int i/\Q (some i) H1
theorem zlQ:∀ {us:Qa Qc},zC (ns.map V.int) us->IntsAre us ns:=by
 induction ns with
 | nil=>intro us r; rw[List.map_nil]at r; cases r; exact .nil
 | cons n ns ih=>
  intro us r;rw[List.map_cons]at r;cases r with
  | cons r1 r2=>
   have(t,e):=r1;subst e;exact .cons n t<|ih r2
section
variable{X:Cx}{lo hi:Qb Expr}{tl th:TO}{p2:Pos}
theorem YT:PO X none GZ:=by
 intro pins s σ H Q I h;rw[evalPart_none];exact qb ⟨none,H,I,.none,h⟩
theorem YS(h:PE X e te):PO X (some e) (FW te):=by
 intro pins s σ H Q I hw;rw[evalPart_some];refine aw (h pins s σ H _ I hw) λu s1 hZ=>?_;have(x,H1,I1,r1,q1):=hZ;have(i,rfl,q):=q1;have(t,rfl):=r1;exact⟨some i,H1,I1,.int i t,q⟩
def D8(X:Cx)(r:V->Qb Int->Qb Int->Hp->VK->Prop):Prop :=
 ∀ (pins:Qa (Qg×Obj)) (s:Qd) (σ:St) (H:Hp) (x:V) (v vl vu:Qc) (lo hi:Qb Int) (sl:Qg) (Q:VK),Inv X pins σ H s->zA x v->s.heap.IsSliceOf sl vl vu .none->IsPart vl lo->IsPart vu hi->r x lo hi H Q->
  ∃ T id,typeLookup (.type T) "__getitem__"=pure (some<|.builtin id)/\s.TypeIs v T/\wpAny (model X.prog X.w) X.A (getItem v<|.ref sl) (EP X pins σ Q) X.xe s
def Iu(r:V->Qb Int->Qb Int->Hp->VK->Prop)(te:TE)(tl th:TO):TE:=λσ H Q=>te σ H λx H1=>tl σ H1 λl H2=>th σ H2 λu H3=>r x l u H3 Q
theorem zqa{r:V->Qb Int->Qb Int->Hp->VK->Prop}(hr:D8 X r)(he:PE X e te)(hl:PO X lo tl)(hu:PO X hi th):PE X (.Subscript e (.Slice lo hi none p2) pos) (Iu r te tl th):=by
 intro pins s σ H Q I h;refine Subscript_<|aw (he pins s σ H _ I h) λv s1 hZ=>?_;have(x,H1,I1,r1,q1):=hZ;refine wpAny_Slice<|aw (hl pins s1 σ H1 _ I1 q1) λvl s2 ⟨l,H2,I2,pl,q2⟩=>aw (hu pins s2 σ H2 _ I2 q2) λvu s3 hZ=>?_;have(u,H3,I3,pu,q3):=hZ;rw[evalPart_none];refine qb ?_;have I4:Inv X pins σ H3 {s3 with heap:=s3.heap.push {cls:=.type "slice",data:=.fields #[vl,vu,.none]}}:=I3.kept (t':=s3.toks) λb ob q=>qd _ q;have(T,id,hT,ht,hg):=hr pins {s3 with heap:=s3.heap.push {cls:=.type "slice",data:=.fields #[vl,vu,.none]}} σ H3 x v vl vu l u s3.heap.objs.size Q I4 r1 (Heap.IsSliceOf.new ..) pl pu q3;show wpAny (model X.prog X.w) X.A (subscriptTail e (.Slice lo hi none p2) v<|.ref s3.heap.objs.size) (EP X pins σ Q) X.xe {s3 with heap:=s3.heap.push {cls:=.type "slice",data:=.fields #[vl,vu,.none]}};exact tail_any (ops:=[.ref s3.heap.objs.size,v]) ht hT hg (by with_unfolding_all rfl)
def qM(xs:Qa V)(lo hi:Qb Int):Qa V:=(xs.drop<|HT.gx xs.length 0 lo).take (HT.gx xs.length xs.length hi - HT.gx xs.length 0 lo)
theorem zkm(xs:Qa V)(lo hi:Qb Int):(qM xs lo hi).length<=xs.length:=by
 unfold qM;rw[List.length_take,List.length_drop];omega
def FH(K:qc):R2:=λx y H Q=>∃ a b xs ys,x=.ref a/\y=.ref b/\bw K H a xs/\bw K H b ys/\xs≠[]/\xs.length+ys.length<=sizeLine/\
 (ys=[]->Q (.ref a) H)/\(ys≠[]->∀ p,H p=none->Q (.ref p) (upd H p<|.tup<|xs++ys))
theorem zC.gK{xs:Qa V}(r:zC xs us):us=[]↔xs=[]:=by
 cases r with
 | nil=>simp
 | cons _ _=>simp
theorem YR:bQ X (binaryOp .Add) (FH X.K):=by
 intro pins s σ H x y v u Q I rx ry h;have(a,b,xs,ys,rfl,rfl,ha,hb,hx,hz,q1,q2):=h;cases rx;cases ry;have(af,r1,p1,_):=I.tuple ha;have(bP,r2,p2,_):=I.tuple hb;refine HT.p9 p1 p2 (λz=>hx<|r1.gK.mp z) (λz=>⟨.ref a,H,I,rfl,q1<|r2.gK.mp z⟩) (λz=>?_) (by rw[<-r1.length,<-r2.length]; exact hz);refine⟨.ref s.heap.objs.size,_,I.laid (t':=s.toks) (o:=.tup (xs++ys)) (λb ob q=>qd _ q) (qe _) ?_,rfl,q2 (λw=>z<|r2.gK.mpr w) _<|I.aq.fresh<|qe _⟩;exact⟨by rw[qt]; exact hz,_,r1.append r2,oX.new _ _⟩
end
def eI(n:Nat)(i:Int):Qb Nat:=if 0<=i then(if i < n then some i.toNat else none)else if -(n:Int)<=i then some (i+n).toNat else none
def br(xs:Qa α)(i:Int):Qb α:=(eI xs.length i).bind λj=>xs[j]?
theorem Nq{i:Int}(h:eI n i=some j):seqIndex? i n=some j/\j < n/\-(n:Int)<=i/\i < n:=by
 unfold eI at h
 by_cases h0:0<=i
 .rw[if_pos h0]at h
  by_cases h1:i < n
  .rw[if_pos h1]at h
   have e:i.toNat=j:=qx h;exact⟨by rw[seqIndex_of h0 h1,e],by omega,by omega,h1⟩
  .rw[if_neg h1]at h; cases h
 .rw[if_neg h0]at h
  by_cases h1:-(n:Int)<=i
  .rw[if_pos h1]at h
   have e:(i+n).toNat=j:=qx h;exact⟨by rw[seqIndex_neg (by omega) h1,e],by omega,h1,by omega⟩
  .rw[if_neg h1]at h; cases h
theorem GY{xs:Qa α}{i:Int}{v:α}(h:br xs i=some v):∃ j,seqIndex? i xs.length=some j/\xs[j]?=some v/\j < xs.length/\-(xs.length:Int)<=i/\i < xs.length:=by
 unfold br at h;cases e:eI xs.length i with
 | none=>rw[e]at h; cases h
 | some j=>
  rw[e]at h;have(h1,h2,h3,h4):=Nq e;exact⟨j,h1,h,h2,h3,h4⟩
def Np(b:Expr):Prop:=∀ o i,subscripted b false o i=operate [o,i] (getItem o i)
def wz(X:Cx)(r:R2):Prop :=
 ∀ (value slice:Expr) (pins:Qa (Qg×Obj)) (s:Qd) (σ:St) (H:Hp) (x y:V) (v u:Qc) (Q:VK),Inv X pins σ H s->zA x v->zA y u->r x y H Q->
  subscripted slice false v u=operate [v,u] (getItem v u)->wpAny (model X.prog X.w) X.A (subscriptTail value slice v u) (EP X pins σ Q) X.xe s
def MtR(X:Cx)(id:String)(r:V->Qa V->Hp->VK->Prop):Prop :=
 ∀ (pins:Qa (Qg×Obj)) (s:Qd) (σ:St) (H:Hp) (x:V) (xs:Qa V) (v:Qc) (us:Qa Qc) (Q:VK),Inv X pins σ H s->zA x v->zC xs us->r x xs H Q->
  wpAny (model X.prog X.w) X.A (call (.builtin id)<|v::us) (EP X pins σ Q) X.xe s
section
variable{X:Cx}{a b:Expr}
theorem Uo{r:R2}(hr:wz X r)(ha:PE X a ta)(hb:PE X b tb)(hs:Np b):PE X (.Subscript a b pos) (pq r ta tb):=by
 intro pins s σ H Q I h;exact Subscript_<|E2 ha hb I h λv u s2 x y H2 I2 rx ry q=>hr a b pins s2 σ H2 x y v u Q I2 rx ry q<|hs _ _
def EV(K:qc):R2:=λx y H Q=>∃ p xs i v,x=.ref p/\y=.int i/\aO K H p xs/\br xs i=some v/\Q v H
def EU(K:qc):R2:=λx y H Q=>∃ p xs i v,x=.ref p/\y=.int i/\bw K H p xs/\br xs i=some v/\Q v H
theorem XW:wz X (EV X.K):=by
 intro value slice pins s σ H x y v u Q I rx ry h hs;have(p,xs,i,z,rfl,rfl,hq,he,q):=h;cases rx;have(t,rfl):=ry;have(af,r,pl,hz):=I.list hq;have(j,h1,h2,h3,h4,h5):=GY he;have(w,ew,gc):=r.get h2;have hl:=r.length;have hn:=vB;have fin:EP X pins σ Q w s:=⟨z,H,I,gc,q⟩
 by_cases h0:0<=i
 .have hj:i.toNat=j:=by
   rw[seqIndex_of h0 h5]at h1;exact qx h1
  exact item_listR pl.isList h0 (by omega) (by rw[hj]; simpa using ew) fin hs
 .have hj:(i+(af.toArray.size:Int)).toNat=j:=by
   rw[seqIndex_neg (by omega) h4]at h1;rw[List.size_toArray,<-hl];exact qx h1
  exact subscriptTail_builtinR (x:=w) pl.isList.typeIs slot_list_getitem.lookup
   (wpAny_getItem_list_neg (Q:=λr s'=>r=w/\EP X pins σ Q r s') pl.isList (by omega) (by rw[List.size_toArray]<;>omega) (by omega) (by rw[hj]; simpa using ew) ⟨rfl,fin⟩) hs
theorem VX:wz X (EU X.K):=by
 intro value slice pins s σ H x y v u Q I rx ry h hs;have(p,xs,i,z,rfl,rfl,hq,he,q):=h;cases rx;have(t,rfl):=ry;have(af,r,pl,hz):=I.tuple hq;have(j,h1,h2,h3,h4,h5):=GY he;have(w,ew,gc):=r.get h2;have hl:=r.length;have hn:=vB;have fin:EP X pins σ Q w s:=⟨z,H,I,gc,q⟩;exact subscriptTail_builtinR (x:=w) pl.typeIs slot_tuple_getitem.lookup
  (getItem_tuple (j:=j) (Q:=λr s'=>r=w/\EP X pins σ Q r s') pl (by omega) (by omega) (by rw[List.size_toArray,<-hl]; exact h1) (by simpa using ew) ⟨rfl,fin⟩) hs
theorem zlR(af:Qa Qc)(n j:Nat)(u:Qc):Obj.mapSeq (·.setIfInBounds j u) {cls:=.type "list",data:=.seq af.toArray n}={cls:=.type "list",data:=.seq (af.set j u).toArray n}:=by
 simp[Obj.mapSeq]
theorem Inv.lst{p:Qg}{xs:Qa V}(I:Inv X pins σ H s)(h:H p=some (.lst xs)):
  ∃ (af:Qa Qc) (n:Nat),zC xs af/\s.heap.get? p=some {cls:=.type "list",data:=.seq af.toArray n}/\xs.length<=sizeLine:=by
 have(z,af,n,r,e):=I.aq p _ h;exact⟨af,n,r,e,z⟩
theorem Inv.tY{p:Qg}{xs:Qa V}{af its':Qa Qc}{n':Nat}{f:Obj->Obj}(I:Inv X pins σ H s)(h:H p=some (.lst xs))
  (ho:s.heap.get? p=some {cls:=.type "list",data:=.seq af.toArray n}) (hf:f {cls:=.type "list",data:=.seq af.toArray n}={cls:=.type "list",data:=.seq its'.toArray n'}) (r:zC ys its') (hz:ys.length<=sizeLine) (t:Nat):
  Inv X pins σ (upd H p<|.lst ys) {s with heap:=s.heap.update p f,toks:=t}:=by
 have e:(s.heap.update p f).get? p=some {cls:=.type "list",data:=.seq its'.toArray n'}:=by
  rw[Heap.get?_update_self f ho (by rw[hf]<;>rfl),hf]
 refine I.write (x:=p) (e:=p) (by rw[h]; trivial) (.inl rfl) (λb u hb q=>(Ê _ _<|Ne.symm hb).trans q) ⟨_,e⟩ ?_;exact⟨hz,its',n',r,e⟩
def BE:V->V->V->Hp->(Hp->Prop)->Prop:=λo i v H Q=>∃ p xs k j,o=.ref p/\i=.int k/\H p=some (.lst xs)/\eI xs.length k=some j/\Q (upd H p<|.lst<|xs.set j v)
theorem vN:Be X BE:=by
 intro pins s σ H o i v ov iv u Q I ro ri rv h;have(p,xs,k,j,rfl,rfl,hp,hj,q):=h;cases ro;have(t,rfl):=ri;have(af,n,r,ho,hz):=I.lst hp;have(h1,h2,h3,h4):=Nq hj;have hl:=r.length;have hn:=vB;have I':Inv X pins σ (upd H p<|.lst<|xs.set j v) {s with heap:=s.heap.update p (Obj.mapSeq (·.setIfInBounds j u))}:=
  I.tY hp ho (zlR af n j u) (r.set rv j) (by rw[List.length_set]; exact hz) s.toks
 by_cases h0:0<=k
 .have hk:k.toNat=j:=by
   rw[seqIndex_of h0 h4]at h1;exact qx h1
  exact PySem.W.ki_setAt ho h0 (by omega) (by rw[List.size_toArray,<-hl]; exact h4) (by rw[hk]; exact⟨_,I',q⟩)
 .have hk:(k+(af.toArray.size:Int)).toNat=j:=by
   rw[seqIndex_neg (by omega) h3]at h1;rw[List.size_toArray,<-hl];exact qx h1
  exact PySem.W.ki_setBack ho (by omega) (by rw[List.size_toArray,<-hl]; exact h3) (by omega) (by rw[hk]; exact⟨_,I',q⟩)
theorem zi8(lo hi:Qb Int)(n:Nat):(sliceBounds lo hi none n).1=((HT.gx n 0 lo:Nat):Int)/\(sliceBounds lo hi none n).2.1=((HT.gx n n hi:Nat):Int)/\(sliceBounds lo hi none n).2.2=1:=by
 refine⟨?_,?_,rfl⟩
 .cases lo with
  | none=>simp[sliceBounds,HT.gx]
  | some i=>
   simp only[sliceBounds,HT.gx,Option.getD_none,show(1:Int) > 0 by decide,if_true]
   by_cases h:i < 0
   .simp only[h,if_true]<;>omega
   .simp only[h,if_false]<;>omega
 .cases hi with
  | none=>simp[sliceBounds,HT.gx]
  | some i=>
   simp only[sliceBounds,HT.gx,Option.getD_none,show(1:Int) > 0 by decide,if_true]
   by_cases h:i < 0
   .simp only[h,if_true]<;>omega
   .simp only[h,if_false]<;>omega
theorem zif(af:Qa Qc)(lo hi:Qb Int):slicePick af.toArray lo hi none=((af.drop<|HT.gx af.length 0 lo).take<|HT.gx af.length af.length hi - HT.gx af.length 0 lo).toArray:=by
 have(h1,h2,h3):=zi8 lo hi af.toArray.size;unfold slicePick;rw[h1,h2,h3];simp only[sliceRange_one,pick_run,List.size_toArray]<;>rfl
def ET(K:qc):V->Qb Int->Qb Int->Hp->VK->Prop:=λx lo hi H Q=>∃ a xs,x=.ref a/\aO K H a xs/\∀ p,H p=none->Q (.ref p) (upd H p<|.lst<|qM xs lo hi)
theorem XU:D8 X (ET X.K):=by
 intro pins s σ H x v vl vu lo hi sl Q I rx hs pl pu h;have(a,xs,rfl,hx,q):=h;cases rx;have(af,r,ht,hz):=I.list hx;have hlen:=r.length;refine⟨"list",_,slot_list_getitem.lookup,ht.isList.typeIs,?_⟩;refine wpAny_getItem_list_slice ht.isList hs pl pu .none (by simp) ?_ (by rw[List.size_toArray]<;>omega);rw[zif,<-hlen];refine⟨.ref s.heap.objs.size,_,I.laid (t':=s.toks) (o:=.lst (qM xs lo hi)) (λb ob q=>qd _ q) (qe _) ?_,rfl,q _<|I.aq.fresh<|qe _⟩;exact⟨qy (zkm xs lo hi) hz,_,0,(r.drop<|HT.gx xs.length 0 lo).take<|HT.gx xs.length xs.length hi - HT.gx xs.length 0 lo,qg _ rfl⟩
def nM:V->Bool
 | .aF=>true
 | .bl _=>true
 | .int _=>true
 | .str _=>true
 | _=>false
def p8:V->V->Bool
 | .aF,.aF=>true
 | .bl a,.bl b=>a==b
 | .bl a,.int b=>(if a then 1 else 0)==b
 | .int a,.bl b=>a==(if b then 1 else 0)
 | .int a,.int b=>a==b
 | .str a,.str b=>a==b
 | _,_=>false
theorem VW{x:V}{v:Qc}(ry:zA y u)(rx:zA x v)(fy:nM y=true)(fx:nM x=true):SeqAt.EqAt A s u v (p8 y x):=by
 cases y with
 | aF=>
  cases ry;cases x with
  | aF=>cases rx; exact SeqAt.EqAt.same _
  | bl b=>cases rx; exact SeqAt.EqAt.none_bool b
  | int b=>have(t,rfl):=rx; exact SeqAt.EqAt.none_int b t
  | str b=>have(t,rfl):=rx; exact SeqAt.EqAt.none_str b t
  | _=>exact absurd (show false=true from fx) qf
 | bl a=>
  cases ry;cases x with
  | aF=>cases rx; exact SeqAt.EqAt.bool_none a
  | bl b=>cases rx; exact SeqAt.EqAt.bool_bool a b
  | int b=>have(t,rfl):=rx; exact SeqAt.EqAt.bool_int a b t
  | str b=>have(t,rfl):=rx; exact SeqAt.EqAt.bool_str a b t
  | _=>exact absurd (show false=true from fx) qf
 | int a=>
  have(t',rfl):=ry;cases x with
  | aF=>cases rx; exact SeqAt.EqAt.int_none a t'
  | bl b=>cases rx; exact SeqAt.EqAt.int_bool a t' b
  | int b=>have(t,rfl):=rx; exact SeqAt.EqAt.int_int a t' b t
  | str b=>have(t,rfl):=rx; exact SeqAt.EqAt.int_str a t' b t
  | _=>exact absurd (show false=true from fx) qf
 | str a=>
  have(t',rfl):=ry;cases x with
  | aF=>cases rx; exact SeqAt.EqAt.str_none a t'
  | bl b=>cases rx; exact SeqAt.EqAt.str_bool a t' b
  | int b=>have(t,rfl):=rx; exact SeqAt.EqAt.str_int a t' b t
  | str b=>have(t,rfl):=rx; exact SeqAt.EqAt.str_str a t' b t
  | _=>exact absurd (show false=true from fx) qf
 | _=>exact absurd (show false=true from fy) qf
def jA(x:V)(u:Qc):Bool:=match u with
 | .none=>p8 .aF x
 | .bool b=>p8 (.bl b) x
 | .int i _=>p8 (.int i) x
 | .str z _=>p8 (.str z) x
 | _=>false
theorem Mc{x:V}(r:zA y u)(f:nM y=true):jA x u=p8 y x:=by
 cases y with
 | aF=>cases r; rfl
 | bl b=>cases r; rfl
 | int i=>have(t,rfl):=r; rfl
 | str z=>have(t,rfl):=r; rfl
 | _=>exact absurd (show false=true from f) qf
theorem xu{x:V}:∀ {xs:Qa V} {us:Qa Qc},zC xs us->xs.all nM=true->us.any (jA x)=xs.any λy=>p8 y x
 | _,_,.nil,_=>rfl
 | y::xs,u::us,.cons r t,f=>by
  rw[List.all_cons,Bool.and_eq_true]at f;rw[List.any_cons,List.any_cons,Mc r f.1,xu t f.2]
theorem xK{x:V}{v:Qc}(rx:zA x v)(fx:nM x=true):∀ {xs:Qa V} {us:Qa Qc},zC xs us->xs.all nM=true->∀ u∈us,SeqAt.EqAt A s u v<|jA x u
 | _,_,.nil,_=>λu hu=>by cases hu
 | y::xs,u::us,.cons r t,f=>λu' hu=>by
  rw[List.all_cons,Bool.and_eq_true]at f;rcases qv.mp hu with rfl|hu
  .rw[Mc r f.1]; exact VW r rx f.1 fx
  .exact xK rx fx t f.2 u' hu
def yy(x:V)(xs:Qa V):Bool:=xs.any λy=>p8 y x
def rL(K:qc)(neg:Bool):R2:=λx y H Q=>∃ p xs,y=.ref p/\(aO K H p xs\/bw K H p xs)/\nM x=true/\xs.all nM=true/\Q (.bl (if neg then !yy x xs else yy x xs)) H
theorem zoV:bQ X (compareOp .In) (rL X.K false):=by
 intro pins s σ H x y v u Q I rx ry h;have(p,xs,rfl,hq,fx,fs,q):=h;cases ry;rcases hq with hq|hq
 .have(af,r,pl,hz):=I.list hq
  refine SeqAt.in_listAt (jA x) pl.isList (λw hw=>xK rx fx r fs w (by simpa using hw)) ⟨.bl _,H,I,rfl,?_⟩;rw[show af.toArray.any (jA x)=af.any (jA x) by simp,xu r fs];exact q
 .have(af,r,pl,hz):=I.tuple hq
  refine SeqAt.in_tupleAt (jA x) pl (λw hw=>xK rx fx r fs w (by simpa using hw)) ⟨.bl _,H,I,rfl,?_⟩;rw[show af.toArray.any (jA x)=af.any (jA x) by simp,xu r fs];exact q
theorem zi9:bQ X (compareOp .NotIn) (rL X.K true):=by
 intro pins s σ H x y v u Q I rx ry h;have(p,xs,rfl,hq,fx,fs,q):=h;cases ry;rcases hq with hq|hq
 .have(af,r,pl,hz):=I.list hq
  refine SeqAt.notIn_listAt (jA x) pl.isList (λw hw=>xK rx fx r fs w (by simpa using hw)) ⟨.bl _,H,I,rfl,?_⟩;rw[show af.toArray.any (jA x)=af.any (jA x) by simp,xu r fs];exact q
 .have(af,r,pl,hz):=I.tuple hq
  refine SeqAt.notIn_tupleAt (jA x) pl (λw hw=>xK rx fx r fs w (by simpa using hw)) ⟨.bl _,H,I,rfl,?_⟩;rw[show af.toArray.any (jA x)=af.any (jA x) by simp,xu r fs];exact q
theorem zja:fO X (.builtin "len") (λxs H Q=>∃ p ys,xs=[.ref p]/\(aO X.K H p ys\/bw X.K H p ys)/\Q (.int ys.length) H):=by
 intro pins s σ H xs us Q I r h;have(p,ys,rfl,hq,q):=h;have(u,rfl,rx):=l6 r;cases rx;have hn:=vB;rcases hq with hq|hq
 .have(af,r',pl,hz):=I.list hq
  have hlen:=r'.length;exact Calls.call_len_list pl.isList (by simp only[List.size_toArray]<;>omega) ⟨.int ys.length,H,I.tok _,⟨s.toks+1,by rw[List.size_toArray,hlen]⟩,q⟩
 .have(af,r',pl,hz):=I.tuple hq
  have hlen:=r'.length;exact len_tuple pl (by simp only[List.size_toArray]<;>omega) ⟨.int ys.length,H,I.tok _,⟨s.toks+1,by rw[List.size_toArray,hlen]⟩,q⟩
theorem zig:fO X (.type "tuple") (λxs H Q=>∃ p ys,xs=[.ref p]/\((aO X.K H p ys/\∀ l,H l=none->Q (.ref l) (upd H l<|.tup ys))\/(bw X.K H p ys/\Q (.ref p) H))):=by
 intro pins s σ H xs us Q I r h;have(p,ys,rfl,h):=h;have(u,rfl,rx):=l6 r;cases rx;rcases h with⟨hq,q⟩|⟨hq,q⟩
 .have(af,r',pl,hz):=I.list hq
  have hlen:=r'.length;refine call_tuple_list pl.isList (λh' kp=>?_) (by simp only[List.size_toArray]<;>omega);have I1:Inv X pins σ H {s with heap:=h'}:=I.kept (t':=s.toks) kp;have I2:Inv X pins σ (upd H h'.objs.size<|.tup ys) {s with heap:=h'.push {cls:=.type "tuple",data:=.seq af.toArray}}:=
   I1.laid (t':=s.toks) (λb o e=>qd _ e) (qe _) (show zI X.prog X.w X.K _ _ _ (.tup ys) from⟨hz,af,r',oX.new _ _⟩)
  exact⟨.ref h'.objs.size,_,I2,rfl,q _<|I1.aq.fresh<|qe _⟩
 .have(af,r',pl,hz):=I.tuple hq
  exact call_tuple_same pl ⟨.ref p,H,I,rfl,q⟩
def Io(K:qc)(T:String)(x:V)(H:Hp):Prop:=match x with
 | .str _=>T = "str"
 | .int _=>T = "int"
 | .ref p=>(T = "list"/\∃ xs,aO K H p xs)\/(T = "tuple"/\∃ o,K.lookup p=some o/\o.cls=.type "tuple"/\o.dict=none)\/
   (T = "dict"/\((∃ kvs,H p=some (.dK kvs))\/∃ kvs,H p=some (.dT kvs)))\/(T = "set"/\∃ S n,H p=some (.set S n))
 | _=>False
theorem Mb{x:V}{v:Qc}(I:Inv X pins σ H s)(r:zA x v)(ty:Io X.K T x H):
  s.TypeIs v T/\∀ a,v=.ref a->∃ ob,s.heap.get? a=some ob/\ob.dict=none:=by
 cases x with
 | str z=>
  have(t,rfl):=r;cases(show T = "str" from ty);exact⟨typeIs_str s z t,λ_ e=>nomatch e⟩
 | int i=>
  have(t,rfl):=r;cases(show T = "int" from ty);exact⟨typeIs_int s i t,λ_ e=>nomatch e⟩
 | ref p=>
  cases r;rcases ty with⟨rfl,xs,hq⟩|⟨rfl,o,hk,hc,hd⟩|⟨rfl,hk⟩|⟨rfl,S,n,hk⟩
  .have(af,_,pl,_):=I.list hq
   refine⟨pl.isList.typeIs,λa e=>?_⟩;cases e;have(o,n,e,c,hd,_):=pl;exact⟨o,e,hd⟩
  .refine⟨⟨o,I.aU p o hk,hc⟩,λa e=>?_⟩
   cases e;exact⟨o,I.aU _ o hk,hd⟩
  .have z:∃ o,s.heap.get? p=some o/\o.ExactDict:=by
    rcases hk with⟨kvs,hk⟩|⟨kvs,hk⟩
    .have(_,_,_,_,o,_,_,e,ex,_):=I.aq p _ hk
     exact⟨o,e,ex⟩
    .have(_,_,_,_,o,_,_,e,ex,_):=I.aq p _ hk
     exact⟨o,e,ex⟩
   have(o,e,ex):=z;refine⟨⟨o,e,ex.1⟩,λa e2=>?_⟩;cases e2;exact⟨o,e,ex.2.1⟩
  .have(o,_,_,_,e,ex,_):=I.aq p _ hk
   refine⟨⟨o,e,ex.1⟩,λa e2=>?_⟩;cases e2;exact⟨o,e,ex.2.1⟩
 | _=>exact False.elim ty
def Dv(K:qc)(T:String)(r:V->Qa V->Hp->VK->Prop)(to:TE)(t:TA):TE:=λσ H Q=>to σ H λx H1=>Io K T x H1/\t σ H1 λxs H2=>r x xs H2 Q
variable{es:Qa Expr}{to:TE}{t:TA}{name:Str}{id:String}{r:V->Qa V->Hp->VK->Prop}
theorem Um(pa:PlainAttrs T)(slot:Slot T name id)(yD:typeOf (.builtin id)=pure (.type "method_descriptor"))(hm:MtR X id r)(ho:PE X o to)(ha:PA X (e::es) t)
  (cW:attributeBase o name X.env (eval o X.env)=eval o X.env:=by rfl)
  (m5:((backTo aM<|starEach (e::es) X.env).all (λx=>!x.1) && (backToKw aM<|keywordEach [] X.env).all (λx=>x.1.isSome)
   && decide ((e::es).length+([]:Qa Keyword).length+(if([]:Qa Keyword).isEmpty then 0 else 1) < 30))=true:=by rfl)
  (cS:(apos.endLine==aM.line)=true:=by rfl) (hs:starEach (e::es) X.env=(false,eval e X.env)::starEach es X.env:=by rfl) (ub:(backTo aM<|starEach es X.env).any (·.1)=false:=by rfl):
  PE X (.Call (.Attribute o name apos) (e::es) [] aM) (Dv X.K T r to t):=by
 intro pins s σ H Q I h;refine wpAny_Call_method_late cW m5 cS rfl<|aw (ho pins s σ H _ I h) λv s1 hZ=>?_;have(x,H1,I1,r1,ty,q1):=hZ;have(h1,h2):=Mb I1 r1 ty;refine⟨T,id,pa,slot,yD,h1,h2,?_⟩;have hA:=ha aM pins s1 σ H1 _ I1 q1;rw[hs]at hA ⊢;refine Ü (by show(false || (backTo aM<|starEach es X.env).any (·.1))=false; rw[ub]<;>rfl)<|ó ?_;exact aw hA λus s2 ⟨vs,H2,I2,r2,q2⟩=>hm pins s2 σ H2 x vs v us Q I2 r1 r2 q2
end
def wy(X:Cx)(id:String)(r:V->Qa V->Hp->VK->Prop):Prop :=
 ∀ (pins:Qa (Qg×Obj)) (s:Qd) (σ:St) (H:Hp) (x:V) (xs:Qa V) (v:Qc) (us:Qa Qc) (Q:VK),Inv X pins σ H s->zA x v->zC xs us->r x xs H Q->
  wpAny (model X.prog X.w) X.A (call (.builtin id)<|v::us) (EP X pins σ Q) X.xe s
theorem zC.one{x:V}(h:zC [x] us):∃ u,us=[u]/\zA x u:=by
 cases h with
 | cons r t=>cases t; exact⟨_,rfl,r⟩
theorem zC.two{x:V}(h:zC [x,y] us):∃ u v,us=[u,v]/\zA x u/\zA y v:=by
 cases h with
 | cons r t=>
  have(v,rfl,q):=zC.one t;exact⟨_,v,rfl,r,q⟩
theorem zC.rep{xs:Qa V}(h:zC xs us):∀ k:Nat,zC (List.replicate k xs).flatten (List.replicate k us).flatten
 | 0=>.nil
 | k+1=>by
  rw[List.replicate_succ,List.replicate_succ,List.flatten_cons,List.flatten_cons];exact zC.append h<|zC.rep h k
theorem HB(af:Qa Qc):∀ (k:Nat) (acc:Qa Qc),
  List.foldl (λx1 x2=>x1++x2) acc.toArray (List.replicate k af.toArray)=(acc++(List.replicate k af).flatten).toArray
 | 0,acc=>by simp
 | k+1,acc=>by
  have e:acc.toArray++af.toArray=(acc++af).toArray:=by simp
  have e2:(acc++af)++(List.replicate k af).flatten=acc++(List.replicate (k+1) af).flatten:=by
   rw[List.replicate_succ,List.flatten_cons,List.append_assoc]
  rw[<-e2,<-HB af k (acc++af),<-e,List.replicate_succ,List.foldl_cons]
section
variable{X:Cx}{l b:Qg}{xs zs:Qa V}
theorem Inv.yp{af its':Qa Qc}{f:Array Qc->Array Qc}{t':Nat}(I:Inv X pins σ H s)(hH:H l=some (.lst xs))
  (e:s.heap.get? l=some {cls:=.type "list",data:=.seq af.toArray n}) (hf:f af.toArray=its'.toArray) (hv:zC ys its') (hz:ys.length<=sizeLine):
  Inv X pins σ (upd H l<|.lst ys) {s with heap:=s.heap.update l (Obj.mapSeq f),toks:=t'}:=by
 have q:=PySem.IsL.update e f;rw[hf]at q;refine I.write (x:=l) (e:=l) (by rw[hH]; exact trivial) (.inl rfl) (λb' u hb hu=>(Ê s.heap (Obj.mapSeq f)<|Ne.symm hb).trans hu) ⟨_,q⟩ ?_;exact⟨hz,its',_,hv,q⟩
theorem Inv.yq{af:Qa Qc}{t':Nat}(I:Inv X pins σ H s)(hv:zC ys af)(hz:ys.length<=sizeLine):
  Inv X pins σ (upd H s.heap.objs.size<|.lst ys) {s with heap:=s.heap.push {cls:=.type "list",data:=.seq af.toArray},toks:=t'}:=
 I.laid (λ_ _ q=>qd _ q) (qe _) ⟨hz,af,0,hv,qg _ rfl⟩
theorem Inv.fresh(I:Inv X pins σ H s):H s.heap.objs.size=none:=I.aq.fresh (qe _)
theorem Inv.pL(I:Inv X pins σ H s)(hH:H l=some (.lst xs)):xs.length<=sizeLine/\∃ (af:Qa Qc) (n:Nat),zC xs af/\xs.length=af.length/\s.heap.get? l=some {cls:=.type "list",data:=.seq af.toArray n}:=by
 have(z,af,n,r,e):=I.aq l _ hH;exact⟨z,af,n,r,r.length,e⟩
theorem N2(h:n<=sizeLine):Builtin.List.listTooLong n=false:=by
 unfold Builtin.List.listTooLong;exact decide_eq_false (by omega)
end
section
variable{X:Cx}
def GC:V->Qa V->Hp->VK->Prop:=λx vs H Q=>∃ l xs y,x=.ref l/\vs=[y]/\H l=some (.lst xs)/\xs.length < sizeLine/\Q .aF (upd H l<|.lst<|xs++[y])
theorem rE:wy X "list.append" GC:=by
 intro pins s σ H x vs v us Q I rx rv h;have(l,xs,y,rfl,rfl,hH,hz,q):=h;cases rx;have(u,rfl,ru):=rv.one;have(z,af,n,r,hl,e):=I.pL hH;refine call_meets F.slot_list_append ⟨_,e,rfl⟩ F.entry_list_append (F.args_list_append_2 _ _) (PySem.list_append l af.toArray n u (by rw[List.size_toArray]; omega)) ⟨e,?_⟩;refine⟨.aF,_,I.yp (its':=af++[u]) hH e (by simp) (r.append<|.cons ru .nil) ?_,rfl,q⟩;rw[qt,List.length_singleton];omega
def Nn:V->Qa V->Hp->VK->Prop:=λx vs H Q=>∃ l b xs zs,x=.ref l/\vs=[.ref b]/\H l=some (.lst xs)/\H b=some (.lst zs)/\xs.length+zs.length<=sizeLine/\Q .aF (upd H l<|.lst<|xs++zs)
theorem Ov:wy X "list.extend" Nn:=by
 intro pins s σ H x vs v us Q I rx rv h;have(l,b,xs,zs,rfl,rfl,hH,hB,hz,q):=h;cases rx;have(u,rfl,ru):=rv.one;cases ru;have(z,af,n,r,hl,e):=I.pL hH;have(z2,bP,n2,r2,i8,e2):=I.pL hB;have hsz:af.toArray.size+bP.toArray.size<=sizeLine:=by rw[List.size_toArray,List.size_toArray]; omega
 have mX:¬(!af.toArray.isEmpty && Builtin.List.listTooLong (af.toArray.size+bP.toArray.size))=true:=by
  rw[N2 hsz,Bool.and_false];exact qf
 refine call_meets F.slot_list_extend ⟨_,e,rfl⟩ F.entry_list_extend (F.args_list_extend_2 _ _)
  (AutoSeq1.list_extend_list_list_0 l af.toArray n b bP.toArray n2 mX (by rw[List.size_toArray]; omega) (by omega)) ⟨e,e2,?_⟩
 refine⟨.aF,_,I.yp (its':=af++bP) hH e (by simp) (r.append r2) ?_,rfl,q⟩;rw[qt];omega
def Ks:R2:=λx y H Q=>∃ l k xs,x=.ref l/\y=.int k/\H l=some (.lst xs)/\-(2^63)<=k/\k < 2^63/\xs.length * k.toNat<=sizeLine/\
 ∀ p,H p=none->Q (.ref p) (upd H p<|.lst (List.replicate k.toNat xs).flatten)
theorem GB(xs:Qa α)(k:Nat):(List.replicate k xs).flatten.length=k * xs.length:=by
 induction k with
 | zero=>simp
 | succ k ih=>rw[List.replicate_succ,List.flatten_cons,qt,ih,Nat.succ_mul,Nat.add_comm]
theorem BX:bQ X (binaryOp .Mult) Ks:=by
 intro pins s σ H x y v u Q I rx ry h;have(l,k,xs,rfl,rfl,hH,h1,h2,hz,q):=h;cases rx;have(t,rfl):=ry;have(z,af,n,r,hl,e):=I.pL hH;have hlen:af.toArray.size * k.toNat<=sizeLine:=by rw[List.size_toArray,<-hl]; exact hz
 have JN:¬af.toArray.size * k.toNat > (2^63 - 1) / 8:=by
  have:(sizeLine:Nat)<=(2^63 - 1) / 8:=by decide
  omega
 have JK:¬(!Builtin.List.listFitsIndex k)=true:=by
  rw[fitsIndex_both h1 h2];exact qf
 have mX:¬Builtin.List.listTooLong (af.toArray.size * k.toNat)=true:=by
  rw[N2 hlen];exact qf
 have JG:List.foldl (λx1 x2=>x1++x2) #[] (List.replicate (if af.toArray.isEmpty=true then 0 else k.toNat) af.toArray)=(List.replicate k.toNat af).flatten.toArray:=by
  have f0:∀ m:Nat,List.foldl (λx1 x2=>x1++x2) #[] (List.replicate m af.toArray)=(List.replicate m af).flatten.toArray:=λm=>by
   have:=HB af m [];rw[List.nil_append]at this;exact this
  rw[f0];cases af with
  | nil=>simp
  | cons a r'=>rw[if_neg (by simp)]
 refine wpAny_binaryOp_repeat_ref (T := "list") (U := "int") (by decide) ⟨_,e,rfl⟩ (λs'=>typeIs_int s' k t) noFill_list_mul F.fills_int_mul F.slot_int_rmul repeat_list F.slot_int_index.lookup
  (call_meets F.slot_int_rmul (typeIs_int s k t) F.entry_int_rmul (F.args_int_rmul_2 _ _) (int___rmul___int_list k t l af.toArray n)
   ⟨e,rfl,⟨_,e,rfl⟩,call_meets F.slot_list_mul ⟨_,e,rfl⟩ F.entry_list_mul (F.args_list_mul_2 _ _) (AutoListH.list___mul___list_int_3 l af.toArray n k t JK JN mX) ⟨e,?_⟩⟩)
 rw[JG];exact⟨.ref _,_,I.yq (t':=s.toks) (r.rep k.toNat) (by rw[GB,Nat.mul_comm]; exact hz),rfl,q _ I.fresh⟩
end
section
end
section
variable{X:Cx}
end
section
variable[DecidableEq κ]
def dq(kvs:Qa (κ×V))(k:κ):Qb V:=(kvs.find? λkv=>decide<|kv.1=k).map (·.2)
def cN(kvs:Qa (κ×V))(k:κ)(v:V):Qa (κ×V):=
 if(kvs.any λkv=>decide<|kv.1=k)=true then kvs.map (λkv=>if kv.1=k then(kv.1,v)else kv)else kvs++[(k,v)]
theorem CF{p:κ×V}{r:Qa (κ×V)}{k:κ}(e:p.1=k):dq (p::r) k=some p.2:=by simp[dq,List.find?_cons,e]
theorem CD{p:κ×V}{r:Qa (κ×V)}{k:κ}(e:¬p.1=k):dq (p::r) k=dq r k:=by simp[dq,List.find?_cons,e]
theorem He(k:κ):∀ kvs:Qa (κ×V),(kvs.any λkv=>decide<|kv.1=k)=(dq kvs k).isSome
 | []=>rfl
 | p::r=>by
  rw[List.any_cons]
  by_cases e:p.1=k
  .simp only[CF e,decide_eq_true e,Bool.true_or,Option.isSome_some]
  .rw[CD e,decide_eq_false e,Bool.false_or]; exact He k r
theorem xO(kvs:Qa (κ×V))(k:κ)(v:V):(cN kvs k v).length<=kvs.length+1:=by
 unfold cN;split
 .rw[List.length_map]; omega
 .rw[qt,qu,List.length_nil]; omega
theorem gk.bA{o:Qb V}{u:Qb Qc}(r:gk o u):o.isSome=u.isSome:=by
 cases o with
 | none=>cases u with
  | none=>rfl
  | some _=>exact(show False from r).elim
 | some _=>cases u with
  | none=>exact(show False from r).elim
  | some _=>rfl
theorem gk.getD{o:Qb V}{u:Qb Qc}{d:V}{d':Qc}(r:gk o u)(rd:zA d d'):zA (o.getD d) (u.getD d'):=by
 cases o with
 | none=>cases u with
  | none=>exact rd
  | some _=>exact(show False from r).elim
 | some _=>cases u with
  | none=>exact(show False from r).elim
  | some _=>exact r
theorem KV.val{kvs:Qa (κ×V)}{vs:Qa (κ×Qc)}(r:KV kvs vs)(k:κ):gk (dq kvs k) (valueAt vs k):=by
 unfold KV at r
 induction r with
 | nil=>exact True.intro
 | @cons p q ps qs h t ih=>
  have(h1,h2):=h
  by_cases e:p.1=k
  .have e':q.1=k:=h1.symm.trans e
   have b:valueAt (q::qs) k=some q.2:=by simp[valueAt,List.find?_cons,e']
   rw[CF e,b]; exact h2
  .have e':¬q.1=k:=λz=>e<|h1.trans z
   have b:valueAt (q::qs) k=valueAt qs k:=by simp[valueAt,List.find?_cons,e']
   rw[CD e,b]; exact ih
theorem KV.any{kvs:Qa (κ×V)}{vs:Qa (κ×Qc)}(r:KV kvs vs)(k:κ):(kvs.any λkv=>decide<|kv.1=k)=vs.any λkv=>decide (kv.1=k):=by
 unfold KV at r
 induction r with
 | nil=>rfl
 | cons h t ih=>rw[List.any_cons,List.any_cons,ih,h.1]
theorem KV.jk{kvs:Qa (κ×V)}{vs:Qa (κ×Qc)}(r:KV kvs vs)(k:κ)(ry:zA y u):
  KV (kvs.map λkv=>if kv.1=k then(kv.1,y)else kv) (vs.map λkv=>if kv.1=k then(kv.1,u)else kv):=by
 unfold KV at r ⊢
 induction r with
 | nil=>exact .nil
 | @cons p q ps qs h t ih=>
  rw[List.map_cons,List.map_cons];refine .cons ?_ ih;have(h1,h2):=h
  by_cases e:p.1=k
  .rw[if_pos e,if_pos<|h1.symm.trans e]; exact⟨h1,ry⟩
  .rw[if_neg e,if_neg λz=>e<|h1.trans z]; exact⟨h1,h2⟩
theorem KV.put{kvs:Qa (κ×V)}{vs:Qa (κ×Qc)}(r:KV kvs vs)(k:κ)(ry:zA y u):KV (cN kvs k y) (stored vs k u):=by
 unfold cN stored;rw[r.any k]
 by_cases e:(vs.any λkv=>decide<|kv.1=k)=true
 .rw[if_pos e,if_pos e]; exact r.jk k ry
 .rw[if_neg e,if_neg e]; exact Paired.snoc r ⟨rfl,ry⟩
theorem KV.length{kvs:Qa (κ×V)}{vs:Qa (κ×Qc)}(r:KV kvs vs):kvs.length=vs.length:=Paired.length r
end
theorem sN{k:Key}(r:zA (kV k) u):(zD P w).is k u=true:=by
 cases k with
 | inl i=>have(t,e):=(show ∃ t,u=Value.int i t from r); subst e; exact zkb P w i t
 | inr x=>have(t,e):=(show ∃ t,u=Value.str x t from r); subst e; exact zkc P w x t
theorem HA:∀ {ks:Qa Key} {us:Qa Qc},zC (ks.map kV) us->ItemsAre (zD P w) ks us
 | [],_,r=>by rw[List.map_nil]at r; cases r; exact .nil
 | k::ks,_,r=>by
  rw[List.map_cons]at r;cases r with
  | cons h t=>exact .cons (sN h)<|HA t
abbrev KT(K:qc)(H:Hp):Qa (Qa Key×V)->Qa (Qa Key×Qg×Qc)->Prop:=Paired λp q=>p.1=q.1/\aK K H q.2.1 (p.1.map kV)/\zA p.2 q.2.2
theorem KT.val{xs:Qa (Qa Key×Qg×Qc)}(r:KT K H kvs xs)(k:Qa Key):gk (dq kvs k) ((atKey xs k).map (·.2)):=by
 induction r with
 | nil=>exact True.intro
 | @cons p q ps qs h t ih=>
  have(h1,_,h2):=h
  by_cases e:p.1=k
  .have e':q.1=k:=h1.symm.trans e
   have b:atKey (q::qs) k=some q.2:=by simp[atKey,List.find?_cons,e']
   rw[CF e,b]; exact h2
  .have e':¬q.1=k:=λz=>e<|h1.trans z
   have b:atKey (q::qs) k=atKey qs k:=by simp[atKey,List.find?_cons,e']
   rw[CD e,b]; exact ih
theorem KT.jk{xs:Qa (Qa Key×Qg×Qc)}(r:KT K H kvs xs)(k:Qa Key)(ry:zA y u):
  KT K H (kvs.map λkv=>if kv.1=k then(kv.1,y)else kv) (xs.map<|putAt k u):=by
 induction r with
 | nil=>exact .nil
 | @cons p q ps qs h t ih=>
  rw[List.map_cons,List.map_cons];refine .cons ?_ ih;have(h1,h2,h3):=h;unfold putAt
  by_cases e:p.1=k
  .rw[if_pos e,if_pos<|h1.symm.trans e]; exact⟨h1,h2,ry⟩
  .rw[if_neg e,if_neg λz=>e<|h1.trans z]; exact⟨h1,h2,h3⟩
theorem KT.put{xs:Qa (Qa Key×Qg×Qc)}(r:KT K H kvs xs)(k:Qa Key){b:Qg}(hb:aK K H b (k.map kV))(ry:zA y u):
  KT K H (cN kvs k y) (storedH xs k b u):=by
 have e:(kvs.any λkv=>decide<|kv.1=k)=(atKey xs k).isSome:=by
  rw[He,(r.val k).bA,Option.isSome_map]
 unfold cN storedH;rw[e]
 by_cases q:(atKey xs k).isSome=true
 .rw[if_pos q,if_pos q]; exact r.jk k ry
 .rw[if_neg q,if_neg q]; exact Paired.snoc r ⟨rfl,hb,ry⟩
theorem KT.keeps{xs:Qa (Qa Key×Qg×Qc)}(r:KT K H kvs xs)(ht:∀ b ys,H b=some (.tup ys)->H' b=some (.tup ys)):KT K H' kvs xs :=
 Paired.gL r λ_ _ z=>⟨z.1,z.2.1.keeps ht,z.2.2⟩
section
theorem BD{u:HO}(ok:bE P w K H h)(e:Rd H a u):zI P w K H h a u:=e.ok ok
theorem vf{kvs:Qa (Key×V)}(ok:bE P w K H h)(e:Rd H a (.dK kvs)):kvs.length<=sizeLine/\(a==sysModules)=false/\∃ vs,KV kvs vs/\h.DictOf (zD P w) a vs :=
 show zI P w K H h a (.dK kvs) from BD ok e
theorem Ul{kvs:Qa (Key×V)}(ok:bE P w K H h)(e:H a=some (.dK kvs)):kvs.length<=sizeLine/\(a==sysModules)=false/\∃ vs,KV kvs vs/\h.DictOf (zD P w) a vs:=vf ok (.inl e)
theorem oV(eG:K.In h)(ok:bE P w K H h)(e:aK K H a (ks.map kV)):(tupleKind<|zD P w).is h ks a:=by
 rcases e with e|⟨o,af,n,hk,hc,hs,_,r,_⟩
 case inr=>exact⟨o,af,n,eG a o hk,hc,hs,by simpa using HA r⟩
 obtain⟨_,af,r,o,h1,h2,⟨n,h3⟩,_⟩:=(show zI P w K H h a (.tup<|ks.map kV) from ok a _ e);exact⟨o,af.toArray,n,h1,h2,h3,by simpa using HA r⟩
theorem sM(eG:K.In h)(ok:bE P w K H h)(e:Rd H a (.dT kvs)):kvs.length<=sizeLine/\(a==sysModules)=false/\
  ∃ xs,KT K H kvs xs/\h.DictOfH (tupleKind<|zD P w) a xs:=by
 have(z,y,xs,r,o,es,ep,h1,h2,h3,h4,h5):=(show zI P w K H h a (.dT kvs) from BD ok e);refine⟨z,y,xs,r,o,es,ep,h1,h2,h3,h4,λx hx=>?_,h5⟩;have all:∀ {l:Qa (Qa Key×V)} {m:Qa (Qa Key×Qg×Qc)},KT K H l m->∀ x∈m,(tupleKind<|zD P w).is h x.1 x.2.1:=by
  intro l m q
  induction q with
  | nil=>intro x hx; exact nomatch hx
  | @cons p q ps qs hq t ih=>
   intro x hx;rcases qv.mp hx with e|hx
   .subst e
    exact oV eG ok (by rw[<-hq.1]; exact hq.2.1)
   .exact ih x hx
 exact all r x hx
theorem BC(eG:K.In h)(ok:bE P w K H h)(e:H a=some (.dT kvs)):kvs.length<=sizeLine/\(a==sysModules)=false/\
  ∃ xs,KT K H kvs xs/\h.DictOfH (tupleKind<|zD P w) a xs:=sM eG ok (.inl e)
end
def oE(K:qc)(H:Hp)(a:Qg)(y:V)(r:Qb V):Prop :=
 (∃ kvs k,Rd H a (.dK kvs)/\y=kV k/\r=dq kvs k)\/∃ kvs k b,Rd H a (.dT kvs)/\y=.ref b/\aK K H b (k.map kV)/\r=dq kvs k
def qL(K:qc)(H:Hp)(a:Qg)(y v:V)(H':Hp):Prop :=
 (∃ kvs k,H a=some (.dK kvs)/\y=kV k/\kvs.length < sizeLine/\H'=upd H a (.dK<|cN kvs k v))\/
 ∃ kvs k b,H a=some (.dT kvs)/\y=.ref b/\aK K H b (k.map kV)/\kvs.length < sizeLine/\H'=upd H a (.dT<|cN kvs k v)
theorem qL.k{kvs:Qa (Key×V)}{k:Key}{v:V}(e:H a=some (.dK kvs))(hl:kvs.length < sizeLine):qL K H a (kV k) v (upd H a<|.dK<|cN kvs k v):=.inl ⟨kvs,k,e,rfl,hl,rfl⟩
theorem qL.t{b:Qg}{k:Qa Key}{v:V}(e:H a=some (.dT kvs))(eb:aK K H b (k.map kV))(hl:kvs.length < sizeLine):
  qL K H a (.ref b) v (upd H a<|.dT<|cN kvs k v):=.inr ⟨kvs,k,b,e,rfl,eb,hl,rfl⟩
section
variable{X:Cx}{v:V}{r:Qc}{o:Qb V}
theorem Inv.D1(I:Inv X pins σ H s):sysModules < s.heap.objs.size:=by
 have h:mainGlobals < s.heap.objs.size:=(I.mod.glob.keeps I.bk).lt;exact ù (by decide) h
theorem zoW(hu:A.units+1 < cLine)(I:Inv X pins σ H s)(g:oE X.K H a y (some v))(ry:zA y u)(h:∀ w' s',Inv X pins σ H s'->zA v w'->Q w' s'):
  wpAny (model X.prog X.w) A (getItem (.ref a) u) Q E s:=by
 rcases g with⟨kvs,k,e,ey,l⟩|⟨kvs,k,b,e,ey,eb,l⟩
 .subst ey
  have(z,hd,vs,rel,dd):=vf I.aq e;have(w',hw,gc):=gk.some_of (v:=v) (o:=valueAt vs k) (by rw[l]; exact rel.val k);exact wpAny_getItem_of (sN ry) dd.mapOf hw<|h w' _ (I.tok _) gc
 .subst ey
  cases(show u=Value.ref b from ry);have(z,hd,xs,rel,dd):=sM I.aU I.aq e;have(w',hw,gc):=gk.some_of (v:=v) (o:=(atKey xs k).map (·.2)) (by rw[l]; exact rel.val k);have(p,hp,kW):=qr.mp hw;refine wpAny_getItem_heap (tupleKind_room_in1 hu) (oV I.aU I.aq eb) dd hp ?_;rw[kW];exact h w' _ (I.tok _) gc
theorem zBv(hu:A.units+1 < cLine)(I:Inv X pins σ H s)(g:oE X.K H a y o)(ry:zA y u)(h:∀ s',Inv X pins σ H s'->Q (.bool o.isSome) s'):
  wpAny (model X.prog X.w) A (compareOp .In u<|.ref a) Q E s:=by
 rcases g with⟨kvs,k,e,ey,l⟩|⟨kvs,k,b,e,ey,eb,l⟩
 .subst ey
  have(z,hd,vs,rel,dd):=vf I.aq e;refine wpAny_in_of (sN ry) hd dd.mapOf ?_;rw[<-(rel.val k).bA,<-l];exact h _<|I.tok _
 .subst ey
  cases(show u=Value.ref b from ry);have(z,hd,xs,rel,dd):=sM I.aU I.aq e;refine wpAny_in_heap (tupleKind_room_in1 hu) (oV I.aU I.aq eb) hd dd ?_;have q:=(rel.val k).bA;rw[Option.isSome_map]at q;rw[<-q,<-l];exact h _<|I.tok _
theorem vD{t':Nat}{ob:HO}(I:Inv X pins σ H s)(mu:AA (H a))(hs:Heap.SameBut a s.heap h')(he:∃ q,h'.get? a=some q)(new:zI X.prog X.w X.K (upd H a ob) h' a ob):
  Inv X pins σ (upd H a ob) {s with heap:=h',toks:=t'}:=
 I.write (x:=a) (e:=a) mu (.inl rfl) (λb q hb z=>(hs.2 b hb).trans z) he new
theorem VV{kvs:Qa (Key×V)}{vs:Qa (Key×Qc)}(z:kvs.length<=sizeLine)(hd:(a==sysModules)=false)(rel:KV kvs vs)(dd:h'.DictOf (zD P w) a vs):
  zI P w K H' h' a (.dK kvs):=⟨z,hd,vs,rel,dd⟩
theorem zoX{Q:Unit->Qd->Prop}(hu:A.units+1 < cLine)(I:Inv X pins σ H s)(g:qL X.K H a y v H')(ry:zA y u)(rv:zA v r)(h:∀ s',Inv X pins σ H' s'->Q () s'):
  wpAny (model X.prog X.w) A (setItem (.ref a) u r) Q E s:=by
 rcases g with⟨kvs,k,e,ey,l,eH⟩|⟨kvs,k,b,e,ey,eb,l,eH⟩
 .subst ey eH
  have(z,hd,vs,rel,dd):=Ul I.aq e;have hz:vs.length<=sizeLine:=by rw[<-rel.length]; exact z
  have hl:(cN kvs k v).length<=sizeLine:=by have:=xO kvs k v; omega
  refine wpAny_setItem_pairs (hsz:=hz) (sN ry) dd λh' lP hs=>h _ ?_;have he:∃ q,h'.get? a=some q:=let ⟨q,_,_,hq,_⟩:=lP; ⟨q,hq⟩;exact vD I (by rw[e]; exact True.intro) hs he<|VV hl hd (rel.put k rv) lP
 .subst ey eH
  cases(show u=Value.ref b from ry);have(z,hd,xs,rel,dd):=BC I.aU I.aq e;have hz:xs.length<=sizeLine:=by rw[<-Paired.length rel]; exact z
  have hl:(cN kvs k v).length<=sizeLine:=by have:=xO kvs k v; omega
  refine wpAny_setItem_heap (hsz:=hz) (tupleKind_room_in1 hu) (oV I.aU I.aq eb) dd λh' lP hs=>h _ ?_;have(q,es,ep,hq,h2,h3,h4,_,h5):=lP;refine vD I (by rw[e]; exact True.intro) hs ⟨q,hq⟩ ⟨hl,hd,_,(rel.put k eb rv).keeps λc ys ec=>?_,q,es,ep,hq,h2,h3,h4,h5⟩;rw[zq (qS ec e (λz=>nomatch z))];exact ec
end
section
variable{X:Cx}{kvs:Qa (Key×V)}{k:Key}
end
def AW(i:Expr):Prop:=∀ ov iv,subscripted i false ov iv=operate [ov,iv] (getItem ov iv)
theorem Nm{slice:Expr}{id:String}
  (hl:typeLookup (.type T) "__getitem__"=pure (some<|.builtin id)) (hs:AW slice)
  (h:wpAny (model prog w) A (eval value env) (λo aB=>wpAny (model prog w) A (eval slice env) (λi f9=>f9.TypeIs o T/\wpAny (model prog w) A (getItem o i) Q E f9) E aB) E s):
  wpAny (model prog w) A (eval (.Subscript value slice pos) env) Q E s:=by
 refine Subscript_<|wpAny_mono h (λo aB t4=>wpAny_mono t4 (λi f9 tZ=>?_) λ_ _ x=>x) λ_ _ x=>x;have(hT,tZ):=tZ;unfold subscriptTail;refine qa ?_;rw[getitemInPython_of_ne hT.not_modules];refine qa<|wpAny_specialOf hT hl ?_;have fin:wpAny (model prog w) A (subscripted slice false o i) (λr xZ=>wpAny (model prog w) A (letTemporaryGo value o r >>= λ_=>pure r) Q E xZ) E f9:=by
  rw[hs o i];exact wpAny_operating (wpAny_mono tZ (λr xZ Jp=>qa<|wpAny_letTemporaryGo<|qb Jp) λ_ _ x=>x)
 first
  | exact qb<|qa fin
  | exact qa<|qb<|qa fin
  | exact qa fin
theorem zkp{X:Cx}{o:Qb V}(I:Inv X pins σ H s)(g:oE X.K H a y o):s.TypeIs (.ref a) "dict":=by
 rcases g with⟨kvs,k,e,_,_⟩|⟨kvs,k,b,e,_,_,_⟩
 .have(_,_,vs,_,dd):=vf I.aq e
  exact dd.typeIs
 .have(_,_,xs,_,dd):=sM I.aU I.aq e
  exact dd.typeIs
def FG(K:qc)(td ty:TE):TE:=λσ H Q=>td σ H λx H1=>ty σ H1 λy H2=>∃ a v,x=.ref a/\oE K H2 a y (some v)/\Q v H2
def ES(K:qc)(ty td:TE):TE:=λσ H Q=>ty σ H λy H1=>td σ H1 λx H2=>∃ a o,x=.ref a/\oE K H2 a y o/\Q (.bl o.isSome) H2
def FF(K:qc)(td ty tv:TE):TS:=λD σ H=>tv σ H λv H1=>td σ H1 λx H2=>ty σ H2 λy H3=>∃ a H4,x=.ref a/\qL K H3 a y v H4/\D.nx σ H4
section
variable{X:Cx}{i:Expr}
theorem XS(hu:X.A.units+1 < cLine)(ho:PE X o td)(hi:PE X i ty)(hs:AW i):PE X (.Subscript o i pos) (FG X.K td ty):=by
 intro pins s σ H Q I h;refine Nm PySem.F.slot_dict_getitem.lookup hs<|aw (ho pins s σ H _ I h) λu s1 ⟨x,H1,I1,rx,q1⟩=>aw (hi pins s1 σ H1 _ I1 q1) λiv s2 hZ=>?_;have(y,H2,I2,ry,a,v,ex,g,q2):=hZ;subst ex;obtain rfl:u=Value.ref a:=rx;exact⟨zkp I2 g,zoW hu I2 g ry λw' s3 I3 gc=>⟨v,H2,I3,gc,q2⟩⟩
theorem VR(hu:X.A.units+1 < cLine)(hi:PE X i ty)(ho:PE X o td):PC X .In i o (ES X.K ty td):=by
 intro pins s σ H Q I h;refine aw (hi pins s σ H _ I h) λiv s1 ⟨y,H1,I1,ry,q1⟩=>aw (ho pins s1 σ H1 _ I1 q1) λu s2 hZ=>?_;have(x,H2,I2,rx,a,ov,ex,g,q2):=hZ;subst ex;obtain rfl:u=Value.ref a:=rx;exact zBv hu I2 g ry λs3 I3=>⟨.bl ov.isSome,H2,I3,rfl,q2⟩
theorem XR(hu:X.A.units+1 < cLine)(ho:PE X o td)(hi:PE X i ty)(hv:PE X value tv)(hs:swapsWith value (some<|.Subscript o i pos') pos.line X.env=pure false):
  PS X (.Assign [.Subscript o i pos'] value pos) (FF X.K td ty tv):=by
 intro pins s σ H D I h;refine wpAny_Assign_Subscript (aw (hv pins s σ H _ I h) λr s1 ⟨v,H1,I1,rv,q1⟩=>aw (ho pins s1 σ H1 _ I1 q1) λu s2 ⟨x,H2,I2,rx,q2⟩=>aw (hi pins s2 σ H2 _ I2 q2) λiv s3 hZ=>?_) hs;have(y,H3,I3,ry,a,H4,ex,g,q3):=hZ;subst ex;obtain rfl:u=Value.ref a:=rx;exact zoX hu I3 g ry rv λs4 I4=>⟨σ,H4,I4,q3⟩
end
theorem Hd(h:Heap)(hb:sysModules < h.objs.size):zI P w K H (h.push {cls:=.type "dict",data:=.dict #[]}) h.objs.size (.dT []):=
 ⟨Å _,beq_eq_false_iff_ne.mpr<|Ne.symm<|qj hb,[],.nil,_,#[],0,qg _ rfl,⟨rfl,rfl,rfl⟩,rfl,rfl,List.nodup_nil⟩
def BW:TE:=λ_ H Q=>∀ p,H p=none->Q (.ref p) (upd H p<|.dT [])
section
variable{X:Cx}
theorem zqg:PE X (.Dict [] [] pos) BW:=λpins s σ H Q I h=>
 wpAny_Dict_empty ⟨.ref s.heap.objs.size,_,I.laid (a:=s.heap.objs.size) (o:=.dT []) (t':=s.toks) (λ_ _ q=>qd _ q) (qe _)<|Hd s.heap I.D1,rfl,h _<|I.aq.fresh<|qe _⟩
end
structure M2 (X:Cx) (o:Expr) (m:Str) (apos:Pos) (e f:Expr) (aM:Pos):Prop where
 base:attributeBase o m X.env (eval o X.env)=eval o X.env
 SE:((backTo aM<|starEach [e,f] X.env).all (λx=>!x.1) && (backToKw aM<|keywordEach [] X.env).all (λx=>x.1.isSome)
  && decide (([e,f]:Qa Expr).length+([]:Qa Keyword).length+(if([]:Qa Keyword).isEmpty then 0 else 1) < 30))=true
 line:(apos.endLine==aM.line)=true
 trees:backTo aM (starEach [e,f] X.env)=[(false,eval e X.env),(false,eval f X.env)]
def Ec(H:Hp)(a:Qg):Prop:=(∃ kvs,Rd H a<|.dK kvs)\/∃ kvs,Rd H a<|.dT kvs
theorem Ma{X:Cx}(I:Inv X pins σ H s)(d:Ec H a):
  s.TypeIs (.ref a) "dict"/\(∀ b,Value.ref a=.ref b->∃ ob,s.heap.get? b=some ob/\ob.dict=none)/\(a==sysModules)=false:=by
 rcases d with⟨kvs,e⟩|⟨kvs,e⟩
 .have(_,hd,vs,_,dd):=vf I.aq e
  refine⟨dd.typeIs,λb q=>?_,hd⟩;cases q;have(ob,_,_,h1,h2,_):=dd;exact⟨ob,h1,h2.2.1⟩
 .have(_,hd,xs,_,dd):=sM I.aU I.aq e
  refine⟨dd.typeIs,λb q=>?_,hd⟩;cases q;have(ob,_,_,h1,h2,_):=dd;exact⟨ob,h1,h2.2.1⟩
section
variable{X:Cx}{d:V}{r:Qc}{o:Qb V}
theorem VP(hu:A.units+1 < cLine)(I:Inv X pins σ H s)(g:oE X.K H a y o)(ry:zA y u)(rd:zA d r)(h:∀ w' s',Inv X pins σ H s'->zA (o.getD d) w'->Q w' s'):
  wpAny (model X.prog X.w) A (call (.builtin "dict.get") [.ref a,u,r]) Q E s:=by
 rcases g with⟨kvs,k,e,ey,l⟩|⟨kvs,k,b,e,ey,eb,l⟩
 .subst ey
  have(z,hd,vs,rel,dd):=vf I.aq e;refine call_meetsIn PySem.F.slot_dict_get dd.typeIs PySem.F.entry_dict_get (PySem.F.args_dict_get_3 _ _ _) (meets_dict_get_default (zD X.prog X.w) a (sN ry) hd r) ⟨_,dd.mapOf,h _ _ (I.tok _) ?_⟩;rw[l];exact(rel.val k).getD rd
 .subst ey
  cases(show u=Value.ref b from ry);have(z,hd,xs,rel,dd):=sM I.aU I.aq e;refine call_meetsIn PySem.F.slot_dict_get dd.typeIs PySem.F.entry_dict_get (PySem.F.args_dict_get_3 _ _ _) (meetsH_dict_get_default (tupleKind<|zD X.prog X.w) a b hd r) ⟨tupleKind_room_in1 hu,k,xs,oV I.aU I.aq eb,dd,h _ _ (I.tok _) ?_⟩;rw[l];exact(rel.val k).getD rd
end
def Gm(K:qc)(td ty tx:TE):TE:=λσ H Q=>td σ H λx H1=>∃ a,x=.ref a/\Ec H1 a/\ty σ H1 λy H2=>tx σ H2 λz H3=>∃ o,oE K H3 a y o/\Q (o.getD z) H3
section
variable{X:Cx}{f:Expr}{tx:TE}
theorem zqi(hu:X.A.units+1 < cLine)(ho:PE X o td)(he:PE X e ty)(hf:PE X f tx)(m:M2 X o "get" apos e f aM):PE X (.Call (.Attribute o "get" apos) [e,f] [] aM) (Gm X.K td ty tx):=by
 intro pins s σ H Q I h;refine wpAny_Call_method m.base m.SE m.line PySem.F.plainAttrs_dict PySem.F.slot_dict_get PySem.F.type_dict_get<|aw (ho pins s σ H _ I h) λu s1 hZ=>?_;have(x,H1,I1,rx,a,ex,d,q1):=hZ;subst ex;obtain rfl:u=Value.ref a:=rx;have(t1,t2,_):=Ma I1 d;refine⟨t1,t2,?_⟩;rw[m.trees];refine Ü rfl<|ó<|ï (aw (he pins s1 σ H1 _ I1 q1) λiv s2 ⟨y,H2,I2,ry,q2⟩=>
  ï (aw (hf pins s2 σ H2 _ I2 q2) λfv s3 ⟨z,H3,I3,rz,ov,g,q3⟩=>Calls.spliced_nil ?_))
 exact VP hu I3 g ry rz λw' s4 I4 gc=>⟨_,H3,I4,gc,q3⟩
end
section
variable{X:Cx}{kvs:Qa (Key×V)}
end
section
variable{X:Cx}
end
end L2
namespace TL
open PySem PySem.W PySem.Calls PyProof.Rows
theorem zgU{P:Params}{h:Heap}:∀ (ns:List Int) (vs:List Value),WellAll P h vs (ns.map WData.int)->IntsAre vs ns:=by
 intro ns
 induction ns with
 | nil=>
  intro vs w;rw[List.map_nil]at w;cases w;exact .nil
 | cons n ns ih=>
  intro vs w;rw[List.map_cons]at w;cases w with
  | cons a b=>
   cases a;exact .cons _ _<|ih _ b
theorem zoY{l:OpenLaw}{n:Nat}(hn:l.most=some n){P:Params}{h:Heap}{args:List WData}{vals:List Value}
  (pR:l.row.toRowW.claim.pre args=true) (Jv:WellAll P h vals args):
  ∃ a vs ns,vals=[Value.ref a]/\args=[WData.list<|ns.map WData.int]/\h.get? a=some {cls:=.type "list",data:=.seq vs.toArray}/\IntsAre vs ns/\ns.length<=n:=by
 have hsh:WShape.hasAll [] args [.list .int]=true:=(pre_splitW pR).1;have hc:l.pre.holds [] {args:=args}=true:=(pre_splitW pR).2;have(d,r,rfl,h1,h2):=hasAllW_cons hsh;obtain rfl:=hasAllW_nil h2;have(xs,rfl,h3):=hasW_list h1;have(ns,rfl):=items_int h3;have hlen:ns.length<=n:=by
  unfold OpenLaw.pre at hc;have h4:(WTm.not<|.lt (.lit<|.int (n:Int))<|.len<|.arg 0).holds [] {args:=[.list<|ns.map .int]}=true:=by
   have h4:=(holds_andW hc).1;rw[hn]at h4;exact h4
  have h5:=condW_of h4 (w_not<|w_lt w_lit<|w_len_list<|w_arg rfl);rw[List.length_map]at h5;refine Nat.le_of_not_lt λq=>?_;have q':(n:Int) < ((ns.length:Nat):Int):=by omega
  first
   | (rw[decide_eq_true q']at h5; exact absurd h5 (by decide))
   | (simp at h5; omega)
 cases Jv with
 | cons w1 w2=>
  cases w2;cases w1 with
  | list ho um=>exact⟨_,_,ns,rfl,rfl,ho,zgU ns _ um,hlen⟩
theorem zoZ(l:OpenLaw)(args:List WData):l.row.toRowW.claim.post args (.bool true) args=true :=
 postW_of (r:=l.row.toRowW) (X:=(true==true))
  (show WShape.has [] (.bool true) .bool=true by first|rfl|decide|simp[WShape.has,WShape.arms,WShape.armsAll])
  (show(WTm.eq .res<|.lit<|.bool true).value [] {args:=args,res:=some (.bool true),after:=args}=some (.bool<|true==true) from w_eq_bool (w_res rfl) w_lit) rfl
theorem iM{l:OpenLaw}{n:Nat}{q:Program}{loose:List Str}{XP:(Str->Option Value)->Heap->Prop}{YP:World->Heap->Prop}{d:DefRec}
  (hn:l.most=some n) (Ab:d.params.defaults=[])
  (call:∀ (w:World) (aX aB:Shared) (mg mb:Str->Option Value) (fa:Addr) (o:Obj) (pm cd doc:Value) (a:Addr) (vs:List Value) (ns:List Int),
   Ground q loose [] XP w aX mg mb aB.heap->YP w aB.heap->
   aB.heap.get? fa=some o->o.data=.func (docDef d.name d.params d.body d.scope pm cd doc)->aB.heap.CodeRec cd d.name->mg d.name=some (.ref fa)->
   aB.heap.get? a=some {cls:=.type "list",data:=.seq vs.toArray}->IntsAre vs ns->ns.length<=n->aB.gens=#[]->
   codeAny (model l.prog w) callerA (.call (.ref fa) ⟨[.ref a],[]⟩) (λr s'=>r=.ok (.ret<|.bool true)/\OldK aB.heap s'.heap/\s'.os=aB.os/\AllBare s'.gens) aB):
  WalkO q loose XP YP l.row.toRowW d [] (λf vs=>PySem.call f vs):=by
 intro w aX aB mg mb G Y fa o pm cd doc dV kV ho hd kY hD y6 hg args vals as pR hlay hrd Jv hlo;obtain rfl:dV=.none:=Dflts.none hD Ab;obtain rfl:kV=.none:=Dflts.noKw hD;have(a,vs,ns,rfl,rfl,uc,hints,hlen):=zoY hn pR Jv;refine enter_call<|codeAny_mono (call w aX aB mg mb fa o pm cd doc a vs ns G Y ho (fd_plain hd) kY y6 uc hints hlen hg) λr s' hq=>?_;have(rfl,h2,h3,h4):=hq;exact⟨.inl ⟨.bool true,.bool true,[],rfl,λ_=>rfl,.bool true,zoZ l _,λ_=>⟨List.Pairwise.nil,λ_ hm=>(nomatch hm)⟩⟩,h2,h3,h4⟩
section
variable{prog:Program} {w:World} {A:Around} {E:Value->Shared->Prop} {s:Shared} {K:Frag}
end
end TL
namespace L2
open PySem PySem.Spec PyProof.Rows
theorem OO:∀ {vs:Qa Qc} {ns:Qa Int},IntsAre vs ns->zC (ns.map V.int) vs
 | _,_,.nil=>.nil
 | _,_,.cons n t h=>.cons ⟨t,rfl⟩<|OO h
def AV(H:Hp):Prop:=∀ b,H b=none\/∃ o xs,H b=some (.aW o<|.lst xs)
theorem zqj{mb:Str->Qb Qc}{CX:j6}{k:Nat}{fa:Qg}{aB:Qd}{vs:Qa Qc}
  (KX:K.In aB.heap) (Sd:aB.heap.Ns mainGlobals mg) (hb:aB.heap.Ns builtinsNs mb) (hbb:∀ x:Str,x ≠ "__name__"->mb x=bootBuiltins x) (JH:aB.heap.NoLimit) (hg:aB.gens=#[])
  (ha:aB.heap.get? a=some {cls:=.type "list",data:=.seq vs.toArray}) (hi:IntsAre vs ns) (hl:ns.length<=sizeLine) (hr:aA k callerA)
  (F:∀ base:Heap,K.In base->base.Ns mainGlobals mg->bK P w K mg base CX k fa fd [x] sp) (Af:∀ (s:Qd) (u:Qc),BindsTo s fd ⟨[u],[]⟩ [(x,u)])
  (rT:∀ H:Hp,AV H->aO K H a (ns.map V.int)->sp [.ref a] H (λv _=>v=.bl true) λ_ _ _=>False)
  (JU:∀ H e s',CX [] H aB (λ_ _ _=>False) e s'->False):
  codeAny (model P w) callerA (.call (.ref fa) ⟨[.ref a],[]⟩) (λr s'=>r=.ok (.ret<|.bool true)/\OldK aB.heap s'.heap/\s'.os=aB.os/\AllBare s'.gens) aB:=by
 have rv:=OO hi;have Je:=hi.length;have core:∀ H:Hp,AV H->aO K H a (ns.map V.int)->bE P w K H aB.heap->(∀ b,H b≠none->b=a)->(H a≠none->K.lookup a=none)->
   codeAny (model P w) callerA (.call (.ref fa) ⟨[.ref a],[]⟩) (λr s'=>r=.ok (.ret<|.bool true)/\OldK aB.heap s'.heap/\s'.os=aB.os/\AllBare s'.gens) aB:=by
  intro H hO hS aq hA hK;have j4:∀ {b:Qg} {o:Obj},aB.heap.get? b=some o->H b=none->(oI aB.heap H).get? b=some o:=λe n=>zpH e n;have yh:∀ {b:Qg} {o:Obj} {es:Array DictEntry} {ep:Nat},aB.heap.get? b=some o->o.data=.dict es ep->H b=none:=λ{b o es ep} e d=>by
   cases q:H b with
   | none=>rfl
   | some u=>
    have e':b=a:=hA b (by rw[q]; simp);subst e';rw[ha]at e; cases e;have d':Data.seq vs.toArray _=Data.dict es ep:=d;cases d'
  have DC:∀ {b:Qg} {m:Str->Qb Qc},aB.heap.Ns b m->(oI aB.heap H).Ns b m:=λ{b m} ⟨o,es,ep,e,d,r⟩=>⟨o,es,ep,j4 e<|yh e d,d,r⟩;have Sy:K.In (oI aB.heap H):=λb o e=>j4 (KX b o e) (by
   cases q:H b with
   | none=>rfl
   | some u=>
    have e':b=a:=hA b (by rw[q]; simp);subst e';rw[hK (by rw[q]; simp)]at e; cases e)
  have hM:Mod K mg (oI aB.heap H):=⟨Sy,DC Sd,⟨mb,DC hb,hbb⟩,let ⟨mc,h1,h2⟩:=JH; ⟨mc,DC h1,h2⟩⟩;have e0:jH P w K mg (oI aB.heap H) callerA [] aB H:=⟨rfl,hM,λb o e=>YN e,Nat.le_of_eq<|zoI _ _,trivial,λb hb=>absurd (show b∈([]:Qa Qg) from hb) (by simp),aq,.of_eq hg⟩;refine codeAny_mono ((F _ Sy<|DC Sd).run callerA [] aB H ⟨[.ref a],[]⟩ [.ref a] [.ref a] _ _ hr e0 (Af aB<|.ref a) (.cons rfl .nil)<|rT H hO hS) λr s' h=>?_;cases r with
  | error e=>exact(JU H e s' h).elim
  | ok fl=>
   cases fl with
   | next=>exact False.elim h
   | brk=>exact False.elim h
   | cont=>exact False.elim h
   | ret u=>
    have(v,H',os,bare,un,JD,r',q):=h;have q':v=.bl true:=q;subst q';obtain rfl:u=Value.bool true:=r';refine⟨rfl,OldK.of_keep λb o e=>?_,os,bare⟩;cases q:H b with
    | none=>exact un.keep b o e q (by intro z; exact absurd (show b∈([]:Qa Qg) from z) (by simp)) (by simp)
    | some u=>
     rcases hO b with z|⟨ob,xs,z⟩
     .rw[q]at z; cases z
     .have z2:=un.d0 b ob _ z
      have(e1,_):=aq b _ z;have(e2,_):=JD b _ z2;rw[e]at e1; cases e1;exact e2
 cases hk:K.lookup a with
 | some o=>
  have e:=KX a o hk;rw[ha]at e;cases e;refine core (λ_=>none) (λ_=>.inl rfl) (.inr ⟨_,vs.toArray,_,hk,rfl,rfl,rfl,by rw[List.size_toArray,Je]; exact hl,by simpa using rv⟩) (λb u z=>by have z':(none:Qb HO)=some u:=z; cases z') (λb z=>absurd rfl z) λz=>absurd rfl z
 | none=>
  refine core (λb=>if b=a then some (.aW {cls:=.type "list",data:=.seq vs.toArray}<|.lst<|ns.map V.int)else none) (λb=>?_) (.inl<|.inr ⟨{cls:=.type "list",data:=.seq vs.toArray},if_pos rfl⟩) (λb u z=>?_) (λb z=>?_) λ_=>hk
  .by_cases hb:b=a
   .exact .inr ⟨_,_,if_pos hb⟩
   .exact .inl (if_neg hb)
  .by_cases hb:b=a
   .have z':=(if_pos hb).symm.trans z
    cases z';subst hb;exact⟨ha,by rw[List.length_map]; exact hl,vs,_,rv,ha⟩
   .have z':=(if_neg hb).symm.trans z
    cases z'
  .by_cases hb:b=a
   .exact hb
   .exact absurd (if_neg hb) z
theorem pf{l:PySem.W.OpenLaw}{k:Nat}{q:Qe}{loose:Qa Str}{XP:(Str->Qb Qc)->Heap->Prop}{YP:Qh->Heap->Prop}{d:DefRec}{K:Params->qc}{CX:Qh->j6}{sp:Qh->Sp}
  (hn:l.most=some n) (DQ:n<=sizeLine) (Ab:d.params.defaults=[]) (hr:aA k callerA)
  (hY:∀ (w:Qh) (h:Heap),YP w h->(K w.params).In h)
  (F:∀ (w:Qh) (mg:Str->Qb Qc) (fa:Qg) (h:Heap),(K w.params).In h->h.Ns mainGlobals mg->mg d.name=some (.ref fa)->
   ∃ fd:FuncData,(∀ (s:Qd) (u:Qc),BindsTo s fd ⟨[u],[]⟩ [(x,u)])/\
    ∀ base:Heap,(K w.params).In base->base.Ns mainGlobals mg->bK l.prog w (K w.params) mg base (CX w) k fa fd [x] (sp w))
  (rT:∀ (w:Qh) (H:Hp) (a:Qg) (ns:Qa Int),ns.length<=n->AV H->aO (K w.params) H a (ns.map V.int)->sp w [.ref a] H (λv _=>v=.bl true) λ_ _ _=>False)
  (JU:∀ (w:Qh) (H:Hp) (s:Qd) (e:Qc) (s':Qd),CX w [] H s (λ_ _ _=>False) e s'->False):
  PySem.W.WalkO q loose XP YP l.row.toRowW d [] (λf vs=>PySem.call f vs):=by
 refine TL.iM hn Ab λw aX aB mg mb fa o pm cd doc a vs ns G Y ho hd kY y6 uc hints hlen hg=>?_;have KX:=hY w _ Y;have(fd,hb,hF):=F w mg fa _ KX G.T.g y6;exact zqj KX G.T.g G.T.b G.T.builtins G.T.nolimit hg uc hints (qy hlen DQ) hr hF hb (λH hO hS=>rT w H a ns hlen hO hS) λH e s'=>JU w H aB e s'
def nV(s:Stmt):Arguments:=match s with
 | .FunctionDef _ a _ _ _ _ _ _ _ _=>a
 | _=>{posonlyargs:=[],args:=[],vararg:=none,kwonlyargs:=[],kw_defaults:=[],kwarg:=none,defaults:=[]}
def je(s:Stmt):Qa Stmt:=match s with
 | .FunctionDef _ _ b _ _ _ _ _ _ _=>b
 | _=>[]
def zM(s:Stmt):Scope:=match s with
 | .FunctionDef _ _ _ _ _ _ sc _ _ _=>sc
 | _=>{kind:=.function,names:=[],isGenerator:=false,isCoroutine:=false}
abbrev iR:j6:=λ_ _ _ _ _ _=>False
abbrev E0:XK:=λ_ _ _=>False
theorem BB{X:Cx}:vA iR X E0:=λ_ _ _ _ _ _ _ h=>h.elim
structure jG (K:qc) (x qual:Str) (st:Stmt) (f:Qg) (fd:FuncData):Prop where
 ex:∃ (oc:Qc) (od:Qb Qg) (kV doc pm:Qc) (an:Qb Qg) (be ct:Qc) (n5:Array (Qb Qc)),
  fd=PySem.W.fnOf x qual (nV st) (je st) (zM st) .none kV doc pm an be ct/\K.lookup f=some ⟨oc,od,.func fd,n5⟩/\PySem.W.codeIn K be qual=true
 kp:PySem.W.keepIn K (.ref f)=true
section
variable{base:Heap}
theorem jG.ok{f:Qg}{k:Nat}(F:jG K x qual st f fd)(S:bj N ps (zM st))(len:∀ vs H Q E,sp vs H Q E->vs.length=ps.length)
  (bB:∀ (be:Qc) (A:Qf) (outer:Qa Env) (s:Qd) (H:Hp) (vs:Qa V) (Q:VK) (E:XK),aA k (A.deeper<|envOfC qual (zM st) s.heap.objs.size f be)->sp vs H Q E->
   ∃ t,d5 (nJ iR P w K mg base N qual (zM st) f be A outer s H E).rO (je st) t/\t {nx:=λ_ H'=>Q .aF H',rt:=Q} (gr N vs) H):bK P w K mg base iR (k+1) f fd ps sp:=by
 have(oc,od,kV,doc,pm,an,be,ct,n5,rfl,lk,kY):=F.ex;refine Uq lk kY S len λA outer s H vs Q E hr rT=>?_;have(t,h,q):=bB be A outer s H vs Q E hr rT;exact⟨t,h.rO,q⟩
theorem jG.binds{f:Qg}(F:jG K x qual st f fd)
  (h:∀ (kV doc pm:Qc) (an:Qb Qg) (be ct:Qc) (us:Qa Qc),us.length=ps.length->bindArgs (PySem.W.fnOf x qual (nV st) (je st) (zM st) .none kV doc pm an be ct) ⟨us,[]⟩=pure (ps.zip us)):lA K fd ps []:=by
 have(oc,od,kV,doc,pm,an,be,ct,n5,rfl,lk,kY):=F.ex;exact .all<|h kV doc pm an be ct
theorem Gk{f:Qg}{oc:Qc}{od an:Qb Qg}{kV doc pm be ct:Qc}(l:K.lookup f=some ⟨oc,od,.func<|PySem.W.fnOf x qual (nV st) (je st) (zM st) .none kV doc pm an be ct,n5⟩)
  (c:PySem.W.codeIn K be qual=true) (k:PySem.W.keepIn K (.ref f)=true):jG K x qual st f (PySem.W.fnOf x qual (nV st) (je st) (zM st) .none kV doc pm an be ct):=⟨⟨oc,od,kV,doc,pm,an,be,ct,n5,rfl,l,c⟩,k⟩
end
theorem sL{k:Nat}(hr:aA k A):A.units+1 < cLine:=Ó (Nat.add_le_add_left (by decide:1<=64) _) hr.units
section
variable{X:Cx}
theorem pv(i:Nat)(hN:X.N[i]?=some x:=by rfl)(hv:D3 X.env.scope x:=by first|exact Or.inl rfl|exact Or.inr (Or.inl rfl) | exact Or.inr<|Or.inr rfl)(hd:(x==("__debug__":Str))=false:=by decide)
  (kY:(x==("__classdict__":Str))=false:=by decide):PE X (.Name x pos) (dW i):=WL hN hv hd kY
end
def cz(H H':Hp):Prop:=∀ b o,H b=some o->H' b=some o
theorem cz.refl(H:Hp):cz H H:=λ_ _ h=>h
theorem cz.seq{xs:Qa V}(e:cz H H')(h:aO K H a xs):aO K H' a xs:=by
 rcases h with (h|⟨o,h⟩) | h
 .exact .inl (.inl<|e _ _ h)
 .exact .inl (.inr ⟨o,e _ _ h⟩)
 .exact .inr h
section
variable{X:Cx}
end
section
variable[DecidableEq κ]
end
end L2
set_option maxHeartbeats 4000000
namespace L2
open PySem PySem.Spec PyProof.Rows
inductive aL (X:Cx):Qa (Str×Qg)->Qa Str->Qa Nat->Prop where
 | nil:aL X [] [] []
 | cons {x:Str} {c:Qg} {j:Nat} {cl:Qa (Str×Qg)} {xs:Qa Str} {js:Qa Nat} (hN:X.N[j]?=some x) (hk:X.env.scope.names.lookup x=some .cell\/X.env.scope.names.lookup x=some .free)
   (hc:X.env.cells.lookup x=some c) (t:aL X cl xs js):aL X ((x,c)::cl) (x::xs) (j::js)
def zF(X:Cx)(scope:Scope)(cl:Qa (Str×Qg))(Nc:Qa Str)(C:Qg)(s:Qd)(H:Hp)(ex:Qa Qg):Cx :=
 {X with aX:=s,H₀:=H,env:=compEnvC scope (cellsFrom (C+1) scope.names cl) C X.env,N:=Nc,outer:=X.stack,stack:=X.stack,ex:=ex,fn:=λx=>scope.names.lookup x==some .cell,pn:=[],xe:=λ_ _=>False}
def c0(nt:Nat)(js:Qa Nat)(σ:St):St:=List.replicate nt none++js.map λj=>σ.getD j none
def Wk(a b:St):Prop:=a.length=b.length/\∀ (i:Nat) (v:V),a[i]?=some (some v)->b[i]?=some (some v)
theorem L9{a:St}{x:Qb V}(h:a[i]?=some none):Wk a (a.set i x):=by
 refine⟨by simp,λj v e=>?_⟩;have ne:i≠j:=by intro z; rw[z,e]at h; cases h
 rw[qC ne];exact e
theorem Ct(h:i < nt):(c0 nt js σ)[i]?=some none:=by
 unfold c0;rw[List.getElem?_append_left (by simpa using h),List.getElem?_replicate,if_pos h]
theorem rD{X:Cx}{xs:Qa Str}(f:aL X cl xs js):∀ x c,cl.lookup x=some c->X.env.cells.lookup x=some c:=by
 induction f with
 | nil=>intro x c e; cases e
 | @cons y d j cl xs js hN hk hc t ih=>
  intro x c e;rw[List.lookup_cons]at e
  by_cases q:x=y
  .subst q
   rw[beq_self_eq_true]at e;injection e with e1;rw[<-e1];exact hc
  .rw[beq_eq_false_iff_ne.mpr q]at e
   exact ih x c e
theorem ON{X:Cx}{xs:Qa Str}(f:aL X cl xs js):∀ x,x∈xs->∃ c,cl.lookup x=some c:=by
 induction f with
 | nil=>intro x m; cases m
 | @cons y d j cl xs js hN hk hc t ih=>
  intro x m;rw[List.lookup_cons]
  by_cases q:x=y
  .subst q
   rw[beq_self_eq_true];exact⟨d,rfl⟩
  .rw[beq_eq_false_iff_ne.mpr q]
   rcases qv.mp m with z|z
   .exact absurd z q
   .exact ih x z
theorem zql{X:Cx}{xs:Qa Str}(f:aL X cl xs js):∀ (i:Nat) (x:Str) (σ:St) (v:V),xs[i]?=some x->(js.map λj=>σ.getD j none)[i]?=some (some v)->
  ∃ j:Nat,X.N[j]?=some x/\σ[j]?=some (some v)/\(X.env.scope.names.lookup x=some .cell\/X.env.scope.names.lookup x=some .free)/\(∃ c,X.env.cells.lookup x=some c):=by
 induction f with
 | nil=>intro i x σ v e; simp at e
 | @cons y d j cl xs js hN hk hc t ih=>
  intro i x σ v e1 e2;cases i with
  | zero=>
   simp only[List.getElem?_cons_zero,Option.some.injEq]at e1;subst e1;refine⟨j,hN,?_,hk,d,hc⟩;simp only[List.map_cons,List.getElem?_cons_zero,Option.some.injEq]at e2;rw[qB]at e2;cases q:σ[j]? with
   | none=>rw[q]at e2; cases e2
   | some o=>rw[q]at e2; simp at e2; rw[e2]
  | succ i=>
   exact ih i x σ v (by simpa using e1) (by simpa using e2)
theorem HK:∀ {names:Qa (Str×NameKind)} {x:Str} {k:NameKind},
  (names.map λ(n,k)=>if(k==NameKind.free && env.scope.kind==.function && env.kindOf n==some .cell)then(n,NameKind.cell)else(n,k)).lookup x=some k->
  ∃ k0,names.lookup x=some k0/\(x,k0)∈names/\(k=k0\/(k0=.free/\k=.cell)):=by
 intro names
 induction names with
 | nil=>intro x k e; cases e
 | cons p r ih=>
  intro x k e;have(n,kn):=p
  by_cases q:x=n
  .subst q
   refine⟨kn,by rw[List.lookup_cons,beq_self_eq_true],qp,?_⟩;rw[List.map_cons]at e;change List.lookup x ((if(kn==NameKind.free && env.scope.kind==.function && env.kindOf x==some .cell)=true then(x,NameKind.cell)else(x,kn))::_)=_ at e
   by_cases hh:(kn==NameKind.free && env.scope.kind==.function && env.kindOf x==some .cell)=true
   .rw[if_pos hh,List.lookup_cons,beq_self_eq_true]at e
    injection e with e1;refine .inr ⟨?_,e1.symm⟩;simp only[Bool.and_eq_true]at hh;exact by simpa using hh.1.1
   .rw[if_neg hh,List.lookup_cons,beq_self_eq_true]at e
    injection e with e1;exact .inl e1.symm
  .rw[List.map_cons]at e
   change List.lookup x ((if(kn==NameKind.free && env.scope.kind==.function && env.kindOf n==some .cell)=true then(n,NameKind.cell)else(n,kn))::_)=_ at e;have e':(r.map λ(n,k)=>if(k==NameKind.free && env.scope.kind==.function && env.kindOf n==some .cell)then(n,NameKind.cell)else(n,k)).lookup x=some k:=by
    by_cases hh:(kn==NameKind.free && env.scope.kind==.function && env.kindOf n==some .cell)=true
    .rw[if_pos hh,List.lookup_cons,beq_eq_false_iff_ne.mpr q]at e
     exact e
    .rw[if_neg hh,List.lookup_cons,beq_eq_false_iff_ne.mpr q]at e
     exact e
   have(k0,h1,h2,h3):=ih e';refine⟨k0,by rw[List.lookup_cons,beq_eq_false_iff_ne.mpr q]; exact h1,qo _ h2,h3⟩
theorem zo0{X:Cx}{xs:Qa Str}(f:aL X cl xs js):js.length=xs.length:=by
 induction f with
 | nil=>rfl
 | cons _ _ _ _ ih=>simp[ih]
structure qD (scope:Scope) (xs:Qa Str):Prop where
 kind:scope.kind=.function
 cell:∀ y∈scope.names,y.2=.cell->scope.names.lookup y.1=some .cell
 names:∀ y∈scope.names,y.2=.local->scope.names.lookup y.1=some .local
 free:∀ y∈scope.names,y.2=.free->y.1∈xs
 fk:∀ x∈xs,scope.names.lookup x=some .free
theorem nQ:∀ (ns:Qa (Str×NameKind)) (n:Nat) (acc:Qa (Str×Qg)),cellsFrom n ns acc=cellsFrom n ns []++acc
 | [],_,_=>rfl
 | (x,k)::r,n,acc=>by
  unfold cellsFrom;split
  .rw[nQ r (n+1)<|(x,n)::acc,nQ r (n+1) [(x,n)],List.append_assoc]
   rfl
  .exact nQ r n acc
theorem Gj:∀ (ns:Qa (Str×NameKind)) (n:Nat) {x:Str} {c:Qg},(x,c)∈cellsFrom n ns []->(x,NameKind.cell)∈ns
 | [],_,_,_,h=>by cases h
 | (y,k)::r,n,x,c,h=>by
  unfold cellsFrom at h;split at h
  .rename_i hk
   rw[nQ,List.mem_append]at h;rcases h with h|h
   .exact qo _ (Gj r _ h)
   .cases qq.mp h
    cases eq_of_beq hk;exact qp
  .exact qo _ (Gj r _ h)
theorem BV:∀ (ns:Qa (Str×NameKind)) (n:Nat) {x:Str},(x,NameKind.cell)∈ns->∃ c,(cellsFrom n ns []).lookup x=some c
 | [],_,_,h=>by cases h
 | (y,k)::r,n,x,h=>by
  unfold cellsFrom;rcases qv.mp h with e|h'
  .cases e
   rw[if_pos (by rfl:(NameKind.cell==NameKind.cell)=true),nQ,List.lookup_append];cases(cellsFrom (n+1) r []).lookup y with
   | none=>exact⟨n,by rw[List.lookup_cons,beq_self_eq_true]; rfl⟩
   | some c=>exact⟨c,rfl⟩
  .split
   .have(c,e):=BV r (n+1) h'
    rw[nQ,List.lookup_append,e];exact⟨c,rfl⟩
   .exact BV r n h'
theorem vC{ns:Qa (Str×NameKind)}{acc:Qa (Str×Qg)}{c:Qg}(h:(cellsFrom n ns acc).lookup x=some c):(cellsFrom n ns []).lookup x=some c\/(acc.lookup x=some c/\(cellsFrom n ns []).lookup x=none):=by
 rw[nQ,List.lookup_append]at h;cases e:(cellsFrom n ns []).lookup x with
 | none=>rw[e]at h; exact .inr ⟨h,rfl⟩
 | some d=>rw[e]at h; exact .inl h
theorem Lm{ns:Qa (Str×NameKind)}{acc:Qa (Str×Qg)}{c:Qg}(h:(cellsFrom n ns []).lookup x=some c):(cellsFrom n ns acc).lookup x=some c:=by
 rw[nQ,List.lookup_append,h];rfl
theorem N1{M:Model}{globals:Qg}{bs:Qg}{Q:Env->Qd->Prop}
  (hQ:∀ h1,h1.Ns s.heap.objs.size (λ_=>none)->(∀ b o,s.heap.get? b=some o->h1.get? b=some o)->CellsOk h1 (s.heap.objs.size+1) (cellsFrom (s.heap.objs.size+1) scope.names [])->
   Q (newEnv scope s.heap.objs.size globals (cellsFrom (s.heap.objs.size+1) scope.names cl) qual none .none (some env) bs) {s with heap:=h1}):
  wpAny M A (newFunctionEnv scope globals cl [] qual none .none (some env) bs) Q E s:=by
 simp only[newFunctionEnv,Option.isSome_some,if_true];refine qa<|wpAny_alloc ?_;refine qa<|wpAny_layCells _ (λname kind cells=>by cases hkc:kind==NameKind.cell<;>simp[hkc]) _ _ _ _ ?_;have ok:=cellsFrom_ok scope.names (s.heap.push {cls:=.type "dict",data:=.dict #[]}) (s.heap.objs.size+1) [] ⟨λ_ _ hm=>(nomatch hm),List.Pairwise.nil⟩ (by rw[Heap.size_push]; exact qe _);rw[Heap.size_push]at ok;rw[show({s with heap:=s.heap.push {cls:=.type "dict",data:=.dict #[]}}:Qd).heap.objs.size=s.heap.objs.size+1 from Heap.size_push ..];rw[List.forIn_nil];exact qa<|qb<|qb<|hQ _ ((Heap.Ns.new s.heap<|.type "dict").keeps<|pushCells_keeps _ _) (λb o e=>pushCells_keeps _ _ b o<|qd _ e) ok
section
variable{X:Cx}{xs:Qa Str}{ts:Qa Str}{fp:Qa Qg}{C:Qg}
theorem GA{hx:Heap}(I:Inv X pins σ H s)(S:qD scope xs)(f:aL X cl xs js)(ck:CellsOk hx (C+1) (cellsFrom (C+1) scope.names []))(hC:s.heap.objs.size<=C)(hf:∀ b∈fp,bM X pins H b)(hl:∀ b∈fp,b < s.heap.objs.size):
  (zF X scope cl (ts++xs) C s H fp).Ok where
 mod:=I.ok.mod
 kind:=S.kind
 glob:=I.ok.glob
 blt:=I.ok.blt
 above:=hC
 inj:=λx y c e1 e2=>by
  have no:∀ {x y:Str},(cellsFrom (C+1) scope.names []).lookup x=some c->cl.lookup y=some c->False:=λz1 z2=>by
   have(v,o,q,_):=I.cell _ c (rD f _ c z2);have q1:=qh q;have q2:=(ck.empty _ _<|mem_of_lookup z1).2;exact Ç _<|qi q1<|qy hC<|qy (ð C) q2
  rcases vC e1 with z1|⟨z1,_⟩<;>rcases vC e2 with z2|⟨z2,_⟩
  .exact name_of_addr ck.apart (mem_of_lookup z1) (mem_of_lookup z2)
  .exact(no z1 z2).elim
  .exact(no z2 z1).elim
  .exact I.ok.inj x y c (rD f x c z1) (rD f y c z2)
 has:=λx h=>by
  have z:∃ k0,scope.names.lookup x=some k0/\(x,k0)∈scope.names/\(k0=NameKind.free\/k0=NameKind.cell):=by
   rcases h with h|h
   .have(k0,h1,h2,h3):=HK (env:=X.env) (names:=scope.names) h
    rcases h3 with h3|h3
    .exact⟨k0,h1,h2,.inr h3.symm⟩
    .exact⟨k0,h1,h2,.inl h3.1⟩
   .have(k0,h1,h2,h3):=HK (env:=X.env) (names:=scope.names) h
    rcases h3 with h3|h3
    .exact⟨k0,h1,h2,.inl h3.symm⟩
    .cases h3.2
  have(k0,_,h2,h3):=z;show ∃ c,(cellsFrom (C+1) scope.names cl).lookup x=some c;rcases h3 with h3|h3
  .have(c,e):=ON f x (S.free _ h2 h3)
   rw[nQ,List.lookup_append,e];cases(cellsFrom (C+1) scope.names []).lookup x with
   | none=>exact⟨c,rfl⟩
   | some d=>exact⟨d,rfl⟩
  .subst h3
   have(c,e):=BV scope.names (C+1) h2;exact⟨c,Lm e⟩
 wu:=λx c h e=>by
  have(d,q):=BV scope.names (C+1) (mem_of_lookup<|eq_of_beq h);have e':(cellsFrom (C+1) scope.names cl).lookup x=some c:=e;rw[Lm q]at e';cases e';have:=(ck.empty _ _<|mem_of_lookup q).2;show s.heap.objs.size<=c;omega
 hd:=I.ok.hd
 frames:=I.ok.frames
 x9:=.inl rfl
 Am:=λb hb=>⟨qj<|qi (hl b hb) hC,λx c e=>by
  rcases vC e with z|⟨z,_⟩
  .have q1:=(ck.empty _ _<|mem_of_lookup z).2
   exact Nat.ne_of_gt<|qi (hl b hb)<|qy hC<|qy (ð C) q1
  .exact(hf b hb).2.2.2.2.1 x c (rD f x c z)⟩
 bs:=I.bs
 oA:=qy I.ok.oA I.sz
 kK:=λb o e hb=>by
  rcases(hf b hb).2.2.2.1 with z|z
  .exact I.ok.kK b o e z
  .exact absurd (qi (qh (I.ok.bs b o e).1) z) (Ç _)
 m9:=λb hb z=>by
  rcases qv.mp (I.eV b z)with q|q
  .exact(hf b hb).2.1 q
  .exact(hf b hb).2.2.1 q
 dH:=I.stack
 sA:=I.jV
theorem NZ{m:Str->Qb Qc}{h1:Heap}{tk:Nat}(I:Inv X pins σ H s)(S:qD scope xs)(f:aL X cl xs js)(i7:ts.length=nt)(hC:s.heap.objs.size<=C)(hf:∀ b∈fp,bM X pins H b)(hl:∀ b∈fp,b < s.heap.objs.size)
  (hk:∀ b o,s.heap.get? b=some o->h1.get? b=some o) (hn:h1.Ns C m) (ck:CellsOk h1 (C+1) (cellsFrom (C+1) scope.names [])):Inv (zF X scope cl (ts++xs) C s H fp) [] (c0 nt js σ) H {s with heap:=h1,toks:=tk} where
 ok:=GA I S f ck hC hf hl
 os:=rfl
 bare:=I.bare
 base:=Un.kept hk
 loc:=by
  refine⟨m,hn,λi x v e1 e2 e3=>?_⟩;have hi:nt<=i:=by
   rcases Nat.lt_or_ge i nt with z|z
   .rw[Ct z]at e2; cases e2
   .exact z
  have DY:xs[i - nt]?=some x:=by
   have z:(ts++xs)[i]?=some x:=e1;rw[List.getElem?_append_right (by omega),i7]at z;exact z
  have e2':(js.map λj=>σ.getD j none)[i - nt]?=some (some v):=by
   unfold c0 at e2;rw[List.getElem?_append_right (by simpa using hi),List.length_replicate]at e2;exact e2
  have(j,hN,hσ,Si,c,hc):=zql f (i - nt) x σ v DY e2';have(m0,_,ue):=I.loc;have(u,r,lk):=ue j x v hN hσ (.inr Si);refine⟨u,r,.inr ⟨?_,?_⟩⟩
  .rcases e3 with z|z|z
   .have hx:x∈xs:=Â DY
    have(k0,h1,h2,h3):=HK (env:=X.env) (names:=scope.names) z;have q:=S.fk x hx;rw[h1]at q;cases q;rcases h3 with h3|h3
    .cases h3
    .cases h3.2
   .exact .inl z
   .exact .inr z
  .have(c',kZ):=ON f x (Â DY)
   have no:(cellsFrom (C+1) scope.names []).lookup x=none:=by
    cases e:(cellsFrom (C+1) scope.names []).lookup x with
    | none=>rfl
    | some d=>
     have z:=S.cell _ (Gj _ _<|mem_of_lookup e) rfl;rw[S.fk x<|List.mem_of_getElem? DY]at z;cases z
   refine⟨c',?_,?_⟩
   .show(cellsFrom (C+1) scope.names cl).lookup x=some c'
    rw[nQ,List.lookup_append,no,kZ];rfl
   have q:=rD f x c' kZ;rcases lk with⟨l1,_⟩|⟨_,c'',l2,l3⟩
   .exfalso
    have RY:X.env.scope.names.lookup x=some .local:=l1;rcases Si with z|z<;>rw[z]at RY<;>cases RY
   .rw[q]at l2
    cases l2;exact l3.keeps hk
 cell:=λx c e=>by
  rcases vC e with z|⟨z,_⟩
  .exact⟨_,(ck.empty _ _<|mem_of_lookup z).1⟩
  .have(v,z):=I.cell x c (rD f x c z)
   exact⟨v,z.keeps hk⟩
 free:=I.aq.fresh hC
 bC:=λx c e=>by
  rcases vC e with z|⟨z,_⟩
  .exact I.aq.fresh (by have:=(ck.empty _ _<|mem_of_lookup z).2; omega)
  .exact I.bC x c (rD f x c z)
 pin:=λp hp=>by cases hp
 aq:=I.aq.kept hk
 len:=by
  show(c0 nt js σ).length=(ts++xs).length;unfold c0;rw[qt,qt,List.length_replicate,List.length_map,i7];rw[zo0 f]
theorem OM{o:HO}(x:bE P w K H h)(hn:H a=none)(new:zI P w K (upd H a o) h a o):bE P w K (upd H a o) h:=λb u e=>by
 by_cases hb:b=a
 .subst hb; rw[zp]at e; cases e; exact new
 .rw[zq hb]at e
  exact(x b u e).cA (λ_ _ _ q=>q) (λc q=>(zq<|ku q hn).trans q) λc ys q=>(zq<|ku q hn).trans q
theorem NY{fs ex:Qa Qg}{H1:Hp}{h1:Heap}{o:HO}(u:Un fs ex H H1 h h1)(hn:H1 a=none)(ha:h.objs.size<=a):Un fs ex H (upd H1 a o) h h1 where
 keep:=u.keep
 slot:=u.slot
 free:=λb ob q n hx=>(zq<|qj<|qi (qh q) ha).trans (u.free b ob q n hx)
 there:=u.there
 eS:=λb ys q=>(zq<|ku (u.eS b ys q) hn).trans (u.eS b ys q)
 d0:=λb ob ys q=>(zq<|ku (u.d0 b ob ys q) hn).trans (u.d0 b ob ys q)
 f7:=λb ps q=>by
  have(more,e):=u.f7 b ps q;exact⟨more,(zq<|ku e hn).trans e⟩
def qK(X:Cx)(ifs:Qa Expr)(t:TT):Prop :=
 ∀ (pins:Qa (Qg×Obj)) (s:Qd) (σ:St) (H:Hp) (Q:Bool->Hp->Prop),Inv X pins σ H s->t σ H Q->
  wpAny (model X.prog X.w) X.A (forIn ifs true λc r=>if r=true then do let ok <-isTrue c X.env (eval c X.env); pure (ForInStep.yield ok)else pure (ForInStep.yield r)) (TP X pins σ Q) X.xe s
def ER:TT:=λ_ H Q=>Q true H
theorem zqm{X:Cx}:qK X [] ER:=λ_ _ _ H _ I h=>wpAny_tests_nil ⟨H,I,h⟩
theorem zqn{X:Cx}{c:Expr}{t:TT}(h:PT X c t):qK X [c] t:=λpins s σ H Q I q=>wpAny_tests_one<|h pins s σ H Q I q
theorem uV{t:Sem α}{Q Q':α->Qd->Prop}{M:Model}(h:wpAny M A t Q (λ_ _=>False) s)(hQ:∀ a s,Q a s->Q' a s):wpAny M A t Q' E s:=wpAny_mono h hQ λ_ _ x=>x.elim
theorem zlV{target:Expr}{it acc:Qc}(I:Nat->Qd->Prop)
  (turn:∀ n s,I n s->∀ E,wpAny (model prog w) A (pyNext it) (λr s1=>match r with
   | none=>R (.ok .next) s1
   | some v=>wpAny (model prog w) A (letOwnedTupleGo target it v) (λ_ s2=>wpAny (model prog w) A (assign target env v) (λ_ s3=>
     wpAny (model prog w) A (forIn ifs true λc r=>if r=true then do let ok <-isTrue c env (eval c env); pure (ForInStep.yield ok)else pure (ForInStep.yield r)) (λok s4=>
      (ok=true->wpAny (model prog w) A (eval elt env) (λx s5=>wpAny (model prog w) A (call (.builtin "list.append") [acc,x]) (λ_ s6=>∃ m,m < n/\I m s6) E s5) E s4)/\
      (ok=false->∃ m,m < n/\I m s4)) E s3) E s2) E s1) E s)
  (n:Nat) (h:I n s):codeAny (model prog w) A (.compLoop (.ListComp elt [⟨target,iter,ifs,0⟩] scope pos) 0 it acc env) R s:=by
 refine codeAny_loop rfl I (λn s hI=>?_) n h;show wpAny _ A ((compTurn _ 0 it acc env).onRaise (λx=>do noteFrame x env; theTreesLotGoes x)) _ _ s;refine wpAny_noted ?_;rw[compTurn_list];refine qa<|wpAny_standAt<|qa<|wpAny_mono (turn n s hI _) (λr s1 h1=>?_) λ_ _ z=>z;cases r with
 | none=>exact qb h1
 | some v=>
  refine qa<|wpAny_mono h1 (λ_ s2 h2=>?_) λ_ _ z=>z;refine qa<|wpAny_mono h2 (λ_ s3 h3=>?_) λ_ _ z=>z;refine qa<|wpAny_mono h3 (λok s4 h4=>?_) λ_ _ z=>z;cases ok with
  | false=>exact qb ⟨rfl,h4.2 rfl⟩
  | true=>
   refine qa<|qa<|wpAny_mono (h4.1 rfl) (λx s5 h5=>?_) λ_ _ z=>z;exact qa<|wpAny_mono h5 (λ_ s6 h6=>qb<|qb ⟨rfl,h6⟩) λ_ _ z=>z
def Kr(J:It)(fU:St)(g:TG)(tt:TT)(te:TE)(Z:Qa V->Hp->Prop)(H1:Hp):Prop :=
 ∃ W:Nat->Nat->Qa V->Hp->Prop,(∃ m,W 0 m [] H1)/\∀ i m ys H,W i m ys H->
  (J.stop i H/\Z ys H)\/(J.go i H/\ys.length < sizeLine/\∃ N:Qa V->Hp->Prop,(∀ jU H',N jU H'->∃ m',m' < m/\W (i+1) m' jU H')/\
   ∀ x H',J.tK i H x H'->g x fU H' λdR H2=>tt dR H2 λb H3=>if b=true then te dR H3 λy H4=>N (ys++[y]) H4 else N ys H3)
def GW(fU:St)(g:TG):Prop:=∀ x H (Q:St->Hp->Prop),g x fU H Q->g x fU H λdR H2=>Wk fU dR/\Q dR H2
theorem OS{J:It}{Z:Qa V->Hp->Prop}
  (hc:X.calm=true) (I:Inv X pins σ H s) (S:qD scope xs) (f:aL X cl xs js) (i7:ts.length=nt) (T:Turn X.prog X.w X.K tg J fp it tn) (st:tn 0 s.heap) (hf:∀ b∈fp,bM X pins H b)
  (hg:∀ C s H ex,PG (zF X scope cl (ts++xs) C s H ex) tg g) (ht:∀ C s H ex,qK (zF X scope cl (ts++xs) C s H ex) ifs tt) (he:∀ C s H ex,PE (zF X scope cl (ts++xs) C s H ex) elt te)
  (gw:GW (c0 nt js σ) g) (h:Kr J (c0 nt js σ) g tt te Z H)
  (JR:∀ (D C:Qg) (m:Str->Qb Qc) (s':Qd) (ys:Qa V) (H':Hp),Z ys H'->H' D=none->Inv X pins σ (upd H' D<|.lst ys) s'->s'.heap.Ns C m->upd H' D (.lst ys) C=none->C≠X.env.locals->
   (∀ x c,X.env.cells.lookup x=some c->c≠C)->X.aX.heap.objs.size<=C->(∀ p∈X.pn++pins,p.1≠C)->RR (.ref D) C (.ok .next) s'):
  wpAny (model X.prog X.w) X.A (newList []) (λacc s3=>wpAny (model X.prog X.w) X.A (newFunctionEnv scope X.env.globals cl [] X.env.qual none .none<|some X.env) (λnh s4=>
   codeAny (model X.prog X.w) X.A (.compStart (.ListComp elt [⟨tg,iter,ifs,0⟩] scope pos) 0 (.ref it) acc {nh with scope:=relabel scope X.env}) (RR acc nh.locals) s4) E s3) E s:=by
 refine qA<|N1 λh1 rZ jw ck=>?_;dsimp only at rZ jw ck ⊢;generalize JS:s.heap.push {cls:=.type "list",dict:=none,data:=.seq ([]:Qa Qc).toArray}=G at rZ jw ck ⊢;have om:G.objs.size=s.heap.objs.size+1:=by rw[<-JS,Heap.size_push]
 have hC:s.heap.objs.size<=G.objs.size:=by rw[om]; exact ð _
 have SA:s.heap.objs.size≠G.objs.size:=by rw[om]; exact qj<|Ý _
 have hl:∀ b∈fp,b < s.heap.objs.size:=λb hb=>by
  have(o,e,_):=T.obj _ _ st b hb;exact qh e
 have old:∀ b o,s.heap.get? b=some o->h1.get? b=some o:=λb o e=>
  jw b o (JS▸qd _ e)
 have hD1:h1.get? s.heap.objs.size=some {cls:=.type "list",data:=.seq ([]:Qa Qc).toArray}:=jw _ _ (JS▸qg _ rfl);have J0:Inv (zF X scope cl (ts++xs) G.objs.size s H fp) [] (c0 nt js σ) H {s with heap:=h1}:=NZ (tk:=s.toks) I S f i7 hC hf hl old rZ ck;obtain⟨W,⟨m0,w0⟩,turn⟩:=h;have pw:tn 0 h1:=T.keep _ _ _ st λb hb o e=>old b o e;have JT:H s.heap.objs.size=none:=I.aq.fresh (qe _);have AE:∀ b∈fp,s.heap.objs.size≠b:=λb hb z=>absurd (hl b hb) (by rw[<-z]; exact Ç _);have m8:∀ {H':Hp} {pl:Qa (Qg×Obj)},(∀ b∈fp,H' b=none)->(∀ p∈pl,p.1=s.heap.objs.size)->∀ b∈fp,bM (zF X scope cl (ts++xs) G.objs.size s H fp) pl H' b:=λ{H' pl} hn hp b hb=>by
  refine⟨hn b hb,qj<|qi (hl b hb) hC,λz=>?_,.inl hb,λx c e=>((GA I S f ck hC hf hl (ts:=ts)).Am b hb).2 x c e,λp JC z=>?_⟩
  .rcases qv.mp (I.eV b z)with q|q
   .exact(hf b hb).2.1 q
   .exact(hf b hb).2.2.1 q
  .rcases Á.mp JC with q|q
   .cases q
   .exact AE b hb ((hp p q).symm.trans z)
 have loop:codeAny (model X.prog X.w) X.A (.compLoop (.ListComp elt [⟨tg,iter,ifs,0⟩] scope pos) 0 (.ref it) (.ref s.heap.objs.size)<|compEnvC scope (cellsFrom (G.objs.size+1) scope.names cl) G.objs.size X.env) (RR (.ref s.heap.objs.size) G.objs.size)
   {s with heap:=h1}:=by
  refine zlV (λn s'=>∃ i ys af nn H',Inv (zF X scope cl (ts++xs) G.objs.size s H fp) [] (c0 nt js σ) H' s'/\tn i s'.heap/\(∀ b∈fp,H' b=none)/\H' s.heap.objs.size=none/\
   s'.heap.get? s.heap.objs.size=some {cls:=.type "list",data:=.seq (List.toArray af) nn}/\zC ys af/\ys.length<=sizeLine/\W i n ys H') ?_ m0
   ⟨0,[],[],0,H,J0,pw,λb hb=>(hf b hb).1,JT,hD1,.nil,Å _,w0⟩
  rintro n s3 ⟨i,ys,af,nn,H3,I3,mG,m7,d3,o3,r3,z3,w3⟩ E';have oz:s.heap.objs.size≠(zF X scope cl (ts++xs) G.objs.size s H fp).env.locals:=SA;have Tv:Inv (zF X scope cl (ts++xs) G.objs.size s H fp) [(s.heap.objs.size,{cls:=.type "list",data:=.seq af.toArray nn})] (c0 nt js σ) H3 s3:=I3.bT λp hp=>by
   have e:p=(s.heap.objs.size,{cls:=.type "list",data:=.seq af.toArray nn}):=by simpa using hp
   subst e;refine⟨o3,d3,oz,λz=>?_,λv z=>by cases z⟩;have(_,ob,e,_):=I.stack.mem z;exact absurd (qh e)<|Ç _
  have IV:∀ p∈[(s.heap.objs.size,({cls:=.type "list",data:=.seq af.toArray nn}:Obj))],p.1=s.heap.objs.size:=λp hp=>by
   have e:p=(s.heap.objs.size,{cls:=.type "list",data:=.seq af.toArray nn}):=by simpa using hp
   rw[e]
  rcases turn i n ys H3 w3 with⟨stop,qz⟩|⟨go,hsz,N,hN,step⟩
  .refine aw (T.done (zF X scope cl (ts++xs) G.objs.size s H fp) rfl rfl rfl hc i _ s3 _ H3 E' Tv (m8 m7 IV) mG stop) λr s4 hZ=>?_
   have(hr,I4):=hZ;subst hr;have o4:s4.heap.get? s.heap.objs.size=some {cls:=.type "list",data:=.seq af.toArray nn}:=(I4.pin _<|qw _ qp).1;have(m4,n4,_):=I4.loc;have hk4:bE X.prog X.w X.K (upd H3 s.heap.objs.size<|.lst ys) s4.heap:=OM I4.aq d3 ⟨z3,af,nn,r3,o4⟩;have un4:Un (k8 X.stack) fp H (upd H3 s.heap.objs.size<|.lst ys) s.heap s4.heap:=NY I4.base d3 (qe _);refine JR _ _ m4 s4 ys H3 qz d3 (I.sE I4.os un4 hk4 I4.bare λb hb=>⟨(hf b hb).2.2.2.1,(hf b hb).2.1,(hf b hb).2.2.2.2.1,λp hp=>(hf b hb).2.2.2.2.2 p hp⟩) n4 ?_ ?_ ?_ ?_ ?_
   .rw[zq<|Ne.symm SA]
    exact I4.free
   .exact λz=>absurd I.lt (by rw[<-z]; exact Nat.not_lt.mpr hC)
   .intro x c e z
    have(v,ob,q,_):=I.cell x c e;exact absurd (qh q) (by rw[z]; exact Nat.not_lt.mpr hC)
   .exact qy I.sz hC
   .intro p hp z
    have q:=(I.pin p hp).1;exact absurd (qh q) (by rw[z]; exact Nat.not_lt.mpr hC)
  .refine aw (T.item (zF X scope cl (ts++xs) G.objs.size s H fp) rfl rfl rfl hc i _ s3 _ H3 E' Tv (m8 m7 IV) mG go) λr s4 hZ=>?_
   have(u,hr,h4):=hZ;subst hr;refine aw h4 λ_ s5 hZ=>?_;have(x,H5,I5,r5,y5,jg,ur):=hZ;have uJ:=I5.pinned (m8 ur IV) (T.obj _ _ jg);refine uV (hg _ _ _ _ _ s5 _ H5 x u _ uJ r5<|gw _ _ _<|step x H5 y5) λ_ s6 hZ=>?_;have(jI,H6,I6,pe,q6):=hZ;refine uV (ht _ _ _ _ _ s6 jI H6 _ I6 q6) λok s7 hZ=>?_;have(H7,I7,q7):=hZ;have after:∀ {H8:Hp} {s8:Qd},Inv (zF X scope cl (ts++xs) G.objs.size s H fp) ([(s.heap.objs.size,({cls:=.type "list",data:=.seq af.toArray nn}:Obj))]++xh fp s5.heap) jI H8 s8->
     tn (i+1) s8.heap/\(∀ b∈fp,H8 b=none)/\H8 s.heap.objs.size=none/\s8.heap.get? s.heap.objs.size=some {cls:=.type "list",data:=.seq af.toArray nn}/\
      Inv (zF X scope cl (ts++xs) G.objs.size s H fp) [] (c0 nt js σ) H8 s8:=λ{H8 s8} I8=>by
    have dd:=I8.pin (s.heap.objs.size,({cls:=.type "list",data:=.seq af.toArray nn}:Obj)) (qw _<|Í _ qp);refine⟨T.keep _ _ _ jg λb hb o e=>(I8.pin (b,o)<|qw _<|qw _<|rH hb e).1,λb hb=>?_,dd.2.1,dd.1,?_⟩
    .have(o,e,d):=T.obj _ _ jg b hb
     exact(I8.pin (b,o)<|qw _<|qw _<|rH hb e).2.1
    .exact(I8.weak pe.1 pe.2).bT λp hp=>by cases hp
   refine⟨λaq=>?_,λaq=>?_⟩
   .subst aq
    rw[if_pos rfl]at q7;refine uV (he _ _ _ _ _ s7 jI H7 _ I7 q7) λv s8 hZ=>?_;have(y,H8,I8,ry,q8):=hZ;have(IB,fr8,d8,o8,I8'):=after I8;have(m',hm,w8):=hN _ _ q8;refine call_meets F.slot_list_append ⟨_,o8,rfl⟩ F.entry_list_append (F.args_list_append_2 _ _) (PySem.list_append s.heap.objs.size af.toArray nn v (by rw[List.size_toArray,<-r3.length]; omega)) ⟨o8,?_⟩;have(_,f1,_,f3,f4,_):=(⟨d8,oz,trivial,.inr<|qe _,λx c e=>by
     rcases vC e with z|⟨z,_⟩
     .exact Nat.ne_of_gt (qi (Ó hC<|Ý _) (ck.empty _ _<|mem_of_lookup z).2)
     .have(v0,ob,q,_):=I.cell x c (rD f x c z)
      exact Nat.ne_of_gt (qh q) |>.symm,trivial⟩:H8 s.heap.objs.size=none/\s.heap.objs.size≠(zF X scope cl (ts++xs) G.objs.size s H fp).env.locals/\True/\(s.heap.objs.size∈fp\/s.heap.objs.size<=s.heap.objs.size)/\
      (∀ x c,(cellsFrom (G.objs.size+1) scope.names cl).lookup x=some c->c≠s.heap.objs.size)/\True)
    have q:=PySem.IsL.update o8 (λx=>x.push v);have hp:af.toArray.push v=(af++[v]).toArray:=by simp
    rw[hp]at q;refine⟨m',hm,i+1,ys++[y],af++[v],_,H8,I8'.turned (t':=s8.toks) (it:=s.heap.objs.size) (λb o hb e=>(Ê s8.heap _<|Ne.symm hb).trans e) d8 f1 f3 f4 (λp hp=>by cases hp),?_,fr8,d8,q,r3.append<|.cons ry .nil,?_,w8⟩
    .exact T.keep _ _ _ IB λb hb o e=>(Ê s8.heap _<|AE b hb).trans e
    .rw[qt,List.length_singleton]
     omega
   .subst aq
    rw[if_neg qf]at q7;have(st7,fr7,d7,o7,I7'):=after I7;have(m',hm,w7):=hN _ _ q7;exact⟨m',hm,i+1,ys,af,nn,H7,I7',st7,fr7,d7,o7,r3,z3,w7⟩
 exact codeAny_compStart_list loop<|T.self _ _ _ _ _ pw loop
def xY(wi:TI)(nt:Nat)(js:Qa Nat)(g:TG)(tt:TT)(te:TE):TE:=λσ H Q=>wi σ H λJ H1=>
 Kr J (c0 nt js σ) g tt te (λys H2=>∀ D,H2 D=none->Q (.ref D) (upd H2 D<|.lst ys)) H1
theorem Uk(nt:Nat)(ts:Qa Str)(i7:ts.length=nt)(hc:X.calm=true)(S:qD scope xs)(f:aL X cl xs js)(e9:closureFor scope X.env=pure cl)
  (hi:PI X tg iter wi) (hg:∀ C s H ex,PG (zF X scope cl (ts++xs) C s H ex) tg g) (gw:∀ σ:St,GW (c0 nt js σ) g) (ht:∀ C s H ex,qK (zF X scope cl (ts++xs) C s H ex) ifs tt)
  (he:∀ C s H ex,PE (zF X scope cl (ts++xs) C s H ex) elt te) (hs:∀ x,foldedSetIterable iter X.env x=pure x:=by intro _; rfl):
  PE X (.ListComp elt [⟨tg,iter,ifs,0⟩] scope pos) (xY wi nt js g tt te):=by
 intro pins s σ H Q I h;rw[eval_ListComp];refine wpAny_comprehension_free (use:=none) rfl hs e9 S.kind S.names<|aw (hi pins s σ H _ I h) λv s1 h1=>aw h1 λyx s2 h2=>?_;have(it,fp,tn,J,H2,e,I2,T,jh,f2,q):=h2;subst e;refine OS (RR:=λacc C=>compPost (model X.prog X.w) X.A X.xe none (EP X pins σ Q) acc C) hc I2 S f i7 T jh f2 hg ht he (gw σ) q ?_;intro D C m s' ys H' z hD I' hn uq pZ pY om uo;refine⟨m,hn,λh' lM=>⟨.ref D,_,I'.turned (it:=C) (λb o hb e=>lM.extBut b o hb e) uq pZ (.inr om) pY uo,rfl,z D hD⟩⟩
end
section
variable{X:Cx}
def wR(_ j:Int):Prop:=0 < j/\j.natAbs.log2 < 9000
theorem NX:bQ X (binaryOp .FloorDiv) (rI wR λi j=>.int<|i / j):=vY λi j _ _ _ _ _ hc q=>by
 have h1:(0:Int) < j:=hc.1;exact floordiv_int (by omega) (by rw[Int.fdiv_eq_ediv_of_nonneg i (by omega)]; exact q)<|.inl<|PyProof.noPylong_of_log2 hc.2
def ve(_ j:Int):Prop:=j≠0/\j.natAbs.log2 < 9000
theorem NW:bQ X (binaryOp .FloorDiv) (rI ve λi j=>.int<|i.fdiv j):=vY λi j _ _ _ _ _ hc q=>
 floordiv_int hc.1 q (.inl<|PyProof.noPylong_of_log2 hc.2)
theorem HJ{k:Nat}(hk:0 < k)(h:n < 2^k):n.log2 < k:=by
 by_cases hn:n=0
 .subst hn; exact hk
 .exact(Nat.log2_lt hn).mpr h
theorem XQ{i j:Int}(h:0 < j)(h2:j<=2^128):wR i j:=⟨h,ù (HJ (k:=129) (by decide) (by omega)) (by decide)⟩
def EO(K:qc):Qa V->Hp->VK->Prop:=λxs H Q=>∃ x t T b,xs=[x,.ty T]/\cX K H x t/\PySem.W.kitOne K t (.type T)=some b/\Q (.bl b) H
theorem zqo:fO X (.builtin "isinstance") (EO X.K):=by
 intro pins s σ H xs us Q I r h;have(x,t,T,b,rfl,ty,e,q):=h;have(u,u',rfl,rx,rt):=wU r;cases rt;exact zoS I rx ty e λtk=>⟨.bl b,H,I.tok tk,rfl,q⟩
end
theorem Gz(h:i < nt):∀ σ:St,GW (c0 nt js σ) (hE i):=λσ x H Q q=>⟨L9<|Ct h,q⟩
def SameBut(p:Qg)(H H':Hp):Prop:=∀ b o,b≠p->H b=some o->H' b=some o
theorem zB{p:Qg}(h:H p=none)(o:HO):cz H (upd H p o):=λb u q=>by rw[zq<|ku q h]; exact q
def Bl(mg:Str->Qb Qc)(xs:Qa Str):Prop:=∀ x,x∈xs->mg x=none
theorem Bl.nil:Bl mg []:=λ_ h=>by cases h
theorem Bl.cons{xs:Qa Str}(h:mg x=none)(t:Bl mg xs):Bl mg (x::xs):=λy m=>by
 rcases qv.mp m with e|e
 .rw[e]; exact h
 .exact t y e
def zR:Expr->Bool
 | .Starred _ _=>false
 | _=>true
theorem kr{es:Qa Expr}(h:zR e=true):starEach (e::es) env=(false,eval e env)::starEach es env:=by
 cases e<;>first|rfl|cases h
theorem oZ:∀ {es:Qa Expr},es.all zR=true->(backTo pos<|starEach es env).any (·.1)=false
 | [],_=>rfl
 | e::es,h=>by
  rw[List.all_cons,Bool.and_eq_true]at h;rw[kr h.1];show(false || (backTo pos<|starEach es env).any (·.1))=false;rw[Bool.false_or];exact oZ h.2
section
variable{X:Cx}{es:Qa Expr}{t:TA}{id:String}{p:Pos}
theorem zBw(ha:PE X e te)(hr:PA X es t)(hs:zR e=true:=by rfl):PA X (e::es) (jO te t):=YV ha hr (kr hs)
theorem Uj(hc:fO X (.builtin id) r)(hg:Gl X x)(hm:X.mg x=none)(hv:bootBuiltins x=some (.builtin id))(ha:PA X (e::es) t)(hn:x ≠ "__name__":=by decide)(cV:(x==("__debug__":Str))=false:=by decide)
  (he:zR e=true:=by rfl) (cL:es.all zR=true:=by rfl):PE X (.Call (.Name x p) (e::es) [] pos) (mE r t):=zp8 hc hg hm hv ha hn cV (kr he) (oZ cL)
theorem Ui(hc:fO X (.type T) r)(hg:Gl X x)(hm:X.mg x=none)(hv:bootBuiltins x=some (.type T))(ha:PA X (e::es) t)(hn:x ≠ "__name__":=by decide)(cV:(x==("__debug__":Str))=false:=by decide)
  (he:zR e=true:=by rfl) (cL:es.all zR=true:=by rfl):PE X (.Call (.Name x p) (e::es) [] pos) (mE r t):=zoU hc hg hm hv ha hn cV (kr he) (oZ cL)
end
structure AF (P:Qe) (w:Qh) (K:qc) (mg:Str->Qb Qc) (base:Heap) (x:Str) (k:Nat) (ps:Qa Str) (sp:Sp):Prop where
 ex:∃ (f:Qg) (fd:FuncData),bK P w K mg base iR k f fd ps sp/\lA K fd ps []/\PySem.W.keepIn K (.ref f)=true/\mg x=some (.ref f)
def wG(sp:Sp)(t:TA):TE:=λσ H Q=>t σ H λvs H1=>sp vs H1 Q E0
section
variable{X:Cx}{k:Nat}{p:Pos}{es:Qa Expr}{t:TA}
theorem VN(C:AF X.prog X.w X.K X.mg X.base x k ps sp)(hr:aA k X.A)(hg:Gl X x)(ha:PA X (e::es) t)(cV:(x==("__debug__":Str))=false:=by decide)
  (he:zR e=true:=by rfl) (cL:es.all zR=true:=by rfl):PE X (.Call (.Name x p) (e::es) [] pos) (wG sp t):=by
 have(f,fd,F,hb,hk,hm):=C.ex;intro pins s σ H Q I h;refine YU (dvs:=[]) (E:=E0) F hr hg hm hk hb .nil BB ha cV (kr he) (oZ cL) pins s σ H Q I ?_;show t σ H λvs H1=>sp (vs++[]) H1 Q E0;have z:(λ(vs:Qa V) (H1:Hp)=>sp (vs++[]) H1 Q E0)=λvs H1=>sp vs H1 Q E0:=by
  funext vs H1
  rw[List.append_nil]
 rw[z];exact h
theorem XO(C:AF X.prog X.w X.K X.mg X.base x k ps sp)(hr:aA k X.A)(hg:Gl X x)(cV:(x==("__debug__":Str))=false:=by decide):PE X (.Call (.Name x p) [] [] pos) (wG sp ip):=by
 have(f,fd,F,hb,hk,hm):=C.ex;intro pins s σ H Q I h;exact zp5 (dvs:=[]) (E:=E0) F hr hg hm hk hb .nil BB cV pins s σ H Q I h
end
def FE(t:TS):TS:=λD σ H=>∃ J:St->Hp->Prop,t {D with nx:=J} σ H/\∀ aE H',J aE H'->D.nx aE H'
theorem XM{X:Cx}{t:TS}(h:PS X st t):PS X st (FE t):=by
 intro pins s σ H D I ⟨J,q,z⟩;refine aw (h pins s σ H _ I q) λf s' r=>?_;cases f with
 | next=>have(aE,H',I',j):=r; exact⟨aE,H',I',z _ _ j⟩
 | brk=>exact r
 | cont=>exact r
 | ret u=>exact r
theorem zqr(x y:Int)(hx:0<=x)(hy:0 < y):Int.gcd y (x % y)=Int.gcd x y:=by
 have(a,rfl):=Int.eq_ofNat_of_zero_le hx;have(b,rfl):=Int.eq_ofNat_of_zero_le (é hy);rw[<-Int.natCast_emod];show Nat.gcd b (a % b)=Nat.gcd a b;rw[Nat.gcd_comm a b,Nat.gcd_comm b<|a % b];exact(Nat.gcd_rec b a).symm
theorem XJ(x y:Int):Int.gcd (if x < 0 then -x else x) y=Int.gcd x y:=by
 split
 .exact Int.neg_gcd
 .rfl
structure Wr (p:Prop):Prop where
 run:p
theorem qR{xs:Qa Str}(h:Bl mg xs)(m:x∈xs):mg x=none:=h x m
theorem xt{X:Cx}{C:Qg}{ex:Qa Qg}(h:decide N.Nodup=true):(zF X scope cl N C s H ex).N.Nodup:=of_decide_eq_true h
def gY(X:Cx)(js:Qa Nat):Qa Str:=js.map λj=>X.N.getD j ""
def ik(X:Cx)(js:Qa Nat):Qa (Str×Qg):=(gY X js).map λx=>(x,(X.env.cells.lookup x).getD 0)
def fZ:Expr->Qa Str
 | .Name x _=>[x]
 | .Tuple es _ _=>es.flatMap λe=>match e with
  | .Name x _=>[x]
  | .Tuple fs _ _=>fs.filterMap λe=>match e with
   | .Name x _=>some x
   | _=>none
  | _=>[]
 | _=>[]
def Ef(nt:Nat)(g:TG):Prop:=∀ (js:Qa Nat) (σ d6:St),Wk (c0 nt js σ) d6->∀ x H (Q:St->Hp->Prop),g x d6 H Q->g x d6 H λdR H2=>Wk (c0 nt js σ) dR/\Q dR H2
def uU(nt:Nat)(g:i9):Prop:=∀ (js:Qa Nat) (σ d6:St),Wk (c0 nt js σ) d6->∀ x H (Q:St->Hp->Prop),g x d6 H Q->g x d6 H λdR H2=>Wk (c0 nt js σ) dR/\Q dR H2
theorem zqs(h:i < nt):Ef nt (hE i):=by
 intro js σ d6 w x H Q q;refine⟨⟨by rw[List.length_set]; exact w.1,λj v e=>?_⟩,q⟩;have ne:i≠j:=by
  rintro rfl;rw[Ct h]at e;cases e
 rw[qC ne];exact w.2 j v e
theorem Hb:uU nt Bc:=λjs σ d6 w x H Q q=>⟨q.1,w,q.2⟩
theorem zo3{gs:i9}(h1:Ef nt g)(h2:uU nt gs)(mono:∀ v σ H (Q Q':St->Hp->Prop),(∀ aE H',Q aE H'->Q' aE H')->g v σ H Q->g v σ H Q'):uU nt (wV g gs):=by
 intro js σ d6 w x H Q q;have(v,r,e,k):=q;refine⟨v,r,e,mono _ _ _ _ _ (λaE H' hZ=>?_)<|h1 js σ d6 w v H _ k⟩;have(w',q'):=hZ;exact h2 js σ aE w' r H' Q q'
theorem Gy{gs:i9}(h:uU nt gs):Ef nt (Bb K n gs):=by
 intro js σ d6 w x H Q q;have(a,xs,e,s,l,k):=q;exact⟨a,xs,e,s,l,h js σ d6 w xs H Q k⟩
theorem FC(h:Ef nt g):∀ σ:St,GW (c0 nt js σ) g:=λσ x H Q q=>h js σ _ ⟨rfl,λ_ _ e=>e⟩ x H Q q
theorem zo4:∀ v σ H (Q Q':St->Hp->Prop),(∀ aE H',Q aE H'->Q' aE H')->hE i v σ H Q->hE i v σ H Q':=λv σ H Q Q' h q=>h _ _ q
theorem Hz{gs:i9}(h:i < nt)(h2:uU nt gs):uU nt (wV (hE i) gs):=zo3 (zqs h) h2 zo4
section
variable{X:Cx}{p:Pos}{a b c:Expr}{es rest:Qa Expr}{t:TA}{rd:R2}{id:String}{tA nW:TT}{IA body:Qa Stmt}{ts us:TS}{gs:i9}
theorem aa(hN:X.N[i]?=some x:=by rfl)(hv:D3 X.env.scope x:=by first|exact Or.inl rfl|exact Or.inr (Or.inl rfl) | exact Or.inr<|Or.inr rfl)(hd:(x==("__debug__":Str))=false:=by decide)
  (kY:(x==("__classdict__":Str))=false:=by decide):Wr (PE X (.Name x pos)<|dW i):=⟨pv i hN hv hd kY⟩
theorem zm{n:Int}:Wr (PE X (.Constant (.int n) j pos)<|tC<|.int n):=⟨VL⟩
theorem wF{n:Bool}:Wr (PE X (.Constant (.bool n) j pos)<|tC<|.bl n):=⟨Uv⟩
theorem lZ:Wr (PE X (.Constant .none j pos)<|tC .aF):=⟨VJ⟩
theorem iX{n:Str}:Wr (PE X (.Constant (.str n) j pos)<|tC<|.str n):=⟨VH⟩
theorem L8{v:V}(hv:bootBuiltins x=some u)(r:zA v u)(hg:Gl X x:=by exact rfl)(hm:X.mg x=none:=by exact qR ‹Bl _ _› (by decide))(hn:x ≠ "__name__":=by decide)(hd:(x==("__debug__":Str))=false:=by decide):Wr (PE X (.Name x pos)<|tC v):=⟨YK hg hm hv r hn hd⟩
theorem zU{op:Operator}(ho:bQ X (binaryOp op) rd)(ha:Wr (PE X a ta))(hb:Wr (PE X b tb)):Wr (PE X (.BinOp a op b pos)<|pq rd ta tb):=⟨Us ho ha.run hb.run⟩
theorem nI{op:UnaryOp}{r:V->Hp->VK->Prop}(ho:D5 X (unaryOp op) r)(ha:Wr (PE X a ta)):Wr (PE X (.UnaryOp op a pos)<|Ir r ta):=⟨Ur ho ha.run⟩
theorem w_not(ha:Wr (PE X a ta)):Wr (PE X (.UnaryOp .Not a pos)<|FU ta):=⟨Vy ha.run⟩
theorem oJ{op:CmpOp}(ho:bQ X (compareOp op) rd)(ha:Wr (PE X a ta))(hb:Wr (PE X b tb))(hm:behindInMarks op b=false:=by first|exact Mr _|rfl):Wr (PE X (.Compare a [op] [b] pos)<|pq rd ta tb):=⟨YA ho ha.run hb.run hm⟩
theorem zY{op:CmpOp}(ho:bQ X (compareOp op) rd)(ha:Wr (PE X a ta))(hb:Wr (PE X b tb))(hm:behindInMarks op b=false:=by first|exact Mr _|rfl):Wr (PT X (.Compare a [op] [b] pos)<|FY<|pq rd ta tb):=⟨YZ ho ha.run hb.run hm⟩
theorem FA{op}(h:Wr (PE X a te)):Wr (PE X (.BoolOp op [a] pos) te):=⟨VA h.run⟩
theorem BA(ha:Wr (PE X a ta))(hb:Wr (PE X (.BoolOp .And (b::rest) pos) tb)):Wr (PE X (.BoolOp .And (a::b::rest) pos)<|FV ta tb):=⟨Vz ha.run hb.run⟩
theorem XH(ha:Wr (PT X a tA)):Wr (PW X (.BoolOp .And [a] pos) tA):=⟨YJ ha.run⟩
theorem xg(ha:Wr (PT X a tA)):Wr (PW X (.BoolOp .Or [a] pos) tA):=⟨VF ha.run⟩
theorem Gi(ha:Wr (PT X a tA))(hb:Wr (PW X (.BoolOp .And (b::rest) pos) nW)):Wr (PW X (.BoolOp .And (a::b::rest) pos)<|EM tA nW):=⟨VD ha.run hb.run⟩
theorem u9(ha:Wr (PT X a tA))(hb:Wr (PW X (.BoolOp .Or (b::rest) pos) nW)):Wr (PW X (.BoolOp .Or (a::b::rest) pos)<|Iw tA nW):=⟨Uu ha.run hb.run⟩
theorem uT(h:Wr (PW X e tA)):Wr (PT X e tA):=⟨h.run.pt⟩
theorem Gh(ha:Wr (PT X a tA)):Wr (PT X (.UnaryOp .Not a pos)<|EL tA):=⟨VB ha.run⟩
theorem sZ(h:Wr (PE X e te))(he:∀ whole,isTrue e X.env whole=(do let v <-whole; standAt e.pos; holding [v] (truthy v)):=by intro _; rfl):Wr (PT X e<|tB te):=⟨VG h.run he⟩
def Kq(K:qc)(ta:TE):TT:=λσ H Q=>ta σ H λx H'=>∃ k,EY K x H' k/\Q k H'
theorem Ll(hc:Wr (PT X c tA))(ha:Wr (PE X a ta))(hb:Wr (PE X b tb)):Wr (PE X (.IfExp c a b pos)<|Iy tA ta tb):=⟨zpM hc.run ha.run hb.run⟩
theorem zi:Wr (PA X [] ip):=⟨V0⟩
theorem ae(ha:Wr (PE X e te))(hr:Wr (PA X es t))(hs:zR e=true:=by rfl):Wr (PA X (e::es)<|jO te t):=⟨zBw ha.run hr.run hs⟩
theorem bH{x1}(h:Wr (PA X es t)):Wr (PE X (.Tuple es x1 pos)<|EW t):=⟨VZ h.run⟩
theorem eF(h:Wr (PA X es t)):Wr (PE X (.List es pos)<|Bh t):=⟨VY h.run⟩
theorem fW(hc:fO X (.builtin id) r)(hv:bootBuiltins x=some (.builtin id))(ha:Wr (PA X (e::es) t))(hg:Gl X x:=by exact rfl)(hm:X.mg x=none:=by exact qR ‹Bl _ _› (by decide))(hn:x ≠ "__name__":=by decide)(cV:(x==("__debug__":Str))=false:=by decide)
  (he:zR e=true:=by rfl) (cL:es.all zR=true:=by rfl):Wr (PE X (.Call (.Name x p) (e::es) [] pos)<|mE r t):=⟨Uj hc hg hm hv ha.run hn cV he cL⟩
theorem lU(hc:fO X (.type T) r)(hv:bootBuiltins x=some (.type T))(ha:Wr (PA X (e::es) t))(hg:Gl X x:=by exact rfl)(hm:X.mg x=none:=by exact qR ‹Bl _ _› (by decide))(hn:x ≠ "__name__":=by decide)(cV:(x==("__debug__":Str))=false:=by decide)
  (he:zR e=true:=by rfl) (cL:es.all zR=true:=by rfl):Wr (PE X (.Call (.Name x p) (e::es) [] pos)<|mE r t):=⟨Ui hc hg hm hv ha.run hn cV he cL⟩
theorem zN{k:Nat}(ha:Wr (PA X (e::es) t))(C:AF X.prog X.w X.K X.mg X.base x k ps sp:=by assumption)(hr:aA k X.A:=by exact aA.mono ‹aA _ _› (by decide))(hg:Gl X x:=by exact rfl)(cV:(x==("__debug__":Str))=false:=by decide)
  (he:zR e=true:=by rfl) (cL:es.all zR=true:=by rfl):Wr (PE X (.Call (.Name x p) (e::es) [] pos)<|wG sp t):=⟨VN C hr hg ha.run cV he cL⟩
theorem VM{k:Nat}(C:AF X.prog X.w X.K X.mg X.base x k ps sp:=by assumption)(hr:aA k X.A:=by exact aA.mono ‹aA _ _› (by decide))(hg:Gl X x:=by exact rfl)(cV:(x==("__debug__":Str))=false:=by decide):Wr (PE X (.Call (.Name x p) [] [] pos)<|wG sp ip):=⟨XO C hr hg cV⟩
theorem zZ(hr:wz X rd)(ha:Wr (PE X a ta))(hb:Wr (PE X b tb))(hs:Np b:=by exact λ_ _=>rfl):Wr (PE X (.Subscript a b pos)<|pq rd ta tb):=⟨Uo hr ha.run hb.run hs⟩
theorem Nl:Wr (PO X none GZ):=⟨YT⟩
theorem NG(h:Wr (PE X e te)):Wr (PO X (some e)<|FW te):=⟨YS h.run⟩
theorem NF{r:V->Qb Int->Qb Int->Hp->VK->Prop}{lo hi:Qb Expr}{tl th:TO}{p2:Pos}(hr:D8 X r)(he:Wr (PE X e te))(hl:Wr (PO X lo tl))(hu:Wr (PO X hi th)):Wr (PE X (.Subscript e (.Slice lo hi none p2) pos)<|Iu r te tl th):=⟨zqa hr he.run hl.run hu.run⟩
theorem tH{ta:TA}(ha:Wr (PA X [a] ta))(hg:Gl X "range":=by exact rfl)(hm:X.mg "range"=none:=by exact qR ‹Bl _ _› (by decide))(hs:zR a=true:=by rfl):Wr (PI X tg (.Call (.Name "range" p) [a] [] pos)<|FN ta):=⟨zoL hg hm ha.run<|kr hs⟩
theorem zu(hN:X.N.Nodup:=by first|assumption|exact xt rfl)(hi:X.N[i]?=some x:=by rfl)(hx:Loc X.env.scope x:=by first|exact Or.inl rfl|exact Or.inr rfl)(hf:X.fn x=true\/X.env.scope.names.lookup x=some .local:=by first|exact .inl rfl|exact .inr rfl|assumption):Wr (PG X (.Name x pos)<|hE i):=⟨YF hN hi hx hf⟩
theorem iB:Wr (sF X [] Bc):=⟨YE⟩
theorem bR(h1:Wr (PG X e g))(h2:Wr (sF X es gs))(hs:(assignEach (e::es) X.env).map (·.2)=assign e X.env::(assignEach es X.env).map (·.2):=by rfl):Wr (sF X (e::es)<|wV g gs):=⟨zpQ h1.run h2.run hs⟩
theorem xf{ti:TE}{jf:uS}(ho:Wr (PE X o ta))(hi:Wr (PE X e ti))(hs:Be X jf)
  (hh:∀ v,assign (.Subscript o e pos) X.env v=(do
   let ov <-holding [v] (eval o X.env)
   let iv <-holding [v,ov] (eval e X.env)
   standAt pos
   holding [v,ov,iv] (setItem ov iv v)
   release [v,ov,iv] []):=by intro _; rfl):Wr (PG X (.Subscript o e pos)<|EJ ta ti jf):=⟨Vv ho.run hi.run hs hh⟩
theorem oU:Wr (qK X [] ER):=⟨zqm⟩
theorem xb(h:Wr (PT X c tA)):Wr (qK X [c] tA):=⟨zqn h.run⟩
theorem lz(hi:Wr (PI X tg iter wi))(hg:∀ {C s H ex},Wr<|PG (zF X scope (ik X js) (fZ tg++gY X js) C s H ex) tg g)(ht:∀ {C s H ex},Wr<|qK (zF X scope (ik X js) (fZ tg++gY X js) C s H ex) ifs tt)
  (he:∀ {C s H ex},Wr<|PE (zF X scope (ik X js) (fZ tg++gY X js) C s H ex) elt te)
  (f:aL X (ik X js) (gY X js) js:=by repeat (first|exact aL.nil|refine aL.cons rfl (by first|exact Or.inl rfl|exact Or.inr rfl) rfl ?_)) (e9:closureFor scope X.env=pure (ik X js):=by rfl) (S:qD scope (gY X js):=by exact⟨rfl,of_decide_eq_true rfl,of_decide_eq_true rfl,of_decide_eq_true rfl,of_decide_eq_true rfl⟩) (i7:(fZ tg).length=nt:=by rfl) (hc:X.calm=true:=by rfl) (gw:∀ σ:St,GW (c0 nt js σ) g:=by first|exact Gz (by decide) | exact FC<|Gy (by repeat (first|exact Hb|refine Hz (by decide) ?_))) (hs:∀ x,foldedSetIterable iter X.env x=pure x:=by intro _; rfl):
  Wr (PE X (.ListComp elt [⟨tg,iter,ifs,0⟩] scope pos)<|xY wi nt js g tt te):=⟨Uk nt (fZ tg) i7 hc S f e9 hi.run (λC s H ex=>hg.run) gw (λC s H ex=>ht.run) (λC s H ex=>he.run) hs⟩
def EN(K:qc):Qa V->Hp->VK->Prop:=λxs H Q=>∃ p ys,xs=[.ref p]/\(aO K H p ys\/bw K H p ys)/\Q (.int ys.length) H
def Ha(K:qc):Qa V->Hp->VK->Prop:=λxs H Q=>∃ p ys,xs=[.ref p]/\((aO K H p ys/\∀ l,H l=none->Q (.ref l) (upd H l<|.tup ys))\/(bw K H p ys/\Q (.ref p) H))
theorem Lk(hK:X.K=K:=by rfl):fO X (.builtin "isinstance") (EO K):=hK▸zqo
theorem ko(hK:X.K=K:=by rfl):fO X (.builtin "len") (EN K):=hK▸zja
theorem tI(hK:X.K=K:=by rfl):fO X (.type "tuple") (Ha K):=hK▸zig
theorem eE(hK:X.K=K:=by rfl):wz X (EV K):=hK▸XW
theorem bz(hK:X.K=K:=by rfl):wz X (EU K):=hK▸VX
theorem Ko(hK:X.K=K:=by rfl):bQ X (compareOp .In) (rL K false):=hK▸zoV
theorem ND(hK:X.K=K:=by rfl):bQ X (compareOp .NotIn) (rL K true):=hK▸zi9
theorem Lj(hK:X.K=K:=by rfl):D8 X (ET K):=hK▸XU
theorem l7{l:Expr}{tl:TE}(hl:Wr (PE X l tl))(hK:X.K=K:=by rfl):Wr (PI X tg l<|FP K tl):=hK▸⟨YC hl.run⟩
theorem sY{l:Expr}{tl:TE}(hl:Wr (PE X l tl))(hK:X.K=K:=by rfl):Wr (PI X tg l<|EH K tl):=hK▸⟨Vq hl.run⟩
theorem iA{k:Nat}(h:Wr (sF X es gs))(hK:X.K=K:=by rfl)(hc:X.calm=true:=by rfl)(hn:(assignEach es X.env).length=n:=by rfl)(pO:(assignEach es X.env).findIdx? (·.1)=none:=by rfl):Wr (PG X (.Tuple es k pos)<|Bb K n gs):=hK▸⟨Vw hc h.run hn pO⟩
theorem Uh(ha:Wr (PE X a ta))(hK:X.K=K:=by rfl)(he:∀ whole,isTrue a X.env whole=(do let v <-whole; standAt a.pos; holding [v] (truthy v)):=by intro _; rfl):Wr (PT X a<|Kq K ta):=hK▸⟨zp1 ha.run he⟩
theorem fM:Wr (d5 X [] FT):=⟨YI⟩
theorem aG(h1:Wr (PS X st ts))(h2:Wr (d5 X IA us)):Wr (d5 X (st::IA)<|Bg ts us):=⟨zpO h1.run h2.run⟩
theorem zE(h1:Wr (PS X st ts)):Wr (d5 X [st] ts):=⟨YH h1.run⟩
theorem lG(he:Wr (PE X e te))(hs:swapsWith e none pos.line X.env=pure false:=by rfl):Wr (PS X (.Expr e pos)<|FR te):=⟨YG he.run hs⟩
theorem zO(he:Wr (PE X e te)):Wr (PS X (.Return (some e) pos)<|Bf te):=⟨Vx he.run⟩
theorem dh{sa sb:Qa Stmt}(hc:Wr (PT X c tA))(ha:Wr (d5 X sa ts))(hb:Wr (d5 X sb us)):Wr (PS X (.If c sa sb pos)<|EK tA ts us):=⟨Ut hc.run ha.run hb.run⟩
theorem BU(h:Wr (PS X st ts)):Wr (PS X st<|FE ts):=⟨XM h.run⟩
theorem XG(hc:Wr (PT X c tA))(hb:Wr (d5 X body ts))(hp:PassesOwn (model X.prog X.w) X.A X.env X.xe:=by first|exact PassesOwn.never|exact PassesOwn.leaving):Wr (PS X (.While c body [] pos)<|Gp tA ts):=⟨zpS hp hc.run hb.run⟩
theorem dQ(hi:Wr (PI X tg iter wi))(hg:Wr (PG X tg g))(hb:Wr (d5 X body ts))(hp:PassesOwn (model X.prog X.w) X.A X.env X.xe:=by first|exact PassesOwn.never|exact PassesOwn.leaving)(hc:X.calm=true:=by rfl)(hs:∀ x,foldedSetIterable iter X.env x=pure x:=by intro _; rfl):
  Wr (PS X (.For tg iter body [] pos)<|EG wi g ts):=⟨Vp hp hc hi.run hg.run hb.run hs⟩
theorem zV(he:Wr (PE X e te))(hN:X.N.Nodup:=by first|assumption|exact xt rfl)(hi:X.N[i]?=some x:=by rfl)(hx:Loc X.env.scope x:=by first|exact Or.inl rfl|exact Or.inr rfl)(hs:swapsWith e (some<|.Name x pos') pos.line X.env=pure false:=by rfl)(hf:X.fn x=true\/X.env.scope.names.lookup x=some .local:=by first|exact .inl rfl|exact .inr rfl|assumption):
  Wr (PS X (.Assign [.Name x pos'] e pos)<|qN te<|hE i):=⟨Vt hN hi hx he.run hs hf⟩
theorem wQ(he:Wr (PE X e te))(hg:Wr (PG X tg g))(hs:swapsWithSole [tg] e pos.line X.env=pure false:=by rfl)(hw:swappedStores [tg] e X.env=pure none:=by rfl)(h1:(assignEach [tg] X.env).map (·.2)=[assign tg X.env]:=by rfl):
  Wr (PS X (.Assign [tg] e pos)<|qN te g):=⟨Vu he.run hg.run hs hw h1⟩
theorem Ug{y:Str}{ta:TA}{px py pt:Pos}{kt k2 tQ}(ha:Wr (PA X [a,b] ta))(hc:X.calm=true:=by rfl)(hN:X.N.Nodup:=by first|assumption|exact xt rfl)(hi:X.N[i]?=some x:=by rfl)(hj:X.N[j]?=some y:=by rfl)(gy:i≠j:=by decide)
  (hx:X.env.scope.names.lookup x=some .local:=by rfl) (hy:X.env.scope.names.lookup y=some .local:=by rfl)
  (hw:swappedStores [.Tuple [.Name x px,.Name y py] kt pt] (.Tuple [a,b] k2 tQ) X.env=pure (some [x,y]):=by rfl)
  (hs:swapsWithSole [.Tuple [.Name x px,.Name y py] kt pt] (.Tuple [a,b] k2 tQ) pos.line X.env=pure false:=by rfl):
  Wr (PS X (.Assign [.Tuple [.Name x px,.Name y py] kt pt] (.Tuple [a,b] k2 tQ) pos)<|EI i j ta):=⟨Vs hc hN hi hj gy hx hy ha.run hw hs⟩
end
theorem jG.RO{base:Heap}{f:Qg}{k:Nat}(F:jG K x qual st f fd)(S:bj N ps (zM st))(len:∀ vs H Q E,sp vs H Q E->vs.length=ps.length)
  (bB:∀ (be:Qc) (A:Qf) (outer:Qa Env) (s:Qd) (H:Hp) (vs:Qa V) (Q:VK) (E:XK),aA k (A.deeper<|envOfC qual (zM st) s.heap.objs.size f be)->sp vs H Q E->
   ∃ t,Wr (d5 (nJ iR P w K mg base N qual (zM st) f be A outer s H E).rO (je st) t)/\t {nx:=λ_ H'=>Q .aF H',rt:=Q} (gr N vs) H):bK P w K mg base iR (k+1) f fd ps sp :=
 F.ok S len λbe A outer s H vs Q E hr h=>let ⟨t,w,q⟩:=bB be A outer s H vs Q E hr h; ⟨t,w.run,q⟩
mutual
inductive DV (K:qc) (H:Hp):V->PyData->Prop
 | aF:DV K H .aF .none
 | bl (b:Bool):DV K H (.bl b) (.bool b)
 | int (i:Int):DV K H (.int i) (.int i)
 | str (x:Str):DV K H (.str x) (.str x)
 | lst {a:Qg} {xs:Qa V} {ds:Qa PyData} (h:aO K H a xs) (t:iP K H xs ds):DV K H (.ref a) (.list ds)
 | tup {a:Qg} {xs:Qa V} {ds:Qa PyData} (h:bw K H a xs) (t:iP K H xs ds):DV K H (.ref a) (.tuple ds)
inductive iP (K:qc) (H:Hp):Qa V->Qa PyData->Prop
 | nil:iP K H [] []
 | cons {v:V} {d:PyData} {vs:Qa V} {ds:Qa PyData} (h:DV K H v d) (t:iP K H vs ds):iP K H (v::vs) (d::ds)
end
theorem cz.IH{xs:Qa V}(e:cz H H')(h:bw K H a xs):bw K H' a xs:=by
 rcases h with (h|⟨o,h⟩) | h
 .exact .inl (.inl<|e _ _ h)
 .exact .inl (.inr ⟨o,e _ _ h⟩)
 .exact .inr h
mutual
theorem DV.same(e:cz H H'):∀ {v:V} {d:PyData},DV K H v d->DV K H' v d
 | _,_,.aF=>.aF
 | _,_,.bl b=>.bl b
 | _,_,.int i=>.int i
 | _,_,.str x=>.str x
 | _,_,.lst h t=>.lst (e.seq h)<|iP.same e t
 | _,_,.tup h t=>.tup (e.IH h)<|iP.same e t
theorem iP.same(e:cz H H'):∀ {v:Qa V} {d:Qa PyData},iP K H v d->iP K H' v d
 | _,_,.nil=>.nil
 | _,_,.cons h t=>.cons (DV.same e h)<|iP.same e t
end
section
variable{X:Cx}
mutual
theorem DV.reads(I:Inv X pins σ H s):∀ {v:V} {d:PyData} {u:Qc},DV X.K H v d->zA v u->∃ as,Reads s.heap u d as
 | _,_,_,.aF,r=>by cases r; exact⟨_,.none⟩
 | _,_,_,.bl b,r=>by cases r; exact⟨_,.bool b⟩
 | _,_,_,.int i,r=>by have(t,rfl):=r; exact⟨_,.int i t⟩
 | _,_,_,.str x,r=>by have(t,rfl):=r; exact⟨_,.str x t⟩
 | _,_,_,.lst h t,r=>by
  cases r;obtain⟨af,rv,⟨o,n,e1,e2,e3,e4⟩,hz⟩:=I.list h;have(as,q):=iP.reads I t rv;exact⟨_,.list e1 e2 e4 q⟩
 | _,_,_,.tup h t,r=>by
  cases r;obtain⟨af,rv,⟨o,e1,e2,n,e4⟩,hz⟩:=I.tuple h;have(as,q):=iP.reads I t rv;exact⟨_,.tuple e1 e2 e4 q⟩
theorem iP.reads(I:Inv X pins σ H s):∀ {v:Qa V} {d:Qa PyData} {u:Qa Qc},iP X.K H v d->zC v u->∃ as,ReadsAll s.heap u d as
 | _,_,_,.nil,r=>by cases r; exact⟨_,.nil⟩
 | _,_,_,.cons h t,r=>by
  cases r with
  | cons r1 r2=>
   have(a1,q1):=DV.reads I h r1;have(a2,q2):=iP.reads I t r2;exact⟨_,.cons q1 q2⟩
end
end
section
variable{X:Cx}{p:Pos}{a b c:Expr}{es rest:Qa Expr}{t:TA}{rd:R2}{id:String}{tA nW:TT}{IA body:Qa Stmt}{ts us:TS}{gs:i9}
theorem Li{y:Str}{py mJ:Pos}(hi:Wr (PI X tg iter wi))(hg:∀ {C s H ex},Wr<|PG (zF X scope (ik X js) (fZ tg++gY X js) C s H ex) tg g)(ht:∀ {C s H ex},Wr<|qK (zF X scope (ik X js) (fZ tg++gY X js) C s H ex) ifs tt)
  (he:∀ {C s H ex},Wr<|PE (zF X scope (ik X js) (fZ tg++gY X js) C s H ex) elt te)
  (hN:X.N.Nodup:=by first|assumption|exact xt rfl) (cU:X.N[i]?=some y:=by rfl) (hy:Loc X.env.scope y:=by first|exact Or.inl rfl|exact Or.inr rfl)
  (f:aL X (ik X js) (gY X js) js:=by repeat (first|exact aL.nil|refine aL.cons rfl (by first|exact Or.inl rfl|exact Or.inr rfl) rfl ?_)) (e9:closureFor scope X.env=pure (ik X js):=by rfl) (S:qD scope (gY X js):=by exact⟨rfl,of_decide_eq_true rfl,of_decide_eq_true rfl,of_decide_eq_true rfl,of_decide_eq_true rfl⟩) (i7:(fZ tg).length=nt:=by rfl) (hc:X.calm=true:=by rfl) (gw:∀ σ:St,GW (c0 nt js σ) g:=by first|exact Gz (by decide) | exact FC<|Gy (by repeat (first|exact Hb|refine Hz (by decide) ?_))) (hs:∀ x,foldedSetIterable iter X.env x=pure x:=by intro _; rfl)
  (JA:swapsWith (.ListComp elt [⟨tg,iter,ifs,0⟩] scope pos) (some<|.Name y py) mJ.line X.env=pure true:=by rfl)
  (hf:X.fn y=true\/X.env.scope.names.lookup y=some .local:=by first|exact .inl rfl|exact .inr rfl|assumption):
  Wr (PS X (.Assign [.Name y py] (.ListComp elt [⟨tg,iter,ifs,0⟩] scope pos) mJ)<|qN (xY wi nt js g tt te)<|hE i):=by
 refine⟨?_⟩;intro pins s σ H D I h;rw[exec_Assign_Name_used _ _ _ _ JA];refine qa<|wpAny_standAt<|qa ?_;show wpAny _ X.A (do let _ <-comprehension (.ListComp elt [⟨tg,iter,ifs,0⟩] scope pos) scope X.env _ (newList []) false (eval iter X.env) (some<|assign (.Name y py) X.env)) _ _ s;refine qa<|wpAny_mono (wpAny_comprehension_free (use:=some (assign (.Name y py) X.env)) (Q:=λ_ s'=>SP X pins D .next s') rfl hs e9 S.kind S.names
  (aw (hi.run pins s σ H _ I h) λv s1 h1=>aw h1 λyx s2 h2=>?_)) (λ_ s' hq=>qb<|qb hq) λ_ _ e=>e
 have(it,fp,tn,J,H2,e,I2,T,jh,f2,q):=h2;subst e;refine OS (RR:=λacc C=>compPost (model X.prog X.w) X.A X.xe (some<|assign (.Name y py) X.env) (λ_ s'=>SP X pins D .next s') acc C) hc I2 S f i7 T jh f2 (λC s H ex=>hg.run) (λC s H ex=>ht.run) (λC s H ex=>he.run) (gw σ) q ?_;intro D' C m s' ys H' z hD I' hn uq pZ pY om uo;show wpAny _ _ (assign (.Name y py) X.env<|.ref D') _ _ _;refine wpAny_assign_Name<|HD (v:=.ref D') I' hN cU hy rfl (λya Kg hZ=>?_) hf;have(a,sb,ha):=hZ;have ne:C≠a:=by
  rcases ha with rfl|ha
  .exact pZ
  .exact(pY _ _ ha).symm
 exact⟨m,hn.sameBut sb ne,λh' lM=>⟨_,_,Kg.turned (it:=C) (λb o hb e=>lM.extBut b o hb e) uq pZ (.inr om) pY uo,z D' hD⟩⟩
theorem qJ{name:Str}{r:V->Qa V->Hp->VK->Prop}(K:qc)(hK:X.K=K)(pa:PlainAttrs T)(slot:Slot T name id)(yD:typeOf (.builtin id)=pure (.type "method_descriptor"))(hm:wy X id r)(ho:Wr (PE X o te))(ha:Wr (PA X (e::es) t))
  (cW:attributeBase o name X.env (eval o X.env)=eval o X.env:=by rfl)
  (m5:((backTo aM<|starEach (e::es) X.env).all (λx=>!x.1) && (backToKw aM<|keywordEach [] X.env).all (λx=>x.1.isSome)
   && decide ((e::es).length+([]:Qa Keyword).length+(if([]:Qa Keyword).isEmpty then 0 else 1) < 30))=true:=by rfl)
  (cS:(apos.endLine==aM.line)=true:=by rfl) (hs:zR e=true:=by rfl) (cL:es.all zR=true:=by rfl):
  Wr (PE X (.Call (.Attribute o name apos) (e::es) [] aM)<|Dv K T r te t):=hK▸⟨Um pa slot yD hm ho.run ha.run cW m5 cS (kr hs)<|oZ cL⟩
theorem nP{v:V}(hg:Gl X x)(hm:X.mg x=some u)(r:zA v u)(hd:(x==("__debug__":Str))=false:=by decide):Wr (PE X (.Name x pos)<|tC v):=⟨YL hg hm r hd⟩
end
structure Kp (H H':Hp):Prop where
 tup:∀ b xs,H b=some (.tup xs)->H' b=some (.tup xs)
 aW:∀ b o u,H b=some (.aW o u)->H' b=some (.aW o u)
 own:∀ b x,H b=some (.own x)->H' b=some (.own x)
theorem Kp.refl(H:Hp):Kp H H:=⟨λ_ _ h=>h,λ_ _ _ h=>h,λ_ _ h=>h⟩
theorem Kp.trans{H1 H2:Hp}(a:Kp H H1)(b:Kp H1 H2):Kp H H2:=⟨λx y h=>b.tup x y<|a.tup x y h,λx y z h=>b.aW x y z<|a.aW x y z h,λx y h=>b.own x y<|a.own x y h⟩
theorem cz.kp(s:cz H H'):Kp H H':=⟨λ_ _ h=>s _ _ h,λ_ _ _ h=>s _ _ h,λ_ _ h=>s _ _ h⟩
end L2
namespace HT
open PySem PyProof.Rows
open PySem.SeqAt
open PySem.MeetsSeq PySem.MeetsSeq2 PySem.MeetsSeq3
section
variable{prog:Program} {w:World} {A:Around} {E:Value->Shared->Prop} {s:Shared}
end
end HT
namespace L2
open PySem PySem.Spec PyProof.Rows
section
variable{X:Cx}
end
section
variable{X:Cx}
end
section
variable{X:Cx}
end
section
variable{X:Cx}
theorem zC.at:∀ {xs:Qa V} {us:Qa Qc} {i:Nat} {u:Qc},zC xs us->us[i]?=some u->∃ x,xs[i]?=some x/\zA x u
 | _,_,0,_,.cons r _,e=>by
  cases(show some _=some _ from e);exact⟨_,rfl,r⟩
 | _,_,i+1,_,.cons _ t,e=>zC.at (i:=i) t e
 | _,_,0,_,.nil,e=>by cases e
 | _,_,_+1,_,.nil,e=>by cases e
theorem zqx{p:Qg}{xs:Qa V}(I:Inv X pins σ H s)(hh:A.handled=none)(hq:aO X.K H p xs\/bw X.K H p xs)
  (h:∀ (it:Qg) (fp wr:Qa Qg) (n:Nat) (P:Nat->Qc->Prop) (St:Nat->Heap->Prop) (s2:Qd),Walks X.prog X.w A it fp wr n P St->St 0 s2.heap->(∀ b∈fp,b < s2.heap.objs.size)->n=xs.length->(∀ i v,P i v->∃ x,xs[i]?=some x/\zA x v)->
   (∀ h' tk,(∀ b o,b∉wr->s2.heap.get? b=some o->h'.get? b=some o)->Inv X pins σ H {s2 with heap:=h',toks:=tk})->Q (.ref it) s2):
  wpAny (model X.prog X.w) A (pyIter<|.ref p) Q E s:=by
 rcases hq with hq|hq
 .have(af,r,pl,hz):=I.list hq
  have hp:p < s.heap.objs.size:=by
   have(o,n,e,_):=pl;exact qh e
  have ne:p≠s.heap.objs.size:=qj hp;refine wpAny_pyIter_list pl.isList<|h s.heap.objs.size [s.heap.objs.size,p] [s.heap.objs.size] af.toArray.size _ _ _ (Walks.list hh _ p ne af.toArray) ⟨⟨_,qg _ rfl,rfl,rfl⟩,?_⟩ (λb hb=>?_) (by rw[List.size_toArray]; exact r.length.symm) (λi v e=>zC.at r (by simpa using e)) λh' tk hk=>?_
  .have(o,n,e,c,d,f):=pl
   exact⟨o,qd _ e,c,n,f⟩
  .rw[Heap.size_push]
   rcases qv.mp hb with z|z
   .rw[z]; exact Ý _
   .rw[qq.mp z]; exact ä hp
  .exact I.kept λb u e=>hk b u (λz=>absurd (qh e) (by rw[qq.mp z]; exact Ç _))<|qd _ e
 .have(af,r,pl,hz):=I.tuple hq
  have hp:p < s.heap.objs.size:=by
   have(o,e,_):=pl;exact qh e
  have ne:p≠s.heap.objs.size:=qj hp;refine wpAny_pyIter_tuple (show s.heap.IsTuple p af.toArray from pl)<|h s.heap.objs.size [s.heap.objs.size,p] [s.heap.objs.size] af.toArray.size _ _ _ (Walks.tuple hh _ p ne af.toArray) ⟨⟨_,qg _ rfl,rfl,rfl⟩,?_⟩ (λb hb=>?_) (by rw[List.size_toArray]; exact r.length.symm) (λi v e=>zC.at r (by simpa using e)) λh' tk hk=>?_
  .have(o,e,c,n,f):=pl
   exact⟨o,qd _ e,c,n,f⟩
  .rw[Heap.size_push]
   rcases qv.mp hb with z|z
   .rw[z]; exact Ý _
   .rw[qq.mp z]; exact ä hp
  .exact I.kept λb u e=>hk b u (λz=>absurd (qh e) (by rw[qq.mp z]; exact Ç _))<|qd _ e
theorem zlY(ns:Qa Int):preSum (λi=>ns.getD i 0) ns.length=ns.sum:=by
 have key:∀ k,k<=ns.length->preSum (λi=>ns.getD i 0) k=(ns.take k).sum:=by
  intro k
  induction k with
  | zero=>intro _; rfl
  | succ k ih=>
   intro hk;have dD:k < ns.length:=hk;show preSum (λi=>ns.getD i 0) k+ns.getD k 0=_;rw[ih (by omega),List.take_succ,qm dD,List.sum_append,qB,qm dD];simp
 rw[key ns.length<|qe _,List.take_of_length_le<|qe _]
def Kn(K:qc):Qa V->Hp->VK->Prop:=λxs H Q=>∃ (p:Qg) (ns:Qa Int),xs=[.ref p]/\(aO K H p (ns.map V.int)\/bw K H p (ns.map V.int))/\Q (.int ns.sum) H
theorem Ue(K:qc)(hK:X.K=K)(hc:X.calm=true):fO X (.builtin "sum") (Kn K):=by
 subst hK;intro pins s σ H xs us Q I r h;have(p,ns,rfl,hq,q):=h;have(u,rfl,ru):=l6 r;cases ru;refine call_sum_walkG<|zqx I (I.ok.hd hc) hq λit fp wr n P St s2 W st hfp hn hP hI=>⟨it,fp,wr,n,P,St,λi=>ns.getD i 0,rfl,W,st,hfp,?_,λh' tk t' hk=>?_⟩
 .intro i v hv
  have(x,ex,rx):=hP i v hv;rw[List.getElem?_map]at ex;cases eb:ns[i]? with
  | none=>rw[eb]at ex; cases ex
  | some b=>
   rw[eb]at ex;cases ex;have(t,rfl):=rx;have ew:ns.getD i 0=b:=by rw[qB,eb]; rfl
   refine⟨t,?_⟩;show Value.int b t=Value.int (ns.getD i 0) t;rw[ew]
 .rw[hn,List.length_map,zlY]
  exact⟨.int _,H,hI h' tk hk,⟨t',rfl⟩,q⟩
end
section
variable{fp wr:Qa Qg}{P:Nat->Qc->Prop}{St:Nat->Heap->Prop}
end
section
end
section
variable{X:Cx}
end
section
theorem HI{t:Qg}{items:Array Qc}{x:Qc}(hi:s.heap.IsTupleIter it t i)(ht:s.heap.IsTuple t items)(hx:items[i]?=some x)
  (q:∀ h',h'.IsTupleIter it t (i+1)->Heap.SameBut it s.heap h'->Q x {s with heap:=h'}):wpAny (model prog w) A (Builtin.SmallTypes.nextOf<|.ref it) Q E s:=by
 have(oi,e1,e2,e3):=id hi;have(ot,f1,f2,nt,f3):=ht;unfold Builtin.SmallTypes.nextOf;refine qa (wpAny_callSpecial?_slot (name:=Str.ofString "__next__") hi.typeIs slot_tupleiter_next
  (wpAny_call_entry slot_tupleiter_next hi.typeIs entry_tupleiter_next ?_<|args_tupleiter_next _))
 show wpAny _ _ (field (.ref it) 0 >>= _) _ _ s;refine qa<|wpAny_field e1 e3 (x:=.ref t) rfl ?_;show wpAny _ _ (if(Value.ref t==Value.none)=true then _ else _) _ _ s;rw[if_neg (show ¬((Value.ref t==Value.none)=true) from qf)];show wpAny _ _ (field (.ref it) 1 >>= _) _ _ s;refine qa<|wpAny_field e1 e3 (x:=.int i 0) rfl ?_;show wpAny _ _ (seqItems? (.ref t) >>= _) _ _ s;refine qa<|wpAny_seqItems f1 f3 ?_;simp only[Int.toNat_natCast,hx];refine qa<|wpAny_setField e1 e3 (by simp)<|qb ⟨x,rfl,qb<|q _ ?_<|Ë ..⟩;refine⟨_,Ð _ e1<|Obj.isFreed_of_fields<|Obj.data_mapFields e3 _,(Obj.cls_mapFields ..).trans e2,?_⟩;rw[Obj.data_mapFields e3];simp[rawInt]
theorem OL{t:Qg}{items:Array Qc}(hh:A.handled=none)(hi:s.heap.IsTupleIter it t i)(ht:s.heap.IsTuple t items)(hx:items[i]?=none)
  (q:∀ h' e,Heap.ExtBut it s.heap h'->(∃ o,h'.get? e=some o/\o.cls=.type "StopIteration")->E (.ref e) {s with heap:=h'}):wpAny (model prog w) A (Builtin.SmallTypes.nextOf<|.ref it) Q E s:=by
 have(oi,e1,e2,e3):=id hi;have(ot,f1,f2,nt,f3):=ht;unfold Builtin.SmallTypes.nextOf;refine qa (wpAny_callSpecial?_slot (name:=Str.ofString "__next__") hi.typeIs slot_tupleiter_next
  (wpAny_call_entry slot_tupleiter_next hi.typeIs entry_tupleiter_next ?_<|args_tupleiter_next _))
 show wpAny _ _ (field (.ref it) 0 >>= _) _ _ s;refine qa<|wpAny_field e1 e3 (x:=.ref t) rfl ?_;show wpAny _ _ (if(Value.ref t==Value.none)=true then _ else _) _ _ s;rw[if_neg (show ¬((Value.ref t==Value.none)=true) from qf)];show wpAny _ _ (field (.ref it) 1 >>= _) _ _ s;refine qa<|wpAny_field e1 e3 (x:=.int i 0) rfl ?_;show wpAny _ _ (seqItems? (.ref t) >>= _) _ _ s;refine qa<|wpAny_seqItems f1 f3 ?_;simp only[Int.toNat_natCast,hx];refine qa<|wpAny_rule<|qa<|wpAny_setField e1 e3 (by simp) ?_;show wpAny _ _ (newExc (.type "StopIteration") [] >>= _) _ _ _;refine qa ?_;simp only[newExc,newTuple];refine qa<|qA ?_ (by show(0:Nat)<=sizeLine; exact Å _);refine qa (m:=firstArgMember _ _)<|wpAny_of_eq (a:=Value.none) (by first|rfl | (simp only[firstArgMember]; rfl)) ?_;refine qA ?_ (by first|trivial|size_fits);simp only[raiseNew];refine qa (wpAny_handled ?_)
 first|rw[show A.in1.handled=none from hh] | rw[hh]
 refine qa<|qb<|wpAny_throw ?_;exact q _ _ (((Ë ..).extBut.push _).push _) ⟨_,qg _ rfl,rfl⟩
end
theorem O1(hh:A.handled=none)(it t:Qg)(ne:t≠it)(items:Array Qc):
  Draws prog w A it [it,t] items.size (λi v=>items[i]?=some v) (λi h=>h.IsTupleIter it t i/\h.IsTuple t items) where
 live:=λ_ _ st=>let ⟨o,ho,_⟩:=st.1; ⟨o,ho⟩
 frame:=λ_ _ _ st hk=>by
  obtain⟨⟨o,a1,a2,a3⟩,⟨o2,b1,b2⟩⟩:=st;exact⟨⟨o,hk it (by simp) o a1,a2,a3⟩,⟨o2,hk t (by simp) o2 b1,b2⟩⟩
 item:=λi s Q E hi st q=>by
  refine HI st.1 st.2 (x:=items[i]) (by simp[hi]) λh' JI lM=>?_;exact q _ h' s.toks (by simp[hi]) ⟨JI,st.2.extBut lM.extBut ne⟩ lM
 done:=λs Q E st q=>OL hh st.1 st.2 (by simp) q
theorem zo6(t:Qg)(items:Array Qc)(n:Nat)(iL:Qb Qg)(sl:Array (Qb Qc)):
  Meets (Builtin.«enumerate.__new__» ⟨[.type "enumerate",.ref t],[]⟩) (λ_ R s=>s.heap.get? t=some {cls:=.type "tuple",dict:=iL,data:=.seq items n,slots:=sl}/\
   R (.ok<|.ret<|.ref (s.heap.push {cls:=.type "tuple_iterator",data:=.fields #[.ref t,.int 0 0]}).objs.size)
    {s with heap:=(s.heap.push {cls:=.type "tuple_iterator",data:=.fields #[.ref t,.int 0 0]}).push {cls:=.type "enumerate",data:=.fields #[.none,.bool false,.ref s.heap.objs.size,rawInt 0,.none,.none]}}):=
 .of_wp λprog w A R s h=>by
  have(hp,g,d,tk,os):=s;have(hl,h):=h;have JB:=sub_enumerate;have hT:Heap.IsTuple (Shared.heap ⟨hp,g,d,tk,os⟩) t items:=⟨_,hl,rfl,n,rfl⟩
  wp_walk using PySem.AutoSeq1.wpAny_loadPart' hl
  refine wpAny_stack_any λst=>qb ?_;split
  .rename_i c _ _ _ _ _
   cases(c==Value.type "enumerate")
   .wp_walk using PySem.AutoSeq1.wpAny_loadPart' hl,wpAny_pyIter_tuple hT
    exact⟨_,rfl,h⟩
   .wp_walk using PySem.AutoSeq1.wpAny_loadPart' hl,wpAny_pyIter_tuple hT
    exact⟨_,rfl,h⟩
  .wp_walk using PySem.AutoSeq1.wpAny_loadPart' hl,wpAny_pyIter_tuple hT
   exact⟨_,rfl,h⟩
section
theorem zlZ{t:Qg}{items:Array Qc}(hT:s.heap.IsTuple t items)
  (h:∀ h',IsEnum h' (s.heap.objs.size+1) s.heap.objs.size 0 .none->h'.IsTupleIter s.heap.objs.size t 0->(∀ b o,s.heap.get? b=some o->h'.get? b=some o)->Q (.ref<|s.heap.objs.size+1) {s with heap:=h'}):
  wpAny (model prog w) A (call (.type "enumerate") [.ref t]) Q E s:=by
 obtain⟨⟨c,iL,dt,sl⟩,hl,hc,n,hd⟩:=hT;replace hc:c=.type "tuple":=hc;replace hd:dt=.seq items n:=hd;subst hc hd;refine callType_new F.called_enumerate (by decide) (F.typeCall_enumerate_1 _) (F.newCall_enumerate_1 _) (λobj=>F.args_object_init_2 obj _) F.entry_enumerate_new
  (zo6 t items n iL sl) ⟨hl,?_⟩
 have hz:(s.heap.push {cls:=.type "tuple_iterator",data:=.fields #[.ref t,.int 0 0]}).objs.size=s.heap.objs.size+1:=Heap.size_push ..;show _/\_;rw[hz];have he:IsEnum ((s.heap.push {cls:=.type "tuple_iterator",data:=.fields #[.ref t,.int 0 0]}).push
   {cls:=.type "enumerate",data:=.fields #[.none,.bool false,.ref s.heap.objs.size,rawInt 0,.none,.none]}) (s.heap.objs.size+1) s.heap.objs.size 0 .none:=by
  have z:=qg (s.heap.push {cls:=.type "tuple_iterator",data:=.fields #[.ref t,.int 0 0]})
   (o:={cls:=.type "enumerate",data:=.fields #[.none,.bool false,.ref s.heap.objs.size,rawInt 0,.none,.none]}) rfl
  rw[hz]at z;exact z
 exact⟨⟨_,he,rfl⟩,h _ he ⟨_,qd _<|qg _ rfl,rfl,rfl⟩ λb o x=>qd _<|qd _ x⟩
end
section
variable{X:Cx}
theorem Inv.aS{t':Nat}{wr:Qa Qg}(I:Inv X pins σ H s)(k:∀ b o,b∉wr->s.heap.get? b=some o->h'.get? b=some o)(hf:∀ b∈wr,bM X pins H b):Inv X pins σ H {s with heap:=h',toks:=t'}:=by
 have gJ:∀ b u,H b=some u->b∉wr:=λb u e z=>by rw[(hf b z).1]at e; cases e
 refine I.step (g':=s.gens) (d':=s.drawn) (ch:=wr) (λb hb=>?_) (λb o _ _ hc e _=>k b o hc e) (λb o _ _ hc e _=>⟨o.slots,k b o hc e⟩) (λ_ _ _ _ n=>n)
  (λb o hc e=>⟨o,k b o hc e⟩) (λ_ _ e=>e) (λ_ _ _ e=>e) (λb ps e=>⟨#[],by rw[e]; simp⟩) (λm hm=>?_) (λb u e=>?_) I.bare
 .have(_,z1,_,z3,z4,z5):=hf b hb
  exact⟨z3,z1,z4,z5⟩
 .have(o,es,ep,ho,r):=hm
  exact⟨o,es,ep,k _ o (λz=>(hf _ z).2.1 rfl) ho,r⟩
 .refine(I.aq b u e).cA (λc v hc q=>k c v ?_ q) (λ_ q=>q) λ_ _ q=>q
  rcases hc with z|z
  .rw[z]; exact gJ b u e
  .exact gJ c _ z
theorem Inv.eT{o:HO}(I:Inv X pins σ H s)(f:bM X pins H a)(ha:X.aX.heap.objs.size<=a)(new:zI X.prog X.w X.K (upd H a o) s.heap a o):Inv X pins σ (upd H a o) s:=by
 have(f0,f1,f2,f3,f4,f5):=f;refine⟨I.ok,I.os,I.bare,NY I.base f0 ha,I.loc,I.cell,?_,λx c e=>?_,λp hp=>?_,OM I.aq f0 new,I.len⟩
 .rw[zq<|Ne.symm f1]
  exact I.free
 .rw[zq<|f4 x c e]
  exact I.bC x c e
 .have(p1,p2,p3):=I.pin p hp
  refine⟨p1,?_,p3⟩;rw[zq<|f5 p hp];exact p2
end
def Tq(K:qc)(a:Qg):It :=
 ⟨λi H=>∃ xs x,bw K H a xs/\xs[i]?=some x,λi H x H'=>∃ T,H T=none/\x=.ref T/\∀ xs v,bw K H a xs->xs[i]?=some v->H'=upd H T (.tup [.int i,v]),λi H=>∃ xs,bw K H a xs/\xs.length=i⟩
theorem zo7{k:Nat}(e it t:Qg)(uh:e≠it)(yF:t≠e)(yE:t≠it):
  Turn P w K (.Tuple elts k pos) (Tq K t) [e,it] e (λi h=>(∃ old,IsEnum h e it i old)/\h.IsTupleIter it t i) where
 mem:=by simp
 obj:=λi h st b hb=>by
  obtain⟨⟨old,he⟩,⟨o,ho,_,hd⟩⟩:=st;rcases qv.mp hb with z|z
  .subst z
   exact⟨_,he,λv q=>by
    have q':Data.fields _=Data.cell v:=q;cases q'⟩
  .rw[qq.mp z]
   exact⟨o,ho,λv q=>by rw[hd]at q; cases q⟩
 keep:=λi h h' st kk=>by
  obtain⟨⟨old,he⟩,⟨o,ho,hc,hd⟩⟩:=st;exact⟨⟨old,kk e (by simp) _ he⟩,⟨o,kk it (by simp) _ ho,hc,hd⟩⟩
 item:=by
  intro X hP hw hK hc i pins s σ H E I hf st hg;subst hP hw hK;have(xs,x,hq,hx):=hg;have(af,rv,ht,hz):=I.tuple hq;have hi:i < af.toArray.size:=by
   rw[List.size_toArray,<-rv.length];exact(qk.mp hx).1
  have W:=WalksT.enumerateD (O1 (prog:=X.prog) (w:=X.w) (A:=X.A.in1) (I.ok.hd hc) it t yE af.toArray) e uh (by simp[uh,Ne.symm yF]) (by simp);refine W.item i s _ _ hi ⟨st.1,st.2,ht⟩ λT vals h1 tk hP hT gQ mid kk=>?_;refine⟨_,rfl,W.go elts k pos i T {s with heap:=h1,toks:=tk} _ _ mid λh2 jh mU=>?_⟩;have(tt,u,hu,rfl):=hP;have apart:=W.apart _ _ _ mid;have I2:Inv X pins σ H {s with heap:=h2,toks:=tk}:=I.aS (wr:=[e,it]) (λb o hb q=>mU b o hb<|kk b o hb q) hf;have fT:bM X pins H T:=I.bJ hT (I.aq.fresh hT);have ru:zA x u:=by
   have(u',eu,r):=rv.get hx;have:u'=u:=by
    have z:af[i]?=some u:=by simpa using hu
    rw[eu]at z;exact qx z
   rw[<-this];exact r
  have(oT,g1,g2,nT,g3):=gQ;have I3:Inv X pins σ (upd H T<|.tup [.int i,x]) {s with heap:=h2,toks:=tk}:=I2.eT fT (qy I.sz hT) ⟨by show 2<=sizeLine; decide,[.int i tt,u],.cons ⟨tt,rfl⟩<|.cons ru .nil,oT,mU T oT apart g1,g2,⟨nT,g3⟩,.inr ⟨_,_,_,rfl⟩⟩;refine⟨.ref T,_,I3,rfl,⟨T,I.aq.fresh hT,rfl,λgv v pP hv=>?_⟩,⟨?_,jh.2.1⟩,λb hb=>?_⟩
  .have:=I.bS hq pP
   subst this;rw[hx]at hv;cases hv;rfl
  .exact jh.1
  .have ne:b≠T:=λz=>apart (by rw[<-z]; exact hb)
   rw[zq ne];exact(hf b hb).1
 done:=by
  intro X hP hw hK hc i pins s σ H E I hf st hg;subst hP hw hK;have(xs,hq,hl):=hg;have(af,rv,ht,hz):=I.tuple hq;have hi:i=af.toArray.size:=by
   rw[List.size_toArray,<-rv.length];exact hl.symm
  have W:=WalksT.enumerateD (O1 (prog:=X.prog) (w:=X.w) (A:=X.A.in1) (I.ok.hd hc) it t yE af.toArray) e uh (by simp[uh,Ne.symm yF]) (by simp);refine W.done s _ _ ?_ λh1 tk kk=>⟨rfl,I.aS (wr:=[e,it]) kk hf⟩;rw[<-hi];exact⟨st.1,st.2,ht⟩
 self:=λ_ _ _ _ _ st h=>by
  obtain⟨⟨old,he⟩,_⟩:=st;exact wpAny_pyIter_enum he h
section
variable{X:Cx}{k:Nat}
def Lh(K:qc)(ta:TA):TI:=λσ H R=>ta σ H λvs H1=>∃ a,vs=[.ref a]/\(∃ xs,bw K H1 a xs)/\R (Tq K a) H1
theorem NC{a:Expr}{ta:TA}{p:Pos}(ha:Wr (PA X [a] ta))(hK:X.K=K:=by rfl)(hg:Gl X "enumerate":=by exact rfl)(hm:X.mg "enumerate"=none:=by exact qR ‹Bl _ _› (by decide))(hs:zR a=true:=by rfl):
  Wr (PI X (.Tuple elts k gG) (.Call (.Name "enumerate" p) [a] [] pos)<|Lh K ta):=by
 subst hK;refine⟨?_⟩;intro pins s σ H R I h;refine Call_<|rq I hg hm boot_enumerate<|Ö (aw (ha.run pos pins s σ H _ I h) λus s1 hZ=>?_) (kr hs) rfl;have(vs,H1,I1,r1,q1):=hZ;obtain⟨t,e,⟨xs,hq⟩,q⟩:=q1;subst e;have(u,rfl,ru):=l6 r1;cases ru;have(af,rv,ht,hz):=I1.tuple hq;have tl:t < s1.heap.objs.size:=by
  have(o,e,_):=ht;exact qh e
 refine zlZ (show s1.heap.IsTuple t af.toArray from ht) λh' he hit kk=>?_;have I2:Inv X pins σ H1 {s1 with heap:=h'}:=I1.kept (t':=s1.toks) kk;refine wpAny_pyIter_enum he ?_;refine⟨s1.heap.objs.size+1,[s1.heap.objs.size+1,s1.heap.objs.size],_,_,H1,rfl,I2,zo7 (s1.heap.objs.size+1) s1.heap.objs.size t (Nat.succ_ne_self _) (qj<|ä tl)<|qj tl,⟨⟨_,he⟩,hit⟩,λb hb=>?_,q⟩;rcases qv.mp hb with z|z
 .subst z
  exact I1.bJ (ð _)<|I1.aq.fresh<|ð _
 .rw[qq.mp z]
  exact I1.bJ (qe _)<|I1.aq.fresh<|qe _
end
section
variable{X:Cx}
end
section
variable{X:Cx}{i v:Expr}{k:Nat}
theorem vI:Wr (PE X (.Dict [] [] pos) BW):=⟨zqg⟩
theorem lF(hr:aA k X.A)(ho:Wr (PE X o td))(hi:Wr (PE X i ty))(hs:AW i:=by intro _ _; rfl):Wr (PE X (.Subscript o i pos)<|FG X.K td ty):=⟨XS (sL hr) ho.run hi.run hs⟩
theorem Gs(hr:aA k X.A)(hi:Wr (PE X i ty))(ho:Wr (PE X o td))(h1:behindInMarks .In o=false:=by rfl):Wr (PT X (.Compare i [.In] [o] pos)<|tB<|ES X.K ty td):=⟨Mu (VR (sL hr) hi.run ho.run) h1⟩
theorem BS(hr:aA k X.A)(ho:Wr (PE X o td))(hi:Wr (PE X i ty))(hv:Wr (PE X v tv))(hs:swapsWith v (some<|.Subscript o i pos') pos.line X.env=pure false:=by rfl):
  Wr (PS X (.Assign [.Subscript o i pos'] v pos)<|FF X.K td ty tv):=⟨XR (sL hr) ho.run hi.run hv.run hs⟩
end
end L2
namespace L2
open PySem PySem.W PyProof.Rows
section
def eh(lt:Nat->Nat->Bool)(n:Nat):KasT α->(α->Prop)->Prop
 | .ret a,Q=>Q a
 | .ask i j k,Q=>i < n/\j < n/\eh lt n (k<|lt i j) Q
theorem eh.bind{lt:Nat->Nat->Bool}{f:α->KasT β}{Q:β->Prop}:∀ {t:KasT α},eh lt n t (λa=>eh lt n (f a) Q)->eh lt n (t.bind f) Q
 | .ret _,h=>h
 | .ask _ _ _,⟨h1,h2,h3⟩=>⟨h1,h2,eh.bind h3⟩
theorem eh.wp{lt:Nat->Nat->Bool}{Q:α->Prop}{Q':α->Qd->Prop}(hc:∀ i j (C:Bool->Qd->Prop),i < n->j < n->C (lt i j) s->cmp i j C s)(hQ:∀ a,Q a->Q' a s):
  ∀ {t:KasT α},eh lt n t Q->t.kasWp cmp Q' s
 | .ret _,h=>hQ _ h
 | .ask i j k,⟨h1,h2,h3⟩=>hc i j _ h1 h2<|eh.wp hc hQ h3
end
section
variable{rk:Nat->Int}
def KR(rk:Nat->Int)(p:Array Nat)(i:Nat):Int:=rk (p.getD i 0)
def j0(rk:Nat->Int)(i j:Nat):Bool:=decide (rk i < rk j)
def Pm(n:Nat)(p:Array Nat):Prop:=p.Perm (List.range n).toArray
theorem Pm.size(h:Pm n p):p.size=n:=by
 have:=h.size_eq;simpa using this
theorem Pm.lt(h:Pm n p)(hi:i < n):p.getD i 0 < n:=by
 have hs:=h.size;have cU:i < p.size:=by omega
 have e:p.getD i 0=p[i]:=by simp[Array.getD,cU]
 rw[e];have m:p[i]∈(List.range n).toArray:=(h.mem_iff).mp (Array.getElem_mem cU);simpa using m
theorem xJ{q:Array Nat}(h:p[i]?=q[j]?):KR rk p i=KR rk q j:=by
 have e:∀ (x:Array Nat) (k:Nat),x.getD k 0=(x[k]?).getD 0:=λx k=>by simp
 unfold KR;rw[e,e,h]
theorem BR(hj:j<=p.size)(k:Nat):KR rk (kas_rev p i j) k=if i<=k/\k < j then KR rk p (i+j - 1 - k)else KR rk p k:=by
 have e:=getElem?_mirror_all (xs:=p) (i:=i) hj k;unfold kas_rev
 by_cases h:i<=k/\k < j
 .rw[if_pos h]at e ⊢
  exact xJ e
 .rw[if_neg h]at e ⊢
  exact xJ e
theorem OK{src d:Nat}(hs:src < p.size)(hd:d<=src)(k:Nat):KR rk (bubble p src d) k=if k=src - d then KR rk p src else if src - d < k/\k<=src then KR rk p (k - 1)else KR rk p k:=by
 have e:=getElem?_bubble hs d hd k
 by_cases h1:k=src - d
 .rw[if_pos h1]at e ⊢; exact xJ e
 .rw[if_neg h1]at e ⊢
  by_cases h2:src - d < k/\k<=src
  .rw[if_pos h2]at e ⊢; exact xJ e
  .rw[if_neg h2]at e ⊢; exact xJ e
theorem Pm.rev(h:Pm n p)(i j:Nat):Pm n (kas_rev p i j):=(mirror_perm p i j _).trans h
theorem Pm.bubble(h:Pm n p)(i d:Nat):Pm n (PyProof.Rows.bubble p i d):=(bubble_perm p i d).trans h
def Up(rk:Nat->Int)(p:Array Nat)(m:Nat):Prop:=∀ i j,i<=j->j < m->KR rk p i<=KR rk p j
def Dn(rk:Nat->Int)(p:Array Nat)(m:Nat):Prop:=∀ i j,i<=j->j < m->KR rk p j<=KR rk p i
theorem Up.more(h:Up rk p m)(h1:1<=m)(hm:KR rk p (m - 1)<=KR rk p m):Up rk p (m+1):=λi j gy hj=>by
 by_cases e:j=m
 .subst e
  by_cases e2:i=j
  .subst e2; exact æ _
  .exact Int.le_trans (h i (j - 1) (by omega) (by omega)) hm
 .exact h i j gy (by omega)
theorem Dn.more(h:Dn rk p m)(h1:1<=m)(hm:KR rk p m<=KR rk p (m - 1)):Dn rk p (m+1):=λi j gy hj=>by
 by_cases e:j=m
 .subst e
  by_cases e2:i=j
  .subst e2; exact æ _
  .exact Int.le_trans hm (h i (j - 1) (by omega) (by omega))
 .exact h i j gy (by omega)
theorem yn(c:rk i < rk j):j0 rk i j=true:=decide_eq_true c
theorem yo(c:¬rk i < rk j):j0 rk i j=false:=decide_eq_false c
theorem NV(hp:Pm n p){Q:Nat->Prop}:∀ (f m:Nat),1<=m->m+f<=n->Up rk p m->(∀ m',m<=m'->m'<=m+f->Up rk p m'->(m' < m+f->KR rk p m' < KR rk p (m' - 1))->Q m')->eh (j0 rk) n (kas_asc p f m) Q:=by
 intro f
 induction f with
 | zero=>exact λm _ _ hu h=>h m (qe _) (qe _) hu λz=>absurd z<|Ç _
 | succ f ih=>
  intro m h1 hf hu h;refine⟨hp.lt (by omega),hp.lt (by omega),?_⟩
  by_cases c:rk (p.getD m 0) < rk (p.getD (m - 1) 0)
  .rw[yn c]
   dsimp only;rw[if_pos rfl];exact h m (qe _) (by omega) hu λ_=>c
  .rw[yo c]
   dsimp only;rw[if_neg qf];exact ih (m+1) (by omega) (by omega) (hu.more h1<|Int.not_lt.mp c) λm' a b c2 d=>h m' (by omega) (by omega) c2 λz=>d (by omega)
def AD(rk:Nat->Int)(p:Array Nat)(m q:Nat):Prop:=q+1<=m/\∀ i,m - (q+1)<=i->i < m->KR rk p i=KR rk p (m - 1)
theorem Km(h:1<=m):AD rk p m 0:=⟨h,λi a b=>by
 have:i=m - 1:=by omega
 rw[this]⟩
theorem NB{q:Nat}(hm:m<=p.size)(h:AD rk p m q)(k:Nat):KR rk (kas_rev p (m - (q+1)) m) k=KR rk p k:=by
 rw[BR hm];split
 .rw[h.2 _ (by omega) (by have:=h.1; omega),h.2 k (by omega) (by omega)]
 .rfl
theorem Dn.congr{p':Array Nat}(h:Dn rk p m)(e:∀ k,KR rk p' k=KR rk p k):Dn rk p' m:=λi j gy hj=>by
 rw[e,e];exact h i j gy hj
theorem zo8{Q:Array Nat×Nat×Nat->Prop}:∀ (f:Nat) (p:Array Nat) (m q:Nat),Pm n p->1<=m->m+f<=n->Dn rk p m->AD rk p m q->
  (∀ p' m' q',Pm n p'->1<=m'->m'<=m+f->Dn rk p' m'->AD rk p' m' q'->Q (p',m',q'))->eh (j0 rk) n (kas_desc f p m q) Q:=by
 intro f
 induction f with
 | zero=>exact λp m q hp h1 _ hd he h=>h p m q hp h1 (qe _) hd he
 | succ f ih=>
  intro p m q hp h1 hf hd he h;have hs:=hp.size;refine⟨hp.lt (by omega),hp.lt (by omega),?_⟩
  by_cases c:rk (p.getD m 0) < rk (p.getD (m - 1) 0)
  .rw[yn c]
   dsimp only;rw[if_pos rfl];have hd2:Dn rk p (m+1):=hd.more h1 (é c);have one:∀ x:Array Nat,AD rk x (m+1) 0:=λx=>Km (by omega)
   by_cases hq:q > 0
   .rw[if_pos hq]
    have e:=NB (by omega) he;exact ih _ (m+1) 0 (hp.rev _ _) (by omega) (by omega) (hd2.congr e) (one _) λp' m' q' a b c d e=>h p' m' q' a b (by omega) d e
   .rw[if_neg hq]
    exact ih p (m+1) 0 hp (by omega) (by omega) hd2 (one _) λp' m' q' a b c d e=>h p' m' q' a b (by omega) d e
  .rw[yo c]
   dsimp only;rw[if_neg qf];refine⟨hp.lt (by omega),hp.lt (by omega),?_⟩
   by_cases c2:rk (p.getD (m - 1) 0) < rk (p.getD m 0)
   .rw[yn c2]
    dsimp only;rw[if_pos rfl];exact h p m q hp h1 (by omega) hd he
   .rw[yo c2]
    dsimp only;rw[if_neg qf];have eq:KR rk p m=KR rk p (m - 1):=Int.le_antisymm (Int.not_lt.mp c2) (Int.not_lt.mp c);refine ih p (m+1) (q+1) hp (by omega) (by omega) (hd.more h1<|Int.le_of_eq eq) ⟨by have:=he.1; omega,λi a b=>?_⟩ λp' m' q' a b c d e=>h p' m' q' a b (by omega) d e;rw[show m+1 - 1=m by omega,eq]
    by_cases im:i=m
    .rw[im,eq]
    .exact he.2 i (by omega) (by omega)
def Run(rk:Nat->Int)(n:Nat)(r:Nat×Array Nat):Prop:=Pm n r.2/\r.1<=n/\Up rk r.2 r.1
theorem OR(hp:Pm n p)(h1:1<=m)(hm:m<=n)(hd:Dn rk p m){Q:Nat×Array Nat->Prop}(h:∀ r,Run rk n r->Q r):eh (j0 rk) n (kas_tail3 m n p) Q:=by
 have hs:=hp.size;refine eh.bind<|NV (hp.rev 0 m) (n - m) m h1 (by omega) (λi j gy hj=>?_) λm' a b c _=>h (m',_) ⟨hp.rev 0 m,by show m'<=n; omega,c⟩;rw[BR (by omega),BR (by omega),if_pos ⟨by omega,by omega⟩,if_pos ⟨by omega,hj⟩];exact hd _ _ (by omega) (by omega)
theorem P5(hp:Pm n p)(h1:1<=m)(hm:m+1<=n)(hd:Dn rk p (m+1)){Q:Nat×Array Nat->Prop}(h:∀ r,Run rk n r->Q r):eh (j0 rk) n (kas_descPart m n p) Q:=by
 refine eh.bind<|zo8 (n - (m+1)) p (m+1) 0 hp (by omega) (by omega) hd (Km (by omega)) λp' m' q' pS a b d e=>?_;have hs:=pS.size;show eh (j0 rk) n (if q' > 0 then _ else _) Q;split
 .exact OR (pS.rev _ _) a (by omega) (d.congr<|NB (by omega) e) h
 .exact OR pS a (by omega) d h
theorem zl1(hp:Pm n p)(h1:1<=n){Q:Nat×Array Nat->Prop}(h:∀ r,Run rk n r->Q r):eh (j0 rk) n (kas_count n p) Q:=by
 have hs:=hp.size;refine eh.bind<|NV hp (n - 1) 1 (qe _) (by omega) (λi j gy hj=>by
  have:i=j:=by omega
  subst this; exact æ _) λm a b u l=>?_
 by_cases e:m=n
 .rw[if_pos (by simpa using e)]
  exact h _ ⟨hp,by show m<=n; omega,u⟩
 rw[if_neg (by simpa using e)];have l:=l (by omega)
 by_cases m1:m > 1
 .rw[if_pos m1]
  refine⟨hp.lt (by omega),hp.lt (by omega),?_⟩
  by_cases c:rk (p.getD 0 0) < rk (p.getD (m - 1) 0)
  .rw[yn c]
   dsimp only;rw[if_pos rfl];exact h _ ⟨hp,by show m<=n; omega,u⟩
  .rw[yo c]
   dsimp only;rw[if_neg qf];have all:∀ i,i < m->KR rk p i=KR rk p 0:=λi hi=>Int.le_antisymm (Int.le_trans (u i (m - 1) (by omega) (by omega))<|Int.not_lt.mp c)<|u 0 i (by omega) hi;have ek:∀ k,KR rk (kas_rev p 0 m) k=KR rk p k:=λk=>by
    rw[BR (by omega)];split
    .rw[all _ (by omega),all k (by omega)]
    .rfl
   refine P5 (hp.rev 0 m) (by omega) (by omega) (Dn.congr (p:=p) (λi j gy hj=>?_) ek) h
   by_cases jm:j=m
   .subst jm
    by_cases ij:i=j
    .subst ij; exact æ _
    .rw[all i (by omega),<-all (j - 1) (by omega)]
     exact é l
   .rw[all i (by omega),all j (by omega)]
    exact æ _
 .rw[if_neg m1]
  have:m=1:=by omega
  subst this;refine P5 hp (by omega) (by omega) (λi j gy hj=>?_) h
  by_cases ij:i=j
  .subst ij; exact æ _
  .have e1:i=0:=by omega
   have e2:j=1:=by omega
   subst e1; subst e2;exact é l
theorem zl2{k:Nat}(hp:Pm n p)(hk:k < n){Q:Nat->Prop}(h:∀ l,l<=k->(∀ i,i < l->KR rk p i<=KR rk p k)->(∀ i,l<=i->i < k->KR rk p k<=KR rk p i)->Q l)(hu:Up rk p k):
  ∀ (f l r:Nat),l<=r->r<=k->r - l<=f->(∀ i,i < l->KR rk p i<=KR rk p k)->(∀ i,r<=i->i < k->KR rk p k<=KR rk p i)->eh (j0 rk) n (kas_place p k f l r) Q:=by
 intro f
 induction f with
 | zero=>exact λl r a b c d e=>h l (by omega) d λi hi=>e i (by omega)
 | succ f ih=>
  intro l r a b c d e;unfold kas_place
  by_cases g:l>=r
  .rw[if_pos g]
   exact h l (by omega) d λi hi=>e i (by omega)
  .rw[if_neg g]
   refine⟨hp.lt hk,hp.lt (by omega),?_⟩
   by_cases x:rk (p.getD k 0) < rk (p.getD ((l+r) / 2) 0)
   .rw[yn x]
    dsimp only;rw[if_pos rfl];exact ih l ((l+r) / 2) (by omega) (by omega) (by omega) d λi hi hik=>Int.le_trans (é x)<|hu _ i hi hik
   .rw[yo x]
    dsimp only;rw[if_neg qf];exact ih ((l+r) / 2+1) r (by omega) (by omega) (by omega) (λi hi=>Int.le_trans (hu i ((l+r) / 2) (by omega) (by omega))<|Int.not_lt.mp x) e
theorem Of{Q:Array Nat->Prop}(h:∀ p,Pm n p->Up rk p n->Q p):∀ (f:Nat) (p:Array Nat) (k:Nat),Pm n p->1<=k->k+f=n->Up rk p k->eh (j0 rk) n (kas_bin f p k) Q:=by
 intro f
 induction f with
 | zero=>exact λp k hp _ e hu=>h p hp (by rw[<-e]; exact hu)
 | succ f ih=>
  intro p k hp h1 e hu;have hs:=hp.size;refine eh.bind (zl2 hp (by omega) (λl hl a b=>?_) hu k 0 k (by omega) (qe _) (by omega) (λi hi=>absurd hi<|Nat.not_lt_zero _) λi a b=>by omega);refine ih _ (k+1) (hp.bubble _ _) (by omega) (by omega) λi j gy hj=>?_;rw[OK (by omega) (by omega),OK (by omega) (by omega),show k - (k - l)=l by omega]
  by_cases il:i=l
  .rw[if_pos il]
   by_cases jl:j=l
   .rw[if_pos jl]; exact æ _
   .rw[if_neg jl]
    split
    .exact b _ (by omega) (by omega)
    .omega
  .rw[if_neg il]
   by_cases jl:j=l
   .rw[if_pos jl]
    split
    .omega
    .exact a i (by omega)
   .rw[if_neg jl]
    split<;>split
    .exact hu _ _ (by omega) (by omega)
    .omega
    .exact hu _ _ (by omega) (by omega)
    .exact hu _ _ (by omega) (by omega)
theorem zo9(h2:1<=n){Q:Array Nat->Prop}(h:∀ p,Pm n p->Up rk p n->Q p):eh (j0 rk) n (kas_sort n) Q:=by
 refine eh.bind<|zl1 (Array.Perm.refl _) h2 λr hZ=>?_;have(hp,hr,hu):=hZ;split
 .rename_i c
  by_cases z:r.1=0
  .rw[z]
   exact Of h (n - max 0 1) r.2 (max 0 1) hp (by decide) (by have:max 0 1=1:=rfl; omega) λi j gy hj=>by
    have:max 0 1=1:=rfl;have:i=j:=by omega
    subst this; exact æ _
  .have e:max r.1 1=r.1:=by omega
   rw[e];exact Of h (n - r.1) r.2 r.1 hp (by omega) (by omega) hu
 .have:r.1=n:=by omega
  exact h _ hp (by rw[<-this]; exact hu)
end
end L2
namespace L2
open PySem PySem.Spec PyProof.Rows
open PySem.AutoSeq1 (wpAny_loadPart')
open MeetsSeq MeetsSeq2 MeetsSeq3 SeqRoads2
def cP:Qa Int->Qa Int->Bool
 | [],[]=>false
 | [],_::_=>true
 | _::_,[]=>false
 | a::as,b::bs=>if a=b then cP as bs else decide (a < b)
theorem zpa{a b:Int}{t u:Tok}(h:Q (.bool<|decide<|a < b) s):wpAny (model prog w) A (richCompare .Lt (.int a t)<|.int b u) Q E s:=wpAny_lt_int h
theorem zl3(l b:Qg)(items aQ:Array Qc)(n n2:Nat)(dd uF:Qb Qg)(sl nY:Array (Qb Qc))(xs ys:Qa Int):
  Meets (Builtin.«tuple.__lt__» ⟨[.ref l,.ref b],[]⟩)
   (λA R s=>s.heap.get? l=some {cls:=.type "tuple",dict:=dd,data:=.seq items n,slots:=sl}/\s.heap.get? b=some {cls:=.type "tuple",dict:=uF,data:=.seq aQ n2,slots:=nY}/\
    IntsAre items.toList xs/\IntsAre aQ.toList ys/\R (.ok<|.ret<|.bool<|cP xs ys) s):=
 .of_wp λprog w A R s h=>by
  have(hp,g,d,tk,os):=s;have(hl,hb,i1,i2,h):=h;have f2:=AutoSeq1.sub_tuple_tuple
  wp_walk using wpAny_loadPart' hl,wpAny_loadPart' hb,wpAny_forIn_list _ (λrest b s'=>b.1=none/\s'=⟨hp,g,d,tk,os⟩/\∃ (vs us:Qa Qc) (as bs:Qa Int),rest=vs.zip us/\IntsAre vs as/\IntsAre us bs/\(items.size < aQ.size↔as.length < bs.length)/\
   R (.ok<|.ret<|.bool<|cP as bs) ⟨hp,g,d,tk,os⟩) _
  case turn=>
   rintro⟨y,x⟩ rest b s' ⟨eJ,rfl,vs,us,as,bs,hz,j1,j2,hn,hR⟩;cases j1 with
   | nil=>cases hz
   | @cons a t vs as j1=>
    cases j2 with
    | nil=>cases hz
    | @cons c u us bs j2=>
     rw[List.zip_cons_cons]at hz;injection hz with hyx yH;injection hyx with e1 e2;subst e1 e2;refine qa<|wpAny_eqBool_int ?_
     by_cases e:a=c
     .subst e
      rw[beq_self_eq_true]
      wp_walk
      refine⟨rfl,rfl,vs,us,as,bs,yH,j1,j2,?_,?_⟩
      .rw[hn,qu,qu]
       omega
      .simpa [cP] using hR
     .rw[beq_eq_false_iff_ne.mpr e]
      wp_walk using zpa
      exact⟨_,rfl,by simpa [cP,e] using hR⟩
  case fin=>
   rintro⟨b1,b2⟩ s' ⟨eJ,rfl,vs,us,as,bs,hz,j1,j2,hn,hR⟩;simp only at eJ;subst eJ
   wp_walk
   refine⟨_,rfl,?_⟩;have e:decide (items.size < aQ.size)=cP as bs:=by
    cases j1 with
    | nil=>
     cases j2 with
     | nil=>exact decide_eq_false λz=>absurd (hn.mp z)<|Ç _
     | cons c u j2=>exact decide_eq_true<|hn.mpr<|Nat.zero_lt_succ _
    | cons a t j1=>
     cases j2 with
     | nil=>exact decide_eq_false λz=>absurd (hn.mp z)<|Nat.not_lt_zero _
     | cons c u j2=>cases hz
   show R (Except.ok<|Flow.ret<|Value.bool<|decide<|items.size < aQ.size) _;rw[e];exact hR
  case h=>
   refine⟨rfl,rfl,items.toList,aQ.toList,xs,ys,rfl,i1,i2,?_,h⟩;rw[<-IntsAre.length i1,<-IntsAre.length i2,Array.length_toList,Array.length_toList]
theorem zl4{l b:Qg}{items aQ:Array Qc}{xs ys:Qa Int}(hl:s.heap.IsTuple l items)(hb:s.heap.IsTuple b aQ)(i1:IntsAre items.toList xs)(i2:IntsAre aQ.toList ys)(hu:A.units < cLine)
  (h:Q (.bool<|cP xs ys) s):wpAny (model prog w) A (compareOp .Lt (.ref l)<|.ref b) Q E s:=by
 obtain⟨⟨cls,dd,data,sl⟩,ho,hc,n,hd⟩:=id hl;obtain⟨⟨Aw,uF,data2,nY⟩,ud,Ad,n2,hd2⟩:=id hb;simp only at hc hd Ad hd2;subst hc hd Ad hd2;exact richCompare_meets_room (op:=.Lt) ⟨_,ho,rfl⟩ ⟨_,ud,rfl⟩ F.slot_tuple_lt F.entry_tuple_lt (F.args_tuple_lt_2 _ _) (zl3 l b items aQ n n2 dd uF sl nY xs ys) ⟨ho,ud,i1,i2,⟨(λx=>nomatch x),h⟩⟩ hu
end L2
namespace L2
open PySem PySem.Spec PySem.W PyProof.Rows
section
def zBx(prog:Qe)(w:Qh)(A:Qf)(rk:Nat->Int)(vs:Qa Qc)(κ:SortKind)(s:Qd):Prop :=
 ∀ i j (C:Bool->Qd->Prop),i < vs.length->j < vs.length->C (j0 rk i j) s->wpAny (model prog w) A (keyLt' κ (vs.getD i Value.none)<|vs.getD j Value.none) C (λ_ _=>False) s
theorem zjn{rk:Nat->Int}{vs:Qa Qc}{P:PySem.Fin->Qd->Prop}(ho:s.heap.get? a=some (seqObj "list" vs.toArray n))(SD:vs.length < 64)
  (hk:2<=vs.length->∀ h':Heap,(∀ b o,b≠a->s.heap.get? b=some o->h'.get? b=some o)->∀ Q:SortKind->Qd->Prop,(∀ κ,zBx prog w A rk vs κ {s with heap:=h'}->Q κ {s with heap:=h'})->wpAny (model prog w) A (keyKind' vs.toArray) Q (λ_ _=>False) {s with heap:=h'})
  (h:∀ p:Array Nat,Pm vs.length p->Up rk p vs.length->P (.done<|.ret .none) {s with heap:=sortedHeap s.heap a vs (List.toArray<|p.toList.map λi=>vs.getD i Value.none)}):
  wpAny (model prog w) A (Builtin.«list.sort» ⟨[.ref a],[]⟩) P E s:=by
 have line:(64:Nat)<=sizeLine:=by decide
 have ha:a < s.heap.objs.size:=qh ho;obtain⟨e1,Sb⟩:∃ e1,(s.heap.update a<|Obj.mapSeq λ_=>#[]).get? a=some (seqObj "list" #[] e1):=⟨_,get?_update_seq ho λ_=>#[]⟩;have old:∀ b o,(s.heap.update a<|Obj.mapSeq λ_=>#[]).get? b=some o->(((s.heap.update a<|Obj.mapSeq λ_=>#[]).push<|seqObj "tuple" vs.toArray 0).push<|seqObj "list" #[] 0).get? b=some o :=
  λb o e=>qd _<|qd _ e
 have DP:=old _ _ Sb;have keep:∀ b o,b≠a->s.heap.get? b=some o->(((s.heap.update a<|Obj.mapSeq λ_=>#[]).push<|seqObj "tuple" vs.toArray 0).push<|seqObj "list" #[] 0).get? b=some o :=
  λb o ne e=>old b o (by rw[Heap.get?_update_ne _ _ _ _ ne]; exact e)
 rw[list_sort_plain];refine qa<|listItems_at ho rfl<|qa<|listUpdate_at ho rfl (qa<|seqEpoch_at Sb rfl<|qa<|wpAny_newTuple (qa<|wpAny_newList (wpAny_holding ?_) ?_) ?_) ?_ ?_
 case refine_2=>exact Å _
 case refine_3=>show vs.length<=_; omega
 case refine_4=>show vs.toArray.size<=_; rw[List.size_toArray]; omega
 case refine_5=>exact Å _
 show wpAny (model prog w) A _ P E {s with heap:=((s.heap.update a<|Obj.mapSeq λ_=>#[]).push<|seqObj "tuple" vs.toArray 0).push (seqObj "list" #[] 0)};dsimp only;generalize hH:((s.heap.update a<|Obj.mapSeq λ_=>#[]).push<|seqObj "tuple" vs.toArray 0).push (seqObj "list" #[] 0)=h6 at *;have hsz:vs.toArray.size=vs.length:=by simp
 have fin:∀ p:Array Nat,Pm vs.length p->Up rk p vs.length->P (.done<|.ret .none) {s with heap:=h6.update a (Obj.mapSeq λ_=>List.toArray<|p.toList.map λi=>vs.getD i Value.none)}:=λp a1 a2=>by
  have:=h p a1 a2;unfold sortedHeap at this;rw[hH]at this;exact this
 by_cases h2:vs.toArray.size < 2
 .rw[if_pos h2,if_pos h2]
  refine qa<|qb ?_;rw[StateT.run_pure];refine qa<|qb ?_;dsimp only;have hz:(vs.toArray.zip vs.toArray).size=vs.length:=by simp
  have JO:arrOf (SortSt.mk' general' (vs.toArray.zip vs.toArray) #[] 7 none)=(List.range vs.length).toArray.map (kas_item<|vs.toArray.zip vs.toArray):=by
   have:=kas_range (vs.toArray.zip vs.toArray);rw[hz]at this;exact this.symm
  have e:=kat_snds (ks:=vs) (vs:=vs) rfl JO;rw[e];refine qa<|seqEpoch_at DP rfl<|qa<|listUpdate_at DP rfl ?_ ?_ ?_
  .show wpAny _ _ (if(e1 != e1)=true then _ else _) _ _ _
   rw[bne_self_eq_false,if_neg qf];refine qb<|fin _ (Array.Perm.refl _) λi j gy hj=>?_;have:i=j:=by omega
   subst this;exact æ _
  .exact Å _
  .rw[List.size_toArray,List.length_map]
   simp;omega
 .rw[if_neg h2,if_neg h2]
  have ie:2<=vs.length:=by omega
  refine qa<|wpAny_mono (hk ie h6 keep _ λκ ask=>?_) (λ_ _ x=>x) λ_ _ x=>x.elim;refine qa<|wpAny_mono (kat_run (ks:=vs) (Q:=λiC s'=>s'={s with heap:=h6}/\∃ p:Array Nat,Pm vs.length p/\Up rk p vs.length/\arrOf iC=p.map (kas_item<|vs.toArray.zip vs.toArray)/\failedOf iC=none) (G:=λp s'=>s'={s with heap:=h6}/\Pm vs.length p/\Up rk p vs.length) rfl ie SD
   (λp iC s' _ a2 a3 a4=>⟨a4.1,p,a4.2.1,a4.2.2,a2,a3⟩) (eh.wp (lt:=j0 rk) (n:=vs.length) ask (λp hp=>⟨rfl,hp⟩)<|zo9 (by omega) λp a1 a2=>⟨a1,a2⟩)) ?_ λ_ _ x=>x
  rintro⟨⟨⟩,iC⟩ s' ⟨rfl,p,a1,a2,JO,hf⟩;dsimp only;have e:=kat_snds (ks:=vs) (vs:=vs) rfl JO;rw[e,hf];refine qa<|seqEpoch_at DP rfl<|qa<|listUpdate_at DP rfl ?_ ?_ ?_
  .show wpAny _ _ (if(e1 != e1)=true then _ else _) _ _ _
   rw[bne_self_eq_false,if_neg qf];exact qb<|fin p a1 a2
  .exact Å _
  .rw[List.size_toArray,List.length_map,Array.length_toList,a1.size]
   omega
end
theorem tw:∀ a:Qa Int,cP a a=false
 | []=>rfl
 | a::as=>by unfold cP; rw[if_pos rfl]; exact tw as
theorem vM:∀ {a b c:Qa Int},cP a b=true->cP b c=true->cP a c=true
 | [],[],_,h,_=>by cases h
 | [],_::_,[],_,h=>by cases h
 | [],_::_,_::_,_,_=>rfl
 | _::_,[],_,h,_=>by cases h
 | _::_,_::_,[],_,h=>by cases h
 | a::as,b::bs,c::cs,h1,h2=>by
  unfold cP at h1 h2 ⊢
  by_cases e1:a=b
  .subst e1
   rw[if_pos rfl]at h1
   by_cases e2:a=c
   .rw[if_pos e2]at h2 ⊢
    exact vM h1 h2
   .rw[if_neg e2]at h2 ⊢
    exact h2
  .rw[if_neg e1]at h1
   have l1:=of_decide_eq_true h1
   by_cases e2:b=c
   .subst e2
    rw[if_neg e1];exact h1
   .rw[if_neg e2]at h2
    have l2:=of_decide_eq_true h2;rw[if_neg (by omega)];exact decide_eq_true (by omega)
theorem xI:∀ {a b:Qa Int},a≠b->cP a b=true\/cP b a=true
 | [],[],h=>absurd rfl h
 | [],_::_,_=>.inl rfl
 | _::_,[],_=>.inr rfl
 | a::as,b::bs,h=>by
  unfold cP
  by_cases e:a=b
  .subst e
   rw[if_pos rfl,if_pos rfl];exact xI λz=>h (by rw[z])
  .rw[if_neg e,if_neg λz=>e z.symm]
   rcases(by omega:a < b\/b < a)with z|z
   .exact .inl (decide_eq_true z)
   .exact .inr (decide_eq_true z)
theorem Oe{p q:α->Bool}:∀ {l:Qa α} {x:α},(∀ y∈l,p y=true->q y=true)->x∈l->q x=true->p x=false->l.countP p < l.countP q
 | y::l,x,h,m,hq,hp=>by
  rw[List.countP_cons,List.countP_cons];have le:l.countP p<=l.countP q:=List.countP_mono_left λz hz=>h z<|qo _ hz;rcases qv.mp m with e|m
  .subst e
   rw[hp,hq];simp;omega
  .have:=Oe (λz hz=>h z<|qo _ hz) m hq hp
   by_cases c:p y=true
   .rw[c,h y qp c]
    simp;omega
   .rw[if_neg c]
    split<;>omega
def qQ(ps:Qa (Qa Int))(i:Nat):Int:=((List.range ps.length).countP λk=>cP (ps.getD k []) (ps.getD i []):Nat)
theorem G9{ps:Qa (Qa Int)}(hi:i < ps.length)(h:cP (ps.getD i []) (ps.getD j [])=true):qQ ps i < qQ ps j:=by
 unfold qQ;have:=Oe (p:=λk=>cP (ps.getD k [])<|ps.getD i []) (q:=λk=>cP (ps.getD k [])<|ps.getD j []) (l:=List.range ps.length) (x:=i) (λy _ hy=>vM hy h) (ç.mpr hi) h (tw _);omega
theorem HH{ps:Qa (Qa Int)}(h:ps.Nodup)(hi:i < ps.length)(hj:j < ps.length)(ne:i≠j):ps.getD i []≠ps.getD j []:=by
 have e:∀ k (hk:k < ps.length),ps.getD k []=ps[k]:=λk hk=>by simp[hk]
 rw[e i hi,e j hj];intro z;rcases Nat.lt_or_gt_of_ne ne with l|l
 .exact å.mp h i j hi hj l z
 .exact å.mp h j i hj hi l z.symm
theorem XF{ps:Qa (Qa Int)}(h:ps.Nodup)(hi:i < ps.length)(hj:j < ps.length):j0 (qQ ps) i j=cP (ps.getD i []) (ps.getD j []):=by
 cases c:cP (ps.getD i []) (ps.getD j [])with
 | true=>exact decide_eq_true<|G9 hi c
 | false=>
  refine decide_eq_false λz=>?_
  by_cases e:i=j
  .subst e; omega
  .rcases xI (HH h hi hj e)with y|y
   .rw[c]at y; cases y
   .have:=G9 hj y
    omega
theorem Pm.list(h:Pm n p):p.toList.Perm (List.range n):=by
 have:=h.toList;simpa using this
theorem Wb{ps:Qa (Qa Int)}(h:ps.Nodup)(hp:Pm ps.length p)(hu:Up (qQ ps) p ps.length):(p.toList.map λi=>ps.getD i []).Pairwise λa b=>cP a b=true:=by
 have hs:=hp.size;have hl:=hp.list;have nd:p.toList.Nodup:=hl.nodup_iff.mpr List.nodup_range;refine List.pairwise_map.mpr<|å.mpr λi j hi hj gy=>?_;have e:∀ k (hk:k < p.toList.length),KR (qQ ps) p k=qQ ps p.toList[k]:=λk hk=>by
  unfold KR;have jx:k < p.size:=by simpa using hk
  congr 1;simp[Array.getD,jx]
 have m:∀ k (hk:k < p.toList.length),p.toList[k] < ps.length:=λk hk=>ç.mp<|hl.mem_iff.mp<|List.getElem_mem hk;have le:=hu i j (by omega) (by rw[Array.length_toList]at hj; omega);rw[e i hi,e j hj]at le;have ne:p.toList[i]≠p.toList[j]:=å.mp nd i j hi hj gy;rcases xI (HH h (m i hi) (m j hj) ne)with z|z
 .exact z
 .have:=G9 (m j hj) z
  omega
def qP(h:Heap)(v:Qc)(ns:Qa Int):Prop:=∃ (a b:Qg) (u:Qc) (af:Array Qc),v=.ref a/\IsTup h a #[.ref b,u]/\IsTup h b af/\IntsAre af.toList ns
theorem Od{af:Array Qc}(t:IsTup h a af)(k:∀ o,h.get? a=some o->h'.get? a=some o):IsTup h' a af:=by
 have(o,e,r):=t;exact⟨o,k o e,r⟩
theorem HG:∀ {vs:Qa Qc} {ns:Qa Int},IntsAre vs ns->ItemsAre (zD prog w) (ns.map λn=>(Sum.inl n:Key)) vs
 | _,_,.nil=>.nil
 | _,_,.cons n t h=>.cons (show Value.isInt n (.int n t)=true by simp[Value.isInt])<|HG h
theorem Gx{ms:Qa Int}:(ns.map λn=>(Sum.inl n:Key))=(ms.map λn=>(Sum.inl n:Key))↔ns=ms:=by
 constructor
 .intro h
  have:=congrArg (List.map λk:Key=>match k with | .inl n=>n | .inr _=>0) h;rw[List.map_map,List.map_map]at this;simpa [Function.comp_def] using this
 .rintro rfl; rfl
section
theorem Ud{v v':Qc}{DD:Qa Int}{C:Bool->Qd->Prop}(hu:A.units < cLine)(p:qP s.heap v ns)(p':qP s.heap v' DD)(ne:v=v'\/ns≠DD)(h:C (cP ns DD) s):wpAny (model prog w) A (keyLt' (tuples' false) v v') C (λ_ _=>False) s:=by
 obtain⟨a,b,u,af,rfl,⟨oa,ea,ca,na,da⟩,tb,ib⟩:=p;obtain⟨a',b',u',its',rfl,⟨oa',iJ,ca',Jd,Kb⟩,RD,R4⟩:=p';refine kat_lt ea da iJ Kb ?_;show KatLex prog w A false _ C [(.ref b,.ref b'),(u,u')] 0 s;have(ob,eb,cb,nb,db):=id tb;have(ob',eb',cb',nb',db'):=id RD;refine kat_cons<|wpAny_eqBool_tuple (knd:=zD prog w) hu ⟨ob,af,nb,eb,cb,db,HG ib⟩ ⟨ob',its',nb',eb',cb',db',HG R4⟩ ?_
 by_cases e:ns=DD
 .rw[decide_eq_true<|Gx.mpr e]
  rcases ne with z|z
  .cases z
   rw[ea]at iJ;cases iJ;rw[da]at Kb;injection Kb with d1 d2;have d3:=congrArg Array.toList d1;have e1:Value.ref b=.ref b'/\u=u':=by simpa using d3
   have(_,rfl):=e1;refine kat_yes<|kat_cons<|SeqAt.EqAt.same u prog w _ _<|kat_yes<|kat_nil ?_;subst e;rw[tw]at h;exact h
  .exact absurd e z
 .rw[decide_eq_false λz=>e<|Gx.mp z]
  refine kat_no<|kat_one _ _<|zl4 tb RD ib R4 hu ?_;exact h
end
theorem qP.kept{v:Qc}(p:qP h v ns)(k:∀ b o,h.get? b=some o->h'.get? b=some o):qP h' v ns:=by
 have(a,b,u,af,e,ta,tb,i):=p;exact⟨a,b,u,af,e,Od ta<|k a,Od tb<|k b,i⟩
theorem OJ:∀ {vs:Qa Qc},(∀ v∈vs,∃ ns,qP h v ns)->∃ fs,KatTups h vs fs/\fs.length=vs.length/\∀ f∈fs,∃ (b:Qg) (af:Array Qc),f=.ref b/\IsTup h b af
 | [],_=>⟨[],.nil,rfl,λf hf=>by cases hf⟩
 | v::vs,hv=>by
  have(fs,k,l,q):=OJ (vs:=vs) λx hx=>hv x<|qo _ hx;obtain⟨ns,a,b,u,af,rfl,⟨o,eo,co,n,dO⟩,tb,_⟩:=hv v qp;refine⟨.ref b::fs,.cons eo co dO rfl k,by rw[qu,qu,l],λf hf=>?_⟩;rcases qv.mp hf with e|hf
  .exact⟨b,af,e,tb⟩
  .exact q f hf
def XE(K:qc)(H:Hp)(vs:Qa V)(ps:Qa (Qa Int)):Prop:=vs.length=ps.length/\∀ i v,vs[i]?=some v->∃ (a b:Qg) (y:V),v=.ref a/\bw K H a [.ref b,y]/\bw K H b ((ps.getD i []).map V.int)
def L7(K:qc):Qa V->Hp->VK->Prop:=λxs H Q=>∃ (l:Qg) (vs:Qa V) (ps:Qa (Qa Int)),xs=[.ref l]/\aO K H l vs/\vs.length < 64/\XE K H vs ps/\ps.Nodup/\
 ∀ (is:Qa Nat) r,is.Perm (List.range vs.length)->(is.map λi=>ps.getD i []).Pairwise (λa b=>cP a b=true)->H r=none->Q (.ref r) (upd H r<|.lst<|is.map λi=>vs.getD i .aF)
theorem OI{vs:Qa V}(r:zC vs us):∀ is:Qa Nat,(∀ i∈is,i < vs.length)->zC (is.map λi=>vs.getD i .aF) (is.map λi=>us.getD i Value.none)
 | [],_=>.nil
 | i::is,h=>by
  have hi:=h i qp;have(u,e,ru):=r.get (qm hi);refine .cons ?_<|OI r is λj hj=>h j<|qo _ hj;show zA (vs.getD i .aF) (us.getD i Value.none);rw[qB,qB,qm hi,e];exact ru
section
variable{X:Cx}
theorem zl5(K:qc)(hK:X.K=K){k:Nat}(hr:aA k X.A):fO X (.builtin "sorted") (L7 K):=by
 subst hK;intro pins s σ H xs us Q I r h;obtain⟨l,vs,ps,rfl,hl,SD,⟨lp,hp⟩,nd,q⟩:=h;have(u,rfl,ru):=l6 r;cases ru;obtain⟨af,rv,⟨o,n,eo,co,_,dO⟩,_⟩:=I.list hl;have line:(64:Nat)<=sizeLine:=by decide
 have lv:af.length=vs.length:=rv.length.symm;have pr:∀ i,i < af.length->qP s.heap (af.getD i Value.none) (ps.getD i []):=λi hi=>by
  have cU:i < vs.length:=by omega
  have(a,b,y,ev,ha,hb):=hp i _ (qm cU);have(u,eu,ru):=rv.get (qm cU);rw[ev]at ru;cases ru;have(ia,ra,ta,_):=I.tuple ha;have(u1,u2,rfl,r1,r2):=ra.two;cases r1;have(ib,rb,tb,_):=I.tuple hb;refine⟨a,b,u2,ib.toArray,?_,ta,tb,zlQ rb⟩;rw[qB,eu];rfl
 refine Calls.call_function_entry kind_sorted plain_sorted entry_sorted (args_sorted1 _) ?_;unfold Builtin.«sorted»;refine qa (m:=checkCount "sorted" 1 1 _)<|qb ?_;refine qa<|collect_list (vs:=af) ⟨o,eo,co,n,dO⟩ (qa<|wpAny_newList ?_ ?_) (by omega)
 case refine_2=>omega
 generalize hH:(s.heap.push<|seqObj "list" #[] 0).update s.heap.objs.size (Obj.mapSeq (·++af.toArray))=h1 at *;have hsz:h1.objs.size=s.heap.objs.size+1:=by rw[<-hH,Heap.size_update,size_push']
 have rR:∀ b o,s.heap.get? b=some o->h1.get? b=some o:=λb o e=>by
  have dD:b < s.heap.objs.size:=qh e;rw[<-hH,Heap.get?_update_ne _ _ _ _<|qj dD,Heap.get?_push_ne _ _ _<|qj dD];exact e
 have I1:Inv X pins σ H {s with heap:=h1,toks:=s.toks}:=I.kept rR;have yY:(h1.push<|seqObj "list" af.toArray 0).get? h1.objs.size=some (seqObj "list" af.toArray 0):=qg _ rfl;have hu:X.A.units+64 < cLine:=hr.units;refine qa<|wpAny_holding<|wpAny_call_entry slot_list_sort ⟨_,yY,rfl⟩ entry_list_sort (zjn (rk:=qQ ps) (s:={s with heap:=h1.push (seqObj "list" af.toArray 0)}) yY (by omega) (λh2 h' kp Q' hQ=>?_) λp a1 a2=>⟨_,rfl,?_⟩)<|args_list_sort _
 .have yt:∀ b o,s.heap.get? b=some o->h'.get? b=some o:=λb o e=>by
   have dD:b < s.heap.objs.size:=qh e;exact kp b o (qj (by rw[hsz]; exact ä dD))<|qd _<|rR b o e
  have IU:∀ i,i < af.length->qP h' (af.getD i Value.none) (ps.getD i []):=λi hi=>(pr i hi).kept yt;have(fs,kt,lf,tf):=OJ (h:=h') (vs:=af) λv hv=>by
   have(i,hi,e):=List.getElem_of_mem hv;have:=IU i hi;rw[show af.getD i Value.none=v by simp[hi,e]]at this;exact⟨_,this⟩
  refine kat_kind (fs:=fs) (T:=.type "tuple") kt (by omega) (λv hv=>?_) (by decide) ?_
  .have(b,ib,rfl,o,eo,co,_):=tf v hv
   rw[<-co];exact(Looks.ld eo).andThen .now
  .refine hQ _ λi j C hi hj hc=>?_
   rw[XF nd (by omega) (by omega)]at hc;refine Ud (by show X.A.units+1+1 < cLine; omega) (IU i hi) (IU j hj) ?_ hc
   by_cases e:i=j
   .exact .inl (by rw[e])
   .exact .inr (HH nd (by omega) (by omega) e)
 .refine qb ⟨_,rfl,?_⟩
  have(en,ho):=sortedHeap_at (vs:=af) (out:=List.toArray (p.toList.map λi=>af.getD i Value.none)) yY;have fresh:H h1.objs.size=none:=I1.aq.fresh (qe _);have perm:p.toList.Perm (List.range vs.length):=by
   have:=a1.list;rw[lv]at this;exact this
  have mem:∀ i∈p.toList,i < vs.length:=λi hi=>ç.mp<|perm.mem_iff.mp hi;have lm:p.toList.length=vs.length:=by
   have:=perm.length_eq;simpa using this
  rw[lv,lp]at a1 a2;refine⟨.ref h1.objs.size,_,I1.laid (t':=s.toks) (a:=h1.objs.size) (o:=.lst (p.toList.map λi=>vs.getD i .aF)) (λb o e=>?_) (qe _) ⟨by rw[List.length_map]; omega,p.toList.map λi=>af.getD i Value.none,en,OI rv p.toList mem,by simpa using ho⟩,rfl,q p.toList _ perm (Wb nd a1 a2) fresh⟩;have hb:b < h1.objs.size:=qh e;rw[sortedHeap_old (qj hb) (by rw[Heap.size_push]; exact ä hb)];exact qd _ e
end
end L2
namespace L2
open PySem PySem.Spec PyProof.Rows
def kl(h:Heap)(d:Qg)(es:Array DictEntry)(ep:Nat):Prop:=∃ o,h.get? d=some o/\o.ExactDict/\o.data=.dict es ep
theorem kl.typeIs(r:kl s.heap d es ep):s.TypeIs (.ref d) "dict":=by
 have(o,e,x,_):=r;exact⟨o,e,x.1⟩
section
theorem zqz(hd:(d==sysModules)=false)(r:kl s.heap d es ep)
  (q:∀ h':Heap,h'.IsKeyIter s.heap.objs.size d 0 es.size ep->(∀ b o,s.heap.get? b=some o->h'.get? b=some o)->Q (.ref s.heap.objs.size) {s with heap:=h'}):wpAny (model prog w) A (pyIter<|.ref d) Q E s:=by
 have hT:=r.typeIs;have(o,e,_,dat):=r;refine wpAny_pyIter_slot hT F.slot_dict_iter<|wpAny_call_entry F.slot_dict_iter hT F.entry_dict_iter ?_<|F.args_dict_iter_1 _;unfold Builtin.«dict.__iter__»;refine qa ?_;unfold Builtin.Dict.dictSlotNone;refine qa<|wpAny_notOrdered_dict hT<|qb ?_;show wpAny _ _ (Builtin.Dict.showsAll d >>= _) _ _ s;unfold Builtin.Dict.showsAll;rw[hd,if_neg qf];refine qa<|qb<|qa<|wpAny_dictEntries e dat<|qa<|wpAny_dictEpoch e dat<|qa<|qA<|qb ⟨_,rfl, "dict_keyiterator",_,⟨_,qg _ rfl,rfl⟩,Ú.lookup,?_⟩;exact q _ ⟨_,qg _ rfl,rfl,by simp[rawInt]⟩ λb o z=>qd _ z
theorem zqA{Q:Qb Qc->Qd->Prop}(k:s.heap.IsKeyIter it d i es.size ep)(r:kl s.heap d es ep){x:DictEntry}(hx:es[i]?=some x)
  (q:∀ h':Heap,h'.IsKeyIter it d (i+1) es.size ep->Heap.SameBut it s.heap h'->Q (some x.key) {s with heap:=h'}):wpAny (model prog w) A (pyNext<|.ref it) Q E s:=by
 have kT:=k.typeIs;have(oi,ei,ci,fi):=id k;have(o,e,_,dat):=r;unfold pyNext;refine qa<|wpAny_attempt (wpAny_callSpecial?_slot (name:=Str.ofString "__next__") kT Ú
  (wpAny_call_entry Ú kT F.entry_dict_keyiterator_next ?_<|F.args_dict_keyiterator_next_1 _))
 refine qa<|qb<|qa<|qa ?_;refine qa<|wpAny_typeNameOfWhole_keyiter kT<|qb<|qa<|wpAny_fieldsOf ei fi ?_;simp only[show Builtin.Dict_items.ownsTuple "dict_keyiterator"=false by decide,Bool.false_eq_true,if_false];show wpAny _ _ (if(Value.ref d==Value.none)=true then _ else _) _ _ s;rw[if_neg (show ¬((Value.ref d==Value.none)=true) from qf)];refine qa<|qb<|qa<|wpAny_dictEntries e dat ?_;rw[if_neg (by simp)];refine qa<|qb<|qa<|wpAny_dictEpoch e dat ?_;rw[if_neg (by simp)];refine qb ?_;simp only[show ¬((i:Int) < 0) from by omega,if_false,Int.toNat_natCast,hx];refine qa<|qa<|wpAny_typeNameOfWhole_keyiter kT<|qb<|qa<|wpAny_isOneOf_keyiter kT ?_;show wpAny _ _ (setField (.ref it) 1 (rawInt<|(i:Int)+1) >>= _) _ _ s;refine qa<|wpAny_setField ei fi (by simp) ?_;have k':(s.heap.update it<|Obj.mapFields (·.setIfInBounds 1 (rawInt<|(i:Int)+1))).IsKeyIter it d (i+1) es.size ep :=
  ⟨_,Ð _ ei<|Obj.isFreed_of_fields<|Obj.data_mapFields fi _,(Obj.cls_mapFields ..).trans ci,by rw[Obj.data_mapFields fi]; simp[rawInt]⟩
 refine qa<|wpAny_holding<|qa<|wpAny_isOneOf_keyiter (s:={s with heap:=s.heap.update it (Obj.mapFields (·.setIfInBounds 1 (rawInt<|(i:Int)+1)))}) k'.typeIs ?_;show wpAny _ _ (pure x.key) _ _ _;exact qb<|qb ⟨_,rfl,qb<|q _ k'<|Ë ..⟩
theorem XD{Q:Qb Qc->Qd->Prop}(hh:A.handled=none)(k:s.heap.IsKeyIter it d i es.size ep)(r:kl s.heap d es ep)(hx:es.size<=i)
  (q:∀ h':Heap,Heap.ExtBut it s.heap h'->Q none {s with heap:=h'}):wpAny (model prog w) A (pyNext<|.ref it) Q E s:=by
 have kT:=k.typeIs;have(oi,ei,ci,fi):=id k;have(o,e,_,dat):=r;unfold pyNext;refine qa<|wpAny_attempt (wpAny_callSpecial?_slot (name:=Str.ofString "__next__") kT Ú
  (wpAny_call_entry Ú kT F.entry_dict_keyiterator_next ?_<|F.args_dict_keyiterator_next_1 _))
 refine qa<|qb<|qa<|qa ?_;refine qa<|wpAny_typeNameOfWhole_keyiter kT<|qb<|qa<|wpAny_fieldsOf ei fi ?_;simp only[show Builtin.Dict_items.ownsTuple "dict_keyiterator"=false by decide,Bool.false_eq_true,if_false];show wpAny _ _ (if(Value.ref d==Value.none)=true then _ else _) _ _ s;rw[if_neg (show ¬((Value.ref d==Value.none)=true) from qf)];refine qa<|qb<|qa<|wpAny_dictEntries e dat ?_;rw[if_neg (by simp)];refine qa<|qb<|qa<|wpAny_dictEpoch e dat ?_;rw[if_neg (by simp)];refine qb ?_;simp only[show ¬((i:Int) < 0) from by omega,if_false,Int.toNat_natCast,Array.getElem?_eq_none hx];refine qa<|qa<|wpAny_typeNameOfWhole_keyiter kT<|qb ?_;show wpAny _ _ (setField (.ref it) 0 .none >>= _) _ _ s;refine qa<|wpAny_setField ei fi (by simp) ?_;show wpAny _ _ (newExc (.type "StopIteration") [] >>= _) _ _ _;refine qa ?_;simp only[newExc,newTuple];refine qa<|qA ?_ (by show(0:Nat)<=sizeLine; exact Å _);refine qa (m:=firstArgMember _ _)<|wpAny_of_eq (a:=Value.none) (by first|rfl | (simp only[firstArgMember]; rfl)) ?_;refine qA ?_ (by first|trivial|size_fits);simp only[raiseNew];refine qa<|wpAny_handled ?_;rw[show A.in1.handled=none from hh];refine qa<|qb<|wpAny_throw ?_;refine qa<|wpAny_isInstance (T := "StopIteration") (b:=true) ⟨_,qg _ rfl,rfl⟩ isSubtype_stop ?_;exact qb<|q _<|((Ë ..).extBut.push _).push _
end
theorem CO{R:α->β->Prop}:∀ {xs:Qa α} {ys:Qa β},Paired R xs ys->∀ (i:Nat) (x:α),xs[i]?=some x->∃ y,ys[i]?=some y/\R x y
 | _,_,.nil,i,x,h=>by simp at h
 | _,_,.cons r _,0,x,h=>by
  cases(show some _=some x from h);exact⟨_,rfl,r⟩
 | _,_,.cons _ t,i+1,x,h=>CO t i x h
theorem xM{R:α->β->Prop}:∀ {xs:Qa α} {ys:Qa β},Paired R xs ys->xs.length=ys.length
 | _,_,.nil=>rfl
 | _,_,.cons _ t=>by rw[qu,qu,xM t]
theorem Gw{X:Cx}{o:Obj}(I:Inv X pins σ H s)(e:H a=some (.aW o<|.dT kvs)):
  (a==sysModules)=false/\∃ (es:Array DictEntry) (ep:Nat),s.heap.get? a=some o/\o.ExactDict/\o.data=.dict es ep/\es.size=kvs.length/\∀ (i:Nat) (k:Qa Key) (v:V),kvs[i]?=some (k,v)->∃ (b:Qg) (x:DictEntry),es[i]?=some x/\x.key=.ref b/\aK X.K H b (k.map kV):=by
 have(ea,z,y,xs,r,o',es,ep,h1,h2,h3,h4,h5):=(show zI X.prog X.w X.K H s.heap a (.aW o<|.dT kvs) from I.aq a _ e);rw[ea]at h1;cases h1;refine⟨y,es,ep,ea,h2,h3,?_,λi k v hi=>?_⟩
 .have:=congrArg List.length h4
  rw[Array.length_toList,List.length_map,<-xM r]at this;exact this
 .have(q,hq,r1,r2,_):=CO r i (k,v) hi
  refine⟨q.2.1,entryOfKey (tupleKind<|zD X.prog X.w) q,?_,rfl,r2⟩;have:es.toList[i]?=some (entryOfKey (tupleKind<|zD X.prog X.w) q):=by rw[h4,List.getElem?_map,hq]; rfl
  simpa using this
def Eb(K:qc)(a:Qg)(o:Obj)(kvs:Qa (Qa Key×V)):It :=
 ⟨λi H=>H a=some (.aW o<|.dT kvs)/\i < kvs.length,λi H x H'=>H'=H/\∀ k v,kvs[i]?=some (k,v)->∃ b,x=.ref b/\aK K H b (k.map kV),λi H=>H a=some (.aW o<|.dT kvs)/\kvs.length<=i⟩
theorem zl6(a it:Qg)(o:Obj)(kvs:Qa (Qa Key×V))(ep:Nat)(Aa:∃ es,o.data=.dict es ep):Turn P w K tg (Eb K a o kvs) [it] it (λi h=>h.IsKeyIter it a i kvs.length ep) where
 mem:=by simp
 obj:=λi h st b hb=>by
  have e:b=it:=by simpa using hb
  subst e;have(oi,e,c,d):=st;exact⟨oi,e,λv z=>by rw[d]at z; cases z⟩
 keep:=λi h h' st k=>st.at λoi e=>k it (by simp) oi e
 item:=by
  intro X hP hw hK hc i pins s σ H E I hf st hg;subst hP hw hK;have(e,hi):=hg;have(kR,es,ig,ea,xd,dat,hsz,ent):=Gw I e;have uC:ig=ep:=by
   have(p7,z):=Aa;rw[dat]at z;injection z
  subst uC;have(f0,f1,f2,f3,f4,f5):=hf it (by simp);have(b,x,ex,kx,hb):=ent i kvs[i].1 kvs[i].2 (qm hi);refine zqA (es:=es) (by rw[hsz]; exact st) ⟨o,ea,xd,dat⟩ ex λh' iC sb=>?_;have I1:Inv X pins σ H {s with heap:=h'}:=I.turned (t':=s.toks) (λb o hb e=>(sb.2 b hb).trans e) f0 f1 f3 f4 f5;have(oi,e',c',d'):=id iC;rw[kx];refine⟨.ref b,rfl,BF (s:={s with heap:=h'}) e' c' d' (by decide) ⟨.ref b,H,I1,rfl,⟨rfl,λk v ug=>⟨b,rfl,?_⟩⟩,by rw[hsz]at iC; exact iC,λb hb=>(hf b hb).1⟩⟩;rw[qm hi]at ug;rw[qx ug]at hb;exact hb
 done:=by
  intro X hP hw hK hc i pins s σ H E I hf st hg;subst hP hw hK;have(e,hi):=hg;have(kR,es,ig,ea,xd,dat,hsz,ent):=Gw I e;have uC:ig=ep:=by
   have(p7,z):=Aa;rw[dat]at z;injection z
  subst uC;have(f0,f1,f2,f3,f4,f5):=hf it (by simp);exact XD (es:=es) (I.ok.hd hc) (by rw[hsz]; exact st) ⟨o,ea,xd,dat⟩ (by omega) λh' eb=>⟨rfl,I.turned (t':=s.toks) (λb o hb e=>eb b o hb e) f0 f1 f3 f4 f5⟩
 self:=λ_ _ _ _ _ st h=>wpAny_pyIter_keyiter st h
section
variable{X:Cx}
theorem Inv.freeze(I:Inv X pins σ H s)(e:H a=some (.dT kvs)):∃ o,s.heap.get? a=some o/\Inv X pins σ (upd H a<|.aW o<|.dT kvs) s:=by
 have ok:=(show zI X.prog X.w X.K H s.heap a (.dT kvs) from I.aq a _ e);have(z,y,xs,r,o,es,ep,h1,h2):=id ok;refine⟨o,h1,?_⟩;have IZ:zI X.prog X.w X.K (upd H a<|.aW o<|.dT kvs) s.heap a (.dT kvs):=ok.cA (λ_ _ _ q=>q) (λb q=>by rw[zq<|qS q e (by intro z; cases z)]; exact q) λb ys q=>by rw[zq<|qS q e (by intro z; cases z)]; exact q
 exact I.write (t':=s.toks) (h':=s.heap) (by rw[e]; trivial) (.inl rfl) (λ_ _ _ q=>q) ⟨o,h1⟩ ⟨h1,IZ⟩
def Mp(K:qc)(td:TE):TI:=λσ H R=>td σ H λx H1=>∃ a kvs,x=.ref a/\((H1 a=some (.dT kvs)/\∀ o,R (Eb K a o kvs)<|upd H1 a<|.aW o<|.dT kvs)\/∃ o,H1 a=some (.aW o<|.dT kvs)/\R (Eb K a o kvs) H1)
theorem vK{d:Expr}(hd:Wr (PE X d td)):Wr (PI X tg d<|Mp X.K td):=by
 refine⟨?_⟩;intro pins s σ H R I h;refine aw (hd.run pins s σ H _ I h) λv s1 hZ=>?_;have(x,H1,I1,r1,q1):=hZ;have(a,kvs,e,q):=q1;subst e;cases r1;have key:∀ (H2:Hp) (o:Obj),Inv X pins σ H2 s1->H2 a=some (.aW o<|.dT kvs)->R (Eb X.K a o kvs) H2->wpAny (model X.prog X.w) X.A (pyIter<|.ref a) (Kf X pins σ tg R) X.xe s1:=λH2 o I2 e2 q2=>by
  have(kR,es,ep,ea,xd,dat,hsz,_):=Gw I2 e2;refine zqz (es:=es) kR ⟨o,ea,xd,dat⟩ λh' hit kk=>?_;refine⟨s1.heap.objs.size,[s1.heap.objs.size],_,_,H2,rfl,I2.kept (t':=s1.toks) kk,zl6 a s1.heap.objs.size o kvs ep ⟨es,dat⟩,by rw[<-hsz]; exact hit,λb hb=>?_,q2⟩;have e:b=s1.heap.objs.size:=by simpa using hb
  subst e;exact I2.bJ (qe _)<|I2.aq.fresh<|qe _
 rcases q with⟨e1,q⟩|⟨o,e1,q⟩
 .have(o,_,I2):=I1.freeze e1
  exact key _ o I2 zp<|q o
 .exact key H1 o I1 e1 q
end
end L2
namespace L2
open PySem PySem.Spec PyProof.Rows
open PySem.W (Looks)
def zBy(C p:Qg):Obj:={cls:=.ref C,data:=.fields #[.ref p,.none,.none,.none,.bool false,.none]}
section
variable{g:Array GenState}{d:Drawn}{t:Nat}{os:OsState}
variable{nm q:Str}{C N:Qg}{bs bm bmB:Qa Qc}{ui:Bool}{sn:Qa Str}{sub:Qa Qc}{ab:Bool}{col:Qb Bool}{dd:Qb Qg}{k0 k1 k2 k3 k5:Qb Qc}{B newId Jm:String}
end
abbrev Ii:Qa Qc:=[.type "ValueError",.type "Exception",.type "BaseException",.type "object"]
structure XC (K:qc) (C:Qg):Prop where
 at_:∃ nm q N bs bm sn sub ab col dd k0 k1 k2 k3 k5,K.lookup C=some (excClassObj nm q C N bs bm true sn sub ab col dd k0 k1 k2 k3 k5 "ValueError.__new__")/\PySem.W.tailIn K Ii bm=true
 ga:PySem.W.findIn K (.ref C) "__getattribute__"=some (some<|.builtin "BaseException.__getattribute__")
 gh:PySem.W.findIn K (.ref C) "__getattr__"=some none
 sa:PySem.W.findIn K (.ref C) "__setattr__"=some (some<|.builtin "object.__setattr__")
section
variable{C x:Qg}
end
end L2
namespace L2
open PySem PySem.Spec PyProof.Rows
open PySem.W (Looks InstAt)
section
variable{C x:Qg}
end
end L2
namespace L2
open PySem PySem.Spec PyProof.Rows
open PySem.W (Looks InstAt)
structure XI (K:qc) (C:Qg):Prop where
 cl:XC K C
 ca:PySem.W.findIn K (.ref C) "__class__"=some (some<|.builtin "object.__class__")
 cg:PySem.W.specialIn K (.builtin "object.__class__") "__get__"=some (some<|.builtin "getset_descriptor.__get__")
 ct:PySem.W.takesIn K (.builtin "object.__class__")=some true
 cm:PySem.W.mroIn K C (.type "object")=some true
section
variable{C x:Qg}
end
end L2
namespace L2
open PySem PySem.Spec PyProof.Rows
open PySem.W (Looks InstAt)
def XV(H:Hp)(a C:Qg)(fs:Qa (Str×V)):Prop:=∃ ox,H a=some (.aW ox<|.own 0)/\ox.cls=.ref C/\PySem.W.notCls ox=true/\
 ((fs=[]/\ox.dict=none)\/∃ od dx,ox.dict=some dx/\H dx=some (.aW od<|.xd fs))
section
variable{X:Cx}{C:Qg}{fs:Qa (Str×V)}{v:V}
end
section
variable{X:Cx}{CX:j6}{k:Nat}{f C:Qg}{E:XK}{p:Pos}{es:Qa Expr}{t:TA}
end
end L2
namespace L2
open PySem PySem.Spec PyProof.Rows
open PySem.W (Looks InstAt)
section
variable{C x:Qg}
end
section
variable{X:Cx}{C:Qg}{p:Pos}
end
end L2
namespace L2
open PySem PySem.Spec PyProof.Rows
open PySem.W (Looks InstAt)
def zBz(a C:Qg)(d tb:Qb Qg)(h:Heap):Prop:=∃ oe vs,h.get? a=some oe/\oe.cls=.ref C/\oe.dict=d/\oe.data=.fields vs/\vs[1]?=some (tb.elim .none .ref)/\(tb=none->∃ p,oe={zBy C p with dict:=d})
def pTb(T:Qg)(h:Heap):Prop:=∃ oT ts,h.get? T=some oT/\oT.data=.fields ts/\ts[3]?=some .none
def zBA(a C:Qg)(d tb:Qb Qg):HO:=.ext (zBz a C d tb)
def xTb(T:Qg):HO:=.ext (pTb T)
def zBB(H:Hp)(a C:Qg)(fs:Qa (Str×V)):Prop:=∃ d tb,H a=some (zBA a C d tb)/\(∀ T,tb=some T->H T=some (xTb T)/\T≠a)/\
 ((fs=[]/\d=none)\/∃ od dx,d=some dx/\H dx=some (.aW od<|.xd fs))
section
variable{X:Cx}
end
end L2
namespace L2
open PySem PySem.Spec PyProof.Rows
open PySem.W (Looks InstAt)
abbrev gW:=St->Qg->Hp->Prop
section
variable{X:Cx}{EX:gW}
end
section
variable{X:Cx}{C:Qg}{p:Pos}
end
def CXv(P:Qe)(w:Qh)(K:qc):j6:=λouter H s E e s'=>∃ a H',e=.ref a/\s'.os=s.os/\AllBare s'.gens/\Un (k8 outer) [] H H' s.heap s'.heap/\bE P w K H' s'.heap/\E e none H'
section
variable{X:Cx}{EX:gW}{k:Nat}{f:Qg}{p:Pos}{es:Qa Expr}{t:TA}
end
end L2
namespace L2
open PySem PySem.Spec PyProof.Rows
open PySem.W (Looks InstAt)
abbrev Cx.body(X:Cx)(pn:Qa (Qg×Obj))(E:Qc->Qd->Prop):Cx:={X with pn:=pn,xe:=E}
section
variable{X:Cx}{pn:Qa (Qg×Obj)}
end
section
variable{C C':Qg}
end
section
variable{X:Cx}{n cls:Str}{C':Qg}{body RE:Qa Stmt}{b₀:Stmt}{tb:gW->TS}{th:TS}{np hpos:Pos}
end
end L2
namespace L2
open PySem PySem.Spec PyProof.Rows
abbrev D:=PyData
def yw:Key->D
 | .inl i=>.int i
 | .inr x=>.str x
def ic(ks:Qa Key):D:=.tuple (ks.map yw)
def PL(K:qc)(H:Hp)(a:Qg)(xs:Qa V):Prop :=
 (∃ o,H a=some (.aW o<|.lst xs))\/∃ (o:Obj) (af:Array Qc) (n:Nat),K.lookup a=some o/\o.cls=.type "list"/\o.dict=none/\o.data=.seq af n/\af.size<=sizeLine/\zC xs af.toList
def XN(K:qc)(n:Str)(C:Qg):Prop:=PySem.W.nsIn K mainGlobals n=some (some<|.ref C)
def kM:Qa (D×D)->Bool
 | (.none,_)::_=>false
 | (.bool _,_)::_=>false
 | _=>true
theorem aK.sq{xs:Qa V}(h:aK K H a xs):bw K H a xs:=h.imp .inl λ⟨o,i,n,a,b,c,d,e,_⟩=>⟨o,i,n,a,b,c,d,e⟩
theorem aK.kp{xs:Qa V}(e:Kp H H')(h:aK K H a xs):aK K H' a xs:=h.keeps e.tup
mutual
inductive DF (K:qc) (H:Hp):V->D->Prop
 | aF:DF K H .aF .none
 | bl (b:Bool):DF K H (.bl b) (.bool b)
 | int (i:Int):DF K H (.int i) (.int i)
 | str (x:Str):DF K H (.str x) (.str x)
 | tup {a:Qg} {xs:Qa V} {ds:Qa D} (h:aK K H a xs) (t:aI K H xs ds):DF K H (.ref a) (.tuple ds)
 | lst {a:Qg} {xs:Qa V} {ds:Qa D} (h:PL K H a xs) (t:aI K H xs ds):DF K H (.ref a) (.list ds)
 | iL {a:Qg} {o:Obj} {ws:Qa (Qa Key×V)} {kvs:Qa (D×D)} (h:H a=some (.aW o<|.dT ws)) (t:iQ K H ws kvs):DF K H (.ref a) (.dict kvs)
 | exc {a C:Qg} {n:Str} {fs:Qa (Str×V)} {ds:Qa (D×D)} (h:XV H a C fs) (e:XN K n C) (t:lS K H fs ds):DF K H (.ref a) (.dict<|(.none,.str n)::ds)
 | obj {a C dx:Qg} {o:Obj} {n:Str} {fs:Qa (Str×V)} {ds:Qa (D×D)} (h:H a=some (.aW o<|.ins C dx fs)) (e:XN K n C) (t:lS K H fs ds):DF K H (.ref a) (.dict<|(.bool true,.str n)::ds)
inductive aI (K:qc) (H:Hp):Qa V->Qa D->Prop
 | nil:aI K H [] []
 | cons {v:V} {d:D} {vs:Qa V} {ds:Qa D} (h:DF K H v d) (t:aI K H vs ds):aI K H (v::vs) (d::ds)
inductive iQ (K:qc) (H:Hp):Qa (Qa Key×V)->Qa (D×D)->Prop
 | nil:iQ K H [] []
 | cons {k:Qa Key} {v:V} {d:D} {vs:Qa (Qa Key×V)} {ds:Qa (D×D)} (h:DF K H v d) (t:iQ K H vs ds):iQ K H ((k,v)::vs) ((ic k,d)::ds)
inductive lS (K:qc) (H:Hp):Qa (Str×V)->Qa (D×D)->Prop
 | nil:lS K H [] []
 | cons {k:Str} {v:V} {d:D} {vs:Qa (Str×V)} {ds:Qa (D×D)} (h:DF K H v d) (t:lS K H vs ds):lS K H ((k,v)::vs) ((.str k,d)::ds)
end
theorem XV.kp{C:Qg}{fs:Qa (Str×V)}(e:Kp H H')(h:XV H a C fs):XV H' a C fs:=by
 have(ox,h1,h2,h3,h4):=h;refine⟨ox,e.aW _ _ _ h1,h2,h3,?_⟩;rcases h4 with h4|⟨od,dx,h5,h6⟩
 .exact .inl h4
 .exact .inr ⟨od,dx,h5,e.aW _ _ _ h6⟩
theorem PL.kp{xs:Qa V}(e:Kp H H')(h:PL K H a xs):PL K H' a xs:=by
 rcases h with⟨o,h⟩|h
 .exact .inl ⟨o,e.aW _ _ _ h⟩
 .exact .inr h
theorem PL.sq{xs:Qa V}(h:PL K H a xs):aO K H a xs:=by
 rcases h with⟨o,h⟩|h
 .exact .inl (.inr ⟨o,h⟩)
 .exact .inr h
mutual
theorem DF.kp(e:Kp H H'):∀ {v:V} {d:D},DF K H v d->DF K H' v d
 | _,_,.aF=>.aF
 | _,_,.bl b=>.bl b
 | _,_,.int i=>.int i
 | _,_,.str x=>.str x
 | _,_,.tup h t=>.tup (h.keeps e.tup)<|aI.kp e t
 | _,_,.lst h t=>.lst (h.kp e)<|aI.kp e t
 | _,_,.iL h t=>.iL (e.aW _ _ _ h)<|iQ.kp e t
 | _,_,.exc h n t=>.exc (h.kp e) n<|lS.kp e t
 | _,_,.obj h n t=>.obj (e.aW _ _ _ h) n<|lS.kp e t
theorem aI.kp(e:Kp H H'):∀ {v:Qa V} {d:Qa D},aI K H v d->aI K H' v d
 | _,_,.nil=>.nil
 | _,_,.cons h t=>.cons (DF.kp e h)<|aI.kp e t
theorem iQ.kp(e:Kp H H'):∀ {v:Qa (Qa Key×V)} {d:Qa (D×D)},iQ K H v d->iQ K H' v d
 | _,_,.nil=>.nil
 | _,_,.cons h t=>.cons (DF.kp e h)<|iQ.kp e t
theorem lS.kp(e:Kp H H'):∀ {v:Qa (Str×V)} {d:Qa (D×D)},lS K H v d->lS K H' v d
 | _,_,.nil=>.nil
 | _,_,.cons h t=>.cons (DF.kp e h)<|lS.kp e t
end
section
theorem aI.snoc{v:V}{d:D}(h:DF K H v d):∀ {vs:Qa V} {ds:Qa D},aI K H vs ds->aI K H (vs++[v]) (ds++[d])
 | _,_,.nil=>.cons h .nil
 | _,_,.cons a t=>.cons a<|aI.snoc h t
theorem aI.app:∀ {vs ws:Qa V} {ds es:Qa D},aI K H vs ds->aI K H ws es->aI K H (vs++ws) (ds++es)
 | _,_,_,_,.nil,q=>q
 | _,_,_,_,.cons a t,q=>.cons a<|aI.app t q
theorem aI.len:∀ {vs:Qa V} {ds:Qa D},aI K H vs ds->vs.length=ds.length
 | _,_,.nil=>rfl
 | _,_,.cons _ t=>congrArg (·+1)<|aI.len t
theorem aI.get:∀ {vs:Qa V} {ds:Qa D} {i:Nat} {d:D},aI K H vs ds->ds[i]?=some d->∃ v,vs[i]?=some v/\DF K H v d
 | _,_,0,_,.cons h _,e=>by
  cases(show some _=some _ from e);exact⟨_,rfl,h⟩
 | _,_,i+1,_,.cons _ t,e=>aI.get (i:=i) t e
 | _,_,0,_,.nil,e=>by cases e
 | _,_,_+1,_,.nil,e=>by cases e
theorem aI.get':∀ {vs:Qa V} {ds:Qa D} {i:Nat} {v:V},aI K H vs ds->vs[i]?=some v->∃ d,ds[i]?=some d/\DF K H v d
 | _,_,0,_,.cons h _,e=>by
  cases(show some _=some _ from e);exact⟨_,rfl,h⟩
 | _,_,i+1,_,.cons _ t,e=>aI.get' (i:=i) t e
 | _,_,0,_,.nil,e=>by cases e
 | _,_,_+1,_,.nil,e=>by cases e
theorem aI.take:∀ {vs:Qa V} {ds:Qa D} (n:Nat),aI K H vs ds->aI K H (vs.take n) (ds.take n)
 | _,_,0,_=>by simpa using aI.nil
 | _,_,n+1,.nil=>by simpa using aI.nil
 | _,_,n+1,.cons h t=>.cons h<|aI.take n t
theorem aI.drop:∀ {vs:Qa V} {ds:Qa D} (n:Nat),aI K H vs ds->aI K H (vs.drop n) (ds.drop n)
 | _,_,0,q=>q
 | _,_,n+1,.nil=>by simpa using aI.nil
 | _,_,n+1,.cons h t=>aI.drop n t
theorem aI.set{v:V}{d:D}(h:DF K H v d):∀ {vs:Qa V} {ds:Qa D} (n:Nat),aI K H vs ds->aI K H (vs.set n v) (ds.set n d)
 | _,_,_,.nil=>.nil
 | _,_,0,.cons _ t=>.cons h t
 | _,_,n+1,.cons a t=>.cons a<|aI.set h n t
end
inductive PU where
 | d (x:D) | l (xs:Qa D) | t (kvs:Qa (Qa Key×D)) | x (kvs:Qa (Qa K3×D))
inductive U where
 | d (x:D)
 | l (xs:Qa D) | t (kvs:Qa (Qa Key×D)) | k (kvs:Qa (Key×D))
 | o (c:Str) (fs:Qa (Str×PU))
def U.own:U->Bool
 | .d _=>false
 | _=>true
def b7(K:qc)(H:Hp):Qa (κ×V)->Qa (κ×D)->Prop:=Paired λp q=>p.1=q.1/\DF K H p.2 q.2
def d4(C dx:Qg)(vs:Qa (Str×V)):Qa (Qg×HO)->HO
 | []=>.ins C dx vs
 | (b,p)::r=>.sub b p<|d4 C dx vs r
inductive FO (K:qc) (H:Hp):Qa (Str×V)->Qa (Qg×HO)->Qa (Str×PU)->Prop
 | nil:FO K H [] [] []
 | d {n:Str} {v:V} {x:D} {vs:Qa (Str×V)} {ps:Qa (Qg×HO)} {fs:Qa (Str×PU)} (h:DF K H v x) (t:FO K H vs ps fs):FO K H ((n,v)::vs) ps ((n,.d x)::fs)
 | l {n:Str} {b:Qg} {us:Qa V} {xs:Qa D} {vs:Qa (Str×V)} {ps:Qa (Qg×HO)} {fs:Qa (Str×PU)} (h:aI K H us xs) (t:FO K H vs ps fs):FO K H ((n,.ref b)::vs) ((b,.lst us)::ps) ((n,.l xs)::fs)
 | t {n:Str} {b:Qg} {us:Qa (Qa Key×V)} {xs:Qa (Qa Key×D)} {vs:Qa (Str×V)} {ps:Qa (Qg×HO)} {fs:Qa (Str×PU)} (h:b7 K H us xs) (t:FO K H vs ps fs):FO K H ((n,.ref b)::vs) ((b,.dT us)::ps) ((n,.t xs)::fs)
 | x {n:Str} {b:Qg} {us:Qa (Qa K3×V)} {xs:Qa (Qa K3×D)} {vs:Qa (Str×V)} {ps:Qa (Qg×HO)} {fs:Qa (Str×PU)} (h:b7 K H us xs) (t:FO K H vs ps fs):FO K H ((n,.ref b)::vs) ((b,.dX us)::ps) ((n,.x xs)::fs)
def Rp(K:qc)(H:Hp)(v:V):U->Prop
 | .d x=>DF K H v x
 | .l xs=>∃ a us,v=.ref a/\H a=some (.lst us)/\aI K H us xs
 | .t kvs=>∃ a ws,v=.ref a/\H a=some (.dT ws)/\b7 K H ws kvs
 | .k kvs=>∃ a ws,v=.ref a/\H a=some (.dK ws)/\b7 K H ws kvs
 | .o c fs=>∃ a C dx vs ps,v=.ref a/\H a=some (d4 C dx vs ps)/\ps≠[]/\XN K c C/\(ps.map (·.1)).Nodup/\FO K H vs ps fs/\dx∉ps.map (·.1)/\∀ q∈ps,H q.1=some (.own a)
def Mo:HO->Prop
 | .lst _=>True
 | .dT _=>True
 | .dK _=>True
 | .sub _ _ _=>True
 | _=>False
theorem Mo.d4{C:Qg}{vs:Qa (Str×V)}{ps:Qa (Qg×HO)}(h:ps≠[]):Mo (d4 C dx vs ps):=by
 cases ps with
 | nil=>exact absurd rfl h
 | cons p r=>trivial
theorem Rp.own{v:V}{u:U}(h:Rp K H v u)(o:u.own=true):∃ a c,v=.ref a/\H a=some c/\Mo c:=by
 cases u with
 | d x=>cases o
 | l xs=>have(a,us,e,q,_):=h; exact⟨a,_,e,q,trivial⟩
 | t xs=>have(a,us,e,q,_):=h; exact⟨a,_,e,q,trivial⟩
 | k xs=>have(a,us,e,q,_):=h; exact⟨a,_,e,q,trivial⟩
 | o c fs=>have(a,C,dx,vs,ps,e,q,n,_):=h; exact⟨a,_,e,q,Mo.d4 n⟩
theorem b7.kp(e:Kp H H'){ws:Qa (κ×V)}{kvs:Qa (κ×D)}(h:b7 K H ws kvs):b7 K H' ws kvs:=Paired.gL h λ_ _ z=>⟨z.1,z.2.kp e⟩
theorem FO.kp(e:Kp H H'){vs:Qa (Str×V)}{ps:Qa (Qg×HO)}{fs:Qa (Str×PU)}(h:FO K H vs ps fs):FO K H' vs ps fs:=by
 induction h with
 | nil=>exact .nil
 | d h _ ih=>exact .d (h.kp e) ih
 | l h _ ih=>exact .l (h.kp e) ih
 | t h _ ih=>exact .t (h.kp e) ih
 | x h _ ih=>exact .x (h.kp e) ih
theorem Rp.kp{v:V}{u:U}(h:Rp K H v u)(e:Kp H H')(o:u.own=true->∀ a c,v=.ref a->H a=some c->H' a=some c):Rp K H' v u:=by
 cases u with
 | d x=>exact DF.kp e h
 | l xs=>have(a,us,ev,q,t):=h; exact⟨a,us,ev,o rfl a _ ev q,t.kp e⟩
 | t xs=>have(a,us,ev,q,t):=h; exact⟨a,us,ev,o rfl a _ ev q,t.kp e⟩
 | k xs=>have(a,us,ev,q,t):=h; exact⟨a,us,ev,o rfl a _ ev q,t.kp e⟩
 | o c fs=>have(a,C,dx,vs,ps,ev,q,n,x,nd,t,d,w):=h; exact⟨a,C,dx,vs,ps,ev,o rfl a _ ev q,n,x,nd,t.kp e,d,λz hz=>e.own _ _<|w z hz⟩
abbrev En:=Qa (Qb U)
def Ow(ρ:En)(σ:St)(a:Qg):Prop:=∃ (i:Nat) (u:U),ρ[i]?=some (some u)/\u.own=true/\σ[i]?=some (some<|.ref a)
structure Rs (K:qc) (ρ:En) (σ:St) (H:Hp):Prop where
 len:ρ.length=σ.length
 rep:∀ (i:Nat) (u:U),ρ[i]?=some (some u)->∃ v,σ[i]?=some (some v)/\Rp K H v u
 apart:∀ (i j:Nat) (u w:U),ρ[i]?=some (some u)->ρ[j]?=some (some w)->u.own=true->w.own=true->σ[i]?=σ[j]?->i=j
def wA(A:Qg->Prop)(H H':Hp):Prop:=∀ a o,H a=some o->¬A a->H' a=some o
structure c9 (ρ ah:En):Prop where
 len:ah.length=ρ.length
 own:∀ (i:Nat) (u:U),ah[i]?=some (some u)->u.own=true->∃ w,ρ[i]?=some (some w)/\w.own=true
 live:∀ (i:Nat) (u:U),ρ[i]?=some (some u)->∃ w,ah[i]?=some (some w)
def Nw(H:Hp)(v:V)(u:U):Prop:=u.own=true->∃ a,v=.ref a/\H a=none
structure Go (K:qc) (ρ:En) (σ:St) (H:Hp) (ah:En) (H':Hp):Prop where
 rs:Rs K ah σ H'
 fr:wA (Ow ρ σ) H H'
 shr:c9 ρ ah
 dm:∀ a,H' a=none->H a=none
section
variable{ρ ah cc:En}{sI:Hp}
theorem Rs.ow(r:Rs K ρ σ H)(o:Ow ρ σ a):∃ c,H a=some c/\Mo c:=by
 have(i,u,e,ou,es):=o;have(v,ev,p):=r.rep i u e;rw[es]at ev;cases ev;have(b,c,eb,q,m):=p.own ou;cases eb;exact⟨c,q,m⟩
theorem wA.kp(r:Rs K ρ σ H)(f:wA (Ow ρ σ) H H'):Kp H H':=by
 refine⟨λb xs h=>f b _ h λo=>?_,λb ob u h=>f b _ h λo=>?_,λb x h=>f b _ h λo=>?_⟩
 all_goals
  have(c,q,m):=r.ow o;rw[h]at q;cases q;exact m
theorem c9.refl(ρ:En):c9 ρ ρ:=⟨rfl,λi u e o=>⟨u,e,o⟩,λi u e=>⟨u,e⟩⟩
theorem c9.trans(a:c9 ρ ah)(b:c9 ah cc):c9 ρ cc:=⟨b.1.trans a.1,λi u e o=>let ⟨w,e',o'⟩:=b.2 i u e o; a.2 i w e' o',λi u e=>let ⟨w,e'⟩:=a.3 i u e; b.3 i w e'⟩
theorem c9.ow(s:c9 ρ ah)(o:Ow ah σ a):Ow ρ σ a:=by
 have(i,u,e,ou,es):=o;have(w,e',o'):=s.2 i u e ou;exact⟨i,w,e',o',es⟩
theorem Go.refl(r:Rs K ρ σ H):Go K ρ σ H ρ H:=⟨r,λ_ _ h _=>h,c9.refl _,λ_ h=>h⟩
theorem Go.trans(a:Go K ρ σ H ah H')(b:Go K ah σ H' cc sI):Go K ρ σ H cc sI :=
 ⟨b.rs,λc o h n=>b.fr c o (a.fr c o h n) λz=>n<|a.shr.ow z,a.shr.trans b.shr,λc h=>a.dm c<|b.dm c h⟩
theorem Go.kp(r:Rs K ρ σ H)(g:Go K ρ σ H ah H'):Kp H H':=g.fr.kp r
theorem Go.cA{v:V}{u:U}(r:Rs K ρ σ H)(g:Go K ρ σ H ah H')(h:Rp K H v u)(n:u.own=true->∃ a,v=.ref a/\¬Ow ρ σ a):Rp K H' v u:=by
 refine h.kp (g.kp r) λo a c ev q=>?_;have(b,eb,nb):=n o;cases ev;cases eb;exact g.fr _ _ q nb
theorem Nw.out{v:V}{u:U}(r:Rs K ρ σ H)(n:Nw H v u):u.own=true->∃ a,v=.ref a/\¬Ow ρ σ a:=λo=>by
 have(a,e,h):=n o;refine⟨a,e,λz=>?_⟩;have(c,q,_):=r.ow z;rw[h]at q;cases q
theorem cz.dm(s:cz H H'):∀ a,H' a=none->H a=none:=λa h=>by
 cases e:H a with
 | none=>rfl
 | some o=>rw[s a o e]at h; cases h
theorem Go.grow(r:Rs K ρ σ H)(s:cz H H'):Go K ρ σ H ρ H' :=
 ⟨⟨r.len,λi u e=>let ⟨v,ev,p⟩:=r.rep i u e; ⟨v,ev,p.kp s.kp λ_ a c _ q=>s a c q⟩,r.apart⟩,λa o h _=>s a o h,c9.refl _,s.dm⟩
end
inductive Ar where
 | s (i:Nat) | u (x:U)
def Ar.get(ρ:En):Ar->Qb U
 | .s i=>(ρ[i]?).join
 | .u x=>some x
def lX(K:qc)(ρ:En)(σ:St)(H H':Hp)(v:V):Ar->Prop
 | .s i=>σ[i]?=some (some v)/\∃ u,ρ[i]?=some (some u)
 | .u x=>Rp K H' v x/\Nw H v x
abbrev ME:=En->Qb (Ar×En)
abbrev MA:=En->Qb (Qa Ar×En)
abbrev MT:=En->Qb (Bool×En)
def VE(K:qc)(t:TE)(m:ME):Prop :=
 ∀ (ρ:En) (σ:St) (H:Hp) (a:Ar) (ah:En) (Q:VK),Rs K ρ σ H->m ρ=some (a,ah)->(∀ v H',Go K ρ σ H ah H'->lX K ah σ H H' v a->Q v H')->t σ H Q
def VT(K:qc)(t:TT)(m:MT):Prop :=
 ∀ (ρ:En) (σ:St) (H:Hp) (b:Bool) (ah:En) (Q:Bool->Hp->Prop),Rs K ρ σ H->m ρ=some (b,ah)->(∀ H',Go K ρ σ H ah H'->Q b H')->t σ H Q
structure Eh (K:qc) (ρ:En) (σ:St) (H H':Hp) (vs:Qa V) (as:Qa Ar):Prop where
 len:vs.length=as.length
 ar:∀ (i:Nat) (a:Ar),as[i]?=some a->∃ v,vs[i]?=some v/\lX K ρ σ H H' v a
 ap:∀ (i j:Nat) (x y:U),as[i]?=some (.u x)->as[j]?=some (.u y)->x.own=true->y.own=true->vs[i]?=vs[j]?->i=j
def j5(K:qc)(t:TA)(m:MA):Prop :=
 ∀ (ρ:En) (σ:St) (H:Hp) (as:Qa Ar) (ah:En) (Q:Qa V->Hp->Prop),Rs K ρ σ H->m ρ=some (as,ah)->(∀ vs H',Go K ρ σ H ah H'->Eh K ah σ H H' vs as->Q vs H')->t σ H Q
section
variable{ρ ah cc:En}{sI:Hp}{v:V}{a:Ar}{u:U}
theorem Nw.mono(n:Nw H' v u)(h:∀ a,H' a=none->H a=none):Nw H v u:=λo=>let ⟨a,e,q⟩:=n o; ⟨a,e,h a q⟩
theorem Nw.pD(r:Rs K ρ σ H)(g:Go K ρ σ H ah H')(n:Nw H v u):u.own=true->∃ a,v=.ref a/\¬Ow ah σ a:=λo=>by
 have(b,e,q):=n.out r o;exact⟨b,e,λz=>q<|g.shr.ow z⟩
theorem lX.later(r:Rs K ρ σ H)(g1:Go K ρ σ H ah H')(g2:Go K ah σ H' cc sI)(h:lX K ah σ H H' v a)(e:a.get cc=some u):Rp K sI v u:=by
 cases a with
 | s i=>
  have(es,_):=h;have e':cc[i]?=some (some u):=by
   cases q:cc[i]? with
   | none=>rw[show Ar.get cc (.s i)=(cc[i]?).join from rfl,q]at e; cases e
   | some o=>
    rw[show Ar.get cc (.s i)=(cc[i]?).join from rfl,q]at e;cases o with
    | none=>cases e
    | some x=>cases e; rfl
  have(w,ew,p):=g2.rs.rep i u e';rw[es]at ew;cases ew;exact p
 | u x=>
  cases(show some x=some u from e);exact g2.cA g1.rs h.1<|h.2.pD r g1
theorem lX.now(r:Rs K ρ σ H)(g1:Go K ρ σ H ah H')(h:lX K ah σ H H' v a)(e:a.get ah=some u):Rp K H' v u:=h.later r g1 (Go.refl g1.rs) e
theorem Nw.data{x:D}:Nw H v (.d x):=λo=>by cases o
def zj(i:Nat):ME:=λρ=>match ρ[i]? with
 | some (some _)=>some (.s i,ρ)
 | _=>none
theorem ze:VE K (dW i) (zj i):=by
 intro ρ σ H a ah Q r e q;unfold zj at e;split at e
 .rename_i u eu
  cases e;have(v,ev,p):=r.rep i u eu;exact⟨v,ev,q v H (Go.refl r) ⟨ev,u,eu⟩⟩
 .cases e
def mC(x:D):ME:=λρ=>some (.u<|.d x,ρ)
theorem Dr{c:V}{x:D}(h:∀ H,DF K H c x):VE K (tC c) (mC x):=by
 intro ρ σ H a ah Q r e q;cases e;exact q _ _ (Go.refl r) ⟨h H,Nw.data⟩
theorem zk{n:Int}:VE K (tC<|.int n) (mC<|.int n):=Dr λ_=>.int n
theorem iW{n:Str}:VE K (tC<|.str n) (mC<|.str n):=Dr λ_=>.str n
theorem wJ{n:Bool}:VE K (tC<|.bl n) (mC<|.bool n):=Dr λ_=>.bl n
theorem nL:VE K (tC .aF) (mC .none):=Dr λ_=>.aF
def VO(K:qc)(r:R2)(f:U->U->Qb U):Prop :=
 ∀ (x y:V) (a b u:U) (H:Hp) (Q:VK),Rp K H x a->Rp K H y b->f a b=some u->(∀ v H',cz H H'->Rp K H' v u->Nw H v u->Q v H')->r x y H Q
def aj(f:U->U->Qb U)(ma mb:ME):ME:=λρ=>(ma ρ).bind λp=>(mb p.2).bind λq=>(p.1.get q.2).bind λx=>(q.1.get q.2).bind λy=>(f x y).bind λu=>some (.u u,q.2)
theorem zb{o:Qb α}{f:α->Qb β}{b:β}(h:o.bind f=some b):∃ a,o=some a/\f a=some b:=Option.bind_eq_some_iff.mp h
theorem zr{r:R2}{f:U->U->Qb U}{ma mb:ME}(h:VO K r f)(ha:VE K ta ma)(hb:VE K tb mb):VE K (pq r ta tb) (aj f ma mb):=by
 intro ρ σ H a ah Q rs e q;obtain⟨⟨a1,ρ1⟩,e1,e⟩:=zb e;obtain⟨⟨b1,au⟩,e2,e⟩:=zb e;have(x,ex,e):=zb e;have(y,ey,e):=zb e;have(u,eu,e):=zb e;cases e;refine ha ρ σ H a1 ρ1 _ rs e1 λv1 H1 g1 k1=>hb ρ1 σ H1 b1 au _ g1.rs e2 λv2 H2 g2 k2=>?_;refine h _ _ x y u H2 _ (k1.later rs g1 g2 ex) (k2.now g1.rs g2 ey) eu λv H3 s p n=>?_;exact q v H3 ((g1.trans g2).trans<|Go.grow g2.rs s) ⟨p,n.mono (g1.trans g2).dm⟩
def VU(K:qc)(r:V->Hp->VK->Prop)(f:U->Qb U):Prop :=
 ∀ (x:V) (a u:U) (H:Hp) (Q:VK),Rp K H x a->f a=some u->(∀ v H',cz H H'->Rp K H' v u->Nw H v u->Q v H')->r x H Q
def gM(f:U->Qb U)(ma:ME):ME:=λρ=>(ma ρ).bind λp=>(p.1.get p.2).bind λx=>(f x).bind λu=>some (.u u,p.2)
theorem nH{r:V->Hp->VK->Prop}{f:U->Qb U}{ma:ME}(h:VU K r f)(ha:VE K ta ma):VE K (Ir r ta) (gM f ma):=by
 intro ρ σ H a ah Q rs e q;obtain⟨⟨a1,ρ1⟩,e1,e⟩:=zb e;have(x,ex,e):=zb e;have(u,eu,e):=zb e;cases e;refine ha ρ σ H a1 ρ1 _ rs e1 λv1 H1 g1 k1=>?_;refine h _ x u H1 _ (k1.now rs g1 ex) eu λv H3 s p n=>?_;exact q v H3 (g1.trans<|Go.grow g1.rs s) ⟨p,n.mono g1.dm⟩
def zt:MA:=λρ=>some ([],ρ)
def zf(me:ME)(ma:MA):MA:=λρ=>(me ρ).bind λp=>(ma p.2).bind λq=>some (p.1::q.1,q.2)
theorem zn:j5 K ip zt:=by
 intro ρ σ H as ah Q r e q;cases e;exact q [] H (Go.refl r) ⟨rfl,λi a e=>by simp at e,λi j x y e=>by simp at e⟩
theorem zd{t:TA}{me:ME}{ma:MA}(he:VE K te me)(ha:j5 K t ma):j5 K (jO te t) (zf me ma):=by
 intro ρ σ H as ah Q r e q;obtain⟨⟨a1,ρ1⟩,e1,e⟩:=zb e;obtain⟨⟨D2,au⟩,e2,e⟩:=zb e;cases e;refine he ρ σ H a1 ρ1 _ r e1 λv1 H1 g1 k1=>ha ρ1 σ H1 D2 _ _ g1.rs e2 λvs H2 g2 s2=>?_;have IW:∀ x,a1=.u x->x.own=true->∃ b c,v1=.ref b/\H1 b=some c:=λx ea o=>by
  subst ea;have(b,c,eb,hb,_):=k1.1.own o;exact⟨b,c,eb,hb⟩
 have pG:∀ (j:Nat) (y:U),D2[j]?=some (.u y)->y.own=true->∃ b,vs[j]?=some (.ref b)/\H1 b=none:=λj y ej o=>by
  have(v,ev,k):=s2.ar j _ ej;have(b,eb,hb):=k.2 o;subst eb;exact⟨b,ev,hb⟩
 have ne:∀ (x:U) (j:Nat) (y:U),a1=.u x->x.own=true->D2[j]?=some (.u y)->y.own=true->some v1≠vs[j]?:=λx j y ea ox ej oy z=>by
  have(b,c,e1,h1):=IW x ea ox;have(b',e2,h2):=pG j y ej oy;rw[e2,e1]at z;cases z;rw[h1]at h2;cases h2
 refine q (v1::vs) H2 (g1.trans g2) ⟨by simp[s2.len],λi a ei=>?_,λi j x y ei ej ox oy ev=>?_⟩
 .cases i with
  | zero=>
   cases(show some a1=some a from ei);refine⟨v1,rfl,?_⟩;cases a1 with
   | s k=>
    have(es,w,ew):=k1;exact⟨es,g2.shr.live k w ew⟩
   | u x=>exact⟨g2.cA g1.rs k1.1<|k1.2.pD r g1,k1.2⟩
  | succ i=>
   have(v,ev,k):=s2.ar i a ei;refine⟨v,ev,?_⟩;cases a with
   | s k'=>exact k
   | u x=>exact⟨k.1,k.2.mono g1.dm⟩
 .cases i with
  | zero=>
   cases j with
   | zero=>rfl
   | succ j=>exact absurd ev<|ne x j y (qx ei) ox ej oy
  | succ i=>
   cases j with
   | zero=>exact absurd ev.symm<|ne y i x (qx ej) oy ei ox
   | succ j=>exact congrArg (·+1)<|s2.ap i j x y ei ej ox oy ev
end
end L2
namespace L2
open PySem PySem.Spec PyProof.Rows
open Classical in
def oq(c:Int->Int->Prop)(g:Int->Int->D):U->U->Qb U
 | .d (.int i),.d (.int j)=>if c i j then some (.d<|g i j)else none
 | _,_=>none
def fI(g:Int->Int->D):U->U->Qb U
 | .d (.int i),.d (.int j)=>some<|.d<|g i j
 | _,_=>none
section
theorem DF.int_inv{v:V}{i:Int}(h:DF K H v (.int i)):v=.int i:=by cases h; rfl
theorem DF.str_inv{v:V}(h:DF K H v (.str x)):v=.str x:=by cases h; rfl
theorem DF.fA{v:V}{b:Bool}(h:DF K H v (.bool b)):v=.bl b:=by cases h; rfl
theorem DF.aD{v:V}{ds:Qa D}(h:DF K H v (.tuple ds)):∃ a xs,v=.ref a/\aK K H a xs/\aI K H xs ds:=by cases h with|tup h t=>exact⟨_,_,rfl,h,t⟩
theorem DF.lst_inv{v:V}{ds:Qa D}(h:DF K H v (.list ds)):∃ a xs,v=.ref a/\PL K H a xs/\aI K H xs ds:=by cases h with|lst h t=>exact⟨_,_,rfl,h,t⟩
theorem DF.b6{v:V}{ds:Qa (D×D)}(h:DF K H v (.dict ds))(nx:kM ds=true):∃ a o ws,v=.ref a/\H a=some (.aW o<|.dT ws)/\iQ K H ws ds:=by
 cases h with
 | iL h t=>exact⟨_,_,_,rfl,h,t⟩
 | exc h n t=>cases nx
 | obj h n t=>cases nx
theorem u7{c:Int->Int->Prop}{g:Int->Int->V}{gd:Int->Int->D}(h:∀ i j H,DF K H (g i j)<|gd i j):VO K (rI c g) (oq c gd):=by
 intro x y a b u H Q ha hb e q;unfold oq at e;split at e
 .rename_i i j
  split at e
  .rename_i hc
   cases e;exact⟨i,j,DF.int_inv ha,DF.int_inv hb,hc,q _ _ (λ_ _ z=>z) (h i j H) Nw.data⟩
  .cases e
 .cases e
theorem wI{g:Int->Int->V}{gd:Int->Int->D}(h:∀ i j H,DF K H (g i j)<|gd i j):VO K (kG g) (fI gd):=by
 intro x y a b u H Q ha hb e q;unfold fI at e;split at e
 .rename_i i j
  cases e;exact⟨i,j,DF.int_inv ha,DF.int_inv hb,q _ _ (λ_ _ z=>z) (h i j H) Nw.data⟩
 .cases e
def gX:=fI λi j=>.int<|i+j
def nG:=fI λi j=>.int<|i - j
def g9:=oq uR λi j=>.int<|i * j
def lx:=oq (λ_ j=>0 < j) λi j=>.int<|i % j
def w6:=oq wR λi j=>.int<|i / j
def BH:=oq ve λi j=>.int<|i.fdiv j
def AU:=oq Ba λi j=>.int<|i^j.toNat
def DU:=fI λi j=>.bool<|decide<|i < j
def Al:=fI λi j=>.bool<|decide<|j < i
def DW:=fI λi j=>.bool<|decide<|j<=i
theorem iZ:VO K (kG λi j=>.int<|i+j) gX:=wI λi j H=>.int _
theorem rm:VO K (kG λi j=>.int<|i - j) nG:=wI λi j H=>.int _
theorem jT:VO K (rI uR λi j=>.int<|i * j) g9:=u7 λi j H=>.int _
theorem oS:VO K (rI (λ_ j=>0 < j) λi j=>.int<|i % j) lx:=u7 λi j H=>.int _
theorem NA:VO K (rI wR λi j=>.int<|i / j) w6:=u7 λi j H=>.int _
theorem Nz:VO K (rI ve λi j=>.int<|i.fdiv j) BH:=u7 λi j H=>.int _
theorem Wa:VO K (rI Ba λi j=>.int<|i^j.toNat) AU:=u7 λi j H=>.int _
theorem Lg:VO K (kG λi j=>.bl<|decide<|i < j) DU:=wI λi j H=>.bl _
theorem FK:VO K (kG λi j=>.bl<|decide<|j < i) Al:=wI λi j H=>.bl _
theorem Lf:VO K (kG λi j=>.bl<|decide<|j<=i) DW:=wI λi j H=>.bl _
def kj:U->Qb U
 | .d (.int i)=>some<|.d<|.int (-i)
 | _=>none
theorem nO:VU K (rU λi=>.int (-i)) kj:=by
 intro x a u H Q ha e q;unfold kj at e;split at e
 .rename_i i
  cases e;exact⟨i,DF.int_inv ha,q _ _ (λ_ _ z=>z) (.int _) Nw.data⟩
 .cases e
def U.py:U->Qb D
 | .d x=>some x
 | .l xs=>some<|.list xs
 | _=>none
mutual
theorem DF.dv:∀ {v:V} {d:D},DF K H v d->d.hasDict=false->DV K H v d
 | _,_,.aF,_=>.aF
 | _,_,.bl b,_=>.bl b
 | _,_,.int i,_=>.int i
 | _,_,.str x,_=>.str x
 | _,_,.tup h t,q=>.tup ((aK.sq h))<|aI.dv t (by simpa [PyData.hasDict] using q)
 | _,_,.lst h t,q=>.lst h.sq<|aI.dv t (by simpa [PyData.hasDict] using q)
 | _,_,.iL h t,q=>by simp[PyData.hasDict]at q
 | _,_,.exc h n t,q=>by simp[PyData.hasDict]at q
 | _,_,.obj h n t,q=>by simp[PyData.hasDict]at q
theorem aI.dv:∀ {v:Qa V} {d:Qa D},aI K H v d->PyData.hasDictAll d=false->iP K H v d
 | _,_,.nil,_=>.nil
 | _,_,.cons h t,q=>by
  simp only[PyData.hasDictAll,Bool.or_eq_false_iff]at q;exact .cons (DF.dv h q.1)<|aI.dv t q.2
end
theorem Rp.dv{v:V}{u:U}{x:D}(h:Rp K H v u)(e:u.py=some x)(q:x.hasDict=false):DV K H v x:=by
 cases u with
 | d y=>cases e; exact DF.dv h q
 | l xs=>
  cases e;have(a,us,rfl,h1,h2):=h;exact .lst (aO.of h1)<|aI.dv h2 (by simpa [PyData.hasDict] using q)
 | t=>cases e
 | k=>cases e
 | o=>cases e
mutual
theorem HF:∀ (x:D),x.canLay0=true->x.hasDict=false
 | .none,_=>rfl
 | .bool _,_=>rfl
 | .int _,_=>rfl
 | .str _,_=>rfl
 | .list xs,h=>by simp only[PyData.hasDict]; exact bu xs (by simpa [PyData.canLay0] using h)
 | .tuple xs,h=>by simp only[PyData.hasDict]; exact bu xs (by simpa [PyData.canLay0] using h)
 | .dict _,h=>by simp[PyData.canLay0]at h
theorem bu:∀ (xs:Qa D),PyData.canLayAll0 xs=true->PyData.hasDictAll xs=false
 | [],_=>rfl
 | x::xs,h=>by
  simp only[PyData.canLayAll0,Bool.and_eq_true]at h;simp only[PyData.hasDictAll,HF x h.1,bu xs h.2];rfl
end
def E5(K:qc)(neg:Bool):R2:=λx y H Q=>∃ a b,DV K H x a/\DV K H y b/\SeqAt.shaped a=true/\SeqAt.shaped b=true/\Q (.bl (if neg=true then !PyData.eqv a b else PyData.eqv a b)) H
theorem Mn{X:Cx}(K:qc)(hK:X.K=K){k:Nat}(hr:aA k X.A):bQ X (compareOp .Eq) (E5 K false):=by
 subst hK;intro pins s σ H x y v u Q I rx ry h;have(a,b,da,db,sa,sb,q):=h;have(as,ra):=DV.reads I da rx;have(bs,rb):=DV.reads I db ry;exact SeqAt.compareEq_shaped ra rb sa sb hr.units ⟨.bl _,H,I,rfl,q⟩
theorem Mm{X:Cx}(K:qc)(hK:X.K=K){k:Nat}(hr:aA k X.A):bQ X (compareOp .NotEq) (E5 K true):=by
 subst hK;intro pins s σ H x y v u Q I rx ry h;have(a,b,da,db,sa,sb,q):=h;have(as,ra):=DV.reads I da rx;have(bs,rb):=DV.reads I db ry;exact SeqAt.compareNe_shaped ra rb sa sb hr.units ⟨.bl _,H,I,rfl,q⟩
def jL(neg:Bool)(a b:U):Qb U:=a.py.bind λx=>b.py.bind λy=>if SeqAt.shaped x=true/\SeqAt.shaped y=true then some (.d<|.bool (if neg=true then !PyData.eqv x y else PyData.eqv x y))else none
theorem BQ(neg:Bool):VO K (E5 K neg) (jL neg):=by
 intro x y a b u H Q ha hb e q;have(dx,ex,e):=zb e;have(dy,ey,e):=zb e;split at e
 .rename_i hs
  cases e;exact⟨dx,dy,ha.dv ex<|HF _<|SeqAt.canLay_of_shaped hs.1,hb.dv ey<|HF _<|SeqAt.canLay_of_shaped hs.2,hs.1,hs.2,q _ _ (λ_ _ z=>z) (.bl _) Nw.data⟩
 .cases e
theorem aI.br{xs:Qa V}{ds:Qa D}{i:Int}{d:D}(h:aI K H xs ds)(e:L2.br ds i=some d):∃ v,L2.br xs i=some v/\DF K H v d:=by
 unfold L2.br at e ⊢;have(j,ej,e):=zb e;have(v,ev,k):=h.get e;refine⟨v,?_,k⟩;rw[h.len,ej];exact ev
def cy:U->U->Qb U
 | .l ds,.d (.int i)=>(br ds i).map .d
 | .d (.list ds),.d (.int i)=>(br ds i).map .d
 | _,_=>none
def bo:U->U->Qb U
 | .d (.tuple ds),.d (.int i)=>(br ds i).map .d
 | _,_=>none
theorem eA:VO K (EV K) cy:=by
 intro x y a b u H Q ha hb e q;unfold cy at e;split at e
 .rename_i ds i
  have(d,ed,rfl):=qr.mp e;have(p,us,rfl,h1,h2):=ha;have(v,ev,k):=h2.br ed;exact⟨p,us,i,v,rfl,DF.int_inv hb,aO.of h1,ev,q _ _ (λ_ _ z=>z) k Nw.data⟩
 .rename_i ds i
  have(d,ed,rfl):=qr.mp e;have(p,us,rfl,h1,h2):=DF.lst_inv ha;have(v,ev,k):=h2.br ed;exact⟨p,us,i,v,rfl,DF.int_inv hb,h1.sq,ev,q _ _ (λ_ _ z=>z) k Nw.data⟩
 .cases e
theorem zJ:VO K (EU K) bo:=by
 intro x y a b u H Q ha hb e q;unfold bo at e;split at e
 .rename_i ds i
  have(d,ed,rfl):=qr.mp e;have(p,us,rfl,h1,h2):=DF.aD ha;have(v,ev,k):=h2.br ed;exact⟨p,us,i,v,rfl,DF.int_inv hb,(aK.sq h1),ev,q _ _ (λ_ _ z=>z) k Nw.data⟩
 .cases e
end
end L2
namespace L2
open PySem PySem.Spec PyProof.Rows
section
variable{ρ ah:En}
theorem iz{c:HO}(h:H a=some c)(m:Mo c)(o:HO):Kp H (upd H a o):=by
 refine⟨λb xs e=>?_,λb ob u e=>?_,λb x e=>?_⟩
 all_goals
  rw[zq<|qS e h (by rintro rfl; exact m)];exact e
theorem Go.own{u u':U}{o:HO}(r:Rs K ρ σ H)(e:ρ[i]?=some (some u))(ou:u.own=true)(es:σ[i]?=some (some<|.ref a))(p:Rp K (upd H a o) (.ref a) u'):Go K ρ σ H (ρ.set i<|some u') (upd H a o):=by
 have hi:i < ρ.length:=(qk.mp e).1;have(c,hc,mc):=r.ow ⟨i,u,e,ou,es⟩;have kp:=iz hc mc o;refine⟨⟨by rw[List.length_set]; exact r.len,λj w ej=>?_,λj k w w' ej ek oj ok p7=>?_⟩,λb ob hb n=>?_,⟨List.length_set,λj w ej oj=>?_,λj w ej=>?_⟩,λb hb=>?_⟩
 .by_cases hj:i=j
  .subst hj
   rw[List.getElem?_set_self hi]at ej;cases ej;exact⟨_,es,p⟩
  .rw[qC hj]at ej
   have(v,ev,q):=r.rep j w ej;refine⟨v,ev,q.kp kp λow b c' eb hb=>?_⟩;have ne:b≠a:=by
    rintro rfl;exact hj<|r.apart i j u w e ej ou ow (by rw[es,ev,eb])
   rw[zq ne];exact hb
 .have own:∀ (j:Nat) (w:U),(ρ.set i<|some u')[j]?=some (some w)->w.own=true->∃ w',ρ[j]?=some (some w')/\w'.own=true:=λj w ej oj=>by
   by_cases hj:i=j
   .subst hj; exact⟨u,e,ou⟩
   .rw[qC hj]at ej; exact⟨w,ej,oj⟩
  have(x,ex,ox):=own j w ej oj;have(y,ey,oy):=own k w' ek ok;exact r.apart j k x y ex ey ox oy p7
 .have ne:b≠a:=by
   rintro rfl;exact n ⟨i,u,e,ou,es⟩
  rw[zq ne];exact hb
 .by_cases hj:i=j
  .subst hj; exact⟨u,e,ou⟩
  .rw[qC hj]at ej; exact⟨w,ej,oj⟩
 .by_cases hj:i=j
  .subst hj; exact⟨u',ã hi⟩
  .exact⟨w,by rw[qC hj]; exact ej⟩
 .by_cases eJ:b=a
  .subst eJ; rw[zp]at hb; cases hb
  .rw[zq eJ]at hb; exact hb
theorem Rp.jY{v:V}{u:U}(h:Rp K H v u)(o:u.own=true):∃ a,v=.ref a:=let ⟨a,_,e,_⟩:=h.own o; ⟨a,e⟩
def Fz(K:qc)(H:Hp)(v:V)(H':Hp):Prop :=
 (∃ a xs o,v=.ref a/\K.lookup a=none/\H a=some (.lst xs)/\H'=upd H a (.aW o<|.lst xs))\/(∃ a xs o,v=.ref a/\K.lookup a=none/\H a=some (.dT xs)/\H'=upd H a (.aW o<|.dT xs))\/
  ((∀ a,v=.ref a->(∀ xs,H a≠some (.lst xs))/\∀ xs,H a≠some (.dT xs))/\H'=H)
def Iz(K:qc)(t:TE):TE:=λσ H Q=>t σ H λv H1=>∀ H2,Fz K H1 v H2->Q v H2
theorem Inv.p6{X:Cx}{xs:Qa V}(I:Inv X pins σ H s)(e:H a=some (.lst xs)):∃ o,s.heap.get? a=some o/\Inv X pins σ (upd H a<|.aW o<|.lst xs) s:=by
 have ok:=(show zI X.prog X.w X.K H s.heap a (.lst xs) from I.aq a _ e);have(z,af,n,r,h1):=id ok;refine⟨_,h1,?_⟩;have IZ:zI X.prog X.w X.K (upd H a<|.aW {cls:=.type "list",data:=.seq af.toArray n}<|.lst xs) s.heap a (.lst xs):=⟨z,af,n,r,h1⟩;exact I.write (t':=s.toks) (h':=s.heap) (by rw[e]; trivial) (.inl rfl) (λ_ _ _ q=>q) ⟨_,h1⟩ ⟨h1,IZ⟩
theorem Uc{X:Cx}{t:TE}(h:PE X e t):PE X e (Iz X.K t):=by
 intro pins s σ H Q I q;refine aw (h pins s σ H _ I q) λu s1 hZ=>?_;have(v,H1,I1,r,k):=hZ;have nk:∀ a c,H1 a=some c->X.K.lookup a=none:=λa c ea=>by
  cases q:X.K.lookup a with
  | none=>rfl
  | some o=>rw[(I1.bs a o<|I1.ok.mod.eG a o q).2]at ea; cases ea
 by_cases c1:∃ a xs,v=.ref a/\H1 a=some (.lst xs)
 .have(a,xs,ev,ea):=c1
  have(o,_,I2):=I1.p6 ea;exact⟨v,_,I2,r,k _<|.inl ⟨a,xs,o,ev,nk a _ ea,ea,rfl⟩⟩
 .by_cases c2:∃ a xs,v=.ref a/\H1 a=some (.dT xs)
  .have(a,xs,ev,ea):=c2
   have(o,_,I2):=I1.freeze ea;exact⟨v,_,I2,r,k _<|.inr<|.inl ⟨a,xs,o,ev,nk a _ ea,ea,rfl⟩⟩
  .exact⟨v,H1,I1,r,k _<|.inr<|.inr ⟨λa ev=>⟨λxs z=>c1 ⟨a,xs,ev,z⟩,λxs z=>c2 ⟨a,xs,ev,z⟩⟩,rfl⟩⟩
theorem cj{X:Cx}{t:TE}(h:Wr (PE X e t))(hK:X.K=K:=by rfl):Wr (PE X e<|Iz K t):=hK▸⟨Uc h.run⟩
def U.fz:U->Qb D
 | .d x=>some x
 | .l xs=>some<|.list xs
 | .t kvs=>some<|.dict<|kvs.map λp=>(ic p.1,p.2)
 | .k _=>none
 | .o _ _=>none
def bL(me:ME):ME:=λρ=>(me ρ).bind λp=>(p.1.get p.2).bind λu=>u.fz.bind λx=>some (.u<|.d x,match p.1 with | .s i=>p.2.set i (some<|.d x) | .u _=>p.2)
theorem V9{ws:Qa (Qa Key×V)}{kvs:Qa (Qa Key×D)}(h:b7 K H ws kvs):iQ K H ws (kvs.map λp=>(ic p.1,p.2)):=by
 induction h with
 | nil=>exact .nil
 | @cons p q ps qs hq t ih=>
  have(k,v):=p;have(k',d):=q;have(e,hd):=hq;cases(show k=k' from e);exact .cons hd ih
theorem Fz.rp{v:V}{u:U}{x:D}(h:Fz K H v H')(p:Rp K H v u)(e:u.fz=some x):DF K H' v x/\(u.own=false->H'=H)/\(u.own=true->∃ a o,v=.ref a/\H'=upd H a o):=by
 cases u with
 | d y=>
  cases e;have k:H'=H:=by
   rcases h with⟨a,xs,o,rfl,nk,ea,_⟩|⟨a,xs,o,rfl,nk,ea,_⟩|⟨_,rfl⟩
   .exfalso
    cases(show DF K H _ _ from p)with
    | tup h _=>
     rcases h with h|⟨ob,af,n,hk,_⟩
     .rw[ea]at h; cases h
     .rw[nk]at hk; cases hk
    | lst h _=>
     rcases h with⟨o,h⟩|⟨ob,af,n,hk,_⟩
     .rw[ea]at h; cases h
     .rw[nk]at hk; cases hk
    | iL h _=>rw[ea]at h; cases h
    | exc h _ _=>have(_,h,_):=h; rw[ea]at h; cases h
    | obj h _ _=>rw[ea]at h; cases h
   .exfalso
    cases(show DF K H _ _ from p)with
    | tup h _=>
     rcases h with h|⟨ob,af,n,hk,_⟩
     .rw[ea]at h; cases h
     .rw[nk]at hk; cases hk
    | lst h _=>
     rcases h with⟨o,h⟩|⟨ob,af,n,hk,_⟩
     .rw[ea]at h; cases h
     .rw[nk]at hk; cases hk
    | iL h _=>rw[ea]at h; cases h
    | exc h _ _=>have(_,h,_):=h; rw[ea]at h; cases h
    | obj h _ _=>rw[ea]at h; cases h
   .rfl
  subst k;exact⟨p,λ_=>rfl,λz=>by cases z⟩
 | l xs=>
  cases e;have(a,us,rfl,ea,ds):=p;rcases h with⟨a',gv,o,ev,_,iJ,rfl⟩|⟨a',gv,o,ev,_,iJ,_⟩|⟨z,_⟩
  .cases ev
   rw[ea]at iJ;cases iJ;exact⟨.lst (.inl ⟨o,zp⟩)<|ds.kp<|iz ea trivial _,(λz=>by cases z),λ_=>⟨a,_,rfl,rfl⟩⟩
  .cases ev
   rw[ea]at iJ;cases iJ
  .exact absurd ea ((z a rfl).1 us)
 | t xs=>
  cases e;have(a,us,rfl,ea,ds):=p;rcases h with⟨a',gv,o,ev,_,iJ,_⟩|⟨a',gv,o,ev,_,iJ,rfl⟩|⟨z,_⟩
  .cases ev
   rw[ea]at iJ;cases iJ
  .cases ev
   rw[ea]at iJ;cases iJ;exact⟨.iL zp<|V9<|ds.kp<|iz ea trivial _,(λz=>by cases z),λ_=>⟨a,_,rfl,rfl⟩⟩
  .exact absurd ea ((z a rfl).2 us)
 | k xs=>cases e
 | o=>cases e
theorem cf{t:TE}{m:ME}(h:VE K t m):VE K (Iz K t) (bL m):=by
 intro ρ σ H a ah Q r e q;obtain⟨⟨b,ρ1⟩,e1,e⟩:=zb e;have(u,eu,e):=zb e;have(x,ex,e):=zb e;cases e;refine h ρ σ H b ρ1 _ r e1 λv H1 g1 k1=>λH2 fz=>?_;have p:=k1.now r g1 eu;have(d,f1,f2):=fz.rp p ex;cases b with
 | s i=>
  have ei:ρ1[i]?=some (some u):=by
   have z:(ρ1[i]?).join=some u:=eu;cases q:ρ1[i]? with
   | none=>rw[q]at z; cases z
   | some o=>rw[q]at z; cases o with
    | none=>cases z
    | some w=>cases z; rfl
  have hi:i < ρ1.length:=(qk.mp ei).1
  by_cases ou:u.own=true
  .have(a,o,rfl,rfl):=f2 ou
   exact q _ _ (g1.trans<|Go.own (u':=.d x) g1.rs ei ou k1.1 d) ⟨d,Nw.data⟩
  .have pE:u.own=false:=by simpa using ou
   cases f1 pE;cases u with
   | d y=>
    cases ex;have es:ρ1.set i (some<|.d x)=ρ1:=by
     apply List.ext_getElem?;intro j
     by_cases hj:i=j
     .subst hj; rw[List.getElem?_set_self hi,ei]
     .rw[qC hj]
    show Q v H1;refine q v H1 ?_ ⟨d,Nw.data⟩;show Go K ρ σ H (ρ1.set i<|some<|.d x) H1;rw[es];exact g1
   | l=>cases pE
   | t=>cases pE
   | k=>cases pE
   | o=>cases pE
 | u w=>
  cases(show some w=some u from eu)
  by_cases ou:u.own=true
  .have(a,o,rfl,rfl):=f2 ou
   have(a',iJ,Jd):=k1.2 ou;cases iJ;obtain⟨c,hc,mc⟩:∃ c,H1 a=some c/\Mo c:=by
    have(b,c,eb,hb,m):=p.own ou;cases eb;exact⟨c,hb,m⟩
   have nw:¬Ow ρ1 σ a:=by
    have(b,eb,nb):=k1.2.pD r g1 ou;cases eb;exact nb
   have kp:=iz hc mc o;refine q _ _ ⟨⟨g1.rs.len,λj y ej=>?_,g1.rs.apart⟩,λb ob hb n=>?_,g1.shr,λb hb=>?_⟩ ⟨d,Nw.data⟩
   .have(v,ev,p'):=g1.rs.rep j y ej
    refine⟨v,ev,p'.kp kp λoy b c' eb hb=>?_⟩;have ne:b≠a:=by
     rintro rfl;subst eb;exact nw ⟨j,y,ej,oy,ev⟩
    rw[zq ne];exact hb
   .have ne:b≠a:=by
     rintro rfl;rw[Jd]at hb;cases hb
    rw[zq ne];exact g1.fr b ob hb n
   .by_cases eJ:b=a
    .subst eJ; exact Jd
    .rw[zq eJ]at hb; exact g1.dm b hb
  .have pE:u.own=false:=by simpa using ou
   cases f1 pE;exact q v H1 g1 ⟨d,Nw.data⟩
end
section
variable{ρ ah:En}
def bt(ρ:En):Qa Ar->Qb (Qa U)
 | []=>some []
 | a::as=>(a.get ρ).bind λu=>(bt ρ as).bind λus=>some<|u::us
def km:Qa U->Qb (Qa D)
 | []=>some []
 | .d x::us=>(km us).bind λxs=>some<|x::xs
 | _::_=>none
def D9(K:qc)(H:Hp):Qa V->Qa U->Prop:=Paired λv u=>Rp K H v u
theorem V8{vs:Qa V}{as:Qa Ar}{us:Qa U}(len:vs.length=as.length)(h:∀ (i:Nat) (a:Ar),as[i]?=some a->∃ v,vs[i]?=some v/\∀ u,a.get ρ=some u->Rp K H v u)(e:bt ρ as=some us):D9 K H vs us:=by
 induction as generalizing vs us with
 | nil=>
  cases e;cases vs with
  | nil=>exact .nil
  | cons=>simp at len
 | cons a as ih=>
  have(u,eu,e):=zb e;have(fP,Ao,e):=zb e;cases e;cases vs with
  | nil=>simp at len
  | cons v vs=>
   have(v',ev,k):=h 0 a rfl;cases(show some v=some v' from ev);exact .cons (k u eu)<|ih (by simpa using len) (λi b eb=>h (i+1) b eb) Ao
theorem Eh.nZ{vs:Qa V}{as:Qa Ar}{us:Qa U}(r:Rs K ρ σ H)(g:Go K ρ σ H ah H')(s:Eh K ah σ H H' vs as)(e:bt ah as=some us):D9 K H' vs us :=
 V8 s.len (λi a ea=>let ⟨v,ev,k⟩:=s.ar i a ea; ⟨v,ev,λu eu=>k.now r g eu⟩) e
theorem Ml{vs:Qa V}{us:Qa U}{ds:Qa D}(h:D9 K H vs us)(e:km us=some ds):aI K H vs ds:=by
 induction h generalizing ds with
 | nil=>cases e; exact .nil
 | @cons v u vs us hv t ih=>
  cases u with
  | d x=>
   have(xs,ex,e):=zb (show(km us).bind (λxs=>some<|x::xs)=some ds from e);cases e;exact .cons hv<|ih ex
  | l=>cases e
  | t=>cases e
  | k=>cases e
  | o=>cases e
def bq(ma:MA):ME:=λρ=>(ma ρ).bind λp=>(bt p.2 p.1).bind λus=>(km us).bind λds=>if ds.length<=sizeLine then some (.u<|.d<|.tuple ds,p.2)else none
def dU(ma:MA):ME:=λρ=>(ma ρ).bind λp=>(bt p.2 p.1).bind λus=>(km us).bind λds=>if ds.length<=sizeLine then some (.u<|.l ds,p.2)else none
theorem bG{t:TA}{m:MA}(h:j5 K t m):VE K (EW t) (bq m):=by
 intro ρ σ H a ah Q r e q;obtain⟨⟨as,ρ1⟩,e1,e⟩:=zb e;have(us,eu,e):=zb e;have(ds,ed,e):=zb e;split at e
 .rename_i hz
  cases e;refine h ρ σ H as _ _ r e1 λvs H1 g1 s1=>?_;have dd:=Ml (s1.nZ r g1 eu) ed;refine⟨by rw[dd.len]; exact hz,λp hp=>?_⟩;have sm:=zB hp (.tup vs);exact q _ _ (g1.trans<|Go.grow g1.rs sm) ⟨.tup (.inl zp)<|dd.kp sm.kp,Nw.data⟩
 .cases e
theorem fN{t:TA}{m:MA}(h:j5 K t m):VE K (Bh t) (dU m):=by
 intro ρ σ H a ah Q r e q;obtain⟨⟨as,ρ1⟩,e1,e⟩:=zb e;have(us,eu,e):=zb e;have(ds,ed,e):=zb e;split at e
 .rename_i hz
  cases e;refine h ρ σ H as _ _ r e1 λvs H1 g1 s1=>?_;have dd:=Ml (s1.nZ r g1 eu) ed;refine⟨by rw[dd.len]; exact hz,λp hp=>?_⟩;have sm:=zB hp (.lst vs);exact q _ _ (g1.trans<|Go.grow g1.rs sm) ⟨⟨p,_,rfl,zp,dd.kp sm.kp⟩,λ_=>⟨p,rfl,g1.dm p hp⟩⟩
 .cases e
def VC(K:qc)(r:Qa V->Hp->VK->Prop)(f:Qa U->Qb U):Prop :=
 ∀ (vs:Qa V) (us:Qa U) (u:U) (H:Hp) (Q:VK),D9 K H vs us->f us=some u->(∀ v H',cz H H'->Rp K H' v u->Nw H v u->Q v H')->r vs H Q
def cF(f:Qa U->Qb U)(ma:MA):ME:=λρ=>(ma ρ).bind λp=>(bt p.2 p.1).bind λus=>(f us).bind λu=>some (.u u,p.2)
theorem dg{f:Qa U->Qb U}{t:TA}{m:MA}(hc:VC K r f)(h:j5 K t m):VE K (mE r t) (cF f m):=by
 intro ρ σ H a ah Q rs e q;obtain⟨⟨as,ρ1⟩,e1,e⟩:=zb e;have(us,eu,e):=zb e;have(u,ef,e):=zb e;cases e;refine h ρ σ H as _ _ rs e1 λvs H1 g1 s1=>hc vs us u H1 _ (s1.nZ rs g1 eu) ef λv H2 s p n=>?_;exact q v H2 (g1.trans<|Go.grow g1.rs s) ⟨p,n.mono g1.dm⟩
def f1(f:U->Qb U):Qa U->Qb U
 | [u]=>f u
 | _=>none
theorem sJ{f:U->Qb U}(h:∀ (v:V) (a u:U) (H:Hp) (Q:VK),Rp K H v a->f a=some u->(∀ v H',cz H H'->Rp K H' v u->Nw H v u->Q v H')->r [v] H Q):VC K r (f1 f):=by
 intro vs us u H Q hr e q;cases hr with
 | nil=>cases e
 | cons h1 t=>
  cases t with
  | nil=>exact h _ _ _ _ _ h1 e q
  | cons=>cases e
def U.items:U->Qb (Qa D)
 | .d (.tuple xs)=>some xs
 | .d (.list xs)=>some xs
 | .l xs=>some xs
 | _=>none
theorem Rp.items{v:V}{u:U}{xs:Qa D}(h:Rp K H v u)(e:u.items=some xs):∃ p ys,v=.ref p/\(aO K H p ys\/bw K H p ys)/\aI K H ys xs:=by
 cases u with
 | d x=>
  cases x with
  | tuple ds=>cases e; have(a,ys,rfl,h1,h2):=DF.aD h; exact⟨a,ys,rfl,.inr<|(aK.sq h1),h2⟩
  | list ds=>cases e; have(a,ys,rfl,h1,h2):=DF.lst_inv h; exact⟨a,ys,rfl,.inl h1.sq,h2⟩
  | _=>cases e
 | l ds=>cases e; have(a,ys,rfl,h1,h2):=h; exact⟨a,ys,rfl,.inl<|aO.of h1,h2⟩
 | t=>cases e
 | k=>cases e
 | o=>cases e
def iT(u:U):Qb U:=u.items.map λxs=>.d<|.int xs.length
theorem lE:VC K (EN K) (f1 iT):=sJ λv a u H Q h e q=>by
 have(xs,ex,rfl):=qr.mp e;have(p,ys,rfl,s,d):=h.items ex;exact⟨p,ys,rfl,s,q _ _ (λ_ _ z=>z) (by rw[d.len]; exact .int _) Nw.data⟩
def rl(u:U):Qb U:=u.items.map λxs=>.d<|.tuple xs
theorem vJ:VC K (Ha K) (f1 rl):=sJ λv a u H Q h e q=>by
 have(xs,ex,rfl):=qr.mp e;cases a with
 | d x=>
  cases x with
  | tuple ds=>
   cases ex;have(a,ys,rfl,h1,h2):=DF.aD h;exact⟨a,ys,rfl,.inr ⟨(aK.sq h1),q _ _ (λ_ _ z=>z) (.tup h1 h2) Nw.data⟩⟩
  | list ds=>
   cases ex;have(a,ys,rfl,h1,h2):=DF.lst_inv h;refine⟨a,ys,rfl,.inl ⟨h1.sq,λl hl=>?_⟩⟩;have sm:=zB hl (.tup ys);exact q _ _ sm (.tup (.inl zp)<|h2.kp sm.kp) Nw.data
  | _=>cases ex
 | l ds=>
  cases ex;have(a,ys,rfl,h1,h2):=h;refine⟨a,ys,rfl,.inl ⟨aO.of h1,λl hl=>?_⟩⟩;have sm:=zB hl (.tup ys);exact q _ _ sm (.tup (.inl zp)<|h2.kp sm.kp) Nw.data
 | t=>cases ex
 | k=>cases ex
 | o=>cases ex
def wH:U->Qb U
 | .d (.int i)=>some<|.d<|.int (if i < 0 then -i else i)
 | _=>none
theorem Mj:VC K (λxs H Q=>∃ i,xs=[.int i]/\Q (.int (if i < 0 then -i else i)) H) (f1 wH):=sJ λv a u H Q h e q=>by
 unfold wH at e;split at e
 .rename_i i
  cases e;cases DF.int_inv h;exact⟨i,rfl,q _ _ (λ_ _ z=>z) (.int _) Nw.data⟩
 .cases e
def w5:U->Qb U
 | .d (.int i)=>some<|.d<|.int i
 | .d (.bool k)=>some<|.d<|.int (if k then 1 else 0)
 | _=>none
theorem Ny:VC K (λxs H Q=>(∃ i,xs=[.int i]/\Q (.int i) H)\/∃ k,xs=[.bl k]/\Q (.int (if k then 1 else 0)) H) (f1 w5):=sJ λv a u H Q h e q=>by
 unfold w5 at e;split at e
 .rename_i i
  cases e;cases DF.int_inv h;exact .inl ⟨i,rfl,q _ _ (λ_ _ z=>z) (.int _) Nw.data⟩
 .rename_i i
  cases e;cases DF.fA h;exact .inr ⟨i,rfl,q _ _ (λ_ _ z=>z) (.int _) Nw.data⟩
 .cases e
def BG:Qa U->Qb U
 | [.d<|.int i,.d<|.int j]=>some<|.d<|.int (if j > i then j else i)
 | _=>none
theorem XB:VC K (λxs H Q=>∃ i j,xs=[.int i,.int j]/\Q (.int (if j > i then j else i)) H) BG:=by
 intro vs us u H Q hr e q;unfold BG at e;split at e
 .rename_i i j
  cases e;cases hr with
  | cons h1 t=>
   cases t with
   | cons h2 t=>
    cases t;cases DF.int_inv h1;cases DF.int_inv h2;exact⟨i,j,rfl,q _ _ (λ_ _ z=>z) (.int _) Nw.data⟩
 .cases e
def rf:Qa D->Qb (Qa Int)
 | []=>some []
 | .int i::xs=>(rf xs).bind λis=>some<|i::is
 | _::_=>none
theorem Oc{xs:Qa D}(h:aI K H ys xs)(e:rf xs=some ns):ys=ns.map V.int:=by
 induction xs generalizing ys ns with
 | nil=>cases e; cases h; rfl
 | cons x xs ih=>
  cases h with
  | cons h1 t=>
   cases x with
   | int i=>
    have(is,ei,e):=zb (show(rf xs).bind (λis=>some<|i::is)=some ns from e);cases e;rw[ih t ei,DF.int_inv h1];rfl
   | _=>cases e
def E4(u:U):Qb U:=u.items.bind λxs=>(rf xs).map λns=>.d<|.int ns.sum
theorem V7:VC K (Kn K) (f1 E4):=sJ λv a u H Q h e q=>by
 have(xs,ex,e):=zb e;have(ns,en,rfl):=qr.mp e;have(p,ys,rfl,s,d):=h.items ex;cases Oc d en;exact⟨p,ns,rfl,s,q _ _ (λ_ _ z=>z) (.int _) Nw.data⟩
def mB(me:ME):MT:=λρ=>(me ρ).bind λp=>(p.1.get p.2).bind λu=>match u with | .d (.bool b)=>some (b,p.2) | _=>none
theorem jK{t:TE}{m:ME}(h:VE K t m):VT K (tB t) (mB m):=by
 intro ρ σ H b ah Q r e q;obtain⟨⟨a,ρ1⟩,e1,e⟩:=zb e;have(u,eu,e):=zb e;split at e
 .cases e
  refine h ρ σ H a _ _ r e1 λv H1 g1 k1=>?_;exact⟨_,DF.fA<|k1.now r g1 eu,q _ g1⟩
 .cases e
theorem zL{t:TE}{m:ME}(h:VE K t m):VT K (FY t) (mB m):=jK h
def uO(ma mb:MT):MT:=λρ=>(ma ρ).bind λp=>if p.1=true then mb p.2 else some (false,p.2)
def pJ(ma mb:MT):MT:=λρ=>(ma ρ).bind λp=>if p.1=true then some (true,p.2)else mb p.2
def uN(ma:MT):MT:=λρ=>(ma ρ).bind λp=>some (!p.1,p.2)
theorem Gr{ta tb:TT}{ma mb:MT}(ha:VT K ta ma)(hb:VT K tb mb):VT K (EM ta tb) (uO ma mb):=by
 intro ρ σ H b ah Q r e q;obtain⟨⟨c,ρ1⟩,e1,e⟩:=zb e;refine ha ρ σ H c ρ1 _ r e1 λH1 g1=>?_;dsimp only at e;split at e
 .rename_i hc
  rw[if_pos hc];exact hb ρ1 σ H1 b ah _ g1.rs e λH2 g2=>q H2<|g1.trans g2
 .rename_i hc
  rw[if_neg hc];cases e;exact q H1 g1
theorem u6{ta tb:TT}{ma mb:MT}(ha:VT K ta ma)(hb:VT K tb mb):VT K (Iw ta tb) (pJ ma mb):=by
 intro ρ σ H b ah Q r e q;obtain⟨⟨c,ρ1⟩,e1,e⟩:=zb e;refine ha ρ σ H c ρ1 _ r e1 λH1 g1=>?_;dsimp only at e;split at e
 .rename_i hc
  rw[if_pos hc];cases e;exact q H1 g1
 .rename_i hc
  rw[if_neg hc];exact hb ρ1 σ H1 b ah _ g1.rs e λH2 g2=>q H2<|g1.trans g2
theorem Gq{ta:TT}{ma:MT}(ha:VT K ta ma):VT K (EL ta) (uN ma):=by
 intro ρ σ H b ah Q r e q;obtain⟨⟨c,ρ1⟩,e1,e⟩:=zb e;cases e;exact ha ρ σ H c _ _ r e1 λH1 g1=>q H1 g1
def sP(ma mb:ME):ME:=λρ=>(mB ma ρ).bind λp=>if p.1=true then mb p.2 else some (.u<|.d<|.bool false,p.2)
theorem E3{a:Ar}{v:V}{H1 H2:Hp}{ρ1 au:En}(g1:Go K ρ σ H ρ1 H1)(h:lX K au σ H1 H2 v a):lX K au σ H H2 v a:=by
 cases a with
 | s i=>exact h
 | u x=>exact⟨h.1,h.2.mono g1.dm⟩
theorem BP{ma mb:ME}(ha:VE K ta ma)(hb:VE K tb mb):VE K (FV ta tb) (sP ma mb):=by
 intro ρ σ H a ah Q r e q;obtain⟨⟨c,ρ1⟩,e1,e⟩:=zb e;refine jK ha ρ σ H c ρ1 (λc H1=>if c=true then tb σ H1 Q else Q (.bl false) H1) r e1 λH1 g1=>?_;dsimp only at e;split at e
 .rename_i hc
  rw[if_pos hc];exact hb ρ1 σ H1 a ah _ g1.rs e λv H2 g2 k=>q v H2 (g1.trans g2)<|E3 g1 k
 .rename_i hc
  rw[if_neg hc];cases e;exact q _ H1 g1 ⟨.bl _,Nw.data⟩
def w4(ma:ME):ME:=λρ=>(mB ma ρ).bind λp=>some (.u<|.d<|.bool (!p.1),p.2)
theorem Mi{ma:ME}(ha:VE K ta ma):VE K (FU ta) (w4 ma):=by
 intro ρ σ H a ah Q r e q;obtain⟨⟨c,ρ1⟩,e1,e⟩:=zb e;cases e;exact jK ha ρ σ H c _ (λc H1=>Q (.bl (!c)) H1) r e1 λH1 g1=>q _ H1 g1 ⟨.bl _,Nw.data⟩
def ym(mt:MT)(ma mb:ME):ME:=λρ=>(mt ρ).bind λp=>if p.1=true then ma p.2 else mb p.2
theorem Ky{mt:MT}{ma mb:ME}(ht:VT K tt mt)(ha:VE K ta ma)(hb:VE K tb mb):VE K (Iy tt ta tb) (ym mt ma mb):=by
 intro ρ σ H a ah Q r e q;obtain⟨⟨c,ρ1⟩,e1,e⟩:=zb e;refine ht ρ σ H c ρ1 _ r e1 λH1 g1=>?_;dsimp only at e;split at e
 .rename_i hc
  rw[if_pos hc];exact ha ρ1 σ H1 a ah _ g1.rs e λv H2 g2 k=>q v H2 (g1.trans g2)<|E3 g1 k
 .rename_i hc
  rw[if_neg hc];exact hb ρ1 σ H1 a ah _ g1.rs e λv H2 g2 k=>q v H2 (g1.trans g2)<|E3 g1 k
def U.vV:U->Qb Bool
 | .d .none=>some false
 | .d (.bool b)=>some b
 | .d (.int i)=>some<|i != 0
 | .d (.str x)=>if x.length<=sizeLine then some ((x.length:Int) != 0)else none
 | .d (.tuple xs)=>some (!xs.isEmpty)
 | .d (.list xs)=>some (!xs.isEmpty)
 | .l xs=>some (!xs.isEmpty)
 | _=>none
theorem HE{xs:Qa D}(h:aI K H ys xs):(!xs.isEmpty)=!ys.isEmpty:=by cases h<;>rfl
def AS(ma:ME):MT:=λρ=>(ma ρ).bind λp=>(p.1.get p.2).bind λu=>u.vV.bind λb=>some (b,p.2)
theorem V6{ma:ME}(ha:VE K ta ma):VT K (Kq K ta) (AS ma):=by
 intro ρ σ H b ah Q r e q;obtain⟨⟨a,ρ1⟩,e1,e⟩:=zb e;have(u,eu,e):=zb e;have(c,ec,e):=zb e;cases e;refine ha ρ σ H a _ _ r e1 λv H1 g1 k1=>⟨_,?_,q _ g1⟩;have p:=k1.now r g1 eu;cases u with
 | d x=>
  cases(show DF K H1 v x from p)with
  | aF=>cases ec; rfl
  | bl=>cases ec; rfl
  | int=>cases ec; rfl
  | str x=>
   unfold U.vV at ec;dsimp only at ec;split at ec
   .cases ec; exact⟨by assumption,rfl⟩
   .cases ec
  | tup h t=>cases ec; exact .inr<|.inl ⟨_,(aK.sq h),HE t⟩
  | lst h t=>cases ec; exact .inl ⟨_,h.sq,HE t⟩
  | iL=>cases ec
  | exc=>cases ec
  | obj=>cases ec
 | l xs=>cases ec; have(a,us,rfl,h1,h2):=p; exact .inl ⟨_,aO.of h1,HE h2⟩
 | t=>cases ec
 | k=>cases ec
 | o=>cases ec
end
section
variable{ρ ah:En}
abbrev FD:=Qa U->Qb (U×Qa U)
def sm(xs:Qa U):En:=xs.map some
def dZ(vs:Qa V):St:=vs.map some
def nX(K:qc)(n:Nat)(f:FD):Sp:=λvs H Q _=>∃ us r outs,us.length=n/\Rs K (sm us) (dZ vs) H/\f us=some (r,outs)/\
 ∀ v H',Go K (sm us) (dZ vs) H (sm outs) H'->Rp K H' v r->Nw H v r->Q v H'
def wb:En->Qa Ar->Qa U->En
 | ρ,.s j::as,o::os=>wb (ρ.set j<|some o) as os
 | ρ,.u _::as,_::os=>wb ρ as os
 | ρ,_,_=>ρ
def g8(ρ:En):Qa Ar->Bool
 | []=>true
 | .s j::as=>(match ρ[j]? with|some (some u)=>!u.own || !(as.any λa=>match a with | .s k=>decide (k=j) | _=>false) | _=>true) && g8 ρ as
 | .u _::as=>g8 ρ as
def aR(f:FD)(ma:MA):ME:=λρ=>(ma ρ).bind λp=>if g8 p.2 p.1=true then(bt p.2 p.1).bind λus=>(f us).bind λo=>some (.u o.1,wb p.2 p.1 o.2)else none
theorem CC:∀ {as:Qa Ar} {us:Qa U},bt ρ as=some us->us.length=as.length
 | [],us,e=>by cases e; rfl
 | a::as,us,e=>by
  have(u,eu,e):=zb e;have(fP,Ao,e):=zb e;cases e;simp[CC Ao]
theorem M0:∀ {as:Qa Ar} {us:Qa U} {i:Nat} {a:Ar},bt ρ as=some us->as[i]?=some a->∃ u,us[i]?=some u/\a.get ρ=some u
 | [],us,i,a,e,ea=>by simp at ea
 | b::as,us,i,a,e,ea=>by
  have(u,eu,e):=zb e;have(fP,Ao,e):=zb e;cases e;cases i with
  | zero=>cases(show some b=some a from ea); exact⟨u,rfl,eu⟩
  | succ i=>exact M0 (i:=i) Ao ea
theorem Hm:∀ {as:Qa Ar} {us:Qa U} {i:Nat} {u:U},bt ρ as=some us->us[i]?=some u->∃ a,as[i]?=some a/\a.get ρ=some u:=λ{as us i u} e eu=>by
 have hi:i < as.length:=by rw[<-CC e]; exact(qk.mp eu).1
 have(u',e1,e2):=M0 e (qm hi);rw[eu]at e1;cases e1;exact⟨_,qm hi,e2⟩
theorem Le{u:U}(e:Ar.get ρ (.s j)=some u):ρ[j]?=some (some u):=by
 have z:(ρ[j]?).join=some u:=e;cases q:ρ[j]? with
 | none=>rw[q]at z; cases z
 | some o=>
  rw[q]at z;cases o with
  | none=>cases z
  | some w=>cases z; rfl
theorem MZ:∀ {as:Qa Ar} {p q j:Nat} {u:U},g8 ρ as=true->as[p]?=some (.s j)->as[q]?=some (.s j)->ρ[j]?=some (some u)->u.own=true->p=q
 | [],p,q,j,u,_,e,_,_,_=>by simp at e
 | a::as,p,q,j,u,d,ep,eq,ej,ou=>by
  have dd:g8 ρ as=true:=by
   cases a with
   | s k=>unfold g8 at d; rw[Bool.and_eq_true]at d; exact d.2
   | u=>exact d
  have yf:∀ {q':Nat},a=.s j->as[q']?=some (.s j)->False:=λ{q'} ea DX=>by
   subst ea;unfold g8 at d;rw[Bool.and_eq_true,ej]at d;have d1:=d.1;dsimp only at d1;rw[ou]at d1;have m:(as.any λa=>match a with | .s k=>decide (k=j) | _=>false)=true:=ê.mpr ⟨.s j,Â DX,by simp⟩;rw[m]at d1;cases d1
  cases p with
  | zero=>
   cases q with
   | zero=>rfl
   | succ q=>exact(yf (qx ep) eq).elim
  | succ p=>
   cases q with
   | zero=>exact(yf (qx eq) ep).elim
   | succ q=>exact congrArg (·+1)<|MZ dd ep eq ej ou
theorem fK{us:Qa U}{u:U}:(sm us)[i]?=some (some u)↔us[i]?=some u:=by
 unfold sm;rw[List.getElem?_map];cases us[i]?<;>simp
theorem vz{vs:Qa V}{v:V}:(dZ vs)[i]?=some (some v)↔vs[i]?=some v:=by
 unfold dZ;rw[List.getElem?_map];cases vs[i]?<;>simp
theorem Bv:∀ {as:Qa Ar} {os:Qa U} {ρ:En} {j:Nat} {w:U},(wb ρ as os)[j]?=some (some w)->as.length=os.length->(∃ p:Nat,as[p]?=some (Ar.s j)/\os[p]?=some w)\/(ρ[j]?=some (some w)/\∀ p:Nat,as[p]?≠some (Ar.s j))
 | [],os,ρ,j,w,e,_=>.inr ⟨by cases os<;>exact e,λp z=>by simp at z⟩
 | a::as,[],ρ,j,w,e,l=>by simp at l
 | .u x::as,o::os,ρ,j,w,e,l=>by
  rcases Bv (as:=as) (os:=os) (ρ:=ρ) (show(wb ρ as os)[j]?=some (some w) from e) (by simpa using l)with⟨p,h1,h2⟩|⟨h1,h2⟩
  .exact .inl ⟨p+1,h1,h2⟩
  .refine .inr ⟨h1,λp z=>?_⟩
   cases p with
   | zero=>cases(show some (Ar.u x)=some (.s j) from z)
   | succ p=>exact h2 p z
 | .s k::as,o::os,ρ,j,w,e,l=>by
  rcases Bv (as:=as) (os:=os) (ρ:=ρ.set k (some o)) (show(wb (ρ.set k<|some o) as os)[j]?=some (some w) from e) (by simpa using l)with⟨p,h1,h2⟩|⟨h1,h2⟩
  .exact .inl ⟨p+1,h1,h2⟩
  .by_cases hk:k=j
   .subst hk
    have hl:k < (ρ.set k<|some o).length:=(qk.mp h1).1;rw[List.length_set]at hl;rw[List.getElem?_set_self hl]at h1;exact .inl ⟨0,rfl,by cases h1; rfl⟩
   .rw[qC hk]at h1
    refine .inr ⟨h1,λp z=>?_⟩;cases p with
    | zero=>cases(show some (Ar.s k)=some (.s j) from z); exact hk rfl
    | succ p=>exact h2 p z
theorem BO:∀ (ρ:En) (as:Qa Ar) (os:Qa U),(wb ρ as os).length=ρ.length
 | ρ,[],os=>by cases os<;>rfl
 | ρ,.s k::as,[]=>rfl
 | ρ,.u k::as,[]=>rfl
 | ρ,.s k::as,o::os=>by show(wb (ρ.set k<|some o) as os).length=_; rw[BO]; exact List.length_set
 | ρ,.u k::as,o::os=>BO ρ as os
theorem Cs:∀ {as:Qa Ar} {os:Qa U} {ρ:En} {j:Nat} {w:U},ρ[j]?=some (some w)->∃ w',(wb ρ as os)[j]?=some (some w')
 | [],os,ρ,j,w,e=>⟨w,by cases os<;>exact e⟩
 | .s k::as,[],ρ,j,w,e=>⟨w,e⟩
 | .u k::as,[],ρ,j,w,e=>⟨w,e⟩
 | .u k::as,o::os,ρ,j,w,e=>Cs (as:=as) (os:=os) e
 | .s k::as,o::os,ρ,j,w,e=>by
  by_cases hk:k=j
  .subst hk
   exact Cs (as:=as) (os:=os) (w:=o)<|ã (qk.mp e).1
  .exact Cs (as:=as) (os:=os) (w:=w) (by rw[qC hk]; exact e)
theorem V5{as:Qa Ar}{us:Qa U}{vs:Qa V}{ρ1:En}{H1:Hp}(rs:Rs K ρ σ H)(g1:Go K ρ σ H ρ1 H1)(s1:Eh K ρ1 σ H H1 vs as)(dj:g8 ρ1 as=true)(eu:bt ρ1 as=some us):
  Rs K (sm us) (dZ vs) H1/\∀ (outs:Qa U) (H2:Hp),Go K (sm us) (dZ vs) H1 (sm outs) H2->Go K ρ σ H (wb ρ1 as outs) H2:=by
 have rp:=s1.nZ rs g1 eu;have lus:=CC eu;have lvs:=s1.len;have adr:∀ (i:Nat) (u:U),us[i]?=some u->u.own=true->∃ b,vs[i]?=some (.ref b)/\((∃ j,as[i]?=some (.s j)/\σ[j]?=some (some<|.ref b)/\ρ1[j]?=some (some u))\/(as[i]?=some (.u u)/\H b=none)):=λi u ei ou=>by
  have(a,ea,eg):=Hm eu ei;have(v,ev,k):=s1.ar i a ea;have p:=k.now rs g1 eg;have(b,rfl):=p.jY ou;refine⟨b,ev,?_⟩;cases a with
  | s j=>exact .inl ⟨j,ea,k.1,Le eg⟩
  | u x=>
   cases(show some x=some u from eg);have(b',eb,hb):=k.2 ou;cases eb;exact .inr ⟨ea,hb⟩
 have apart:∀ (i j:Nat) (u w:U),us[i]?=some u->us[j]?=some w->u.own=true->w.own=true->vs[i]?=vs[j]?->i=j:=λi j u w ei ej ou ow ev=>by
  have(b,vb,hb):=adr i u ei ou;have(c,vc,hc):=adr j w ej ow;have bc:b=c:=by rw[vb,vc]at ev; cases ev; rfl
  subst bc;rcases hb with⟨x,ax,sx,rx⟩|⟨ax,nx⟩
  .rcases hc with⟨y,ay,sy,ry⟩|⟨ay,ny⟩
   .have xy:x=y:=g1.rs.apart x y u w rx ry ou ow (by rw[sx,sy])
    subst xy;exact MZ dj ax ay rx ou
   .exfalso
    have(w',cp,tS):=g1.shr.own x u rx ou;have(c',kZ,_):=rs.ow ⟨x,w',cp,tS,sx⟩;rw[ny]at kZ;cases kZ
  .rcases hc with⟨y,ay,sy,ry⟩|⟨ay,ny⟩
   .exfalso
    have(w',cp,tS):=g1.shr.own y w ry ow;have(c',kZ,_):=rs.ow ⟨y,w',cp,tS,sy⟩;rw[nx]at kZ;cases kZ
   .exact s1.ap i j u w ax ay ou ow ev
 have Dy:Rs K (sm us) (dZ vs) H1:=by
  refine⟨by unfold sm dZ; rw[List.length_map,List.length_map]; omega,λi u ei=>?_,λi j u w ei ej ou ow ev=>?_⟩
  .have sD:=fK.mp ei
   have(a,ea,eg):=Hm eu sD;have(v,ev,k):=s1.ar i a ea;exact⟨v,vz.mpr ev,k.now rs g1 eg⟩
  .have sD:=fK.mp ei
   have ng:=fK.mp ej;refine apart i j u w sD ng ou ow ?_;have(b,vb,_):=adr i u sD ou;have(c,vc,_):=adr j w ng ow;rw[vz.mpr vb,vz.mpr vc]at ev;rw[vb,vc];exact qx ev
 refine⟨Dy,λouts H2 g2=>?_⟩;have lo:outs.length=us.length:=by have:=g2.shr.len; unfold sm at this; simpa using this
 have kp2:=g2.kp Dy;have owA:∀ b,Ow (sm us) (dZ vs) b->Ow ρ1 σ b\/H b=none:=λb ⟨i,u,ei,ou,es⟩=>by
  have(c,vc,hc):=adr i u (fK.mp ei) ou;rw[vz.mp es]at vc;cases vc;rcases hc with⟨j,_,sj,rj⟩|⟨_,nb⟩
  .exact .inl ⟨j,u,rj,ou,sj⟩
  .exact .inr nb
 have tT:∀ (i:Nat) (w:U),outs[i]?=some w->∃ x,vs[i]?=some x/\Rp K H2 x w:=λi w ei=>by
  have(x,ex,px):=g2.rs.rep i w (fK.mpr ei);exact⟨x,vz.mp ex,px⟩
 have RW:as.length=outs.length:=by omega
 have gI:∀ (j:Nat) (w:U),(wb ρ1 as outs)[j]?=some (some w)->w.own=true->∃ w',ρ1[j]?=some (some w')/\w'.own=true:=λj w ej ow=>by
  rcases Bv ej RW with⟨p,ap,op⟩|⟨h1,_⟩
  .have(w',cp,tS):=g2.shr.own p w (fK.mpr op) ow
   have(a,ea,eg):=Hm eu (fK.mp cp);rw[ap]at ea;cases ea;exact⟨w',Le eg,tS⟩
  .exact⟨w,h1,ow⟩
 refine⟨⟨by rw[BO]; exact g1.rs.len,λj w ej=>?_,λi j u w ei ej ou ow es=>?_⟩,λb ob hb nb=>?_,?_,λb hb=>g1.dm b<|g2.dm b hb⟩
 .rcases Bv ej RW with⟨p,ap,op⟩|⟨h1,h2⟩
  .have(x,vx,px):=tT p w op
   have(v',uA,k'):=s1.ar p _ ap;rw[vx]at uA;cases uA;exact⟨x,k'.1,px⟩
  .have(x,ex,px):=g1.rs.rep j w h1
   refine⟨x,ex,px.kp kp2 λow b c eb hb=>?_⟩;refine g2.fr b c hb λ⟨i,u,ei,ou,es⟩=>?_;have(c',RB,kZ):=adr i u (fK.mp ei) ou;rw[vz.mp es]at RB;cases RB;subst eb;rcases kZ with⟨k,ak,sk,rk⟩|⟨_,nb⟩
   .have:k=j:=g1.rs.apart k j u w rk h1 ou ow (by rw[sk,ex])
    subst this;exact h2 i ak
   .have(w',cp,tS):=g1.shr.own j w h1 ow
    have(c'',Ae,_):=rs.ow ⟨j,w',cp,tS,ex⟩;rw[nb]at Ae;cases Ae
 .have(x,ex,ox):=gI i u ei ou
  have(y,ey,oy):=gI j w ej ow;exact g1.rs.apart i j x y ex ey ox oy es
 .refine g2.fr b ob (g1.fr b ob hb nb) λz=>?_
  rcases owA b z with z|z
  .exact nb (g1.shr.ow z)
  .rw[z]at hb; cases hb
 .refine⟨by rw[BO]; exact g1.shr.len,λj w ej ow=>?_,λj w ej=>?_⟩
  .have(x,ex,ox):=gI j w ej ow
   exact g1.shr.own j x ex ox
  .have(x,ex):=g1.shr.live j w ej
   exact Cs ex
theorem Ld:∀ ρ as ah,zt ρ=some (as,ah)->as.length=0:=λρ as ah e=>by cases e; rfl
theorem Mh{me:ME}{ma:MA}(h:∀ ρ as ah,ma ρ=some (as,ah)->as.length=n):∀ ρ as ah,zf me ma ρ=some (as,ah)->as.length=n+1:=λρ as ah e=>by
 obtain⟨⟨a1,ρ1⟩,e1,e⟩:=zb e;obtain⟨⟨D2,au⟩,e2,e⟩:=zb e;cases e;simp[h _ _ _ e2]
theorem zK{f:FD}{t:TA}{m:MA}(n:Nat)(h:j5 K t m)(hn:∀ ρ as ah,m ρ=some (as,ah)->as.length=n:=by repeat (first|exact Ld|refine Mh ?_)):VE K (wG (nX K n f) t) (aR f m):=by
 intro ρ σ H a ah Q rs e q;obtain⟨⟨as,ρ1⟩,e1,e⟩:=zb e;dsimp only at e;split at e
 .rename_i dj
  have(us,eu,e):=zb e;obtain⟨⟨r,outs⟩,ef,e⟩:=zb e;cases e;refine h ρ σ H as ρ1 _ rs e1 λvs H1 g1 s1=>?_;have(Dy,back):=V5 rs g1 s1 dj eu;exact⟨us,r,outs,by rw[CC eu]; exact hn _ _ _ e1,Dy,ef,λv H2 g2 p n2=>q v H2 (back outs H2 g2) ⟨p,n2.mono g1.dm⟩⟩
 .cases e
end
inductive Fl where
 | nx (ρ:En) | bk (ρ:En) | ct (ρ:En) | rt (u:U) (ρ:En) | ex (x:D) (ρ:En)
def Kx(K:qc)(H:Hp)(a:Qg)(x:D):Prop:=∃ n C fs ds,x=.dict ((.none,.str n)::ds)/\zBB H a C fs/\XN K n C/\lS K H fs ds
structure Sn (K:qc) (pn:Qa Nat) (ai:St) (A:Qg->Prop) (H₀ ao:Hp) (ρ:En) (σ:St) (H:Hp):Prop where
 rs:Rs K ρ σ H
 fr:wA A H₀ H
 ow:∀ (i:Nat) (u:U) (a:Qg),ρ[i]?=some (some u)->u.own=true->σ[i]?=some (some<|.ref a)->(i∈pn/\A a)\/H₀ a=none
 pin:∀ i∈pn,σ[i]?=ai[i]?
 dm:∀ a,H a=none->H₀ a=none
 kp:Kp ao H
def Tw:gW:=λ_ _ _=>False
def zBC(K:qc)(pn:Qa Nat)(EX:gW)(ai:St)(A:Qg->Prop)(H₀ ao:Hp)(D:Ends):Fl->Prop
 | .nx ρ=>∀ σ H,Sn K pn ai A H₀ ao ρ σ H->D.nx σ H
 | .bk ρ=>∀ σ H,Sn K pn ai A H₀ ao ρ σ H->D.bk σ H
 | .ct ρ=>∀ σ H,Sn K pn ai A H₀ ao ρ σ H->D.ct σ H
 | .rt u ρ=>∀ v σ H,Sn K pn ai A H₀ ao ρ σ H->Rp K H v u->Nw H₀ v u->D.rt v H
 | .ex x ρ=>∀ a σ H,Sn K pn ai A H₀ ao ρ σ H->H₀ a=none->Kx K H a x->EX σ a H
abbrev MS:=En->Qb Fl
def VS(K:qc)(pn:Qa Nat)(EX:gW)(t:TS)(m:MS):Prop :=
 ∀ (ai:St) (A:Qg->Prop) (H₀ ao:Hp) (ρ:En) (σ:St) (H:Hp) (f:Fl) (D:Ends),Sn K pn ai A H₀ ao ρ σ H->m ρ=some f->zBC K pn EX ai A H₀ ao D f->t D σ H
section
variable{EX:gW}{A:Qg->Prop}{nj:Hp}{ρ ah:En}
theorem Sn.go(s:Sn K pn ai A H₀ ao ρ σ H)(g:Go K ρ σ H ah H'):Sn K pn ai A H₀ ao ah σ H':=by
 refine⟨g.rs,λa o h n=>g.fr a o (s.fr a o h n) λ⟨i,u,e,ou,es⟩=>?_,λi u a e o es=>?_,s.pin,λa h=>s.dm a<|g.dm a h,s.kp.trans<|g.kp s.rs⟩
 .rcases s.ow i u a e ou es with z|z
  .exact n z.2
  .rw[z]at h; cases h
 .have(w,e',o'):=g.shr.own i u e o
  exact s.ow i w a e' o' es
theorem Sn.re(s:Sn K pn ai A H₀ nj ρ σ H)(k:Kp ao nj):Sn K pn ai A H₀ ao ρ σ H:=⟨s.rs,s.fr,s.ow,s.pin,s.dm,k.trans s.kp⟩
theorem Sn.at(s:Sn K pn ai A H₀ ao ρ σ H):Sn K pn ai A H₀ H ρ σ H:=⟨s.rs,s.fr,s.ow,s.pin,s.dm,Kp.refl H⟩
theorem Sn.set{v:V}{u:U}(s:Sn K pn ai A H₀ ao ρ σ H)(hi:i∉pn)(p:Rp K H v u)(n:u.own=true->∃ a,v=.ref a/\H₀ a=none/\¬Ow ρ σ a):Sn K pn ai A H₀ ao (ρ.set i<|some u) (σ.set i<|some v) H:=by
 have ll:=s.rs.len;have inv:∀ (j:Nat) (w:U),(ρ.set i<|some u)[j]?=some (some w)->(j=i/\w=u/\i < ρ.length)\/(j≠i/\ρ[j]?=some (some w)):=λj w e=>by
  by_cases hj:i=j
  .subst hj
   have hl:=(qk.mp e).1;rw[List.length_set]at hl;rw[List.getElem?_set_self hl]at e;cases e;exact .inl ⟨rfl,rfl,hl⟩
  .rw[qC hj]at e
   exact .inr ⟨Ne.symm hj,e⟩
 have sat:∀ j,j≠i->(σ.set i<|some v)[j]?=σ[j]?:=λj h=>qC<|Ne.symm h;have jW:i < ρ.length->(σ.set i<|some v)[i]?=some (some v):=λh=>ã (by omega);refine⟨⟨by rw[List.length_set,List.length_set]; exact ll,λj w e=>?_,λj k x y ej ek ox oy es=>?_⟩,s.fr,λj w a e o es=>?_,λj hj=>?_,s.dm,s.kp⟩
 .rcases inv j w e with⟨rfl,rfl,hl⟩|⟨hj,e'⟩
  .exact⟨v,jW hl,p⟩
  .rw[sat j hj]
   exact s.rs.rep j w e'
 .rcases inv j x ej with⟨rfl,rfl,hl⟩|⟨hj,ng⟩
  .rcases inv k y ek with⟨rfl,rfl,_⟩|⟨hk,J4⟩
   .rfl
   .exfalso
    have(a,rfl,_,na):=n ox;rw[jW hl,sat k hk]at es;exact na ⟨k,y,J4,oy,es.symm⟩
  .rcases inv k y ek with⟨rfl,rfl,hl⟩|⟨hk,J4⟩
   .exfalso
    have(a,rfl,_,na):=n oy;rw[jW hl,sat j hj]at es;exact na ⟨j,x,ng,ox,es⟩
   .rw[sat j hj,sat k hk]at es
    exact s.rs.apart j k x y ng J4 ox oy es
 .rcases inv j w e with⟨rfl,rfl,hl⟩|⟨hj,e'⟩
  .rw[jW hl]at es
   cases es;have(b,eb,hb,_):=n o;cases eb;exact .inr hb
  .rw[sat j hj]at es
   exact s.ow j w a e' o es
 .rw[sat j λz=>hi<|z▸hj]
  exact s.pin j hj
theorem lX.own{a:Ar}{v:V}{u:U}(r:Rs K ρ σ H)(g:Go K ρ σ H ah H')(k:lX K ah σ H H' v a)(e:a.get ah=some u)(nc:∀ j,a=.s j->u.own=false):Nw H v u/\(u.own=true->∃ b,v=.ref b/\¬Ow ah σ b):=by
 cases a with
 | s j=>exact⟨(λo=>by rw[nc j rfl]at o; cases o),λo=>by rw[nc j rfl]at o; cases o⟩
 | u x=>
  cases(show some x=some u from e);exact⟨k.2,k.2.pD r g⟩
def put(p:Ar×En):Qb (U×En):=match p.1 with
 | .s i=>match p.2[i]? with
  | some (some<|.d x)=>some (.d x,p.2)
  | _=>none
 | .u u=>some (u,p.2)
theorem Mg{a:Ar}{u:U}{ρ1 au:En}(e:put (a,ρ1)=some (u,au)):au=ρ1/\a.get ρ1=some u/\∀ j,a=.s j->u.own=false:=by
 cases a with
 | s i=>
  unfold put at e;dsimp only at e;split at e
  .rename_i x ex
   cases e;refine⟨rfl,?_,λ_ _=>rfl⟩;show(ρ1[i]?).join=_;rw[ex];rfl
  .cases e
 | u x=>
  cases e;exact⟨rfl,rfl,λj z=>by cases z⟩
def aV(i:Nat)(me:ME):MS:=λρ=>(me ρ).bind λp=>(put p).bind λq=>some<|.nx<|q.2.set i<|some q.1
theorem zP{me:ME}(h:VE K te me)(hi:i∉pn:=by decide):VS K pn EX (qN te<|hE i) (aV i me):=by
 intro ai A H₀ ao ρ σ H f D s e k;obtain⟨⟨a,ρ1⟩,e1,e⟩:=zb e;obtain⟨⟨u,au⟩,e2,e3⟩:=zb e;clear e;have(rfl,eg,nc):=Mg e2;cases e3;refine h ρ σ H a au _ s.rs e1 λv H1 g1 k1=>?_;have(n1,n2):=k1.own s.rs g1 eg nc;have s1:=s.go g1;refine k _ _<|s1.set hi (k1.now s.rs g1 eg) λo=>?_;have(b,rfl,hb):=n2 o;have(b',eb,eJ):=n1 o;cases eb;exact⟨b,rfl,s.dm b eJ,hb⟩
def zG(m1 m2:MS):MS:=λρ=>(m1 ρ).bind λf=>match f with
 | .nx ah=>m2 ah
 | f=>some f
theorem zx{t1 t2:TS}{m1 m2:MS}(h1:VS K pn EX t1 m1)(h2:VS K pn EX t2 m2):VS K pn EX (Bg t1 t2) (zG m1 m2):=by
 intro ai A H₀ ao ρ σ H f D s e k;have(f1,e1,e):=zb e;refine h1 ai A H₀ ao ρ σ H f1 _ s e1 ?_;cases f1 with
 | nx ρ1=>exact λd6 H1 s1=>h2 ai A H₀ ao ρ1 d6 H1 f D s1 e k
 | bk ρ1=>cases e; exact k
 | ct ρ1=>cases e; exact k
 | rt u ρ1=>cases e; exact k
 | ex x ρ1=>cases e; exact k
def du:MS:=λρ=>some<|.nx ρ
theorem fL:VS K pn EX FT du:=λai A H₀ ao ρ σ H f D s e k=>by cases e; exact k σ H s
def cv(mt:MT)(m1 m2:MS):MS:=λρ=>(mt ρ).bind λp=>if p.1=true then m1 p.2 else m2 p.2
theorem dr{t1 t2:TS}{mt:MT}{m1 m2:MS}(ht:VT K tt mt)(h1:VS K pn EX t1 m1)(h2:VS K pn EX t2 m2):VS K pn EX (EK tt t1 t2) (cv mt m1 m2):=by
 intro ai A H₀ ao ρ σ H f D s e k;obtain⟨⟨c,ρ1⟩,e1,e⟩:=zb e;refine ht ρ σ H c ρ1 _ s.rs e1 λH1 g1=>?_;dsimp only at e;split at e
 .rename_i hc
  rw[if_pos hc];exact h1 ai A H₀ ao ρ1 σ H1 f D (s.go g1) e k
 .rename_i hc
  rw[if_neg hc];exact h2 ai A H₀ ao ρ1 σ H1 f D (s.go g1) e k
theorem BN{t:TS}{m:MS}(h:VS K pn EX t m):VS K pn EX (FE t) m:=by
 intro ai A H₀ ao ρ σ H f D s e k;cases f with
 | nx ρ1=>exact⟨λaE H'=>Sn K pn ai A H₀ ao ρ1 aE H',h ai A H₀ ao ρ σ H _ _ s e λaE H' s'=>s',λaE H' s'=>k aE H' s'⟩
 | bk ρ1=>exact⟨D.nx,h ai A H₀ ao ρ σ H _ _ s e k,λ_ _ z=>z⟩
 | ct ρ1=>exact⟨D.nx,h ai A H₀ ao ρ σ H _ _ s e k,λ_ _ z=>z⟩
 | rt u ρ1=>exact⟨D.nx,h ai A H₀ ao ρ σ H _ _ s e k,λ_ _ z=>z⟩
 | ex x ρ1=>exact⟨D.nx,h ai A H₀ ao ρ σ H _ _ s e k,λ_ _ z=>z⟩
def iV(me:ME):MS:=λρ=>(me ρ).bind λp=>some<|.nx p.2
theorem lC{me:ME}(h:VE K te me):VS K pn EX (FR te) (iV me):=by
 intro ai A H₀ ao ρ σ H f D s e k;obtain⟨⟨a,ρ1⟩,e1,e⟩:=zb e;cases e;exact h ρ σ H a _ _ s.rs e1 λv H1 g1 k1=>k σ H1<|s.go g1
def bg(me:ME):MS:=λρ=>(me ρ).bind λp=>(put p).bind λq=>some<|.rt q.1 q.2
theorem zW{me:ME}(h:VE K te me):VS K pn EX (Bf te) (bg me):=by
 intro ai A H₀ ao ρ σ H f D s e k;obtain⟨⟨a,ρ1⟩,e1,e⟩:=zb e;obtain⟨⟨u,au⟩,e2,e3⟩:=zb e;clear e;have(rfl,eg,nc):=Mg e2;cases e3;refine h ρ σ H a _ _ s.rs e1 λv H1 g1 k1=>?_;have(n1,n2):=k1.own s.rs g1 eg nc;exact k v σ H1 (s.go g1) (k1.now s.rs g1 eg)<|n1.mono s.dm
def lY(pn:Qa Nat)(i:Nat):MS:=λρ=>if i∈pn then none else(match ρ[i]? with
 | some (some u)=>some<|.rt u<|ρ.set i none
 | _=>none)
theorem vq:VS K pn EX (Bf<|dW i) (lY pn i):=by
 intro ai A H₀ ao ρ σ H f D s e k;unfold lY at e;split at e
 .cases e
 rename_i hi;split at e
 .rename_i u eu
  cases e;have(v,ev,p):=s.rs.rep i u eu;have back:∀ (j:Nat) (w:U),(ρ.set i none)[j]?=some (some w)->ρ[j]?=some (some w):=λj w e=>by
   by_cases hj:i=j
   .subst hj
    have hl:=(qk.mp e).1;rw[List.length_set]at hl;rw[List.getElem?_set_self hl]at e;cases e
   .rw[qC hj]at e
    exact e
  refine⟨v,ev,k v σ H ⟨⟨by rw[List.length_set]; exact s.rs.len,λj w e=>s.rs.rep j w<|back j w e,λa b x y ea eb=>s.rs.apart a b x y (back a x ea)<|back b y eb⟩,s.fr,λj w a e=>s.ow j w a<|back j w e,s.pin,s.dm,s.kp⟩ p λo=>?_⟩;have(a,rfl):=p.jY o;rcases s.ow i u a eu o ev with z|z
  .exact absurd z.1 hi
  .exact⟨a,rfl,z⟩
 .cases e
end
section
variable{EX:gW}{A:Qg->Prop}{nj:Hp}{ρ ah:En}
def Gd(K:qc)(J:It)(ao:Hp)(ds:Qa D):Prop:=∀ H,Kp ao H->∀ i:Nat,(∀ d,ds[i]?=some d->J.go i H/\∀ x H',J.tK i H x H'->cz H H'/\DF K H' x d)/\(i=ds.length->J.stop i H)
abbrev MI:=En->Qb (Qa D×En)
def VI(K:qc)(wi:TI)(mi:MI):Prop :=
 ∀ (ρ:En) (σ:St) (H:Hp) (ds:Qa D) (ah:En) (R:It->Hp->Prop),Rs K ρ σ H->mi ρ=some (ds,ah)->(∀ J H',Go K ρ σ H ah H'->Gd K J H' ds->R J H')->wi σ H R
def jJ:U->Qb (Qa D)
 | .d (.list xs)=>some xs
 | _=>none
def nF:U->Qb (Qa D)
 | .d (.tuple xs)=>some xs
 | _=>none
def bU(f:U->Qb (Qa D))(me:ME):MI:=λρ=>(me ρ).bind λp=>(p.1.get p.2).bind λu=>(f u).bind λds=>some (ds,p.2)
theorem mm{me:ME}(h:VE K te me):VI K (FP K te) (bU jJ me):=by
 intro ρ σ H ds ah R r e q;obtain⟨⟨a,ρ1⟩,e1,e⟩:=zb e;have(u,eu,e):=zb e;have(xs,ex,e):=zb e;cases e;refine h ρ σ H a _ _ r e1 λv H1 g1 k1=>?_;have p:=k1.now r g1 eu;unfold jJ at ex;split at ex
 .cases ex
  have(b,ys,rfl,h1,h2):=DF.lst_inv p;refine⟨b,rfl,⟨ys,h1.sq⟩,q _ _ g1 λH2 k i=>⟨λd ed=>?_,λei=>?_⟩⟩
  .have(v,ev,dv):=(h2.kp k).get ed
   refine⟨⟨ys,v,(h1.kp k).sq,ev⟩,λx H' y=>?_⟩;have(rfl,y):=y;have:=y ys (h1.kp k).sq;rw[ev]at this;cases this;exact⟨λ_ _ z=>z,dv⟩
  .exact⟨ys,(h1.kp k).sq,by rw[h2.len]; omega⟩
 .cases ex
theorem sX{me:ME}(h:VE K te me):VI K (EH K te) (bU nF me):=by
 intro ρ σ H ds ah R r e q;obtain⟨⟨a,ρ1⟩,e1,e⟩:=zb e;have(u,eu,e):=zb e;have(xs,ex,e):=zb e;cases e;refine h ρ σ H a _ _ r e1 λv H1 g1 k1=>?_;have p:=k1.now r g1 eu;unfold nF at ex;split at ex
 .cases ex
  have(b,ys,rfl,h1,h2):=DF.aD p;refine⟨b,rfl,⟨ys,(aK.sq h1)⟩,q _ _ g1 λH2 k i=>⟨λd ed=>?_,λei=>?_⟩⟩
  .have(v,ev,dv):=(h2.kp k).get ed
   refine⟨⟨ys,v,(aK.kp k h1).sq,ev⟩,λx H' y=>?_⟩;have(rfl,y):=y;have:=y ys ((aK.kp k h1).sq);rw[ev]at this;cases this;exact⟨λ_ _ z=>z,dv⟩
  .exact⟨ys,(aK.kp k h1).sq,by rw[h2.len]; omega⟩
 .cases ex
def iY(lo:Int)(n:Nat):Qa D:=(List.range n).map λi=>.int<|lo+(i:Nat)
theorem OX(lo:Int)(n:Nat):(iY lo n).length=n:=by simp[iY]
theorem OH{lo:Int}{d:D}(h:(iY lo n)[i]?=some d):i < n/\d=.int (lo+(i:Nat)):=by
 have hl:=(qk.mp h).1;rw[OX]at hl;refine⟨hl,?_⟩;unfold iY at h;rw[List.getElem?_map,List.getElem?_range hl]at h;cases h;rfl
theorem zmb{lo:Int}:Gd K (Ea lo n) ao (iY lo n):=λH k i=>⟨λd ed=>by
  have(hi,rfl):=OH ed;refine⟨hi,λx H' y=>?_⟩;have(rfl,rfl):=y;exact⟨λ_ _ z=>z,.int _⟩,λei=>by rw[OX]at ei; exact Nat.le_of_eq ei.symm⟩
def nK(ma:MA):MI:=λρ=>(ma ρ).bind λp=>(bt p.2 p.1).bind λus=>match us with
 | [.d<|.int j]=>if -(2^62)<=j/\j < 2^62 then some (iY 0 j.toNat,p.2)else none
 | _=>none
theorem tu{ta:TA}{ma:MA}(h:j5 K ta ma):VI K (FN ta) (nK ma):=by
 intro ρ σ H ds ah R r e q;obtain⟨⟨as,ρ1⟩,e1,e⟩:=zb e;have(us,eu,e):=zb e;refine h ρ σ H as ρ1 _ r e1 λvs H1 g1 s1=>?_;have rp:=s1.nZ r g1 eu;dsimp only at e;split at e
 .split at e
  .rename_i j hc
   cases e;cases rp with
   | cons h1 t=>
    cases t;cases DF.int_inv h1;exact⟨j,rfl,hc.1,hc.2,q _ _ g1 zmb⟩
  .cases e
 .cases e
def nU:Nat->Qa D->Qa D
 | _,[]=>[]
 | i,d::ds=>.tuple [.int (i:Nat),d]::nU (i+1) ds
theorem xQ:∀ {ds:Qa D} {n i:Nat} {d:D},(nU n ds)[i]?=some d->∃ x,ds[i]?=some x/\d=.tuple [.int ((n+i:Nat):Int),x]
 | [],n,i,d,h=>by simp[nU]at h
 | x::ds,n,0,d,h=>by cases h; exact⟨x,rfl,rfl⟩
 | x::ds,n,i+1,d,h=>by
  have(y,ey,ed):=xQ (ds:=ds) (n:=n+1) (i:=i) h;exact⟨y,ey,by rw[ed]; congr 3; omega⟩
theorem vU:∀ (ds:Qa D) (n:Nat),(nU n ds).length=ds.length
 | [],_=>rfl
 | _::ds,n=>congrArg (·+1)<|vU ds<|n+1
def wZ(ma:MA):MI:=λρ=>(ma ρ).bind λp=>(bt p.2 p.1).bind λus=>match us with
 | [.d<|.tuple ds]=>some (nU 0 ds,p.2)
 | _=>none
theorem MY{ta:TA}{ma:MA}(h:j5 K ta ma):VI K (Lh K ta) (wZ ma):=by
 intro ρ σ H ds ah R r e q;obtain⟨⟨as,ρ1⟩,e1,e⟩:=zb e;have(us,eu,e):=zb e;refine h ρ σ H as ρ1 _ r e1 λvs H1 g1 s1=>?_;have rp:=s1.nZ r g1 eu;dsimp only at e;split at e
 .rename_i xs
  cases e;cases rp with
  | cons h1 t=>
   cases t;have(b,ys,rfl,h1,h2):=DF.aD h1;refine⟨b,rfl,⟨ys,(aK.sq h1)⟩,q _ _ g1 λH2 k i=>⟨λd ed=>?_,λei=>?_⟩⟩
   .have(x,ex,rfl):=xQ ed
    have(v,ev,dv):=(h2.kp k).get ex;refine⟨⟨ys,v,(aK.kp k h1).sq,ev⟩,λx H' y=>?_⟩;have(T,nT,rfl,y):=y;cases y ys v ((aK.kp k h1).sq) ev;have sm:=zB nT (.tup [.int i,v]);refine⟨sm,.tup (.inl zp)<|.cons ?_<|.cons (dv.kp sm.kp) .nil⟩;rw[Nat.zero_add];exact .int _
   .exact⟨ys,(aK.kp k h1).sq,by rw[vU]at ei; rw[h2.len]; exact ei.symm⟩
 .cases e
abbrev MG:=D->En->Qb En
def zBD(pn:Qa Nat)(mg:MG):Prop:=∀ d ρ ah,mg d ρ=some ah->ah.length=ρ.length/\∀ i∈pn,ah[i]?=ρ[i]?
def UB(pn:Qa Nat)(mg:Qa D->En->Qb En):Prop:=∀ ds ρ ah,mg ds ρ=some ah->ah.length=ρ.length/\∀ i∈pn,ah[i]?=ρ[i]?
structure uH (K:qc) (pn:Qa Nat) (g:TG) (mg:MG):Prop where
 run:∀ (ai:St) (A:Qg->Prop) (H₀ ao:Hp) (ρ:En) (σ:St) (H:Hp) (v:V) (d:D) (ah:En) (Q:St->Hp->Prop),Sn K pn ai A H₀ ao ρ σ H->DF K H v d->mg d ρ=some ah->(∀ aE,Sn K pn ai A H₀ ao ah aE H->Q aE H)->g v σ H Q
 ok:zBD pn mg
structure D4 (K:qc) (pn:Qa Nat) (g:i9) (mg:Qa D->En->Qb En):Prop where
 run:∀ (ai:St) (A:Qg->Prop) (H₀ ao:Hp) (ρ:En) (σ:St) (H:Hp) (vs:Qa V) (ds:Qa D) (ah:En) (Q:St->Hp->Prop),Sn K pn ai A H₀ ao ρ σ H->aI K H vs ds->mg ds ρ=some ah->(∀ aE,Sn K pn ai A H₀ ao ah aE H->Q aE H)->g vs σ H Q
 ok:UB pn mg
def zy(i:Nat):MG:=λd ρ=>some<|ρ.set i<|some<|.d d
theorem zw(hi:i∉pn:=by decide):uH K pn (hE i) (zy i) where
 run:=by
  intro ai A H₀ ao ρ σ H v d ah Q s h e q;cases e;exact q _ (s.set hi (u:=.d d) h λo=>by cases o)
 ok:=λd ρ ah e=>by
  cases e;exact⟨List.length_set,λj hj=>qC (by rintro rfl; exact hi hj)⟩
def gq:Qa D->En->Qb En:=λds ρ=>match ds with | []=>some ρ|_=>none
def zQ(g:MG)(gs:Qa D->En->Qb En):Qa D->En->Qb En:=λds ρ=>match ds with
 | d::ds=>(g d ρ).bind λρ1=>gs ds ρ1
 | []=>none
theorem iy:D4 K pn Bc gq where
 run:=by
  intro ai A H₀ ao ρ σ H vs ds ah Q s h e q;cases h with
  | nil=>cases e; exact⟨rfl,q σ s⟩
  | cons=>cases e
 ok:=λds ρ ah e=>by
  cases ds with
  | nil=>cases e; exact⟨rfl,λ_ _=>rfl⟩
  | cons=>cases e
theorem zH{gs:i9}{mg:MG}{tX:Qa D->En->Qb En}(h1:uH K pn g mg)(h2:D4 K pn gs tX):D4 K pn (wV g gs) (zQ mg tX) where
 run:=by
  intro ai A H₀ ao ρ σ H vs ds ah Q s h e q;cases h with
  | nil=>cases e
  | @cons v d vs ds hv t=>
   have(ρ1,e1,e):=zb (show(mg d ρ).bind (λρ1=>tX ds ρ1)=some ah from e);exact⟨v,vs,rfl,h1.run ai A H₀ ao ρ σ H v d ρ1 _ s hv e1 λd6 s1=>h2.run ai A H₀ ao ρ1 d6 H vs ds ah Q s1 t e q⟩
 ok:=λds ρ ah e=>by
  cases ds with
  | nil=>cases e
  | cons d ds=>
   have(ρ1,e1,e):=zb (show(mg d ρ).bind (λρ1=>tX ds ρ1)=some ah from e);have(a1,a2):=h1.ok d ρ ρ1 e1;have(b1,b2):=h2.ok ds ρ1 ah e;exact⟨b1.trans a1,λi hi=>(b2 i hi).trans<|a2 i hi⟩
def fJ(n:Nat)(gs:Qa D->En->Qb En):MG:=λd ρ=>match d with
 | .tuple ds=>if ds.length=n then gs ds ρ else none
 | _=>none
theorem ix{gs:i9}{tX:Qa D->En->Qb En}(h:D4 K pn gs tX):uH K pn (Bb K n gs) (fJ n tX) where
 run:=by
  intro ai A H₀ ao ρ σ H v d ah Q s hd e q;unfold fJ at e;split at e
  .split at e
   .rename_i ds hl
    have(a,xs,rfl,h1,h2):=DF.aD hd;exact⟨a,xs,rfl,(aK.sq h1),by rw[h2.len]; exact hl,h.run ai A H₀ ao ρ σ H xs ds ah Q s h2 e q⟩
   .cases e
  .cases e
 ok:=λd ρ ah e=>by
  unfold fJ at e;split at e
  .split at e
   .exact h.ok _ _ _ e
   .cases e
  .cases e
def AR(i j:Nat)(ma:MA):MS:=λρ=>(ma ρ).bind λp=>(bt p.2 p.1).bind λus=>match us with
 | [.d x,.d y]=>some<|.nx<|(p.2.set i<|some<|.d x).set j<|some<|.d y
 | _=>none
theorem UA{ta:TA}{ma:MA}(h:j5 K ta ma)(hi:i∉pn:=by decide)(hj:j∉pn:=by decide):VS K pn EX (EI i j ta) (AR i j ma):=by
 intro ai A H₀ ao ρ σ H f D s e k;obtain⟨⟨as,ρ1⟩,e1,e⟩:=zb e;have(us,eu,e):=zb e;refine h ρ σ H as ρ1 _ s.rs e1 λvs H1 g1 s1=>?_;have rp:=s1.nZ s.rs g1 eu;dsimp only at e;split at e
 .rename_i x y
  cases e;cases rp with
  | @cons v _ vs _ h1 t=>
   cases t with
   | @cons w _ _ _ h2 t=>
    cases t;have sn:=(s.go g1).set hi (u:=.d x) h1 λo=>by cases o
    exact⟨v,w,rfl,k _ _ (sn.set hj (u:=.d y) h2 λo=>by cases o)⟩
 .cases e
def gD(mg:MG)(mb:MS):Qa D->En->Qb Fl
 | [],ρ=>some<|.nx ρ
 | d::ds,ρ=>(mg d ρ).bind λρ1=>(mb ρ1).bind λf=>match f with
  | .nx au=>gD mg mb ds au
  | .ct au=>gD mg mb ds au
  | .bk au=>some<|.nx au
  | .rt u au=>some<|.rt u au
  | .ex x au=>some<|.ex x au
def cO(mi:MI)(mg:MG)(mb:MS):MS:=λρ=>(mi ρ).bind λp=>gD mg mb p.1 p.2
theorem dP{tb:TS}{mi:MI}{mg:MG}{mb:MS}(hi:VI K wi mi)(hg:uH K pn g mg)(hb:VS K pn EX tb mb):VS K pn EX (EG wi g tb) (cO mi mg mb):=by
 intro ai A H₀ ao ρ σ H f D s e k;obtain⟨⟨ds,ρ1⟩,e1,e⟩:=zb e;refine hi ρ σ H ds ρ1 _ s.rs e1 λJ H1 g1 run=>?_;have s1:=(s.go g1).at;have pN:Kp ao H1:=(s.go g1).kp;refine⟨λi m aE H'=>m=ds.length - i/\i<=ds.length/\∃ ah,Sn K pn ai A H₀ H1 ah aE H'/\gD mg mb (ds.drop i) ah=some f,⟨ds.length,by simp,Å _,ρ1,s1,e⟩,?_⟩;rintro i m aE H' ⟨rfl,cU,ah,s',el⟩
 by_cases dD:i < ds.length
 .rw[List.drop_eq_getElem_cons dD]at el
  have(au,e2,el):=zb (show(mg ds[i] ah).bind _=some f from el);have(fb,eb,el):=zb el;have(go,yl):=(run H' s'.kp i).1 ds[i] (qm dD);refine .inr ⟨go,λc7 H3=>∃ jb,Sn K pn ai A H₀ H1 jb c7 H3/\gD mg mb (ds.drop<|i+1) jb=some f,λc7 H3 ⟨jb,s3,e3⟩=>⟨ds.length - (i+1),by omega,rfl,dD,jb,s3,e3⟩,λx H2 y=>?_⟩;have(sm,dx):=yl x H2 y;have s2:=s'.go (Go.grow s'.rs sm);refine hg.run ai A H₀ H1 ah aE H2 x ds[i] au _ s2 dx e2 λc7 s3=>?_;refine hb ai A H₀ H1 au c7 H2 fb _ s3 eb ?_;cases fb with
  | nx cM=>exact λja H4 s4=>⟨cM,s4,el⟩
  | ct cM=>exact λja H4 s4=>⟨cM,s4,el⟩
  | bk cM=>cases el; exact λja H4 s4=>k ja H4<|s4.re pN
  | rt u cM=>cases el; exact λv ja H4 s4 p n=>k v ja H4 (s4.re pN) p n
  | ex x cM=>cases el; exact λa ja H4 s4 p n=>k a ja H4 (s4.re pN) p n
 .have ei:i=ds.length:=by omega
  subst ei;rw[List.drop_length]at el;cases el;exact .inl ⟨(run H' s'.kp _).2 rfl,k aE H'<|s'.re pN⟩
def iw(mt:MT)(mb:MS):Nat->En->Qb Fl
 | 0,_=>none
 | n+1,ρ=>(mt ρ).bind λp=>if p.1=true then(mb p.2).bind λf=>match f with
  | .nx au=>iw mt mb n au
  | .ct au=>iw mt mb n au
  | .bk au=>some<|.nx au
  | .rt u au=>some<|.rt u au
  | .ex x au=>some (.ex x au)else some (.nx p.2)
open Classical in
def vp(mt:MT)(mb:MS):MS:=λρ=>if h:∃ n,(iw mt mb n ρ).isSome=true then iw mt mb h.choose ρ else none
theorem XA{tb:TS}{mt:MT}{mb:MS}(ht:VT K tt mt)(hb:VS K pn EX tb mb):VS K pn EX (Gp tt tb) (vp mt mb):=by
 intro ai A H₀ ao ρ σ H f D s e k;unfold vp at e;split at e
 .rename_i hn
  generalize hn.choose=n at e;refine⟨λm aE H'=>∃ ah,Sn K pn ai A H₀ ao ah aE H'/\iw mt mb m ah=some f,⟨n,ρ,s,e⟩,?_⟩;rintro m aE H' ⟨ah,s',el⟩;cases m with
  | zero=>cases el
  | succ m=>
   obtain⟨⟨b,ρ1⟩,e1,el⟩:=zb (show(mt ah).bind _=some f from el);refine ht ah aE H' b ρ1 _ s'.rs e1 λH1 g1=>?_;dsimp only at el;split at el
   .rename_i hc
    rw[if_pos hc];have(fb,eb,el):=zb el;refine⟨λdR H2=>∃ au,Sn K pn ai A H₀ ao au dR H2/\iw mt mb m au=some f,λdR H2 ⟨au,s2,e2⟩=>⟨m,Ý m,au,s2,e2⟩,?_⟩;refine hb ai A H₀ ao ρ1 aE H1 fb _ (s'.go g1) eb ?_;cases fb with
    | nx cM=>exact λja H4 s4=>⟨cM,s4,el⟩
    | ct cM=>exact λja H4 s4=>⟨cM,s4,el⟩
    | bk cM=>cases el; exact λja H4 s4=>k ja H4 s4
    | rt u cM=>cases el; exact λv ja H4 s4 p n=>k v ja H4 s4 p n
    | ex x cM=>cases el; exact λa ja H4 s4 p n=>k a ja H4 s4 p n
   .rename_i hc
    rw[if_neg hc];cases el;exact k aE H1<|s'.go g1
 .cases e
theorem CV{mt:MT}{mb:MS}:∀ {n:Nat} {ρ:En} {f:Fl},iw mt mb n ρ=some f->∀ k,iw mt mb (n+k) ρ=some f
 | 0,_,_,e,_=>by cases e
 | n+1,ρ,f,e,k=>by
  rw[show n+1+k=(n+k)+1 by omega];obtain⟨⟨b,ρ1⟩,e1,e⟩:=zb (show(mt ρ).bind _=some f from e);show(mt ρ).bind _=some f;rw[e1];show(if b=true then _ else _)=_;dsimp only at e;split at e
  .rename_i hc
   rw[if_pos hc];have(fb,eb,e):=zb e;rw[eb];cases fb with
   | nx au=>exact CV (n:=n) e k
   | ct au=>exact CV (n:=n) e k
   | bk au=>exact e
   | rt u au=>exact e
   | ex x au=>exact e
  .rename_i hc
   rw[if_neg hc];exact e
theorem zqN{mt:MT}{mb:MS}{ρ:En}{f:Fl}(e:iw mt mb n ρ=some f):vp mt mb ρ=some f:=by
 have h:∃ n,(iw mt mb n ρ).isSome=true:=⟨n,by rw[e]; rfl⟩;unfold vp;rw[dif_pos h];have(f',SM):=è.mp h.choose_spec;rw[SM];have a:=CV e h.choose;have b:=CV SM n;rw[Nat.add_comm,b]at a;exact a
end
section
variable{A:Qg->Prop}{nj:Hp}{ρ ah:En}
def dM(nt:Nat)(js:Qa Nat)(ρ:En):En:=List.replicate nt none++js.map λj=>ρ.getD j none
def reset(nt:Nat)(ρ:En):En:=List.replicate nt none++ρ.drop nt
def back:Qa Nat->Qa (Qb U)->En->En
 | j::js,some u::us,ρ=>back js us<|ρ.set j<|some u
 | _::js,none::us,ρ=>back js us ρ
 | _,_,ρ=>ρ
def jt(nt:Nat)(mg:MG)(mt:MT)(me:ME):Qa D->En->Qa D->Qb (Qa D×En)
 | [],ρ,ys=>some (ys,ρ)
 | d::ds,ρ,ys=>if ys.length < sizeLine then(mg d ρ).bind λρ1=>(mt ρ1).bind λb=>if b.1=true then(me b.2).bind λp=>(p.1.get p.2).bind λu=>(match u with
   | .d y=>jt nt mg mt me ds (reset nt p.2)<|ys++[y]
   | _=>none)else jt nt mg mt me ds (reset nt b.2) ys else none
def hX(mi:MI)(nt:Nat)(js:Qa Nat)(mg:MG)(mt:MT)(me:ME):ME:=λρ=>(mi ρ).bind λp=>(jt nt mg mt me p.1 (dM nt js p.2) []).bind λq=>some (.u<|.l q.1,back js (q.2.drop nt) p.2)
def d9(nt n:Nat):Qa Nat:=(List.range n).map (nt+·)
theorem rC:i∈d9 nt n↔nt<=i/\i < nt+n:=by
 unfold d9;rw[List.mem_map];constructor
 .rintro⟨a,ha,rfl⟩
  have:=ç.mp ha;omega
 .intro h
  exact⟨i - nt,ç.mpr (by omega),by omega⟩
theorem vo{u:U}(h:(dM nt js ρ)[i]?=some (some u)):∃ p j,i=nt+p/\js[p]?=some j/\ρ[j]?=some (some u):=by
 unfold dM at h
 by_cases hi:i < nt
 .rw[List.getElem?_append_left (by simpa using hi),List.getElem?_replicate,if_pos hi]at h
  cases h
 .rw[List.getElem?_append_right (by simp; omega),List.length_replicate,List.getElem?_map]at h
  have(j,ej,e):=qr.mp h;refine⟨i - nt,j,by omega,ej,?_⟩;rw[qB]at e;cases q:ρ[j]? with
  | none=>rw[q]at e; cases e
  | some o=>rw[q]at e; exact congrArg some e
theorem FJ{p:Nat}(h:js[p]?=some j):(c0 nt js σ)[nt+p]?=some (σ.getD j none):=by
 unfold c0;rw[List.getElem?_append_right (by simp),List.length_replicate,Nat.add_sub_cancel_left,List.getElem?_map,h];rfl
theorem Gc:(c0 nt js σ).length=nt+js.length:=by unfold c0; simp
theorem xr:(dM nt js ρ).length=nt+js.length:=by unfold dM; simp
def ki(ρ:En)(σ:St)(js:Qa Nat)(a:Qg):Prop:=∃ (p j:Nat) (u:U),js[p]?=some j/\ρ[j]?=some (some u)/\u.own=true/\σ[j]?=some (some<|.ref a)
theorem MW(r:Rs K ρ σ H)(nd:js.Nodup):Sn K (d9 nt js.length) (c0 nt js σ) (ki ρ σ js) H H (dM nt js ρ) (c0 nt js σ) H:=by
 have sat:∀ {p j:Nat} {v:V},js[p]?=some j->σ[j]?=some (some v)->(c0 nt js σ)[nt+p]?=some (some v):=λ{p j v} hp hv=>by
  rw[FJ hp,qB,hv];rfl
 refine⟨⟨by rw[xr,Gc],λi u e=>?_,λi k u w ei ek ou ow es=>?_⟩,λ_ _ h _=>h,λi u a e o es=>?_,λ_ _=>rfl,λ_ h=>h,Kp.refl H⟩
 .have(p,j,rfl,hj,hr):=vo e
  have(v,ev,q):=r.rep j u hr;exact⟨v,sat hj ev,q⟩
 .have(p,j,rfl,hj,hr):=vo ei
  have(p',j',rfl,pU,rW):=vo ek;have(v,ev,_):=r.rep j u hr;have(v',uA,_):=r.rep j' w rW;rw[sat hj ev,sat pU uA]at es;have:j=j':=r.apart j j' u w hr rW ou ow (by rw[ev,uA]; exact es);subst this;have l1:=(qk.mp hj);have l2:=(qk.mp pU);have(h1,e1):=l1;have(h2,e2):=l2;have:=(List.getElem_inj nd).mp (e1.trans e2.symm);omega
 .have(p,j,rfl,hj,hr):=vo e
  have(v,ev,_):=r.rep j u hr;rw[sat hj ev]at es;cases es;exact .inl ⟨rC.mpr ⟨by omega,by have:=(qk.mp hj).1; omega⟩,p,j,u,hj,hr,o,ev⟩
theorem Sn.reset{fU:St}{au:En}{dR:St}(s:Sn K (d9 nt n) fU A H₀ ao au dR H)(l1:au.length=nt+n)(l2:fU.length=nt+n):Sn K (d9 nt n) fU A H₀ ao (L2.reset nt au) fU H:=by
 have bk:∀ (i:Nat) (u:U),(L2.reset nt au)[i]?=some (some u)->nt<=i/\i < nt+n/\au[i]?=some (some u):=λi u e=>by
  unfold L2.reset at e
  by_cases hi:i < nt
  .rw[List.getElem?_append_left (by simpa using hi),List.getElem?_replicate,if_pos hi]at e
   cases e
  .rw[List.getElem?_append_right (by simp; omega),List.length_replicate,List.getElem?_drop,show nt+(i - nt)=i by omega]at e
   have:=(qk.mp e).1;exact⟨by omega,by omega,e⟩
 have pin:∀ i,nt<=i->i < nt+n->fU[i]?=dR[i]?:=λi h1 h2=>(s.pin i<|rC.mpr ⟨h1,h2⟩).symm;have ll:(L2.reset nt au).length=nt+n:=by unfold L2.reset; simp; omega
 refine⟨⟨by omega,λi u e=>?_,λi j u w ei ej ou ow es=>?_⟩,s.fr,λi u a e o es=>?_,λ_ _=>rfl,s.dm,s.kp⟩
 .have(h1,h2,e'):=bk i u e
  rw[pin i h1 h2];exact s.rs.rep i u e'
 .have(h1,h2,sD):=bk i u ei
  have(h3,h4,ng):=bk j w ej;rw[pin i h1 h2,pin j h3 h4]at es;exact s.rs.apart i j u w sD ng ou ow es
 .have(h1,h2,e'):=bk i u e
  rw[pin i h1 h2]at es;exact s.ow i u a e' o es
theorem Cq:∀ {js:Qa Nat} {us:Qa (Qb U)} {ρ:En} {j:Nat} {w:U},(back js us ρ)[j]?=some (some w)->(∃ p:Nat,js[p]?=some j/\us[p]?=some (some w))\/(ρ[j]?=some (some w)/\∀ p:Nat,js[p]?=some j->∀ x,us[p]?≠some (some x))
 | [],us,ρ,j,w,e=>.inr ⟨by cases us<;>exact e,λp z=>by simp at z⟩
 | k::js,[],ρ,j,w,e=>.inr ⟨e,λp z x=>by simp⟩
 | k::js,none::us,ρ,j,w,e=>by
  rcases Cq (js:=js) (us:=us) (ρ:=ρ) (show(back js us ρ)[j]?=some (some w) from e)with⟨p,h1,h2⟩|⟨h1,h2⟩
  .exact .inl ⟨p+1,h1,h2⟩
  .refine .inr ⟨h1,λp z x=>?_⟩
   cases p with
   | zero=>intro q; cases q
   | succ p=>exact h2 p z x
 | k::js,some u::us,ρ,j,w,e=>by
  rcases Cq (js:=js) (us:=us) (ρ:=ρ.set k (some u)) (show(back js us<|ρ.set k<|some u)[j]?=some (some w) from e)with⟨p,h1,h2⟩|⟨h1,h2⟩
  .exact .inl ⟨p+1,h1,h2⟩
  .by_cases hk:k=j
   .subst hk
    have hl:k < (ρ.set k<|some u).length:=(qk.mp h1).1;rw[List.length_set]at hl;rw[List.getElem?_set_self hl]at h1;exact .inl ⟨0,rfl,by cases h1; rfl⟩
   .rw[qC hk]at h1
    refine .inr ⟨h1,λp z x=>?_⟩;cases p with
    | zero=>cases(show some k=some j from z); exact absurd rfl hk
    | succ p=>exact h2 p z x
theorem CB:∀ (js:Qa Nat) (us:Qa (Qb U)) (ρ:En),(back js us ρ).length=ρ.length
 | [],us,ρ=>by cases us<;>rfl
 | _::js,[],ρ=>rfl
 | _::js,none::us,ρ=>CB js us ρ
 | j::js,some u::us,ρ=>by show(back js us<|ρ.set j<|some u).length=_; rw[CB]; exact List.length_set
theorem CN:∀ {js:Qa Nat} {us:Qa (Qb U)} {ρ:En} {j:Nat} {w:U},ρ[j]?=some (some w)->∃ w',(back js us ρ)[j]?=some (some w')
 | [],us,ρ,j,w,e=>⟨w,by cases us<;>exact e⟩
 | _::js,[],ρ,j,w,e=>⟨w,e⟩
 | _::js,none::us,ρ,j,w,e=>CN (js:=js) (us:=us) e
 | k::js,some u::us,ρ,j,w,e=>by
  by_cases hk:k=j
  .subst hk
   exact CN (js:=js) (us:=us) (w:=u)<|ã (qk.mp e).1
  .exact CN (js:=js) (us:=us) (w:=w) (by rw[qC hk]; exact e)
theorem Sn.comp_back{au:En}(r:Rs K ρ σ H)(s:Sn K (d9 nt js.length) (c0 nt js σ) (ki ρ σ js) H ao au (c0 nt js σ) H')(l:au.length=nt+js.length)(sh:c9 (dM nt js ρ) au):
  Go K ρ σ H (back js (au.drop nt) ρ) H':=by
 have xW:∀ (p:Nat) (w:U),(au.drop nt)[p]?=some (some w)->au[nt+p]?=some (some w):=λp w e=>by rw[List.getElem?_drop]at e; exact e
 have kp:Kp H H':=by
  refine⟨λb xs h=>s.fr b _ h λ⟨p,j,u,hj,hr,ou,es⟩=>?_,λb ob u h=>s.fr b _ h λ⟨p,j,u,hj,hr,ou,es⟩=>?_,λb x h=>s.fr b _ h λ⟨p,j,u,hj,hr,ou,es⟩=>?_⟩
  all_goals
   have(c,q,m):=r.ow ⟨j,u,hr,ou,es⟩;rw[h]at q; cases q; exact m
 have IX:∀ (p j:Nat) (w:U),js[p]?=some j->(au.drop nt)[p]?=some (some w)->w.own=true->∃ x,ρ[j]?=some (some x)/\x.own=true:=λp j w hj e o=>by
  have(x,ex,ox):=sh.own (nt+p) w (xW p w e) o;have(p',j',ep,pU,hr):=vo ex;have:p'=p:=by omega
  subst this;rw[hj]at pU;cases pU;exact⟨x,hr,ox⟩
 have own:∀ (j:Nat) (w:U),(back js (au.drop nt) ρ)[j]?=some (some w)->w.own=true->∃ x,ρ[j]?=some (some x)/\x.own=true:=λj w e o=>by
  rcases Cq e with⟨p,hj,hu⟩|⟨h1,_⟩
  .exact IX p j w hj hu o
  .exact⟨w,h1,o⟩
 refine⟨⟨by rw[CB]; exact r.len,λj w e=>?_,λi j u w ei ej ou ow es=>?_⟩,λa o h n=>s.fr a o h λ⟨p,j,u,hj,hr,ou,es⟩=>n ⟨j,u,hr,ou,es⟩,⟨CB _ _ _,own,λj w e=>CN e⟩,s.dm⟩
 .rcases Cq e with⟨p,hj,hu⟩|⟨h1,h2⟩
  .have(v,ev,q):=s.rs.rep (nt+p) w (xW p w hu)
   rw[FJ hj]at ev;refine⟨v,?_,q⟩;rw[qB]at ev;cases z:σ[j]? with
   | none=>rw[z]at ev; cases ev
   | some o=>rw[z]at ev; exact congrArg some<|qx ev
  .have(v,ev,q):=r.rep j w h1
   refine⟨v,ev,q.kp kp λow a c ea hc=>s.fr a c hc λ⟨p,j',u,hj,hr,ou,es⟩=>?_⟩;subst ea;have:j'=j:=r.apart j' j u w hr h1 ou ow (by rw[es,ev]);subst this;have e1:(dM nt js ρ)[nt+p]?=some (some u):=by
    unfold dM;rw[List.getElem?_append_right (by simp),List.length_replicate,Nat.add_sub_cancel_left,List.getElem?_map,hj];show some (ρ.getD j' none)=_;rw[qB,hr];rfl
   have(w',cp):=sh.live _ _ e1;exact h2 p hj w' (by rw[List.getElem?_drop]; exact cp)
 .have(x,ex,ox):=own i u ei ou
  have(y,ey,oy):=own j w ej ow;exact r.apart i j x y ex ey ox oy es
theorem c9.jj{b9 ρ1:En}(l:b9.length=nt+n)(h0:∀ i,i < nt->b9[i]?=some none)(l1:ρ1.length=nt+n)(own:∀ (i:Nat) (u:U),nt<=i->ρ1[i]?=some (some u)->u.own=true->∃ w,b9[i]?=some (some w)/\w.own=true)(live:∀ (i:Nat) (u:U),nt<=i->b9[i]?=some (some u)->∃ w,ρ1[i]?=some (some w)):c9 b9 (L2.reset nt ρ1):=by
 have at':∀ i,nt<=i->(L2.reset nt ρ1)[i]?=ρ1[i]?:=λi hi=>by
  unfold L2.reset;rw[List.getElem?_append_right (by simp; omega),List.length_replicate,List.getElem?_drop,show nt+(i - nt)=i by omega]
 have lo:∀ i,i < nt->(L2.reset nt ρ1)[i]?=some none:=λi hi=>by
  unfold L2.reset;rw[List.getElem?_append_left (by simpa using hi),List.getElem?_replicate,if_pos hi]
 refine⟨by unfold L2.reset; simp; omega,λi u e o=>?_,λi u e=>?_⟩
 .by_cases hi:i < nt
  .rw[lo i hi]at e; cases e
  .rw[at' i (by omega)]at e
   exact own i u (by omega) e o
 .by_cases hi:i < nt
  .rw[h0 i hi]at e; cases e
  .rw[at' i (by omega)]
   exact live i u (by omega) e
theorem Hl{ρ1:En}(h:i < nt):(L2.reset nt ρ1)[i]?=some none:=by
 unfold L2.reset;rw[List.getElem?_append_left (by simpa using h),List.getElem?_replicate,if_pos h]
theorem Gb(h:i < nt):(dM nt js ρ)[i]?=some none:=by
 unfold dM;rw[List.getElem?_append_left (by simpa using h),List.getElem?_replicate,if_pos h]
def Ti(K:qc)(js:Qa Nat)(wi:TI)(mi:MI):Prop :=
 ∀ (ρ:En) (σ:St) (H:Hp) (ds:Qa D) (ah:En) (R:It->Hp->Prop),Rs K ρ σ H->mi ρ=some (ds,ah)->(∀ J H',Go K ρ σ H ah H'->(∀ H2,Kp H' H2->wA (ki ah σ js) H' H2->∀ i:Nat,(∀ d,ds[i]?=some d->J.go i H2/\∀ x H3,J.tK i H2 x H3->cz H2 H3/\DF K H3 x d)/\(i=ds.length->J.stop i H2))->R J H')->wi σ H R
theorem Lb{mi:MI}{mg:MG}{mt:MT}{me:ME}(hi:Ti K js wi mi)(hg:uH K (d9 nt js.length) g mg)(ht:VT K tt mt)(he:VE K te me)(nd:js.Nodup:=by decide):
  VE K (xY wi nt js g tt te) (hX mi nt js mg mt me):=by
 intro ρ σ H a ah Q r e q;obtain⟨⟨ds,ρ1⟩,e1,e⟩:=zb e;obtain⟨⟨zs,j7⟩,e2,e⟩:=zb e;cases e;refine hi ρ σ H ds ρ1 _ r e1 λJ H1 g1 run=>?_;have s1:=MW (nt:=nt) (js:=js) g1.rs nd;refine⟨λi m ys H'=>m=ds.length - i/\i<=ds.length/\∃ b9 yd,Sn K (d9 nt js.length) (c0 nt js σ) (ki ρ1 σ js) H1 H1 b9 (c0 nt js σ) H'/\c9 (dM nt js ρ1) b9/\(∀ k,k < nt->b9[k]?=some none)/\aI K H' ys yd/\jt nt mg mt me (ds.drop i) b9 yd=some (zs,j7),
  ⟨ds.length,by simp,Å _,_,[],s1,c9.refl _,λk hk=>Gb hk,.nil,e2⟩,?_⟩
 rintro i m ys H' ⟨rfl,cU,b9,yd,s',sh,lo,dy,el⟩;have lc:b9.length=nt+js.length:=by rw[sh.len,xr]
 by_cases dD:i < ds.length
 .rw[List.drop_eq_getElem_cons dD]at el
  unfold jt at el;split at el
  .rename_i hz
   have(au,e3,el):=zb el;obtain⟨⟨b,jb⟩,e4,el⟩:=zb el;have(l2,p2):=hg.ok _ _ _ e3;have(go,yl):=(run H' s'.kp s'.fr i).1 ds[i] (qm dD);refine .inr ⟨go,by rw[dy.len]; exact hz,λjU H2=>∃ de Dq,Sn K (d9 nt js.length) (c0 nt js σ) (ki ρ1 σ js) H1 H1 de (c0 nt js σ) H2/\c9 (dM nt js ρ1) de/\(∀ k,k < nt->de[k]?=some none)/\aI K H2 jU Dq/\jt nt mg mt me (ds.drop<|i+1) de Dq=some (zs,j7),
    λjU H2 ⟨de,Dq,z⟩=>⟨ds.length - (i+1),by omega,rfl,dD,de,Dq,z⟩,λx H2 y=>?_⟩
   have(sm,dx):=yl x H2 y;have s2:=s'.go (Go.grow s'.rs sm);refine hg.run _ _ _ _ b9 _ H2 x ds[i] au _ s2 dx e3 λc7 s3=>?_;have toEnd:∀ {cM:En} {H4:Hp},Go K au c7 H2 cM H4->Sn K (d9 nt js.length) (c0 nt js σ) (ki ρ1 σ js) H1 H1 (L2.reset nt cM) (c0 nt js σ) H4/\c9 (dM nt js ρ1) (L2.reset nt cM):=λ{cM H4} g4=>by
    have l4:cM.length=nt+js.length:=by rw[g4.shr.len,l2,lc]
    refine⟨(s3.go g4).reset l4 Gc,sh.trans<|c9.jj lc lo l4 (λk u hk ek ou=>?_) λk u hk ek=>?_⟩
    .have(w,ew,ow):=g4.shr.own k u ek ou
     have lk:k < nt+js.length:=by rw[<-l2.trans lc]; exact(qk.mp ew).1
     rw[p2 k<|rC.mpr ⟨hk,lk⟩]at ew;exact⟨w,ew,ow⟩
    .have lk:k < nt+js.length:=by rw[<-lc]; exact(qk.mp ek).1
     rw[<-p2 k (rC.mpr ⟨hk,lk⟩)]at ek;exact g4.shr.live k u ek
   refine ht au c7 H2 b jb _ s3.rs e4 λH3 g3=>?_;dsimp only at el;split at el
   .rename_i hb
    rw[if_pos hb];obtain⟨⟨a4,cM⟩,e5,el⟩:=zb el;have(u,e6,el):=zb el;refine he jb c7 H3 a4 cM _ g3.rs e5 λv H4 g4 k4=>?_;have pv:=k4.now g3.rs g4 e6;dsimp only at el;split at el
    .rename_i yv
     have(sn,sr):=toEnd (g3.trans g4);exact⟨_,_,sn,sr,λk hk=>Hl hk,((dy.kp sm.kp).kp<|(g3.trans g4).kp s3.rs).snoc pv,el⟩
    .cases el
   .rename_i hb
    rw[if_neg hb];have(sn,sr):=toEnd g3;exact⟨_,_,sn,sr,λk hk=>Hl hk,(dy.kp sm.kp).kp<|g3.kp s3.rs,el⟩
  .cases el
 .have ei:i=ds.length:=by omega
  subst ei;rw[List.drop_length]at el;cases el;refine .inl ⟨(run H' s'.kp s'.fr _).2 rfl,λDa hD=>?_⟩;have gb:=Sn.comp_back g1.rs s' lc sh;have sm:=zB hD (.lst ys);exact q _ _ ((g1.trans gb).trans<|Go.grow gb.rs sm) ⟨⟨Da,ys,rfl,zp,dy.kp sm.kp⟩,λ_=>⟨Da,rfl,(g1.trans gb).dm _ hD⟩⟩
theorem kf{mi:MI}{mg:MG}{mt:MT}{me:ME}(hi:VI K wi mi)(hg:uH K (d9 nt js.length) g mg)(ht:VT K tt mt)(he:VE K te me)(nd:js.Nodup:=by decide):
  VE K (xY wi nt js g tt te) (hX mi nt js mg mt me):=Lb (λρ σ H ds ah R r e q=>hi ρ σ H ds ah R r e λJ H' g run=>q J H' g λH2 k _=>run H2 k) hg ht he nd
end
section
variable{EX:gW}{A:Qg->Prop}{nj:Hp}{ρ ah:En}
def iu(pn:Qa Nat)(ρ:En):Nat->Qa U->Qb (Qa U)
 | _,[]=>some []
 | i,u::us=>(if i∈pn then(ρ[i]?).join.bind λo=>if o.own=true/\u.own=false then none else some o else if u.own=true then none else some u).bind λo=>(iu pn ρ (i+1) us).bind λos=>some<|o::os
def bF(n:Nat)(pn:Qa Nat)(m:MS):FD:=λus=>(m<|sm us++List.replicate (n - us.length) none).bind λf=>match f with
 | .rt u ρ=>(iu pn ρ 0 us).bind λos=>some (u,os)
 | .nx ρ=>(iu pn ρ 0 us).bind λos=>some (.d .none,os)
 | _=>none
theorem Ob:∀ {us os:Qa U} {i:Nat},iu pn ρ i us=some os->os.length=us.length
 | [],os,i,e=>by cases e; rfl
 | u::us,os,i,e=>by
  have(o,e1,e):=zb e;have(DA,e2,e):=zb e;cases e;simp[Ob e2]
theorem xq:∀ {us os:Qa U} {i p:Nat} {o:U},iu pn ρ i us=some os->os[p]?=some o->∃ u,us[p]?=some u/\((i+p∈pn/\ρ[i+p]?=some (some o)/\(o.own=true->u.own=true))\/(i+p∉pn/\o=u/\u.own=false))
 | [],os,i,p,o,e,ep=>by cases e; simp at ep
 | u::us,os,i,p,o,e,ep=>by
  have(o1,e1,e):=zb e;have(DA,e2,e):=zb e;cases e;cases p with
  | zero=>
   cases(show some o1=some o from ep);refine⟨u,rfl,?_⟩;rw[Nat.add_zero];split at e1
   .rename_i hi
    have(o2,e3,e1):=zb e1;split at e1
    .cases e1
    .rename_i hc
     cases e1;refine .inl ⟨hi,?_,λoo=>?_⟩
     .cases q:ρ[i]? with
      | none=>rw[q]at e3; cases e3
      | some x=>rw[q]at e3; cases x with
       | none=>cases e3
       | some y=>cases e3; rfl
     .cases hu:u.own with
      | true=>rfl
      | false=>exact absurd ⟨oo,hu⟩ hc
   .rename_i hi
    split at e1
    .cases e1
    .rename_i hc
     cases e1;exact .inr ⟨hi,rfl,by simpa using hc⟩
  | succ p=>
   have(u',eu,h):=xq (i:=i+1) (p:=p) e2 ep;refine⟨u',eu,?_⟩;rw[show i+(p+1)=i+1+p by omega];exact h
theorem Oa:∀ {us os:Qa U} {i p:Nat} {u:U},iu pn ρ i us=some os->us[p]?=some u->u.own=true->i+p∈pn
 | [],os,i,p,u,e,ep,_=>by simp at ep
 | u::us,os,i,p,u',e,ep,o=>by
  have(o1,e1,e):=zb e;have(DA,e2,e):=zb e;cases p with
  | zero=>
   cases(show some u=some u' from ep);rw[Nat.add_zero];split at e1
   .assumption
   .first|cases e1 | (rw[if_pos o]at e1; cases e1)
  | succ p=>
   rw[show i+(p+1)=i+1+p by omega];exact Oa (i:=i+1) (p:=p) e2 ep o
theorem xH{vs:Qa V}(h:i < vs.length):(gr N vs)[i]?=(dZ vs)[i]?:=by
 unfold gr dZ;rw[List.getElem?_append_left (by simpa using h)]
theorem zqP{us os:Qa U}{vs:Qa V}{oB:En}(r:Rs K (sm us) (dZ vs) H)(hl:us.length<=N.length)(ho:iu pn oB 0 us=some os):
  Sn K pn (gr N vs) (Ow (sm us)<|dZ vs) H H (sm us++List.replicate (N.length - us.length) none) (gr N vs) H:=by
 have lv:us.length=vs.length:=by have:=r.len; unfold sm dZ at this; simpa using this
 have inv:∀ (i:Nat) (u:U),(sm us++List.replicate (N.length - us.length) none)[i]?=some (some u)->i < us.length/\(sm us)[i]?=some (some u):=λi u e=>by
  by_cases hi:i < us.length
  .rw[List.getElem?_append_left (by unfold sm; simpa using hi)]at e
   exact⟨hi,e⟩
  .rw[List.getElem?_append_right (by unfold sm; simp; omega),List.getElem?_replicate]at e
   split at e<;>cases e
 refine⟨⟨?_,λi u e=>?_,λi j u w ei ej ou ow es=>?_⟩,λ_ _ h _=>h,λi u a e o es=>?_,λ_ _=>rfl,λ_ h=>h,Kp.refl H⟩
 .unfold gr sm; simp; omega
 .have(hi,e'):=inv i u e
  rw[xH (by omega)];exact r.rep i u e'
 .have(hi,sD):=inv i u ei
  have(hj,ng):=inv j w ej;rw[xH (by omega),xH (by omega)]at es;exact r.apart i j u w sD ng ou ow es
 .have(hi,e'):=inv i u e
  rw[xH (by omega)]at es;have:=Oa ho (fK.mp e') o;rw[Nat.zero_add]at this;exact .inl ⟨this,i,u,e',o,es⟩
theorem Mf{us os:Qa U}{vs:Qa V}{aE:St}(r:Rs K (sm us) (dZ vs) H)(s:Sn K pn (gr N vs) (Ow (sm us)<|dZ vs) H H ah aE H')(ho:iu pn ah 0 us=some os):Go K (sm us) (dZ vs) H (sm os) H':=by
 have lv:us.length=vs.length:=by have:=r.len; unfold sm dZ at this; simpa using this
 have lo:=Ob ho;have wx:∀ {p:Nat} {o:U},os[p]?=some o->p < vs.length:=λ{p o} e=>by have:=(qk.mp e).1; omega
 have pin:∀ {p:Nat} {o:U},os[p]?=some o->p∈pn->aE[p]?=(dZ vs)[p]?:=λ{p o} e hp=>by rw[s.pin p hp,xH<|wx e]
 refine⟨⟨by unfold sm dZ; simp; omega,λp o e=>?_,λp q o o' ep eq oo IY es=>?_⟩,s.fr,⟨by unfold sm; simp; omega,λp o e oo=>?_,λp u e=>?_⟩,s.dm⟩
 .have e':=fK.mp e
  have(u,eu,h):=xq ho e';rw[Nat.zero_add]at h;rcases h with⟨hp,hr,_⟩|⟨_,rfl,ou⟩
  .have(v,ev,q):=s.rs.rep p o hr
   rw[pin e' hp]at ev;exact⟨v,ev,q⟩
  .have(v,ev,q):=r.rep p o (fK.mpr eu)
   exact⟨v,ev,q.kp s.kp λoo=>by rw[ou]at oo; cases oo⟩
 .have ig:=fK.mp ep
  have DX:=fK.mp eq;have(u,eu,h):=xq ho ig;have(u',SK,h'):=xq ho DX;rw[Nat.zero_add]at h h';rcases h with⟨hp,hr,_⟩|⟨_,rfl,ou⟩
  .rcases h' with⟨hq,rW,_⟩|⟨_,rfl,pE⟩
   .rw[<-pin ig hp,<-pin DX hq]at es
    exact s.rs.apart p q o o' hr rW oo IY es
   .rw[pE]at IY; cases IY
  .rw[ou]at oo; cases oo
 .have e':=fK.mp e
  have(u,eu,h):=xq ho e';rcases h with⟨_,_,h⟩|⟨_,rfl,ou⟩
  .exact⟨u,fK.mpr eu,h oo⟩
  .rw[ou]at oo; cases oo
 .have e':=fK.mp e
  have hp:p < os.length:=by have:=(qk.mp e').1; omega
  exact⟨os[p],fK.mpr<|qm hp⟩
theorem jG.RP{base:Heap}{f:Qg}{k nn:Nat}{m:MS}(F:jG K x qual st f fd)(S:bj N ps (zM st))(wg:ps.length=n)(hN:N.length=nn)(wk:n<=nn)
  (bB:∀ (be:Qc) (A:Qf) (outer:Qa Env) (s:Qd) (H:Hp) (E:XK),aA k (A.deeper<|envOfC qual (zM st) s.heap.objs.size f be)->
   ∃ t,Wr (d5 (nJ iR P w K mg base N qual (zM st) f be A outer s H E).rO (je st) t)/\VS K pn Tw t m):bK P w K mg base iR (k+1) f fd ps (nX K n<|bF nn pn m):=by
 refine F.RO S (λvs H Q E h=>?_) λbe A outer s H vs Q E hr h=>?_
 .have(us,r,outs,hl,rs,_):=h
  have:=rs.len;unfold sm dZ at this;simp at this;omega
 have(us,r,outs,hl,rs,ef,q):=h;have(t,wt,vt):=bB be A outer s H E hr;refine⟨t,wt,?_⟩;have(fl,em,ef):=zb ef;have go:∀ (ah:En),iu pn ah 0 us=some outs->Sn K pn (gr N vs) (Ow (sm us)<|dZ vs) H H (sm us++List.replicate (N.length - us.length) none) (gr N vs) H:=λah ho=>zqP rs (by omega) ho;subst hN;cases fl with
 | nx ah=>
  have(os,eo,ef):=zb (show(iu pn ah 0 us).bind _=_ from ef);cases ef;refine vt _ _ _ _ _ _ _ (.nx ah) _ (go ah eo) em λaE H' s'=>?_;exact q _ _ (Mf rs s' eo) .aF Nw.data
 | rt u ah=>
  have(os,eo,ef):=zb (show(iu pn ah 0 us).bind _=_ from ef);cases ef;refine vt _ _ _ _ _ _ _ (.rt r ah) _ (go ah eo) em λv aE H' s' p n'=>?_;exact q _ _ (Mf rs s' eo) p n'
 | bk=>cases ef
 | ct=>cases ef
 | ex=>cases ef
end
section
variable{EX:gW}{ρ ah:En}
def lW(i:Nat)(me:ME):ME:=λρ=>match ρ[i]? with
 | some (some<|.l _)=>(me ρ).bind λp=>(p.1.get p.2).bind λu=>match u,p.2[i]? with
  | .d x,some (some<|.l xs)=>if xs.length < sizeLine then some (.u<|.d .none,p.2.set i<|some<|.l<|xs++[x])else none
  | _,_=>none
 | _=>none
theorem u5{me:ME}(h:VE K te me):VE K (Dv K "list" GC (dW i)<|jO te ip) (lW i me):=by
 intro ρ σ H a ah Q r e q;unfold lW at e;split at e
 .rename_i Ry e0
  obtain⟨⟨b,ρ1⟩,e1,e⟩:=zb e;have(u,eu,e):=zb e;have(v0,bZ,p0):=r.rep i _ e0;have(l,Ik,rfl,ue,_):=p0;refine⟨_,bZ,.inl ⟨rfl,Ik,aO.of ue⟩,?_⟩;refine h ρ σ H b ρ1 _ r e1 λv H1 g1 k1=>?_;have pv:=k1.now r g1 eu;dsimp only at e;split at e
  .rename_i x xs ex
   split at e
   .rename_i hz
    cases e;have(w,ew,p1):=g1.rs.rep i _ ex;have(l',us,rfl,hl,ds):=p1;rw[bZ]at ew;cases ew;refine⟨l,us,v,rfl,rfl,hl,by rw[ds.len]; exact hz,q _ _ (g1.trans<|Go.own (u':=.l (xs++[x])) g1.rs ex rfl bZ ?_) ⟨.aF,Nw.data⟩⟩;have kp:=iz hl trivial (.lst<|us++[v]);exact⟨l,_,rfl,zp,(ds.kp kp).snoc<|DF.kp kp pv⟩
   .cases e
  .cases e
 .cases e
theorem ir{o:Qb (Qb U)}{u:U}(e:o.join=some u):o=some (some u):=by
 cases o with
 | none=>cases e
 | some x=>cases x with
  | none=>cases e
  | some y=>cases e; rfl
def oR(i:Nat)(me mi:ME):MS:=λρ=>(ρ[i]?).join.bind λ_=>(me ρ).bind λp=>(mi p.2).bind λq=>(p.1.get q.2).bind λu=>(q.1.get q.2).bind λw=>match u,w,q.2[i]? with
 | .d x,.d<|.int k,some (some<|.l xs)=>(eI xs.length k).bind λj=>some<|.nx<|q.2.set i<|some<|.l<|xs.set j x
 | _,_,_=>none
theorem xp{ti:TE}{me mi:ME}(h:VE K te me)(hi:VE K ti mi):VS K pn EX (qN te<|EJ (dW i) ti BE) (oR i me mi):=by
 intro ai A H₀ ao ρ σ H f D s e k;replace e:=zb e;have(w0,e0,e):=e;replace e:=zb e;obtain⟨⟨a,ρ1⟩,e1,e⟩:=e;replace e:=zb e;obtain⟨⟨b,au⟩,e2,e⟩:=e;replace e:=zb e;have(u,eu,e):=e;replace e:=zb e;have(w,ew,e):=e;have(v0,bZ,_):=s.rs.rep i w0 (ir e0);refine h ρ σ H a ρ1 _ s.rs e1 λv H1 g1 k1=>⟨v0,bZ,?_⟩;refine hi ρ1 σ H1 b au _ g1.rs e2 λy H2 g2 k2=>?_;have pv:=k1.later s.rs g1 g2 eu;have py:=k2.now g1.rs g2 ew;dsimp only at e;split at e
 .rename_i x n xs ex
  replace e:=zb e;have(j,ej,e):=e;cases e;have(w',cp,p1):=g2.rs.rep i _ ex;have(l,us,rfl,hl,ds):=p1;rw[bZ]at cp;cases cp;refine⟨l,us,n,j,rfl,DF.int_inv py,hl,by rw[ds.len]; exact ej,k _ _<|(s.go<|g1.trans g2).go<|Go.own (u':=.l (xs.set j x)) g2.rs ex rfl bZ ?_⟩;have kp:=iz hl trivial (.lst<|us.set j v);exact⟨l,_,rfl,zp,(ds.kp kp).set (DF.kp kp pv) j⟩
 .cases e
def oC:Qa D->Qb (Qa Key)
 | []=>some []
 | .int i::ds=>(oC ds).bind λks=>some<|.inl i::ks
 | .str x::ds=>(oC ds).bind λks=>some<|.inr x::ks
 | _::_=>none
def cn:D->Qb (Qa Key)
 | .tuple ds=>oC ds
 | _=>none
def qO:D->Qb Key
 | .int i=>some<|.inl i
 | .str x=>some<|.inr x
 | _=>none
theorem Gv:∀ ks:Qa Key,oC (ks.map yw)=some ks
 | []=>rfl
 | .inl i::ks=>by show(oC<|ks.map yw).bind _=_; rw[Gv ks]; rfl
 | .inr x::ks=>by show(oC<|ks.map yw).bind _=_; rw[Gv ks]; rfl
theorem CA(ks:Qa Key):cn (ic ks)=some ks:=Gv ks
theorem Ga:∀ {ds:Qa D} {ks:Qa Key} {xs:Qa V},aI K H xs ds->oC ds=some ks->xs=ks.map kV
 | [],ks,xs,h,e=>by cases e; cases h; rfl
 | d::ds,ks,xs,h,e=>by
  cases h with
  | cons h1 t=>
   cases d with
   | int i=>
    have(mT,e1,e):=zb (show(oC ds).bind (λks=>some<|Sum.inl i::ks)=some ks from e);cases e;rw[Ga t e1,DF.int_inv h1];rfl
   | str x=>
    have(mT,e1,e):=zb (show(oC ds).bind (λks=>some<|Sum.inr x::ks)=some ks from e);cases e;rw[Ga t e1,DF.str_inv h1];rfl
   | _=>cases e
theorem tj{d:D}{v:V}(h:DF K H v d)(e:cn d=some ks):∃ b,v=.ref b/\aK K H b (ks.map kV):=by
 cases d with
 | tuple ds=>
  have(b,xs,rfl,h1,h2):=DF.aD h;exact⟨b,rfl,by rw[<-Ga h2 e]; exact h1⟩
 | _=>cases e
theorem F9{d:D}{k:Key}{v:V}(h:DF K H v d)(e:qO d=some k):v=kV k:=by
 cases d with
 | int i=>cases e; exact DF.int_inv h
 | str x=>cases e; exact DF.str_inv h
 | _=>cases e
theorem xo:∀ {ks:Qa Key},aI K H (ks.map kV)<|ks.map yw
 | []=>.nil
 | .inl i::ks=>.cons (.int i) xo
 | .inr x::ks=>.cons (.str x) xo
section
variable[DecidableEq κ]
def gg(kvs:Qa (κ×D))(k:κ):Qb D:=(kvs.find? λkv=>decide<|kv.1=k).map (·.2)
def dN(kvs:Qa (κ×D))(k:κ)(d:D):Qa (κ×D):=if(kvs.any λkv=>decide<|kv.1=k)=true then kvs.map (λkv=>if kv.1=k then(kv.1,d)else kv)else kvs++[(k,d)]
theorem b7.val{ws:Qa (κ×V)}{kvs:Qa (κ×D)}(h:b7 K H ws kvs)(k:κ):(∃ v d,dq ws k=some v/\gg kvs k=some d/\DF K H v d)\/(dq ws k=none/\gg kvs k=none):=by
 induction h with
 | nil=>exact .inr ⟨rfl,rfl⟩
 | @cons p q ps qs hq t ih=>
  unfold dq gg at ih ⊢;rw[List.find?_cons,List.find?_cons]
  by_cases hk:p.1=k
  .have jx:q.1=k:=hq.1▸hk
   rw[decide_eq_true hk,decide_eq_true jx];exact .inl ⟨_,_,rfl,rfl,hq.2⟩
  .have jx:¬q.1=k:=λz=>hk<|hq.1.trans z
   rw[decide_eq_false hk,decide_eq_false jx];exact ih
theorem b7.any{ws:Qa (κ×V)}{kvs:Qa (κ×D)}(h:b7 K H ws kvs)(k:κ):(ws.any λkv=>decide<|kv.1=k)=(kvs.any λkv=>decide<|kv.1=k):=by
 induction h with
 | nil=>rfl
 | @cons p q ps qs hq t ih=>rw[List.any_cons,List.any_cons,ih,hq.1]
theorem b7.jk{ws:Qa (κ×V)}{kvs:Qa (κ×D)}(h:b7 K H ws kvs)(k:κ){v:V}{d:D}(hd:DF K H v d):b7 K H (ws.map λkv=>if kv.1=k then(kv.1,v)else kv) (kvs.map λkv=>if kv.1=k then(kv.1,d)else kv):=by
 induction h with
 | nil=>exact .nil
 | @cons p q ps qs hq t ih=>
  refine .cons ?_ ih;dsimp only
  by_cases hk:p.1=k
  .have jx:q.1=k:=hq.1▸hk
   rw[if_pos hk,if_pos jx];exact⟨hq.1,hd⟩
  .have jx:¬q.1=k:=λz=>hk<|hq.1.trans z
   rw[if_neg hk,if_neg jx];exact hq
theorem b7.put{ws:Qa (κ×V)}{kvs:Qa (κ×D)}(h:b7 K H ws kvs)(k:κ){v:V}{d:D}(hd:DF K H v d):b7 K H (cN ws k v) (dN kvs k d):=by
 unfold cN dN;rw[h.any k];split
 .exact h.jk k hd
 .exact Paired.snoc h ⟨rfl,hd⟩
theorem b7.len{ws:Qa (κ×V)}{kvs:Qa (κ×D)}(h:b7 K H ws kvs):ws.length=kvs.length:=Paired.length h
end
def uZ(kvs:Qa (D×D))(k:Qa Key):Qb D:=(kvs.find? λkv=>decide<|cn kv.1=some k).map (·.2)
theorem iQ.val{ws:Qa (Qa Key×V)}{kvs:Qa (D×D)}(h:iQ K H ws kvs)(k:Qa Key):(∃ v d,dq ws k=some v/\uZ kvs k=some d/\DF K H v d)\/(dq ws k=none/\uZ kvs k=none):=by
 induction ws generalizing kvs with
 | nil=>cases h; exact .inr ⟨rfl,rfl⟩
 | cons p ws ih=>
  cases h with
  | @cons k' v d _ ds hv t=>
   unfold dq uZ at ih ⊢;rw[List.find?_cons,List.find?_cons]
   by_cases hk:k'=k
   .have jx:cn (ic k')=some k:=by rw[CA,hk]
    rw[decide_eq_true hk,decide_eq_true jx];exact .inl ⟨_,_,rfl,rfl,hv⟩
   .have jx:¬cn (ic k')=some k:=by rw[CA]; exact λz=>hk<|qx z
    rw[decide_eq_false hk,decide_eq_false jx];exact ih t
def j9(u y:U):Qb (Qb D):=match u,y with
 | .t kvs,.d y=>(cn y).map λk=>gg kvs k
 | .k kvs,.d y=>(qO y).map λk=>gg kvs k
 | .d (.dict kvs),.d y=>if kM kvs=true then(cn y).map λk=>uZ kvs k else none
 | _,_=>none
theorem Gu{u y:U}{o:Qb D}{x v:V}(hu:Rp K H x u)(hy:Rp K H v y)(e:j9 u y=some o):∃ a,x=.ref a/\((∃ w d,o=some d/\oE K H a v (some w)/\DF K H w d)\/(o=none/\oE K H a v none)):=by
 unfold j9 at e;split at e
 .rename_i kvs y
  have(k,ek,rfl):=qr.mp e;have(a,ws,rfl,h1,h2):=hu;have(b,rfl,hb):=tj hy ek;refine⟨a,rfl,?_⟩;rcases h2.val k with⟨w,d,e1,e2,p⟩|⟨e1,e2⟩
  .exact .inl ⟨w,d,e2,.inr ⟨ws,k,b,.inl h1,rfl,hb,e1.symm⟩,p⟩
  .exact .inr ⟨e2,.inr ⟨ws,k,b,.inl h1,rfl,hb,e1.symm⟩⟩
 .rename_i kvs y
  have(k,ek,rfl):=qr.mp e;have(a,ws,rfl,h1,h2):=hu;cases F9 hy ek;refine⟨a,rfl,?_⟩;rcases h2.val k with⟨w,d,e1,e2,p⟩|⟨e1,e2⟩
  .exact .inl ⟨w,d,e2,.inl ⟨ws,k,.inl h1,rfl,e1.symm⟩,p⟩
  .exact .inr ⟨e2,.inl ⟨ws,k,.inl h1,rfl,e1.symm⟩⟩
 .rename_i kvs y
  split at e
  rotate_left
  .cases e
  rename_i nx;have(k,ek,rfl):=qr.mp e;have(a,ob,ws,rfl,h1,h2):=DF.b6 hu nx;have(b,rfl,hb):=tj hy ek;refine⟨a,rfl,?_⟩;rcases h2.val k with⟨w,d,e1,e2,p⟩|⟨e1,e2⟩
  .exact .inl ⟨w,d,e2,.inr ⟨ws,k,b,.inr ⟨ob,h1⟩,rfl,hb,e1.symm⟩,p⟩
  .exact .inr ⟨e2,.inr ⟨ws,k,b,.inr ⟨ob,h1⟩,rfl,hb,e1.symm⟩⟩
 .cases e
def iq(md my:ME):ME:=λρ=>(md ρ).bind λp=>(my p.2).bind λq=>(p.1.get q.2).bind λu=>(q.1.get q.2).bind λy=>(j9 u y).bind λo=>o.bind λd=>some (.u<|.d d,q.2)
theorem lB{md my:ME}(hd:VE K td md)(hy:VE K ty my):VE K (FG K td ty) (iq md my):=by
 intro ρ σ H a ah Q r e q;obtain⟨⟨a1,ρ1⟩,e1,e⟩:=zb e;obtain⟨⟨b1,au⟩,e2,e⟩:=zb e;have(u,eu,e):=zb e;have(y,ey,e):=zb e;have(o,eo,e):=zb e;have(d,ed,e):=zb e;cases e;refine hd ρ σ H a1 ρ1 _ r e1 λv1 H1 g1 k1=>hy ρ1 σ H1 b1 _ _ g1.rs e2 λv2 H2 g2 k2=>?_;have(b,rfl,h):=Gu (k1.later r g1 g2 eu) (k2.now g1.rs g2 ey) eo;rcases h with⟨w,d',rfl,g,p⟩|⟨rfl,_⟩
 .cases ed
  exact⟨b,w,rfl,g,q w H2 (g1.trans g2) ⟨p,Nw.data⟩⟩
 .cases ed
def uM(neg:Bool)(my md:ME):ME:=λρ=>(my ρ).bind λq=>(md q.2).bind λp=>(p.1.get p.2).bind λu=>(q.1.get p.2).bind λy=>(j9 u y).bind λo=>some (.u<|.d<|.bool (if neg=true then !o.isSome else o.isSome),p.2)
theorem FI{md my:ME}(hy:VE K ty my)(hd:VE K td md):VE K (ES K ty td) (uM false my md):=by
 intro ρ σ H a ah Q r e q;obtain⟨⟨b1,ρ1⟩,e1,e⟩:=zb e;obtain⟨⟨a1,au⟩,e2,e⟩:=zb e;have(u,eu,e):=zb e;have(y,ey,e):=zb e;have(o,eo,e):=zb e;cases e;refine hy ρ σ H b1 ρ1 _ r e1 λv1 H1 g1 k1=>hd ρ1 σ H1 a1 _ _ g1.rs e2 λv2 H2 g2 k2=>?_;have(b,rfl,h):=Gu (k2.now g1.rs g2 eu) (k1.later r g1 g2 ey) eo;rcases h with⟨w,d',rfl,g,p⟩|⟨rfl,g⟩
 .exact⟨b,_,rfl,g,q _ H2 (g1.trans g2) ⟨.bl _,Nw.data⟩⟩
 .exact⟨b,_,rfl,g,q _ H2 (g1.trans g2) ⟨.bl _,Nw.data⟩⟩
def rh:ME:=λρ=>some (.u<|.t [],ρ)
theorem xE:VE K BW rh:=by
 intro ρ σ H a ah Q r e q;cases e;intro p hp;have sm:=zB hp (.dT []);exact q _ _ (Go.grow r sm) ⟨⟨p,[],rfl,zp,.nil⟩,λ_=>⟨p,rfl,hp⟩⟩
def oO(i:Nat)(my mv:ME):MS:=λρ=>(ρ[i]?).join.bind λ_=>(mv ρ).bind λp=>(my p.2).bind λq=>(p.1.get q.2).bind λx=>(q.1.get q.2).bind λy=>match x,y,q.2[i]? with
 | .d x,.d y,some (some<|.t kvs)=>(cn y).bind λk=>if kvs.length < sizeLine then some (.nx<|q.2.set i<|some<|.t<|dN kvs k x)else none
 | .d x,.d y,some (some<|.k kvs)=>(qO y).bind λk=>if kvs.length < sizeLine then some (.nx<|q.2.set i<|some<|.k<|dN kvs k x)else none
 | _,_,_=>none
theorem BM{my mv:ME}(hy:VE K ty my)(hv:VE K tv mv):VS K pn EX (FF K (dW i) ty tv) (oO i my mv):=by
 intro ai A H₀ ao ρ σ H f D s e k;replace e:=zb e;have(w0,e0,e):=e;replace e:=zb e;obtain⟨⟨a,ρ1⟩,e1,e⟩:=e;replace e:=zb e;obtain⟨⟨b,au⟩,e2,e⟩:=e;replace e:=zb e;have(u,eu,e):=e;replace e:=zb e;have(w,ew,e):=e;have(v0,bZ,_):=s.rs.rep i w0 (ir e0);refine hv ρ σ H a ρ1 _ s.rs e1 λv H1 g1 k1=>⟨v0,bZ,?_⟩;refine hy ρ1 σ H1 b au _ g1.rs e2 λy H2 g2 k2=>?_;have pv:=k1.later s.rs g1 g2 eu;have py:=k2.now g1.rs g2 ew;dsimp only at e;split at e
 .rename_i x yd kvs ex
  replace e:=zb e;have(ks,ek,e):=e;split at e
  .rename_i hz
   cases e;have(w',cp,p1):=g2.rs.rep i _ ex;have(l,us,rfl,hl,ds):=p1;rw[bZ]at cp;cases cp;have(kb,rfl,mZ):=tj py ek;refine⟨l,_,rfl,qL.t hl mZ (by rw[ds.len]; exact hz),k _ _<|(s.go<|g1.trans g2).go<|Go.own (u':=.t (dN kvs ks x)) g2.rs ex rfl bZ ?_⟩;have kp:=iz hl trivial (.dT<|cN us ks v);exact⟨l,_,rfl,zp,(ds.kp kp).put ks<|DF.kp kp pv⟩
  .cases e
 .rename_i x yd kvs ex
  replace e:=zb e;have(ks,ek,e):=e;split at e
  .rename_i hz
   cases e;have(w',cp,p1):=g2.rs.rep i _ ex;have(l,us,rfl,hl,ds):=p1;rw[bZ]at cp;cases cp;cases F9 py ek;refine⟨l,_,rfl,qL.k hl (by rw[ds.len]; exact hz),k _ _<|(s.go<|g1.trans g2).go<|Go.own (u':=.k (dN kvs ks x)) g2.rs ex rfl bZ ?_⟩;have kp:=iz hl trivial (.dK<|cN us ks v);exact⟨l,_,rfl,zp,(ds.kp kp).put ks<|DF.kp kp pv⟩
  .cases e
 .cases e
def oN:U->Qb (Qa D)
 | .d (.dict kvs)=>if kM kvs=true then some (kvs.map (·.1))else none
 | _=>none
theorem N9:∀ {ws:Qa (Qa Key×V)} {kvs:Qa (D×D)},iQ K H ws kvs->kvs.map (·.1)=ws.map λp=>ic p.1
 | [],_,.nil=>rfl
 | _::_,_,.cons _ t=>by rw[List.map_cons,List.map_cons,N9 t]
theorem vH{me:ME}(h:VE K te me):VI K (Mp K te) (bU oN me):=by
 intro ρ σ H ds ah R r e q;obtain⟨⟨a,ρ1⟩,e1,e⟩:=zb e;have(u,eu,e):=zb e;have(xs,ex,e):=zb e;cases e;refine h ρ σ H a _ _ r e1 λv H1 g1 k1=>?_;have p:=k1.now r g1 eu;unfold oN at ex;split at ex
 .split at ex
  rotate_left
  .cases ex
  rename_i nx;cases ex;have(b,o,ws,rfl,h1,h2):=DF.b6 p nx;refine⟨b,ws,rfl,.inr ⟨o,h1,q _ _ g1 λH2 k i=>?_⟩⟩;rw[N9 h2];have jy:=k.aW _ _ _ h1;refine⟨λd ed=>?_,λei=>?_⟩
  .rw[List.getElem?_map]at ed
   obtain⟨⟨ks,w⟩,ew,rfl⟩:=qr.mp ed;refine⟨⟨jy,(qk.mp ew).1⟩,λx H' y=>?_⟩;have(rfl,y):=y;have(kb,rfl,mZ):=y ks w ew;exact⟨λ_ _ z=>z,.tup mZ xo⟩
  .rw[List.length_map]at ei
   exact⟨jy,Nat.le_of_eq ei.symm⟩
 .cases ex
end
section
variable{ρ ah:En}
abbrev MO:=En->Qb (Qb Int×En)
def AQ(K:qc)(t:TO)(m:MO):Prop :=
 ∀ (ρ:En) (σ:St) (H:Hp) (o:Qb Int) (ah:En) (Q:Qb Int->Hp->Prop),Rs K ρ σ H->m ρ=some (o,ah)->(∀ H',Go K ρ σ H ah H'->Q o H')->t σ H Q
def xC:MO:=λρ=>some (none,ρ)
def wY(me:ME):MO:=λρ=>(me ρ).bind λp=>(p.1.get p.2).bind λu=>match u with | .d (.int i)=>some (some i,p.2) | _=>none
theorem MV:AQ K GZ xC:=λρ σ H o ah Q r e q=>by cases e; exact q H<|Go.refl r
theorem MU{me:ME}(h:VE K te me):AQ K (FW te) (wY me):=by
 intro ρ σ H o ah Q r e q;replace e:=zb e;obtain⟨⟨a,ρ1⟩,e1,e⟩:=e;replace e:=zb e;have(u,eu,e):=e;refine h ρ σ H a ρ1 _ r e1 λv H1 g1 k1=>?_;have p:=k1.now r g1 eu;dsimp only at e;split at e
 .rename_i i
  cases e;exact⟨i,DF.int_inv p,q _ g1⟩
 .cases e
def j8(xs:Qa D)(lo hi:Qb Int):Qa D:=(xs.drop<|HT.gx xs.length 0 lo).take (HT.gx xs.length xs.length hi - HT.gx xs.length 0 lo)
theorem aI.cut{xs:Qa V}{ds:Qa D}(h:aI K H xs ds)(lo hi:Qb Int):aI K H (qM xs lo hi) (j8 ds lo hi):=by
 unfold qM j8;rw[h.len];exact(h.drop _).take _
def Th(K:qc)(r:V->Qb Int->Qb Int->Hp->VK->Prop)(f:U->Qb Int->Qb Int->Qb U):Prop :=
 ∀ (x:V) (a u:U) (lo hi:Qb Int) (H:Hp) (Q:VK),Rp K H x a->f a lo hi=some u->(∀ v H',cz H H'->Rp K H' v u->Nw H v u->Q v H')->r x lo hi H Q
def yk(f:U->Qb Int->Qb Int->Qb U)(me:ME)(ml mh:MO):ME:=λρ=>(me ρ).bind λp=>(ml p.2).bind λl=>(mh l.2).bind λh=>(p.1.get h.2).bind λx=>(f x l.1 h.1).bind λu=>some (.u u,h.2)
theorem Kw{r:V->Qb Int->Qb Int->Hp->VK->Prop}{f:U->Qb Int->Qb Int->Qb U}{tl th:TO}{me:ME}{ml mh:MO}(hs:Th K r f)(he:VE K te me)(hl:AQ K tl ml)(hh:AQ K th mh):VE K (Iu r te tl th) (yk f me ml mh):=by
 intro ρ σ H a ah Q rs e q;obtain⟨⟨a1,ρ1⟩,e1,e⟩:=zb e;obtain⟨⟨lo,au⟩,e2,e⟩:=zb e;obtain⟨⟨hi,jb⟩,e3,e⟩:=zb e;have(x,ex,e):=zb e;have(u,eu,e):=zb e;cases e;refine he ρ σ H a1 ρ1 _ rs e1 λv1 H1 g1 k1=>hl ρ1 σ H1 lo au _ g1.rs e2 λH2 g2=>hh au σ H2 hi _ _ g2.rs e3 λH3 g3=>?_;refine hs _ x u lo hi H3 _ (k1.later rs g1 (g2.trans g3) ex) eu λv H4 s p n=>?_;have g:=g1.trans (g2.trans g3);exact q v H4 (g.trans<|Go.grow g.rs s) ⟨p,n.mono g.dm⟩
def uL(u:U)(lo hi:Qb Int):Qb U:=match u with
 | .l xs=>some<|.l<|j8 xs lo hi
 | .d (.list xs)=>some<|.l<|j8 xs lo hi
 | _=>none
theorem MR:Th K (ET K) uL:=by
 intro x a u lo hi H Q p e q;unfold uL at e;split at e
 .cases e
  have(b,us,rfl,h1,h2):=p;refine⟨b,us,rfl,aO.of h1,λl hl=>?_⟩;have sm:=zB hl (.lst<|qM us lo hi);exact q _ _ sm ⟨l,_,rfl,zp,(h2.cut lo hi).kp sm.kp⟩ λ_=>⟨l,rfl,hl⟩
 .cases e
  have(b,us,rfl,h1,h2):=DF.lst_inv p;refine⟨b,us,rfl,h1.sq,λl hl=>?_⟩;have sm:=zB hl (.lst<|qM us lo hi);exact q _ _ sm ⟨l,_,rfl,zp,(h2.cut lo hi).kp sm.kp⟩ λ_=>⟨l,rfl,hl⟩
 .cases e
def zBS(u:U)(lo hi:Qb Int):Qb U:=match u with
 | .d (.tuple xs)=>some<|.d<|.tuple<|j8 xs lo hi
 | _=>none
def wX:U->U->Qb U
 | .d (.tuple xs),.d (.tuple ys)=>if xs≠[]/\xs.length+ys.length<=sizeLine then some (.d<|.tuple<|xs++ys)else none
 | _,_=>none
theorem Xz:VO K (FH K) wX:=by
 intro x y a b u H Q ha hb e q;unfold wX at e;split at e
 .split at e
  .rename_i xs ys hc
   cases e;have(p,us,rfl,h1,h2):=DF.aD ha;have(p',fP,rfl,jy,ie):=DF.aD hb;refine⟨p,p',us,fP,rfl,rfl,(aK.sq h1),(aK.sq jy),?_,by rw[h2.len,ie.len]; exact hc.2,λz=>?_,λ_ r hr=>?_⟩
   .rintro rfl
    cases h2;exact hc.1 rfl
   .subst z
    cases ie;exact q _ _ (λ_ _ z=>z) (by rw[List.append_nil]; exact .tup h1 h2) Nw.data
   .have s:=zB hr (.tup<|us++fP)
    exact q _ _ s (.tup (.inl zp)<|(h2.app ie).kp s.kp) Nw.data
  .cases e
 .cases e
def Uz:Qa Int->Int->Int
 | [],d=>d
 | n::ns,_=>ns.foldl (λa b=>if a < b then b else a) n
def zBR:Qa U->Qa U->Qb U
 | [u],[.d<|.int d]=>u.items.bind λxs=>(rf xs).map λns=>.d<|.int<|Uz ns d
 | _,_=>none
theorem Pg{r:α->α->Prop}(as:∀ a b,r a b->¬r b a):∀ {L M:Qa α},L.Perm M->L.Pairwise r->M.Pairwise r->L=M
 | [],M,p,_,_=>(List.nil_perm.mp p).symm▸rfl
 | a::L,[],p,_,_=>by have:=p.length_eq; simp at this
 | a::L,b::M,p,h1,h2=>by
  have(a1,a2):=Ù.mp h1;have(b1,b2):=Ù.mp h2;have e:a=b:=by
   rcases qv.mp (p.mem_iff.mp<|qp (a:=a) (l:=L))with z|z
   .exact z
   .rcases qv.mp (p.mem_iff.mpr<|qp (a:=b) (l:=M))with y|y
    .exact y.symm
    .exact absurd (b1 a z) (as a b<|a1 b y)
  subst e;rw[Pg as p.cons_inv a2 b2]
def pk:D->Qb (Qa Int)
 | .tuple [.tuple ks,_]=>rf ks
 | _=>none
def vX:Qa D->Qb (Qa<|Qa Int)
 | []=>some []
 | d::ds=>(pk d).bind λk=>(vX ds).bind λks=>some<|k::ks
def sH(a b:D):Prop:=∃ k m,pk a=some k/\pk b=some m/\cP k m=true
theorem sH.Kd(a b:D)(h:sH a b):¬sH b a:=by
 rintro⟨k',m',e1,e2,h'⟩;have(k,m,e3,e4,h):=h;rw[e3]at e2;rw[e4]at e1;cases e1;cases e2;have:=vM h h';rw[tw]at this;cases this
open Classical in
def Bu(xs:Qa D):Qa D:=if h:∃ L,L.Perm xs/\L.Pairwise sH then h.choose else []
theorem N8{xs L:Qa D}(p:L.Perm xs)(s:L.Pairwise sH):Bu xs=L:=by
 have h:∃ L:Qa D,L.Perm xs/\L.Pairwise sH:=⟨L,p,s⟩;unfold Bu;rw[dif_pos h];exact Pg sH.Kd (h.choose_spec.1.trans p.symm) h.choose_spec.2 s
def U.lst:U->Qb (Qa D)
 | .l xs=>some xs
 | .d (.list xs)=>some xs
 | _=>none
theorem Rp.lst{v:V}{u:U}{xs:Qa D}(h:Rp K H v u)(e:u.lst=some xs):∃ p ys,v=.ref p/\aO K H p ys/\aI K H ys xs:=by
 cases u with
 | d x=>
  cases x with
  | list ds=>cases e; have(a,ys,rfl,h1,h2):=DF.lst_inv h; exact⟨a,ys,rfl,h1.sq,h2⟩
  | _=>cases e
 | l ds=>cases e; have(a,ys,rfl,h1,h2):=h; exact⟨a,ys,rfl,aO.of h1,h2⟩
 | t=>cases e
 | k=>cases e
 | o=>cases e
def F8(u:U):Qb U:=u.lst.bind λxs=>(vX xs).bind λks=>if xs.length < 64/\ks.Nodup then some (.l<|Bu xs)else none
theorem MQ:∀ {xs:Qa D} {ks:Qa (Qa Int)},vX xs=some ks->ks.length=xs.length
 | [],ks,e=>by cases e; rfl
 | x::xs,ks,e=>by
  have(k,e1,e):=zb e;have(mT,e2,e):=zb e;cases e;simp[MQ e2]
theorem BK:∀ {xs:Qa D} {ks:Qa (Qa Int)} {i:Nat} {x:D},vX xs=some ks->xs[i]?=some x->pk x=some (ks.getD i [])
 | [],ks,i,x,e,ex=>by simp at ex
 | y::xs,ks,i,x,e,ex=>by
  have(k,e1,e):=zb e;have(mT,e2,e):=zb e;cases e;cases i with
  | zero=>cases(show some y=some x from ex); exact e1
  | succ i=>exact BK (i:=i) e2 ex
theorem zqS:VC K (L7 K) (f1 F8):=sJ λv a u H Q h e q=>by
 have(xs,ex,e):=zb e;have(ks,ek,e):=zb e;split at e
 .rename_i hc
  cases e;have(p,ys,rfl,sq,ds):=h.lst ex;have ly:=ds.len;have lk:=MQ ek;refine⟨p,ys,ks,rfl,sq,by omega,⟨by omega,λi v ev=>?_⟩,hc.2,λis r hp hs hr=>?_⟩
  .have(d,ed,dv):=ds.get' ev
   have kd:=BK ek ed;unfold pk at kd;split at kd
   .rename_i kk y
    have(a,zs,rfl,h1,h2):=DF.aD dv;cases h2 with
    | @cons z1 _ _ _ h3 t=>
     cases t with
     | @cons z2 _ _ _ h4 t=>
      cases t;have(b,ns,rfl,h5,h6):=DF.aD h3;exact⟨a,b,z2,rfl,(aK.sq h1),by rw[<-Oc h6 kd]; exact(aK.sq h5)⟩
   .cases kd
  .have sm:=zB hr (.lst<|is.map λi=>ys.getD i .aF)
   have lt:∀ i∈is,i < xs.length:=λi hi=>by
    have:=ç.mp (hp.mem_iff.mp hi);omega
   have ext:(List.range xs.length).map (λi=>xs.getD i .none)=xs:=by
    apply List.ext_getElem?;intro j;rw[List.getElem?_map]
    by_cases hj:j < xs.length
    .rw[List.getElem?_range hj,Option.map_some,qB,qm hj]
     rfl
    .rw[List.getElem?_eq_none (by simpa using hj),List.getElem?_eq_none (by omega)]
     rfl
   have rX:(is.map λi=>xs.getD i .none).Perm xs:=by
    have:=hp.map λi=>xs.getD i .none;rw[ly,ext]at this;exact this
   have rV:(is.map λi=>xs.getD i .none).Pairwise sH:=by
    rw[List.pairwise_map]at hs ⊢;refine hs.imp_of_mem λ{i j} hi hj gy=>?_;have gi:=qm (lt i hi);have gj:=qm (lt j hj);refine⟨_,_,?_,?_,gy⟩
    .rw[qB,gi]
     exact BK ek gi
    .rw[qB,gj]
     exact BK ek gj
   rw[N8 rX rV]at q;refine q _ _ sm ⟨r,_,rfl,zp,?_⟩ λ_=>⟨r,rfl,hr⟩;refine aI.kp sm.kp ?_;clear hs hp rX rV q sm
   induction is with
   | nil=>exact .nil
   | cons i is ih=>
    refine .cons ?_<|ih λj hj=>lt j<|qo _ hj;have gi:=qm (lt i qp);have(v,ev,dv):=ds.get gi;dsimp only;rw[qB,qB,gi,ev];exact dv
 .cases e
end
section
variable{ρ ah:En}
def zz6(ma:MA):ME:=λρ=>(ma ρ).bind λp=>(bt p.2 p.1).bind λus=>match us with
 | [.d<|.int j]=>if(-(2^62)<=j/\j < 2^62)/\j.toNat<=sizeLine then some (.u<|.l<|iY 0 j.toNat,p.2)else none
 | _=>none
def lr:MT:=λρ=>some (true,ρ)
theorem oQ:VT K ER lr:=λρ σ H b ah Q r e q=>by cases e; exact q H<|Go.refl r
def sV:D->Qb V
 | .none=>some .aF
 | .bool b=>some<|.bl b
 | .int i=>some<|.int i
 | .str x=>some<|.str x
 | _=>none
theorem AO{x:D}{v w:V}(h:DF K H v x)(e:sV x=some w):v=w:=by
 cases h<;>cases e<;>rfl
def cu(neg:Bool):U->U->Qb U
 | .d x,.d y=>(sV x).bind λv=>(sV y).bind λw=>if EZ v w=true then some (.d<|.bool (if neg=true then !decide (v=w)else decide (v=w)))else none
 | _,_=>none
theorem jS:VO K RL (cu false):=by
 intro x y a b u H Q ha hb e q;unfold cu at e;split at e
 .have(v,ev,e):=zb e
  have(w,ew,e):=zb e;split at e
  .rename_i hs
   cases e;cases AO ha ev;cases AO hb ew;exact⟨hs,q _ _ (λ_ _ z=>z) (.bl _) Nw.data⟩
  .cases e
 .cases e
theorem oP:VO K RK (cu true):=by
 intro x y a b u H Q ha hb e q;unfold cu at e;split at e
 .have(v,ev,e):=zb e
  have(w,ew,e):=zb e;split at e
  .rename_i hs
   cases e;cases AO ha ev;cases AO hb ew;exact⟨hs,q _ _ (λ_ _ z=>z) (.bl _) Nw.data⟩
  .cases e
 .cases e
def qZ:U->Bool
 | .d .none=>true
 | _=>false
def jd(neg:Bool):U->U->Qb U
 | a,.d .none=>some<|.d<|.bool (if neg=true then !qZ a else qZ a)
 | _,_=>none
theorem MP{a:U}{v:V}(h:Rp K H v a):decide (v=.aF)=qZ a:=by
 cases a with
 | d x=>cases(show DF K H v x from h)<;>simp[qZ]
 | l=>have(_,_,rfl,_):=h; simp[qZ]
 | t=>have(_,_,rfl,_):=h; simp[qZ]
 | k=>have(_,_,rfl,_):=h; simp[qZ]
 | o=>have(_,_,_,_,_,rfl,_):=h; simp[qZ]
theorem Me:VO K (λx y H Q=>y=.aF/\Q (.bl<|decide<|x=.aF) H) (jd false):=by
 intro x y a b u H Q ha hb e q;unfold jd at e;split at e
 .cases e
  refine⟨by cases hb; rfl,?_⟩;rw[MP ha];exact q _ _ (λ_ _ z=>z) (.bl _) Nw.data
 .cases e
theorem Xy:VO K (λx y H Q=>y=.aF/\Q (.bl (!decide (x=.aF))) H) (jd true):=by
 intro x y a b u H Q ha hb e q;unfold jd at e;split at e
 .cases e
  refine⟨by cases hb; rfl,?_⟩;rw[MP ha];exact q _ _ (λ_ _ z=>z) (.bl _) Nw.data
 .cases e
theorem UZ{F:FD}{E:XK}(hO:AV H)(hS:aO K H a (ns.map V.int))(h:∃ outs,F [.d<|.list<|ns.map .int]=some (.d<|.bool true,outs)):nX K 1 F [.ref a] H (λv _=>v=.bl true) E:=by
 have(outs,ho):=h;have pl:PL K H a (ns.map V.int):=by
  rcases hS with (h|⟨o,h⟩) | h
  .rcases hO a with z|⟨o,xs,z⟩
   .rw[z]at h; cases h
   .rw[z]at h; cases h
  .exact .inl ⟨o,h⟩
  .exact .inr h
 have dd:aI K H (ns.map V.int) (ns.map PyData.int):=by
  clear ho hS pl
  induction ns with
  | nil=>exact .nil
  | cons n ns ih=>exact .cons (.int n) ih
 refine⟨[.d<|.list<|ns.map .int],.d<|.bool true,outs,rfl,⟨rfl,λi u e=>?_,λi j u w ei ej ou ow es=>?_⟩,ho,λv H' g p n=>DF.fA p⟩
 .have e':=fK.mp e
  cases i with
  | zero=>cases e'; exact⟨.ref a,rfl,DF.lst pl dd⟩
  | succ i=>simp at e'
 .have e':=fK.mp ei
  cases i with
  | zero=>cases e'; cases ou
  | succ i=>simp at e'
end
section
variable{ρ:En}{me ma mb mk mi md my mv:ME}{mA mK:MA}{mt mu:MT}{m1 m2:MS}{u:U}{x:D}{f:U->U->Qb U}
theorem bd{a:α}{f:α->Qb β}:(some a).bind f=f a:=rfl
theorem Xj{u:U}:Ar.get ρ (.u u)=some u:=rfl
theorem zqU:Ar.get ρ (.s i)=(ρ[i]?).join:=rfl
theorem znl{u:U}:(some<|some u).join=some u:=rfl
theorem UY:zj i ρ=(ρ[i]?).join.bind λ_=>some (.s i,ρ):=by
 unfold zj;cases ρ[i]? with
 | none=>rfl
 | some o=>cases o<;>rfl
theorem zBE:mC x ρ=some (.u<|.d x,ρ):=rfl
theorem Uy:aj f ma mb ρ=(ma ρ).bind λp=>(mb p.2).bind λq=>(p.1.get q.2).bind λx=>(q.1.get q.2).bind λy=>(f x y).bind λu=>some (.u u,q.2):=rfl
theorem Ux{f:U->Qb U}:gM f ma ρ=(ma ρ).bind λp=>(p.1.get p.2).bind λx=>(f x).bind λu=>some (.u u,p.2):=rfl
theorem UX:zt ρ=some ([],ρ):=rfl
theorem Xx:zf me mA ρ=(me ρ).bind λp=>(mA p.2).bind λq=>some (p.1::q.1,q.2):=rfl
theorem zkR:bt ρ []=some []:=rfl
theorem O4{a:Ar}{as:Qa Ar}:bt ρ (a::as)=(a.get ρ).bind λu=>(bt ρ as).bind λus=>some (u::us):=rfl
theorem ziP:km []=some []:=rfl
theorem zhG{us:Qa U}:km (.d x::us)=(km us).bind λxs=>some (x::xs):=rfl
theorem UW:bq mA ρ=(mA ρ).bind λp=>(bt p.2 p.1).bind λus=>(km us).bind λds=>if ds.length<=sizeLine then some (.u<|.d<|.tuple ds,p.2)else none:=rfl
theorem UU:dU mA ρ=(mA ρ).bind λp=>(bt p.2 p.1).bind λus=>(km us).bind λds=>if ds.length<=sizeLine then some (.u<|.l ds,p.2)else none:=rfl
theorem Uw{f:Qa U->Qb U}:cF f mA ρ=(mA ρ).bind λp=>(bt p.2 p.1).bind λus=>(f us).bind λu=>some (.u u,p.2):=rfl
theorem UT{f:FD}:aR f mA ρ=(mA ρ).bind λp=>if g8 p.2 p.1=true then(bt p.2 p.1).bind λus=>(f us).bind λo=>some (.u o.1,wb p.2 p.1 o.2)else none:=rfl
theorem zkS:g8 ρ []=true:=rfl
theorem US{as:Qa Ar}:g8 ρ (.s j::as)=((match ρ[j]? with|some (some u)=>!u.own || !(as.any λa=>match a with | .s k=>decide (k=j) | _=>false) | _=>true) && g8 ρ as):=rfl
theorem zAa{as:Qa Ar}{o:U}{os:Qa U}:wb ρ (.s j::as) (o::os)=wb (ρ.set j<|some o) as os:=rfl
theorem zAb{as:Qa Ar}{o:U}{os:Qa U}:wb ρ (.u u::as) (o::os)=wb ρ as os:=rfl
theorem zqV:wb ρ [] []=ρ:=rfl
def lV(m2:MS):Fl->Qb Fl
 | .nx ah=>m2 ah
 | f=>some f
theorem bind_fn{o:Qb α}{f g:α->Qb β}(h:∀ a,f a=g a):o.bind f=o.bind g:=by cases o with|none=>rfl|some a=>exact h a
theorem UR:zG m1 m2 ρ=(m1 ρ).bind (lV m2):=bind_fn λf=>by cases f<;>rfl
theorem znm:lV m2 (.nx ρ)=m2 ρ:=rfl
theorem znn:lV m2 (.rt u ρ)=some (.rt u ρ):=rfl
def U.dat:U->Qb U
 | .d x=>some<|.d x
 | _=>none
theorem Xi:U.dat (.d x)=some (.d x):=rfl
theorem Xh:put (.s i,ρ)=(ρ[i]?).join.bind λu=>u.dat.bind λd=>some (d,ρ):=by
 unfold put;dsimp only;cases ρ[i]? with
 | none=>rfl
 | some o=>
  cases o with
  | none=>rfl
  | some u=>cases u<;>rfl
theorem Xg:put (.u u,ρ)=some (u,ρ):=rfl
theorem UQ:aV i me ρ=(me ρ).bind λp=>(put p).bind λq=>some (.nx<|q.2.set i<|some q.1):=rfl
theorem UP:bg me ρ=(me ρ).bind λp=>(put p).bind λq=>some (.rt q.1 q.2):=rfl
theorem Xw:lY pn i ρ=if i∈pn then none else(ρ[i]?).join.bind λu=>some (.rt u<|ρ.set i none):=by
 unfold lY;split
 .rfl
 .cases ρ[i]? with
  | none=>rfl
  | some o=>cases o<;>rfl
theorem Yg:du ρ=some (.nx ρ):=rfl
theorem Yf:iV me ρ=(me ρ).bind λp=>some (.nx p.2):=rfl
theorem UO:cv mt m1 m2 ρ=(mt ρ).bind λp=>if p.1=true then m1 p.2 else m2 p.2:=rfl
theorem zAc:ym mt ma mb ρ=(mt ρ).bind λp=>if p.1=true then ma p.2 else mb p.2:=rfl
def U.Ax:U->Qb Bool
 | .d (.bool b)=>some b
 | _=>none
theorem Xf{b:Bool}:U.Ax (.d<|.bool b)=some b:=rfl
theorem zBF:mB me ρ=(me ρ).bind λp=>(p.1.get p.2).bind λu=>u.Ax.bind λb=>some (b,p.2):=by
 unfold mB;congr 1
 funext p
 congr 1
 funext u
 cases u with
 | d x=>cases x<;>rfl
 | l=>rfl
 | t=>rfl
 | k=>rfl
 | o=>rfl
theorem UN:uO mt mu ρ=(mt ρ).bind λp=>if p.1=true then mu p.2 else some (false,p.2):=rfl
theorem zAd:pJ mt mu ρ=(mt ρ).bind λp=>if p.1=true then some (true,p.2)else mu p.2:=rfl
theorem UM:uN mt ρ=(mt ρ).bind λp=>some (!p.1,p.2):=rfl
theorem Ye:sP ma mb ρ=(mB ma ρ).bind λp=>if p.1=true then mb p.2 else some (.u<|.d<|.bool false,p.2):=rfl
theorem Yd:w4 ma ρ=(mB ma ρ).bind λp=>some (.u<|.d<|.bool (!p.1),p.2):=rfl
theorem UL:AS ma ρ=(ma ρ).bind λp=>(p.1.get p.2).bind λu=>u.vV.bind λb=>some (b,p.2):=rfl
theorem UK:lr ρ=some (true,ρ):=rfl
def U.lo:U->Qb (Qa D)
 | .l xs=>some xs
 | _=>none
theorem zAe{xs:Qa D}:U.lo (.l xs)=some xs:=rfl
def U.da:U->Qb D
 | .d x=>some x
 | _=>none
theorem zAf:U.da (.d x)=some x:=rfl
def U.num:U->Qb Int
 | .d (.int i)=>some i
 | _=>none
theorem Xe{n:Int}:U.num (.d<|.int n)=some n:=rfl
theorem UJ:lW i me ρ=(ρ[i]?).join.bind λw=>w.lo.bind λ_=>(me ρ).bind λp=>(p.1.get p.2).bind λu=>u.da.bind λx=>(p.2[i]?).join.bind λw=>w.lo.bind λxs=>if xs.length < sizeLine then some (.u<|.d .none,p.2.set i<|some<|.l<|xs++[x])else none:=by
 unfold lW;cases ρ[i]? with
 | none=>rfl
 | some o=>
  cases o with
  | none=>rfl
  | some w=>
   cases w with
   | l Ry=>
    show((me ρ).bind _)=((me ρ).bind _);congr 1
    funext p
    congr 1
    funext u
    cases u with
    | d x=>
     show(match U.d x,p.2[i]? with | .d x,some (some<|.l xs)=>_|_,_=>none)=((p.2[i]?).join.bind _);cases p.2[i]? with
     | none=>rfl
     | some o=>
      cases o with
      | none=>rfl
      | some w=>cases w<;>rfl
    | l=>rfl
    | t=>rfl
    | k=>rfl
    | o=>rfl
   | d=>rfl
   | t=>rfl
   | k=>rfl
   | o=>rfl
theorem zqW:oR i me mi ρ=(ρ[i]?).join.bind λ_=>(me ρ).bind λp=>(mi p.2).bind λq=>(p.1.get q.2).bind λu=>(q.1.get q.2).bind λw=>u.da.bind λx=>w.num.bind λk=>(q.2[i]?).join.bind λz=>z.lo.bind λxs=>(eI xs.length k).bind λj=>some (.nx<|q.2.set i<|some<|.l<|xs.set j x):=by
 unfold oR;congr 1; funext _; congr 1; funext p; congr 1; funext q; congr 1; funext u; congr 1; funext w;cases u with
 | d x=>
  cases w with
  | d y=>
   cases y with
   | int k=>
    show(match U.d x,U.d<|.int k,q.2[i]? with | .d x,.d<|.int k,some (some<|.l xs)=>_|_,_,_=>none)=((q.2[i]?).join.bind _);cases q.2[i]? with
    | none=>rfl
    | some o=>
     cases o with
     | none=>rfl
     | some w=>cases w<;>rfl
   | _=>rfl
  | l=>rfl
  | t=>rfl
  | k=>rfl
  | o=>rfl
 | l=>rfl
 | t=>rfl
 | k=>rfl
 | o=>rfl
theorem Yc:iq md my ρ=(md ρ).bind λp=>(my p.2).bind λq=>(p.1.get q.2).bind λu=>(q.1.get q.2).bind λy=>(j9 u y).bind λo=>o.bind λd=>some (.u<|.d d,q.2):=rfl
theorem UI{neg:Bool}:uM neg my md ρ=(my ρ).bind λq=>(md q.2).bind λp=>(p.1.get p.2).bind λu=>(q.1.get p.2).bind λy=>(j9 u y).bind λo=>some (.u<|.d<|.bool (if neg=true then !o.isSome else o.isSome),p.2):=rfl
theorem zqX:rh ρ=some (.u<|.t [],ρ):=rfl
def DL(x:D):Ar×En->En
 | (.s i,ρ)=>ρ.set i<|some<|.d x
 | (.u _,ρ)=>ρ
theorem zAg:bL me ρ=(me ρ).bind λp=>(p.1.get p.2).bind λu=>u.fz.bind λx=>some (.u<|.d x,DL x p):=by
 unfold bL;congr 1; funext p; congr 1; funext u; congr 1; funext x;have(a,ρ1):=p;cases a<;>rfl
theorem Xd:DL x (.s i,ρ)=ρ.set i (some<|.d x):=rfl
theorem Xv:DL x (.u u,ρ)=ρ:=rfl
theorem zAh:U.fz (.d x)=some x:=rfl
theorem zAi{xs:Qa D}:U.fz (.l xs)=some (.list xs):=rfl
theorem zAj{kvs:Qa (Qa Key×D)}:U.fz (.t kvs)=some (.dict<|kvs.map λp=>(ic p.1,p.2)):=rfl
theorem zAk{g:U->Qb (Qa D)}:bU g me ρ=(me ρ).bind λp=>(p.1.get p.2).bind λu=>(g u).bind λds=>some (ds,p.2):=rfl
theorem zqY{xs:Qa D}:jJ (.d<|.list xs)=some xs:=rfl
theorem zqZ{xs:Qa D}:nF (.d<|.tuple xs)=some xs:=rfl
theorem zno{kvs:Qa (D×D)}:oN (.d<|.dict kvs)=if kM kvs=true then some (kvs.map (·.1))else none:=rfl
def A7:Qa U->Qb (Qa D)
 | [.d<|.int j]=>if -(2^62)<=j/\j < 2^62 then some (iY 0 j.toNat)else none
 | _=>none
theorem UH{n:Int}:A7 [.d<|.int n]=if -(2^62)<=n/\n < 2^62 then some (iY 0 n.toNat)else none:=rfl
theorem Yb:nK mA ρ=(mA ρ).bind λp=>(bt p.2 p.1).bind λus=>(A7 us).bind λds=>some (ds,p.2):=bind_fn λp=>bind_fn λus=>match us with
 | []=>rfl
 | [.d<|.int j]=>by
  show(if _ then _ else _)=(if _ then _ else _:Qb (Qa D)).bind _;split<;>rfl
 | [.d .none]=>rfl
 | [.d<|.bool _]=>rfl
 | [.d<|.str _]=>rfl
 | [.d<|.list _]=>rfl
 | [.d<|.tuple _]=>rfl
 | [.d<|.dict _]=>rfl
 | [.l _]=>rfl
 | [.t _]=>rfl
 | [.k _]=>rfl
 | [.o _ _]=>rfl
 | .d x::b::us=>by cases x<;>rfl
 | .l x::b::us=>rfl
 | .t x::b::us=>rfl
 | .k x::b::us=>rfl
 | .o x y::b::us=>rfl
theorem UG{mI:MI}{mg:MG}:cO mI mg m1 ρ=(mI ρ).bind λp=>gD mg m1 p.1 p.2:=rfl
theorem zAl{mI:MI}{mg:MG}:hX mI nt js mg mt me ρ=(mI ρ).bind λp=>(jt nt mg mt me p.1 (dM nt js p.2) []).bind λq=>some (.u<|.l q.1,back js (q.2.drop nt) p.2):=rfl
theorem zAm{f:U->Qb Int->Qb Int->Qb U}{ml mh:MO}:yk f me ml mh ρ=(me ρ).bind λp=>(ml p.2).bind λl=>(mh l.2).bind λh=>(p.1.get h.2).bind λx=>(f x l.1 h.1).bind λu=>some (.u u,h.2):=rfl
theorem zpf:xC ρ=some (none,ρ):=rfl
theorem Ya:wY me ρ=(me ρ).bind λp=>(p.1.get p.2).bind λu=>u.num.bind λi=>some (some i,p.2):=bind_fn λp=>bind_fn λu=>by
 cases u with
 | d x=>cases x<;>rfl
 | l=>rfl
 | t=>rfl
 | k=>rfl
 | o=>rfl
def Eu:Qa U->Qb (D×D)
 | [.d x,.d y]=>some (x,y)
 | _=>none
theorem zq0{y:D}:Eu [.d x,.d y]=some (x,y):=rfl
theorem UE:AR i j mA ρ=(mA ρ).bind λp=>(bt p.2 p.1).bind λus=>(Eu us).bind λz=>some (.nx<|(p.2.set i<|some<|.d z.1).set j<|some<|.d z.2):=by
 refine bind_fn λp=>bind_fn λus=>?_
 match us with
 | []=>rfl
 | [a]=>cases a<;>rfl
 | [.d x,.d y]=>rfl
 | [.d x,.l y]=>rfl
 | [.d x,.t y]=>rfl
 | [.d x,.k y]=>rfl
 | [.d x,.o _ _]=>rfl
 | [.l x,b]=>rfl
 | [.t x,b]=>rfl
 | [.k x,b]=>rfl
 | [.o _ _,b]=>rfl
 | a::b::c::us=>cases a<;>(try rfl)<;>(cases b<;>rfl)
theorem zq1:zy i x ρ=some (ρ.set i<|some<|.d x):=rfl
theorem X9{gs:Qa D->En->Qb En}{ds:Qa D}:fJ n gs (.tuple ds) ρ=if ds.length=n then gs ds ρ else none:=rfl
theorem zq2{g:MG}{gs:Qa D->En->Qb En}{ds:Qa D}:zQ g gs (x::ds) ρ=(g x ρ).bind λρ1=>gs ds ρ1:=rfl
theorem X8:gq [] ρ=some ρ:=rfl
theorem uY{c:Int->Int->Prop}{g:Int->Int->D}{a b:Int}(h:c a b):oq c g (.d<|.int a) (.d<|.int b)=some (.d<|g a b):=by
 unfold oq;dsimp only;rw[if_pos h]
theorem Xu{a b:Int}:gX (.d<|.int a) (.d<|.int b)=some (.d<|.int<|a+b):=rfl
theorem Xt{a b:Int}:nG (.d<|.int a) (.d<|.int b)=some (.d<|.int<|a - b):=rfl
theorem Lu{a b:Int}(h:uR a b):g9 (.d<|.int a) (.d<|.int b)=some (.d<|.int<|a * b):=uY h
theorem zAn{a b:Int}(h:0 < b):lx (.d<|.int a) (.d<|.int b)=some (.d<|.int<|a % b):=uY (c:=λ_ j=>0 < j) h
theorem UD{a b:Int}(h:wR a b):w6 (.d<|.int a) (.d<|.int b)=some (.d<|.int<|a / b):=uY h
theorem BJ{a b:Int}(h:ve a b):BH (.d<|.int a) (.d<|.int b)=some (.d<|.int<|a.fdiv b):=uY h
theorem zAo{a b:Int}(h:Ba a b):AU (.d<|.int a) (.d<|.int b)=some (.d<|.int<|a^b.toNat):=uY h
theorem zAp{a b:Int}:DU (.d<|.int a) (.d<|.int b)=some (.d<|.bool<|decide<|a < b):=rfl
theorem zAq{a b:Int}:Al (.d<|.int a) (.d<|.int b)=some (.d<|.bool<|decide<|b < a):=rfl
theorem zAr{a b:Int}:DW (.d<|.int a) (.d<|.int b)=some (.d<|.bool<|decide<|b<=a):=rfl
theorem Xs{a:Int}:kj (.d<|.int a)=some (.d<|.int (-a)):=rfl
theorem Xr{a:Int}:wH (.d<|.int a)=some (.d<|.int (if a < 0 then -a else a)):=rfl
theorem zq3{b:Bool}:w5 (.d<|.bool b)=some (.d<|.int (if b then 1 else 0)):=rfl
theorem zq4{a b:Int}:BG [.d<|.int a,.d<|.int b]=some (.d<|.int (if b > a then b else a)):=rfl
theorem zAs{f:U->Qb U}:f1 f [u]=f u:=rfl
theorem Xq{xs:Qa D}:iT (.l xs)=some (.d<|.int xs.length):=rfl
theorem Xp{xs:Qa D}:iT (.d<|.tuple xs)=some (.d<|.int xs.length):=rfl
theorem Xo{xs:Qa D}:iT (.d<|.list xs)=some (.d<|.int xs.length):=rfl
theorem znp{xs:Qa D}:rl (.l xs)=some (.d<|.tuple xs):=rfl
theorem Xn{xs:Qa D}{k:Int}:cy (.l xs) (.d<|.int k)=(br xs k).map .d:=rfl
theorem Wy{xs:Qa D}{k:Int}:cy (.d<|.list xs) (.d<|.int k)=(br xs k).map .d:=rfl
theorem Wx{xs:Qa D}{k:Int}:bo (.d<|.tuple xs) (.d<|.int k)=(br xs k).map .d:=rfl
theorem Ww{xs:Qa D}{lo hi:Qb Int}:uL (.l xs) lo hi=some (.l<|j8 xs lo hi):=rfl
theorem Wv{a b:Int}:cu false (.d<|.int a) (.d<|.int b)=some (.d<|.bool<|decide<|a=b):=by
 show some (U.d<|.bool<|decide<|V.int a=V.int b)=_;congr 3;exact decide_eq_decide.mpr ⟨λh=>by cases h; rfl,λh=>by rw[h]⟩
theorem Wu{a b:Int}:cu true (.d<|.int a) (.d<|.int b)=some (.d<|.bool (!decide (a=b))):=by
 show some (U.d<|.bool (!decide (V.int a=V.int b)))=_;congr 4;exact decide_eq_decide.mpr ⟨λh=>by cases h; rfl,λh=>by rw[h]⟩
theorem Wt{a b:Str}:cu false (.d<|.str a) (.d<|.str b)=some (.d<|.bool<|decide<|a=b):=by
 show some (U.d<|.bool<|decide<|V.str a=V.str b)=_;congr 3;exact decide_eq_decide.mpr ⟨λh=>by cases h; rfl,λh=>by rw[h]⟩
def A6(pn:Qa Nat)(us:Qa U):Fl->Qb (U×Qa U)
 | .rt u ρ=>(iu pn ρ 0 us).bind λos=>some (u,os)
 | .nx ρ=>(iu pn ρ 0 us).bind λos=>some (.d .none,os)
 | _=>none
theorem UC{us:Qa U}:bF n pn m1 us=(m1<|sm us++List.replicate (n - us.length) none).bind (A6 pn us):=by
 exact bind_fn λf=>by cases f<;>rfl
theorem znq{us:Qa U}:A6 pn us (.rt u ρ)=(iu pn ρ 0 us).bind λos=>some (u,os):=rfl
theorem zkT:iu pn ρ n []=some []:=rfl
theorem ziR{us:Qa U}:iu pn ρ n (u::us)=(if n∈pn then(ρ[n]?).join.bind λo=>if o.own=true/\u.own=false then none else some o else if u.own=true then none else some u).bind λo=>(iu pn ρ (n+1) us).bind λos=>some (o::os):=rfl
theorem Ws:U.own (.d x)=false:=rfl
theorem Wq{xs:Qa D}:U.own (.l xs)=true:=rfl
theorem zq5:sm []=[]:=rfl
theorem znr{us:Qa U}:sm (u::us)=some u::sm us:=rfl
theorem zAt{a:α}{xs:Qa α}:br (a::xs) 0=some a:=by
 unfold br eI;rw[if_pos (by decide),if_pos (by simp only[qu]; omega)];rfl
theorem zAu{a b:α}{xs:Qa α}:br (a::b::xs) 1=some b:=by
 unfold br eI;rw[if_pos (by decide),if_pos (by simp only[qu]; omega)];rfl
theorem zAv{a b c:α}{xs:Qa α}:br (a::b::c::xs) 2=some c:=by
 unfold br eI;rw[if_pos (by decide),if_pos (by simp only[qu]; omega)];rfl
theorem Kz:eI (n+1) 0=some 0:=by
 unfold eI;rw[if_pos (by decide),if_pos (by omega)];rfl
theorem zAw:eI (n+1+1) 1=some 1:=by
 unfold eI;rw[if_pos (by decide),if_pos (by omega)];rfl
theorem zAx{a b:Int}(h:b.natAbs < 18446744073709551616):g9 (.d<|.int a) (.d<|.int b)=some (.d<|.int<|a * b):=Lu (.inr ⟨by omega,by omega⟩)
theorem zAy{a b:Int}(h:a.natAbs < 18446744073709551616):g9 (.d<|.int a) (.d<|.int b)=some (.d<|.int<|a * b):=Lu (.inl ⟨by omega,by omega⟩)
theorem zAz{a b:Int}(h:0 < b):lx (.d<|.int a) (.d<|.int b)=some (.d<|.int<|a % b):=zAn h
theorem zAA{a b:Int}(h:0 < b)(h2:b<=340282366920938463463374607431768211456):w6 (.d<|.int a) (.d<|.int b)=some (.d<|.int<|a / b):=UD (XQ h (by omega))
theorem zAB{a b:Int}(h:0<=b)(h2:b<=1000000)(h3:a.natAbs < 18446744073709551616):AU (.d<|.int a) (.d<|.int b)=some (.d<|.int<|a^b.toNat):=zAo ⟨h,h2,by omega⟩
theorem zl:sizeLine=16777216:=rfl
theorem zns:reset nt ρ=List.replicate nt none++ρ.drop nt:=rfl
theorem Wp:dM nt js ρ=List.replicate nt none++js.map λj=>ρ.getD j none:=rfl
def vZ(j:Nat):Qa Ar->Bool
 | []=>true
 | .u _::as=>vZ j as
 | .s k::as=>!decide (k=j) && vZ j as
theorem F7:∀ {as:Qa Ar},vZ j as=!(as.any λa=>match a with | .s k=>decide (k=j) | _=>false)
 | []=>rfl
 | .u _::as=>by rw[List.any_cons]; exact F7 (as:=as)
 | .s k::as=>by
  unfold vZ;rw[List.any_cons,F7 (as:=as),Bool.not_or]
def DZ:Qb U->Bool
 | some u=>!u.own
 | none=>true
theorem znt:vZ j []=true:=rfl
theorem znu{as:Qa Ar}:g8 ρ (.s j::as)=((vZ j as || DZ (ρ[j]?).join) && g8 ρ as):=by
 rw[US,F7];congr 1;cases ρ[j]? with
 | none=>simp[DZ]
 | some o=>
  cases o with
  | none=>simp[DZ]
  | some u=>simp[DZ,Bool.or_comm]
theorem zq6{us:Qa (Qb U)}:back (j::js) (some u::us) ρ=back js us (ρ.set j<|some u):=rfl
theorem zq7{us:Qa (Qb U)}:back [] us ρ=ρ:=by cases us<;>rfl
theorem Hv:∀ ks:Qa Int,rf (ks.map PyData.int)=some ks
 | []=>rfl
 | k::ks=>by show(rf<|ks.map PyData.int).bind _=_; rw[Hv ks]; rfl
theorem Mq{ks:Qa Int}:E4 (.l<|ks.map PyData.int)=some (.d<|.int ks.sum):=by
 show(some _).bind _=_;rw[bd,Hv];rfl
end
structure XT (K:qc) (tab:Qa (Str×Qa Str)) (fl:Qa Str):Prop where
 cl:∀ n ups C,tab.lookup n=some ups->XN K n C->XI K C/\∀ f∈fl,gu K C f
 is:∀ n ups C,tab.lookup n=some ups->XN K n C->∀ c C',(tab.lookup c).isSome=true->XN K c C'->PySem.W.kitOne K (.ref C) (.ref C')=some (decide (c=n) || ups.contains c)
 gQ:∀ n ups C,tab.lookup n=some ups->XN K n C->PySem.W.kitOne K (.ref C) (.type "ValueError")=some (ups.contains ("ValueError":Str))
section
variable{fl:Qa Str}{n:Str}
end
section
variable{fl:Qa Str}{n:Str}
end
section
variable{X:Cx}{fl:Qa Str}{n:Str}
end
section
def DT:D->Qb V
 | .none=>some .aF
 | .bool b=>some<|.bl b
 | .int i=>some<|.int i
 | .str x=>some<|.str x
 | _=>none
theorem MN{v w:V}{d:D}(h:DF K H v d)(e:DT d=some w):v=w/\nM w=true:=by
 cases d with
 | none=>cases e; cases h; exact⟨rfl,rfl⟩
 | bool b=>cases e; cases DF.fA h; exact⟨rfl,rfl⟩
 | int i=>cases e; cases DF.int_inv h; exact⟨rfl,rfl⟩
 | str x=>cases e; cases DF.str_inv h; exact⟨rfl,rfl⟩
 | _=>cases e
theorem MM:∀ {us:Qa V} {ds:Qa D} {ws:Qa V},aI K H us ds->ds.mapM DT=some ws->us=ws/\ws.all nM=true
 | _,_,ws,.nil,e=>by cases e; exact⟨rfl,rfl⟩
 | _,_,ws,.cons h t,e=>by
  rw[List.mapM_cons]at e;have(y,e1,e):=zb e;have(jU,e2,e):=zb e;cases e;have(rfl,f1):=MN h e1;have(rfl,f2):=MM t e2;exact⟨rfl,by rw[List.all_cons,f1,f2]; rfl⟩
end
def Et(K:qc)(C:Qg):Bool:=match K.lookup C with
 | some ⟨.type "type",_,.cls cd,sl⟩=>(match cd.mro,sl.toList with
  | .ref C'::bm,[_,_,_,_,some<|.builtin m,_]=>C'==C && m == "ValueError.__new__" && !cd.hasDel && cd.hasDict && PySem.W.tailIn K Ii bm
  | _,_=>false)
 | _=>false
def A5(K:qc)(C:Qg):Bool:=Et K C && PySem.W.findIn K (.ref C) "__getattribute__"==some (some<|.builtin "BaseException.__getattribute__") && PySem.W.findIn K (.ref C) "__getattr__"==some none &&
 PySem.W.findIn K (.ref C) "__setattr__"==some (some<|.builtin "object.__setattr__") && PySem.W.findIn K (.ref C) "__class__"==some (some<|.builtin "object.__class__") &&
 PySem.W.specialIn K (.builtin "object.__class__") "__get__"==some (some<|.builtin "getset_descriptor.__get__") && PySem.W.takesIn K (.builtin "object.__class__")==some true && PySem.W.mroIn K C (.type "object")==some true
theorem zAC{C:Qg}(q:Et K C=true):∃ nm qn N bs bm sn sub ab col dd k0 k1 k2 k3 k5,K.lookup C=some (excClassObj nm qn C N bs bm true sn sub ab col dd k0 k1 k2 k3 k5 "ValueError.__new__")/\PySem.W.tailIn K Ii bm=true:=by
 unfold Et at q;split at q
 .rename_i dd cd sl ho
  split at q
  .rename_i C' bm k0 k1 k2 k3 m k5 hm hs
   simp only[Bool.and_eq_true,beq_iff_eq,Bool.not_eq_true']at q;obtain⟨⟨⟨⟨rfl,rfl⟩,Ac⟩,ui⟩,ht⟩:=q;have(nm,bs,mro,ns,qn,hd,sn,sub,ab,col,del):=cd;dsimp only at hm Ac ui;subst hm Ac ui;obtain⟨l⟩:=sl;dsimp only at hs;subst hs;exact⟨nm,qn,ns,bs,bm,sn,sub,ab,col,dd,k0,k1,k2,k3,k5,ho,ht⟩
  .cases q
 .cases q
theorem zAD{C:Qg}(q:A5 K C=true):XI K C:=by
 unfold A5 at q;simp only[Bool.and_eq_true,beq_iff_eq]at q;obtain⟨⟨⟨⟨⟨⟨⟨h1,h2⟩,h3⟩,h4⟩,h5⟩,h6⟩,h7⟩,h8⟩:=q;exact⟨⟨zAC h1,h2,h3,h4⟩,h5,h6,h7,h8⟩
def wK(K:qc)(n:Str):Qb Qg:=match PySem.W.nsIn K mainGlobals n with
 | some (some<|.ref C)=>some C
 | _=>none
theorem ML{n:Str}{C:Qg}(h:XN K n C):wK K n=some C:=by
 unfold wK;rw[show PySem.W.nsIn K mainGlobals n=some (some<|.ref C) from h]
def Es(K:qc)(tab:Qa (Str×Qa Str))(fl:Qa Str):Bool:=tab.all λp=>match wK K p.1 with
 | some C=>A5 K C && fl.all (λf=>PySem.W.findIn K (.ref C) f==some none) && PySem.W.kitOne K (.ref C) (.type "ValueError")==some (p.2.contains ("ValueError":Str)) &&
   tab.all λp'=>match wK K p'.1 with
    | some C'=>PySem.W.kitOne K (.ref C) (.ref C')==some (decide (p'.1=p.1) || p.2.contains p'.1)
    | none=>false
 | none=>false
theorem Hw:∀ {l:Qa (Str×β)} {n:Str} {b:β},l.lookup n=some b->(n,b)∈l
 | [],_,_,e=>by cases e
 | (m,c)::l,n,b,e=>by
  rw[List.lookup_cons]at e;cases q:(n==m)with
  | true=>
   rw[q]at e;cases e;rw[beq_iff_eq.mp q];exact qp
  | false=>
   rw[q]at e;exact qo _<|Hw e
theorem zAE{fl:Qa Str}(h:Es K tab fl=true):XT K tab fl:=by
 unfold Es at h;have one:∀ n ups C,tab.lookup n=some ups->XN K n C->(A5 K C && fl.all (λf=>PySem.W.findIn K (.ref C) f==some none) && PySem.W.kitOne K (.ref C) (.type "ValueError")==some (ups.contains ("ValueError":Str)) &&
   tab.all λp'=>match wK K p'.1 with
    | some C'=>PySem.W.kitOne K (.ref C) (.ref C')==some (decide (p'.1=n) || ups.contains p'.1)
    | none=>false)=true:=λn ups C hn xn=>by
  have z:=ô.mp h (n,ups) (Hw hn);dsimp only at z;rw[ML xn]at z;exact z
 refine⟨λn ups C hn xn=>?_,λn ups C hn xn c C' hc xc=>?_,λn ups C hn xn=>?_⟩
 .have z:=one n ups C hn xn
  simp only[Bool.and_eq_true]at z;refine⟨zAD z.1.1.1,λf hf=>?_⟩;exact beq_iff_eq.mp<|ô.mp z.1.1.2 f hf
 .have z:=one n ups C hn xn
  simp only[Bool.and_eq_true]at z;have(Il,hu'):=è.mp hc;have y:=ô.mp z.2 (c,Il) (Hw hu');dsimp only at y;rw[ML xc]at y;exact beq_iff_eq.mp y
 .have z:=one n ups C hn xn
  simp only[Bool.and_eq_true]at z;exact beq_iff_eq.mp z.1.2
section
variable{X:Cx}{C:Qg}{p:Pos}{es:Qa Expr}{t:TA}
end
abbrev RX(α:Type):=(α×En) ⊕ (D×En)
abbrev MXA:=En->Qb (RX<|Qa Ar)
section
variable{EX:gW}{ρ ah:En}{A:Qg->Prop}
def mXR(n f:Str)(ma:MA):En->Qb (D×En):=λρ=>(ma ρ).bind λp=>(bt p.2 p.1).bind λus=>(km us).bind λds=>match ds with
 | [x]=>some (.dict [(.none,.str n),(.str f,x)],p.2)
 | _=>none
def under(tab:Qa (Str×Qa Str))(c:Str):D->Bool
 | .dict ((.none,.str n)::_)=>match tab.lookup n with|some ups=>ups.contains c|none=>false
 | _=>false
end
abbrev FX:=Qa U->Qb ((U×Qa U) ⊕ (D×Qa U))
def spX(K:qc)(n:Nat)(f:FX):Sp:=λvs H Q E=>∃ us r,us.length=n/\Rs K (sm us) (dZ vs) H/\f us=some r/\match r with
 | .inl o=>∀ v H',Go K (sm us) (dZ vs) H (sm o.2) H'->Rp K H' v o.1->Nw H v o.1->Q v H'
 | .inr o=>∀ a H',Go K (sm us) (dZ vs) H (sm o.2) H'->H a=none->Kx K H' a o.1->E (.ref a) none H'
structure Kj (P:Qe) (w:Qh) (K:qc) (mg:Str->Qb Qc) (base:Heap) (x:Str) (k:Nat) (ps:Qa Str) (sp:Sp):Prop where
 ex:∃ (f:Qg) (fd:FuncData),bK P w K mg base (CXv P w K) k f fd ps sp/\lA K fd ps []/\PySem.W.keepIn K (.ref f)=true/\mg x=some (.ref f)
section
variable{X:Cx}{EX:gW}{k:Nat}{p:Pos}{es:Qa Expr}{t:TA}
end
section
variable{EX:gW}{ρ ah:En}{A:Qg->Prop}
end
section
variable{X:Cx}{C:Qg}{p:Pos}{es:Qa Expr}{t:TA}{EX:gW}
end
def tyD:D->Qb String
 | .none=>some "NoneType"
 | .bool _=>some "bool"
 | .int _=>some "int"
 | .str _=>some "str"
 | .tuple _=>some "tuple"
 | _=>none
def RC:U->Qb String
 | .d x=>tyD x
 | .l _=>some "list"
 | _=>none
def gQ(t T:String):Bool:=t==T || (t == "bool" && T == "int")
def Fw:Qa String:=["NoneType", "bool", "int", "str", "tuple", "list"]
theorem X7(K:qc):∀ t∈Fw,∀ T∈["int", "bool", "str", "tuple", "list"],PySem.W.kitOne K (.type t) (.type T)=some (gQ t T):=by
 have hm:∀ T∈["int", "bool", "str", "tuple", "list"],PySem.W.kitMeta T=true:=by decide +kernel
 have hs:∀ t∈Fw,∀ T∈["int", "bool", "str", "tuple", "list"],(PySem.fastBuiltinMro t).map (·.contains (Value.type T))=some (gQ t T):=by decide +kernel
 intro t ht T hT;unfold PySem.W.kitOne;split
 .rename_i q
  have e:t=T:=Value.type.inj (beq_iff_eq.mp q);subst e;unfold gQ;simp
 .unfold PySem.W.kitCls PySem.W.subIn
  simp only[hm T hT,if_true];exact hs t ht T hT
def wC(T:String)(u:U):Qb U:=(RC u).bind λt=>if t∈Fw/\T∈["int", "bool", "str", "tuple", "list"]then some (.d<|.bool<|gQ t T)else none
section
theorem Vh{v:V}{u:U}{t:String}(h:Rp K H v u)(e:RC u=some t):cX K H v (.type t):=by
 cases u with
 | d x=>
  cases x with
  | none=>cases e; cases h; exact .aF
  | bool b=>cases e; cases DF.fA h; exact .bl _
  | int i=>cases e; cases DF.int_inv h; exact .int _
  | str x=>cases e; cases DF.str_inv h; exact .str _
  | tuple ds=>cases e; have(a,ys,rfl,h1,_):=DF.aD h; exact .tup h1
  | list ds=>cases e
  | dict ds=>cases e
 | l xs=>cases e; have(a,us,rfl,h1,_):=h; exact .lst h1
 | t kvs=>cases e
 | k kvs=>cases e
 | o=>cases e
theorem KI{me:ME}(h:VE K te me):VE K (mE (EO K)<|jO te<|jO (tC<|.ty T) ip) (gM (wC T) me):=by
 intro ρ σ H a ah Q rs e q;obtain⟨⟨a1,ρ1⟩,e1,e⟩:=zb e;have(x,ex,e):=zb e;have(u,eu,e):=zb e;cases e;refine h ρ σ H a1 _ _ rs e1 λv1 H1 g1 k1=>?_;have p:=k1.now rs g1 ex;unfold wC at eu;have(t,et,eu):=zb eu;split at eu
 .rename_i hc
  cases eu;exact⟨v1,.type t,T,_,rfl,Vh p et,X7 K t hc.1 T hc.2,q _ _ g1 ⟨DF.bl _,Nw.data⟩⟩
 .cases eu
def zBG(x:D)(ds:Qa D):Qb Bool:=(DT x).bind λw=>(ds.mapM DT).bind λws=>some<|yy w ws
def lO(neg:Bool)(a b:U):Qb U:=match a with
 | .d x=>b.items.bind λds=>(zBG x ds).bind λr=>some<|.d<|.bool (if neg=true then !r else r)
 | _=>none
theorem Bt(neg:Bool):VO K (rL K neg) (lO neg):=by
 intro x y a b u H Q ha hb e q;cases a with
 | d d=>
  have(ds,e1,e):=zb (show b.items.bind _=some u from e);have(r,e2,e):=zb e;have(w,e3,e2):=zb e2;have(ws,e4,e2):=zb e2;cases e2;cases e;have(p,ys,rfl,sq,df):=hb.items e1;have(rfl,f1):=MN ha e3;have(rfl,f2):=MM df e4;exact⟨p,_,rfl,sq,f1,f2,q _ _ (cz.refl H) (by cases neg<;>exact DF.bl _) Nw.data⟩
 | _=>cases e
end
section
variable{X:Cx}
end
section
variable{I:Qg}{fp wr:Qa Qg}{P:Nat->Qc->Prop}{St:Nat->Qd->Prop}
end
section
end
section
variable{X:Cx}
def LU(K:qc):R2:=λx y H Q=>FH K x y H Q\/∃ a b,x=.ref a/\y=.ref b/\bw K H a []/\(∃ ys,bw K H b ys)/\Q y H
end
section
variable{X:Cx}
theorem X6{t b:Qg}{ws:Qa Qc}(ht:IsTup s.heap t #[])(hb:IsTup s.heap b ws.toArray)(h:Q (.ref b) s):wpAny (model prog w) A (binaryOp .Add (.ref t)<|.ref b) Q E s:=by
 obtain⟨⟨c1,d1,o1,s1⟩,h1,z1,n1,y1⟩:=id ht;obtain⟨⟨c2,d2,o2,s2⟩,h2,z2,n2,y2⟩:=id hb;cases(show c1=_ from z1);cases(show c2=_ from z2);cases(show o1=_ from y1);cases(show o2=_ from y2);have mt:=tuple_addW0 t b #[] ws.toArray n1 n2 d1 d2 s1 s2 rfl;exact concat_meets ⟨_,h1,rfl⟩ ⟨_,h2,rfl⟩ noFill_tuple_add seq_tuple_add PySem.F.slot_tuple_add PySem.F.entry_tuple_add (PySem.F.args_tuple_add_2 _ _) mt ⟨h1,h2,h⟩
theorem CL(hK:X.K=K:=by rfl):bQ X (binaryOp .Add) (LU K):=by
 subst hK;intro pins s σ H x y v u Q I rx ry h;rcases h with h|⟨a,b,rfl,rfl,ha,⟨ys,hb⟩,q⟩
 .exact YR pins s σ H x y v u Q I rx ry h
 .cases rx
  cases ry;have(af,r1,p1,_):=I.tuple ha;have(bP,r2,p2,_):=I.tuple hb;cases r1;exact X6 p1 p2 ⟨.ref b,H,I,rfl,q⟩
def oY:U->U->Qb U
 | .d (.tuple []),.d (.tuple ys)=>some<|.d<|.tuple ys
 | a,b=>wX a b
theorem CK:VO K (LU K) oY:=by
 intro x y a b u H Q ha hb e q;unfold oY at e;split at e
 .cases e
  have(p,us,rfl,h1,h2):=DF.aD ha;have(p',fP,rfl,jy,ie):=DF.aD hb;cases h2;exact .inr ⟨p,p',rfl,rfl,(aK.sq h1),⟨fP,(aK.sq jy)⟩,q _ _ (cz.refl H) hb Nw.data⟩
 .exact .inl (Xz x y _ _ u H Q ha hb e q)
end
def nu(K:qc)(g:Qg)(ns:Qa Int):Prop:=∃ (o:Obj) (af:Array Qc) (n:Nat),K.lookup g=some o/\o.cls=.type "tuple"/\o.data=.seq af n/\af.size<=sizeLine/\zC (ns.map V.int) af.toList
section
variable{X:Cx}
end
theorem nr{α:Sort _}{a b:α}(h:a=b):a=b:=h
structure Ph {α:Type} (a:α):Type where
 n:Nat
def Wo(o:Qb α)(Q:α->Prop):Prop:=∃ a,o=some a/\Q a
def Co(f:α->Qb β)(t:Ph f)(Q:β->Prop)(a:α):Prop:=Wo (f a) Q
section
variable{a:α}{o:Qb α}{f:α->Qb β}{Q:α->Prop}{R:β->Prop}
theorem eC:Wo (some a) Q=Q a:=propext ⟨λ⟨_,e,h⟩=>(by cases e; exact h),λh=>⟨a,rfl,h⟩⟩
theorem zo:Wo (o.bind f) R=Wo o (Co f ⟨0⟩ R):=propext (by
 cases o with
 | none=>exact⟨λ⟨_,e,_⟩=>(by cases e),λ⟨_,e,_⟩=>(by cases e)⟩
 | some a=>rw[eC]; exact Iff.rfl)
theorem jN{t:Ph f}:Co f t R a=Wo (f a) R:=rfl
theorem oM{c:Prop}[Decidable c]{x y:Qb α}(h:c->Wo x Q)(h':¬c->Wo y Q):Wo (if c then x else y) Q:=by
 split
 .exact h ‹_›
 .exact h' ‹_›
end
section
variable{ρ:En}{me ma mb mc mk mi md my mv mo:ME}{mA mK:MA}{mt mu:MT}{mI:MI}{mg:MG}{m1 m2:MS}{u:U}{x:D}{mx:MX}{mXA:MXA}
variable{QE:Ar×En->Prop}{QA:Qa Ar×En->Prop}{QT:Bool×En->Prop}{QS:Fl->Prop}{QI:Qa D×En->Prop}{QO:Qb Int×En->Prop}{QG:En->Prop}{QX:RX Ar->Prop}{QXA:RX (Qa Ar)->Prop}{QR:D×En->Prop}{QF:U×Qa U->Prop}{QFX:(U×Qa U) ⊕ (D×Qa U)->Prop}
theorem Nk:Wo (zj i ρ) QE=Wo (ρ[i]?).join (Co (λ_=>some (.s i,ρ)) ⟨0⟩ QE):=by rw[UY,zo]
theorem KA:Wo (mC x ρ) QE=QE (.u<|.d x,ρ):=by rw[zBE,eC]
def AZ(f:U->U->Qb U)(a:Ar)(q:Ar×En):Qb (Ar×En):=(a.get q.2).bind λx=>(q.1.get q.2).bind λy=>(f x y).bind λu=>some (.u u,q.2)
def Jh(f:U->U->Qb U)(mb:ME)(p:Ar×En):Qb (Ar×En):=(mb p.2).bind (AZ f p.1)
theorem Wn{f:U->U->Qb U}:Wo (aj f ma mb ρ) QE=Wo (ma ρ) (Co (Jh f mb) ⟨0⟩ QE):=by rw[Uy,zo]; rfl
theorem ZW{f:U->U->Qb U}{p:Ar×En}:Wo (Jh f mb p) QE=Wo (mb p.2) (Co (AZ f p.1) ⟨0⟩ QE):=by unfold Jh; rw[zo]
theorem zAF{f:U->Qb U}:Wo (gM f ma ρ) QE=Wo (ma ρ) (Co (λp=>(p.1.get p.2).bind λx=>(f x).bind λu=>some (.u u,p.2)) ⟨0⟩ QE):=by rw[Ux,zo]
theorem Nj:Wo (zt ρ) QA=QA ([],ρ):=by rw[UX,eC]
theorem X5:Wo (zf me mA ρ) QA=Wo (me ρ) (Co (λp=>(mA p.2).bind λq=>some (p.1::q.1,q.2)) ⟨0⟩ QA):=by rw[Xx,zo]
theorem ZV:Wo (bq mA ρ) QE=Wo (mA ρ) (Co (λp=>(bt p.2 p.1).bind λus=>(km us).bind λds=>if ds.length<=sizeLine then some (.u<|.d<|.tuple ds,p.2)else none) ⟨0⟩ QE):=by rw[UW,zo]
theorem ZU:Wo (dU mA ρ) QE=Wo (mA ρ) (Co (λp=>(bt p.2 p.1).bind λus=>(km us).bind λds=>if ds.length<=sizeLine then some (.u<|.l ds,p.2)else none) ⟨0⟩ QE):=by rw[UU,zo]
theorem zAG{f:Qa U->Qb U}:Wo (cF f mA ρ) QE=Wo (mA ρ) (Co (λp=>(bt p.2 p.1).bind λus=>(f us).bind λu=>some (.u u,p.2)) ⟨0⟩ QE):=by rw[Uw,zo]
theorem Vg{f:FD}:Wo (aR f mA ρ) QE=Wo (mA ρ) (Co (λp=>if g8 p.2 p.1=true then(bt p.2 p.1).bind λus=>(f us).bind λo=>some (.u o.1,wb p.2 p.1 o.2)else none) ⟨0⟩ QE):=by rw[UT,zo]
theorem ZT:Wo (zG m1 m2 ρ) QS=Wo (m1 ρ) (Co (lV m2) ⟨0⟩ QS):=by rw[UR,zo]
theorem Vf:Wo (aV i me ρ) QS=Wo (me ρ) (Co (λp=>(put p).bind λq=>some<|.nx<|q.2.set i<|some q.1) ⟨0⟩ QS):=by rw[UQ,zo]
theorem ZS:Wo (bg me ρ) QS=Wo (me ρ) (Co (λp=>(put p).bind λq=>some<|.rt q.1 q.2) ⟨0⟩ QS):=by rw[UP,zo]
theorem znz:Wo (lY pn i ρ) QS=Wo (if i∈pn then none else(ρ[i]?).join.bind λu=>some<|.rt u<|ρ.set i none) QS:=by rw[Xw]
theorem Ou:Wo (du ρ) QS=QS (.nx ρ):=by rw[Yg,eC]
theorem X4:Wo (iV me ρ) QS=Wo (me ρ) (Co (λp=>some<|.nx p.2) ⟨0⟩ QS):=by rw[Yf,zo]
theorem Ve:Wo (cv mt m1 m2 ρ) QS=Wo (mt ρ) (Co (λp=>if p.1=true then m1 p.2 else m2 p.2) ⟨0⟩ QS):=by rw[UO,zo]
theorem ZR:Wo (ym mt ma mb ρ) QE=Wo (mt ρ) (Co (λp=>if p.1=true then ma p.2 else mb p.2) ⟨0⟩ QE):=by rw[zAc,zo]
theorem zBH:Wo (mB me ρ) QT=Wo (me ρ) (Co (λp=>(p.1.get p.2).bind λu=>u.Ax.bind λb=>some (b,p.2)) ⟨0⟩ QT):=by rw[zBF,zo]
theorem ZQ:Wo (uO mt mu ρ) QT=Wo (mt ρ) (Co (λp=>if p.1=true then mu p.2 else some (false,p.2)) ⟨0⟩ QT):=by rw[UN,zo]
theorem Wm:Wo (pJ mt mu ρ) QT=Wo (mt ρ) (Co (λp=>if p.1=true then some (true,p.2)else mu p.2) ⟨0⟩ QT):=by rw[zAd,zo]
theorem ZP:Wo (uN mt ρ) QT=Wo (mt ρ) (Co (λp=>some (!p.1,p.2)) ⟨0⟩ QT):=by rw[UM,zo]
theorem znA:Wo (sP ma mb ρ) QE=Wo (mB ma ρ) (Co (λp=>if p.1=true then mb p.2 else some (.u<|.d<|.bool false,p.2)) ⟨0⟩ QE):=by rw[Ye,zo]
theorem znB:Wo (w4 ma ρ) QE=Wo (mB ma ρ) (Co (λp=>some (.u<|.d<|.bool (!p.1),p.2)) ⟨0⟩ QE):=by rw[Yd,zo]
theorem ZO:Wo (AS ma ρ) QT=Wo (ma ρ) (Co (λp=>(p.1.get p.2).bind λu=>u.vV.bind λb=>some (b,p.2)) ⟨0⟩ QT):=by rw[UL,zo]
theorem ZN:Wo (lr ρ) QT=QT (true,ρ):=by rw[UK,eC]
theorem ZM:Wo (lW i me ρ) QE=Wo (ρ[i]?).join (Co (λw=>w.lo.bind λ_=>(me ρ).bind λp=>(p.1.get p.2).bind λu=>u.da.bind λx=>(p.2[i]?).join.bind λw=>w.lo.bind λxs=>if xs.length < sizeLine then some (.u<|.d .none,p.2.set i<|some<|.l<|xs++[x])else none) ⟨0⟩ QE):=by rw[UJ,zo]
theorem zkU:Wo (oR i me mi ρ) QS=Wo (ρ[i]?).join (Co (λ_=>(me ρ).bind λp=>(mi p.2).bind λq=>(p.1.get q.2).bind λu=>(q.1.get q.2).bind λw=>u.da.bind λx=>w.num.bind λk=>(q.2[i]?).join.bind λz=>z.lo.bind λxs=>(eI xs.length k).bind λj=>some<|.nx<|q.2.set i<|some<|.l<|xs.set j x) ⟨0⟩ QS):=by rw[zqW,zo]
def Fv(w:U)(y x:D):Qb U:=match w with
 | .t kvs=>(cn y).bind λk=>if kvs.length < sizeLine then some (.t<|dN kvs k x)else none
 | .k kvs=>(qO y).bind λk=>if kvs.length < sizeLine then some (.k<|dN kvs k x)else none
 | _=>none
theorem X3:oO i my mv ρ=(ρ[i]?).join.bind λ_=>(mv ρ).bind λp=>(my p.2).bind λq=>(p.1.get q.2).bind λx=>(q.1.get q.2).bind λy=>x.da.bind λx=>y.da.bind λy=>(q.2[i]?).join.bind λw=>(Fv w y x).bind λz=>some (.nx<|q.2.set i<|some z):=by
 unfold oO;refine bind_fn λ_=>bind_fn λp=>bind_fn λq=>bind_fn λx=>bind_fn λy=>?_;cases x with
 | l=>rfl
 | t=>rfl
 | k=>rfl
 | o=>rfl
 | d x=>
  cases y with
  | l=>rfl
  | t=>rfl
  | k=>rfl
  | o=>rfl
  | d y=>
   show _=((q.2[i]?).join.bind _);cases q.2[i]? with
   | none=>rfl
   | some o=>
    cases o with
    | none=>rfl
    | some w=>
     cases w with
     | l=>rfl
     | d=>rfl
     | o=>rfl
     | t kvs=>
      show(cn y).bind _=((cn y).bind _).bind _;cases cn y with
      | none=>rfl
      | some k=>
       show(if _ then _ else _)=(if _ then _ else _:Qb U).bind _;split<;>rfl
     | k kvs=>
      show(qO y).bind _=((qO y).bind _).bind _;cases qO y with
      | none=>rfl
      | some k=>
       show(if _ then _ else _)=(if _ then _ else _:Qb U).bind _;split<;>rfl
theorem znC:Wo (oO i my mv ρ) QS=Wo (ρ[i]?).join (Co (λ_=>(mv ρ).bind λp=>(my p.2).bind λq=>(p.1.get q.2).bind λx=>(q.1.get q.2).bind λy=>x.da.bind λx=>y.da.bind λy=>(q.2[i]?).join.bind λw=>(Fv w y x).bind λz=>some<|.nx<|q.2.set i<|some z) ⟨0⟩ QS):=by rw[X3,zo]
theorem znD:Wo (iq md my ρ) QE=Wo (md ρ) (Co (λp=>(my p.2).bind λq=>(p.1.get q.2).bind λu=>(q.1.get q.2).bind λy=>(j9 u y).bind λo=>o.bind λd=>some (.u<|.d d,q.2)) ⟨0⟩ QE):=by rw[Yc,zo]
theorem ZL{neg:Bool}:Wo (uM neg my md ρ) QE=Wo (my ρ) (Co (λq=>(md q.2).bind λp=>(p.1.get p.2).bind λu=>(q.1.get p.2).bind λy=>(j9 u y).bind λo=>some (.u<|.d<|.bool (if neg=true then !o.isSome else o.isSome),p.2)) ⟨0⟩ QE):=by rw[UI,zo]
theorem zkV:Wo (rh ρ) QE=QE (.u<|.t [],ρ):=by rw[zqX,eC]
theorem Wl:Wo (bL me ρ) QE=Wo (me ρ) (Co (λp=>(p.1.get p.2).bind λu=>u.fz.bind λx=>some (.u<|.d x,DL x p)) ⟨0⟩ QE):=by rw[zAg,zo]
theorem Wj{g:U->Qb (Qa D)}:Wo (bU g me ρ) QI=Wo (me ρ) (Co (λp=>(p.1.get p.2).bind λu=>(g u).bind λds=>some (ds,p.2)) ⟨0⟩ QI):=by rw[zAk,zo]
theorem Wi{n:Int}(h:-4611686018427387904<=n)(h2:n < 4611686018427387904):A7 [.d<|.int n]=some (iY 0 n.toNat):=by rw[UH,if_pos ⟨by omega,by omega⟩]
theorem znE:Wo (nK mA ρ) QI=Wo (mA ρ) (Co (λp=>(bt p.2 p.1).bind λus=>(A7 us).bind λds=>some (ds,p.2)) ⟨0⟩ QI):=by rw[Yb,zo]
def zBT:Qa U->Qb (Qa D)
 | [.d<|.int i,.d<|.int j]=>if -(2^62)<=i/\i < 2^62/\-(2^62)<=j/\j < 2^62 then some (iY i (j - i).toNat)else none
 | _=>none
def Fu:Qa U->Qb (Qa D)
 | [.d<|.tuple ds]=>some<|nU 0 ds
 | _=>none
theorem znF{ds:Qa D}:Fu [.d<|.tuple ds]=some (nU 0 ds):=rfl
theorem X2:wZ mA ρ=(mA ρ).bind λp=>(bt p.2 p.1).bind λus=>(Fu us).bind λds=>some (ds,p.2):=bind_fn λp=>bind_fn λus=>by
 match us with
 | []=>rfl
 | [.d x]=>cases x<;>rfl
 | [.l _]=>rfl
 | [.t _]=>rfl
 | [.k _]=>rfl
 | [.o _ _]=>rfl
 | .d x::b::us=>cases x<;>rfl
 | .l x::b::us=>rfl
 | .t x::b::us=>rfl
 | .k x::b::us=>rfl
 | .o x y::b::us=>rfl
theorem znG:Wo (wZ mA ρ) QI=Wo (mA ρ) (Co (λp=>(bt p.2 p.1).bind λus=>(Fu us).bind λds=>some (ds,p.2)) ⟨0⟩ QI):=by rw[X2,zo]
theorem ZK:Wo (cO mI mg m1 ρ) QS=Wo (mI ρ) (Co (λp=>gD mg m1 p.1 p.2) ⟨0⟩ QS):=by rw[UG,zo]
theorem ZJ:Wo (hX mI nt js mg mt me ρ) QE=Wo (mI ρ) (Co (λp=>(jt nt mg mt me p.1 (dM nt js p.2) []).bind λq=>some (.u<|.l q.1,back js (q.2.drop nt) p.2)) ⟨0⟩ QE):=by rw[zAl,zo]
theorem Wh{f:U->Qb Int->Qb Int->Qb U}{ml mh:MO}:Wo (yk f me ml mh ρ) QE=Wo (me ρ) (Co (λp=>(ml p.2).bind λl=>(mh l.2).bind λh=>(p.1.get h.2).bind λx=>(f x l.1 h.1).bind λu=>some (.u u,h.2)) ⟨0⟩ QE):=by rw[zAm,zo]
theorem ziS:Wo (xC ρ) QO=QO (none,ρ):=by rw[zpf,eC]
theorem znH:Wo (wY me ρ) QO=Wo (me ρ) (Co (λp=>(p.1.get p.2).bind λu=>u.num.bind λi=>some (some i,p.2)) ⟨0⟩ QO):=by rw[Ya,zo]
theorem ZI:Wo (AR i j mA ρ) QS=Wo (mA ρ) (Co (λp=>(bt p.2 p.1).bind λus=>(Eu us).bind λz=>some<|.nx<|(p.2.set i<|some<|.d z.1).set j<|some<|.d z.2) ⟨0⟩ QS):=by rw[UE,zo]
theorem zkW:Wo (zy i x ρ) QG=QG (ρ.set i<|some<|.d x):=by rw[zq1,eC]
theorem znI{gs:Qa D->En->Qb En}{ds:Qa D}:Wo (fJ n gs (.tuple ds) ρ) QG=Wo (if ds.length=n then gs ds ρ else none) QG:=by rw[X9]
theorem zkX{g:MG}{gs:Qa D->En->Qb En}{ds:Qa D}:Wo (zQ g gs (x::ds) ρ) QG=Wo (g x ρ) (Co (λρ1=>gs ds ρ1) ⟨0⟩ QG):=by rw[zq2,zo]
theorem znJ:Wo (gq [] ρ) QG=QG ρ:=by rw[X8,eC]
def x1:Qa D->Qb D
 | [x]=>some x
 | _=>none
theorem ZH{us:Qa U}:Wo (bF n pn m1 us) QF=Wo (m1<|sm us++List.replicate (n - us.length) none) (Co (A6 pn us) ⟨0⟩ QF):=by rw[UC,zo]
def qY(Q:Fl->Prop)(P:En->Prop):Fl->Prop
 | .nx ρ=>P ρ
 | .ct ρ=>P ρ
 | .bk ρ=>Q<|.nx ρ
 | .rt u ρ=>Q<|.rt u ρ
 | .ex x ρ=>Q<|.ex x ρ
theorem zkY{Q:Fl->Prop}{P:En->Prop}:qY Q P (.nx ρ)=P ρ:=rfl
theorem zkZ{Q:Fl->Prop}{P:En->Prop}:qY Q P (.rt u ρ)=Q (.rt u ρ):=rfl
theorem GO{Q:Fl->Prop}(P:Nat->En->Prop){ds:Qa D}(h0:P 0 ρ)(st:∀ i d ρ,ds[i]?=some d->P i ρ->Wo (mg d ρ) (Co m1 ⟨0⟩<|qY Q<|P<|i+1))(hQ:∀ ρ,P ds.length ρ->Q (.nx ρ)):Wo (gD mg m1 ds ρ) Q:=by
 have main:∀ (es:Qa D) (n:Nat) (ρ:En),n+es.length=ds.length->(∀ i,es[i]?=ds[n+i]?)->P n ρ->Wo (gD mg m1 es ρ) Q:=by
  intro es
  induction es with
  | nil=>
   intro n ρ hn _ hp;show Wo (some _) Q;rw[eC];rw[List.length_nil,Nat.add_zero]at hn;exact hQ ρ<|hn▸hp
  | cons d es ih=>
   intro n ρ hn he hp;have e0:=he 0;rw[List.getElem?_cons_zero,Nat.add_zero]at e0;have(ρ1,e1,f,e2,k):=st n d ρ e0.symm hp;have mN:∀ au,P (n+1) au->Wo (gD mg m1 es au) Q:=λau z=>ih (n+1) au (by rw[qu]at hn; omega) (λi=>by
    have:=he (i+1);rw[List.getElem?_cons_succ]at this;rw[this,show n+(i+1)=n+1+i by omega]) z
   unfold gD;rw[zo];refine⟨ρ1,e1,?_⟩;rw[jN,zo];refine⟨f,e2,?_⟩;rw[jN];cases f with
   | nx au=>exact mN au k
   | ct au=>exact mN au k
   | bk au=>exact⟨_,rfl,k⟩
   | rt u au=>exact⟨_,rfl,k⟩
   | ex x au=>exact⟨_,rfl,k⟩
 exact main ds 0 ρ (by omega) (λi=>by rw[Nat.zero_add]) h0
theorem hG{g:α->D}{Q:Fl->Prop}(P:Qa α->Qa α->En->Prop)(h0:P [] as ρ)(st:∀ bs a cs ρ,as=bs++a::cs->P bs (a::cs) ρ->Wo (mg (g a) ρ) (Co m1 ⟨0⟩<|qY Q<|P (bs++[a]) cs))(hQ:∀ ρ,P as [] ρ->Q (.nx ρ)):Wo (gD mg m1 (as.map g) ρ) Q:=by
 have main:∀ (cs bs:Qa α) (ρ:En),as=bs++cs->P bs cs ρ->Wo (gD mg m1 (cs.map g) ρ) Q:=by
  intro cs
  induction cs with
  | nil=>
   intro bs ρ e hp;rw[List.append_nil]at e;subst e;exact⟨_,rfl,hQ ρ hp⟩
  | cons a cs ih=>
   intro bs ρ e hp;have(ρ1,e1,f,e2,k):=st bs a cs ρ e hp;have mN:∀ au,P (bs++[a]) cs au->Wo (gD mg m1 (cs.map g) au) Q:=λau z=>ih (bs++[a]) au (by rw[e,List.append_assoc]; rfl) z;rw[List.map_cons];unfold gD;rw[zo];refine⟨ρ1,e1,?_⟩;rw[jN,zo];refine⟨f,e2,?_⟩;rw[jN];cases f with
   | nx au=>exact mN au k
   | ct au=>exact mN au k
   | bk au=>exact⟨_,rfl,k⟩
   | rt u au=>exact⟨_,rfl,k⟩
   | ex x au=>exact⟨_,rfl,k⟩
 exact main as [] ρ rfl h0
def v9(nt:Nat)(me:ME)(ys:Qa D)(P:En->Qa D->Prop)(p:Bool×En):Prop:=if p.1=true then Wo (me p.2) (Co (λq=>(q.1.get q.2).bind λu=>u.da.bind λy=>some (reset nt q.2,ys++[y])) ⟨0⟩ λz=>P z.1 z.2)else P (reset nt p.2) ys
theorem Wg{ys:Qa D}{P:En->Qa D->Prop}:v9 nt me ys P (true,ρ)=Wo (me ρ) (Co (λq=>(q.1.get q.2).bind λu=>u.da.bind λy=>some (reset nt q.2,ys++[y])) ⟨0⟩ λz=>P z.1 z.2):=rfl
theorem Wf{ys:Qa D}{P:En->Qa D->Prop}:v9 nt me ys P (false,ρ)=P (reset nt ρ) ys:=rfl
theorem By{Q:Qa D×En->Prop}(P:Nat->En->Qa D->Prop){ds:Qa D}(hz:ds.length<=sizeLine)(hP:∀ i ρ ys,P i ρ ys->ys.length<=i)(h0:P 0 ρ [])(st:∀ i d ρ ys,ds[i]?=some d->P i ρ ys->Wo (mg d ρ) (Co mt ⟨0⟩<|v9 nt me ys<|P<|i+1))(hQ:∀ ρ ys,P ds.length ρ ys->Q (ys,ρ)):Wo (jt nt mg mt me ds ρ []) Q:=by
 have main:∀ (es:Qa D) (n:Nat) (ρ:En) (ys:Qa D),n+es.length=ds.length->(∀ i,es[i]?=ds[n+i]?)->P n ρ ys->Wo (jt nt mg mt me es ρ ys) Q:=by
  intro es
  induction es with
  | nil=>
   intro n ρ ys hn _ hp;rw[List.length_nil,Nat.add_zero]at hn;exact⟨_,rfl,hQ ρ ys<|hn▸hp⟩
  | cons d es ih=>
   intro n ρ ys hn he hp;have e0:=he 0;rw[List.getElem?_cons_zero,Nat.add_zero]at e0;obtain⟨ρ1,e1,⟨b,au⟩,e2,k⟩:=st n d ρ ys e0.symm hp;have hl:=hP _ _ _ hp;rw[qu]at hn;have mN:∀ au Dp,P (n+1) au Dp->Wo (jt nt mg mt me es au Dp) Q:=λau Dp z=>ih (n+1) au Dp (by omega) (λi=>by
    have:=he (i+1);rw[List.getElem?_cons_succ]at this;rw[this,show n+(i+1)=n+1+i by omega]) z
   unfold jt;rw[if_pos (by omega),zo];refine⟨ρ1,e1,?_⟩;rw[jN,zo];refine⟨_,e2,?_⟩;rw[jN];cases b with
   | false=>rw[if_neg qf]; exact mN _ _ k
   | true=>
    rw[if_pos rfl,zo];have(q,e3,k):=k;refine⟨q,e3,?_⟩;rw[jN,zo]at k ⊢;have(u,e4,k):=k;refine⟨u,e4,?_⟩;rw[jN,zo]at k;have(y,e5,z,e6,k):=k;cases u with
    | d y'=>cases e5; cases e6; exact mN _ _ k
    | l=>cases e5
    | t=>cases e5
    | k=>cases e5
    | o=>cases e5
 exact main ds 0 ρ [] (by omega) (λi=>by rw[Nat.zero_add]) h0
theorem ZG{Q:Fl->Prop}(P:Nat->En->Prop)(k:Nat)(h0:P k ρ)(st:∀ k ρ,P k ρ->Wo (mt ρ) λp=>if p.1=true then Wo (m1 p.2) (qY Q λah=>∃ k',k' < k/\P k' ah)else Q (.nx p.2)):Wo (vp mt m1 ρ) Q:=by
 have main:∀ (k:Nat) (ρ:En),P k ρ->∃ n f,iw mt m1 n ρ=some f/\Q f:=by
  intro k
  induction k using Nat.strongRecOn with
  | ind k ih=>
   intro ρ hp;obtain⟨⟨b,ρ1⟩,e1,z⟩:=st k ρ hp;cases b with
   | false=>
    rw[if_neg qf]at z;exact⟨1,_,by unfold iw; rw[e1]; rfl,z⟩
   | true=>
    rw[if_pos rfl]at z;have(f,e2,z):=z;have mN:∀ au,(∃ k',k' < k/\P k' au)->f=.nx au\/f=.ct au->∃ n f,iw mt m1 n ρ=some f/\Q f:=by
     rintro au ⟨k',hk,pS⟩ hf;have(n,f',e3,q):=ih k' hk au pS;refine⟨n+1,f',?_,q⟩;unfold iw;rw[e1,bd,if_pos rfl,e2,bd];rcases hf with rfl|rfl<;>exact e3
    cases f with
    | nx au=>exact mN au z<|.inl rfl
    | ct au=>exact mN au z<|.inr rfl
    | bk au=>exact⟨1,_,by unfold iw; rw[e1,bd,if_pos rfl,e2]; rfl,z⟩
    | rt u au=>exact⟨1,_,by unfold iw; rw[e1,bd,if_pos rfl,e2]; rfl,z⟩
    | ex u au=>exact⟨1,_,by unfold iw; rw[e1,bd,if_pos rfl,e2]; rfl,z⟩
 have(n,f,e,q):=main k ρ h0;exact⟨f,zqN e,q⟩
end
theorem tG{o:Qb α}{b:α}(h:Wo o (λa=>a=b)):o=some b:=by
 have(a,e,rfl):=h;exact e
theorem wL:sizeLine=16777216:=Eq.trans zl (Eq.symm<|Eq.symm<|Nat.add_zero _)
theorem ZF{dc:Decidable (n < 16777216)}{a b:Qb α}(h:n < 16777216):(if n < 16777216 then a else b)=a:=if_pos h
theorem KH{lo:Int}{d:D}(h:(iY lo n)[i]?=some d):i < n/\d=.int (lo+(i:Nat)):=OH h
theorem F6{lo:Int}:(iY lo n).length=n:=by
 unfold iY;rw[List.length_map,List.length_range]
theorem w9{ρ:En}{mg:MG}{m1:MS}{Q:Fl->Prop}(P:Nat->En->Prop)(h0:P 0 ρ)(st:∀ i ρ,i < n->P i ρ->Wo (mg (.int<|0+(i:Nat)) ρ) (Co m1 ⟨0⟩<|qY Q<|P<|i+1))(hQ:∀ ρ,P n ρ->Q (.nx ρ)):Wo (gD mg m1 (iY 0 n) ρ) Q :=
 GO P h0 (λi d ρ hd hp=>by
  have(hi,rfl):=KH hd;exact st i ρ hi hp) λρ hp=>hQ ρ (by rw[F6]at hp; exact hp)
theorem Nd{ρ:En}{mg:MG}{mt:MT}{me:ME}{Q:Qa D×En->Prop}(P:Nat->En->Qa D->Prop)(hz:n<=sizeLine)(h0:P 0 ρ [])(hP:∀ i ρ ys,P i ρ ys->ys.length<=i)(st:∀ i ρ ys,i < n->P i ρ ys->Wo (mg (.int<|0+(i:Nat)) ρ) (Co mt ⟨0⟩<|v9 nt me ys<|P<|i+1))(hQ:∀ ρ ys,P n ρ ys->Q (ys,ρ)):Wo (jt nt mg mt me (iY 0 n) ρ []) Q :=
 By P (by rw[F6]; exact hz) hP h0 (λi d ρ ys hd hp=>by
  have(hi,rfl):=KH hd;exact st i ρ ys hi hp) λρ ys hp=>hQ ρ ys (by rw[F6]at hp; exact hp)
def uK(n:Nat)(z:Str):Prop:=z.length<=n/\∀ c∈z.cps.toList,c < 128
theorem Ot{xs ys:Qa D}(h:xs.length+ys.length<=16777216):oY (.d<|.tuple xs) (.d<|.tuple ys)=some (.d<|.tuple<|xs++ys):=by
 cases xs with
 | nil=>rfl
 | cons x xs=>
  show wX (.d<|.tuple<|x::xs) (.d<|.tuple ys)=_;unfold wX;dsimp only;rw[if_pos ⟨by simp,by rw[zl]; exact h⟩]
theorem We{xs:Qa D}:wC "tuple" (.d<|.tuple xs)=some (.d<|.bool true):=rfl
theorem ZE{a b:String}:(PySem.Str.ofString a=PySem.Str.ofString b)=(a=b):=propext ⟨λh=>by
 rw[PySem.Str.ofString_eq_toList,PySem.Str.ofString_eq_toList]at h;have h1:=congrArg (λz:Str=>z.cps.toList) h;dsimp only at h1;exact String.toList_inj.mp<|List.map_inj_right (λx y e=>Char.ext<|UInt32.toNat_inj.mp e) |>.mp h1,λh=>by rw[h]⟩
theorem zBI{xs:Qa D}{k:Int}(h:0<=k):j8 xs none (some k)=xs.take k.toNat:=by
 have e:k=((k.toNat:Nat):Int):=by omega
 unfold j8;rw[e,HT.jX,HT.iE,List.drop_zero,Nat.sub_zero];rw[show((k.toNat:Nat):Int).toNat=k.toNat by omega];rw[Nat.min_def];split
 .rfl
 .rw[List.take_of_length_le<|qe _,List.take_of_length_le (by omega)]
theorem Om{xs:Qa D}{k:Int}(h:0<=k):j8 xs (some k) none=xs.drop k.toNat:=by
 have e:k=((k.toNat:Nat):Int):=by omega
 unfold j8;rw[e,HT.jX,HT.iE];rw[show((k.toNat:Nat):Int).toNat=k.toNat by omega];rw[Nat.min_def];split
 .rw[List.take_of_length_le (by rw[List.length_drop]; omega)]
 .rw[List.drop_of_length_le (by omega),List.drop_of_length_le (by omega),List.take_nil]
structure gU (k M:Nat) (d:D):Prop where
 lay:d.canLay0=true
 iK:d.depth<=k
 shw:d.showable=true
 len:d.shown.length<=M
theorem gU.mono{k M k' M':Nat}{d:D}(h:gU k M d)(h1:k<=k')(h2:M<=M'):gU k' M' d:=⟨h.lay,qy h.iK h1,h.shw,qy h.len h2⟩
theorem vG{i:Int}(h:i.natAbs < 10^n)(h0:0 < n:=by decide)(h1:n<=470:=by decide):gU 0 (n+1) (.int i):=by
 refine⟨rfl,by simp[PyData.depth],?_,?_⟩
 .show decide (i.natAbs.log2 < 1920)=true
  refine decide_eq_true ?_
  by_cases z:i.natAbs=0
  .rw[z]; decide
  .have e1:10^n<=16^n:=Nat.pow_le_pow_left (by decide) n
   have e2:16^n=2^(4 * n):=by rw[Nat.pow_mul]
   have e3:i.natAbs < 2^(4 * n):=by rw[<-e2]; exact qi h e1
   exact qi ((Nat.log2_lt z).mpr e3) (by omega)
 .show(PySem.Str.ofString<|toString i).length<=n+1
  rw[PySem.ofString_length];exact PySem.int_text_length_le10 h0 h
theorem GN{z:Str}(h:uK n z):gU 0 (10 * n+2) (.str z):=by
 refine⟨?_,by simp[PyData.depth],rfl,?_⟩
 .show z.cps.all (· < 0x110000)=true
  rw[Array.all_eq_true'];intro c hc;have:=h.2 c (Array.mem_toList_iff.mpr hc);exact decide_eq_true (by omega)
 .have:=PySem.StrLaws.reprText_len z λc hc=>ù (h.2 c hc) (by decide)
  have:=h.1;show(reprText z).length<=_;omega
theorem Na{k M:Nat}:∀ {ds:Qa D},(∀ d∈ds,gU k M d)->PyData.canLayAll0 ds=true/\PyData.depthAll ds<=k/\PyData.showableAll ds=true/\((PyData.shownAll ds).map (·.length)).sum+2 * ds.length<=ds.length * (M+2)
 | [],_=>⟨rfl,by simp[PyData.depthAll],rfl,by simp[PyData.shownAll]⟩
 | d::ds,h=>by
  have(a0,a1,a2,a3):=Na (ds:=ds) λx hx=>h x<|qo _ hx;have(b0,b1,b2,b3):=h d qp;refine⟨?_,?_,?_,?_⟩
  .show(d.canLay0 && PyData.canLayAll0 ds)=true
   rw[a0,b0];rfl
  .simp only[PyData.depthAll]
   omega
  .show(d.showable && PyData.showableAll ds)=true
   rw[a2,b2];rfl
  .show((d.shown::PyData.shownAll ds).map (·.length)).sum+_<=_
   rw[List.map_cons,List.sum_cons,qu,Nat.add_mul,Nat.one_mul];omega
theorem tE{k M:Nat}{ds:Qa D}(h:∀ d∈ds,gU k M d)(hn:ds.length<=n):gU (k+1) (n * (M+2)+3) (.tuple ds):=by
 have(a0,a1,a2,a3):=Na h;refine⟨a0,?_,a2,?_⟩
 .simp only[PyData.depth]
  omega
 .have:=tupleText_len_le (PyData.shownAll ds)
  have e:=PyData.shownAll_length ds;have m:ds.length * (M+2)<=n * (M+2):=Ø _ hn;show(tupleText<|PyData.shownAll ds).length<=_;omega
theorem gU.shaped{k M:Nat}{d:D}(h:gU k M d)(hk:k<=64):SeqAt.shaped d=true:=by
 unfold SeqAt.shaped;rw[h.lay,Bool.true_and];exact decide_eq_true<|qy h.iK hk
theorem gU.wq{k M k' M':Nat}{a b:D}{neg:Bool}(ha:gU k M a)(hb:gU k' M' b)(hk:k<=64)(jx:k'<=64):jL neg (.d a) (.d b)=some (.d<|.bool (if neg=true then !PyData.eqv a b else PyData.eqv a b)):=by
 have ea:U.py (.d a)=some a:=rfl;have eb:U.py (.d b)=some b:=rfl;unfold jL;rw[ea,bd,eb,bd,if_pos ⟨ha.shaped hk,hb.shaped jx⟩]
section
variable{X:Cx}
end
section
variable{X:Cx}
end
section
def zBU:U->Qb U
 | .d (.int i)=>if i.natAbs.log2 < 1920 then some (.d<|.str<|toString i)else none
 | .d (.str z)=>if z.length<=sizeLine then some (.d<|.str z)else none
 | _=>none
abbrev MJ:=En->Str->Qb (Str×En)
def U.sr:U->Qb Str
 | .d (.str z)=>some z
 | _=>none
end
section
variable{ρ:En}{me:ME}{mj:MJ}{QE:Ar×En->Prop}{QJ:Str×En->Prop}{acc z y:Str}{i:Int}
end
end L2
namespace L2
open PySem PySem.Spec PyProof.Rows PySem.NumText
abbrev ts(n:Int):Str:=PySem.Str.ofString (toString n)
end L2
namespace L2
open PySem PySem.Spec PyProof.Rows
section
variable{X:Cx}{f:Expr}{tx:TE}{k:Nat}
theorem M9(hr:aA k X.A)(ho:Wr (PE X o td))(he:Wr (PE X e ty))(hf:Wr (PE X f tx))(m:M2 X o "get" apos e f aM):Wr (PE X (.Call (.Attribute o "get" apos) [e,f] [] aM)<|Gm X.K td ty tx):=⟨zqi (sL hr) ho.run he.run hf.run m⟩
end
section
def qX:U->Bool
 | .t _=>true
 | .k _=>true
 | .d (.dict kvs)=>kM kvs
 | _=>false
theorem Ol{x:V}{u:U}(h:Rp K H x u)(e:qX u=true):∃ a,x=.ref a/\Ec H a:=by
 unfold qX at e;split at e
 .have(a,ws,rfl,h1,_):=h
  exact⟨a,rfl,.inr ⟨_,.inl h1⟩⟩
 .have(a,ws,rfl,h1,_):=h
  exact⟨a,rfl,.inl ⟨_,.inl h1⟩⟩
 .have(a,ob,ws,rfl,h1,_):=DF.b6 h e
  exact⟨a,rfl,.inr ⟨_,.inr ⟨ob,h1⟩⟩⟩
 .cases e
def vn(md my mx:ME):ME:=λρ=>(md ρ).bind λp=>(p.1.get p.2).bind λu0=>if qX u0=true then(my p.2).bind λq=>(mx q.2).bind λz=>(p.1.get z.2).bind λu=>(q.1.get z.2).bind λy=>(z.1.get z.2).bind λx=>(j9 u y).bind λo=>match x with
 | .d x=>some (.u<|.d<|o.getD x,z.2)
 | _=>none else none
theorem M8{tx:TE}{md my mx:ME}(hd:VE K td md)(hy:VE K ty my)(hx:VE K tx mx):VE K (Gm K td ty tx) (vn md my mx):=by
 intro ρ σ H a ah Q r e q;obtain⟨⟨a1,ρ1⟩,e1,e⟩:=zb e;have(u0,e0,e):=zb e;split at e
 rotate_left
 .cases e
 rename_i hu0;obtain⟨⟨b1,au⟩,e2,e⟩:=zb e;obtain⟨⟨c1,jb⟩,e3,e⟩:=zb e;have(u,eu,e):=zb e;have(y,ey,e):=zb e;have(x,ex,e):=zb e;have(o,eo,e):=zb e;split at e
 rotate_left
 .cases e
 cases e;refine hd ρ σ H a1 ρ1 _ r e1 λv1 H1 g1 k1=>?_;have(b,rfl,hb):=Ol (k1.now r g1 e0) hu0;refine⟨b,rfl,hb,hy ρ1 σ H1 b1 _ _ g1.rs e2 λv2 H2 g2 k2=>hx au σ H2 c1 _ _ g2.rs e3 λv3 H3 g3 k3=>?_⟩;have(b',eb,h):=Gu (k1.later r g1 (g2.trans g3) eu) (k2.later g1.rs g2 g3 ey) eo;cases eb;have p3:=k3.now g2.rs g3 ex;rcases h with⟨w,d',rfl,g,p⟩|⟨rfl,g⟩
 .exact⟨_,g,q w H3 ((g1.trans g2).trans g3) ⟨p,Nw.data⟩⟩
 .exact⟨_,g,q v3 H3 ((g1.trans g2).trans g3) ⟨p3,Nw.data⟩⟩
end
theorem ZD:Manifest.canonical (String.map (λc=>if(c.isAlphanum || c=='_' || c=='.')=true then c else '_') "dict_itemiterator.__iter__") ++ "" = "dict_keyiterator.__iter__":=by decide +kernel
theorem ZC:entryFor table "dict_itemiterator.__iter__"=some Builtin.«dict_keyiterator.__iter__»:=entryFor_alias (by kernel_rfl) (by kernel_rfl) ZD (by kernel_rfl)
section
variable{ok ov:Qc}
theorem iU{T:Qc}{vs:Array Qc}{x:Qc}{Q:Unit->Qd->Prop}(e:s.heap.get? it=some {cls:=T,data:=.fields vs})(hj:j < vs.size)
  (q:∀ h':Heap,h'.get? it=some {cls:=T,data:=.fields (vs.setIfInBounds j x)}->h'.objs.size=s.heap.objs.size->(∀ b o,b≠it->s.heap.get? b=some o->h'.get? b=some o)->Q () {s with heap:=h'}):wpAny (model prog w) A (setField (.ref it) j x) Q E s:=by
 refine wpAny_setField e rfl hj<|q _ ?_ ?_ λb o hb z=>?_
 .exact Ð _ e (Obj.isFreed_of_fields<|Obj.data_mapFields rfl _)
 .exact Heap.size_update ..
 .exact((Ë ..).2 b hb).trans z
theorem zph{Q:Qb Qc->Qd->Prop}(k:IsItemIter s.heap it d i es.size ep ok ov)(r:kl s.heap d es ep){x:DictEntry}(hx:es[i]?=some x)
  (q:∀ h':Heap,IsItemIterOut h' it d (i+1) es.size ep x.key x.val s.heap.objs.size->h'.get? s.heap.objs.size=some {cls:=.type "tuple",data:=.seq #[x.key,x.val]}->(∀ b o,b≠it->s.heap.get? b=some o->h'.get? b=some o)->Q (some<|.ref s.heap.objs.size) {s with heap:=h'}):wpAny (model prog w) A (pyNext<|.ref it) Q E s:=by
 have kT:s.TypeIs (.ref it) "dict_itemiterator":=⟨_,k,rfl⟩;have(o,e,_,dat):=r;have gJ:s.heap.objs.size≠it:=Ne.symm (qj<|qh k);unfold pyNext;refine qa<|wpAny_attempt (wpAny_callSpecial?_slot (name:=Str.ofString "__next__") kT Ã
  (wpAny_call_entry Ã kT à ?_<|Þ _))
 refine qa<|qb<|qa<|qa ?_;refine qa<|wpAny_typeNameOfWhole_itemiter kT<|qb<|qa<|wpAny_fieldsOf k rfl ?_;simp only[show Builtin.Dict_items.ownsTuple "dict_itemiterator"=true by decide,if_true];show wpAny _ _ (if(Value.ref d==Value.none)=true then _ else _) _ _ s;rw[if_neg (show ¬((Value.ref d==Value.none)=true) from qf)];refine qa<|qb<|qa<|wpAny_dictEntries e dat ?_;rw[if_neg (by simp)];refine qa<|qb<|qa<|wpAny_dictEpoch e dat ?_;rw[if_neg (by simp)];refine qb ?_;simp only[show ¬((i:Int) < 0) from by omega,if_false,Int.toNat_natCast,hx];refine qa<|qa<|wpAny_typeNameOfWhole_itemiter kT<|qb<|qa<|wpAny_isOneOf_itemiter kT ?_;show wpAny _ _ (setField (.ref it) 3 (rawInt<|(i:Int)+1) >>= _) _ _ s;refine qa<|iU k (by simp) λh1 k1 z1 f1=>?_;refine qa<|wpAny_holding ?_;have yu:Shared.TypeIs {s with heap:=h1} (.ref it) "dict_itemiterator":=⟨_,k1,rfl⟩;refine qa<|wpAny_isOneOf_itemiter yu ?_;show wpAny _ _ (Builtin.Dict_items.isOneOf (.ref it) _ >>= _) _ _ _;refine qa<|wpAny_isOneOf_itemiter yu ?_;show wpAny _ _ (Builtin.Dict_items.pairFromOwner (.ref it) 6 x.key x.val) _ _ _;unfold Builtin.Dict_items.pairFromOwner;simp only[newTuple];refine qa<|qA ?_ (by show(2:Nat)<=sizeLine; decide);have k2:(h1.push {cls:=.type "tuple",data:=.seq #[x.key,x.val]}).get? it=_:=qd _ k1;have t2:(h1.push {cls:=.type "tuple",data:=.seq #[x.key,x.val]}).get? h1.objs.size=_:=qg _ rfl;have f2:∀ b o,b≠it->s.heap.get? b=some o->(h1.push {cls:=.type "tuple",data:=.seq #[x.key,x.val]}).get? b=some o:=λb o hb z=>qd _<|f1 b o hb z;rw[z1]at t2;show wpAny _ _ _ _ _ {s with heap:=h1.push {cls:=.type "tuple",data:=.seq #[x.key,x.val]}};generalize h1.push {cls:=.type "tuple",data:=.seq #[x.key,x.val]}=h2 at k2 t2 f2 ⊢;rw[z1];unfold Builtin.Dict_items.ownedTupleIsFree;refine qa<|qa<|wpAny_field k2 rfl (x:=.none) rfl<|qb ?_;show wpAny _ _ (if true=true then _ else _) _ _ _;rw[if_pos rfl];show wpAny _ _ (field (.ref it) 6 >>= _) _ _ _;refine qa<|wpAny_field k2 rfl (x:=ok) rfl ?_;refine qa<|wpAny_field k2 rfl (x:=ov) rfl ?_;refine qa<|iU k2 (by simp) λh3 k3 z3 f3=>?_;refine qa<|iU k3 (by simp) λh4 k4 z4 f4=>?_;refine qa<|iU k4 (by simp) λh5 k5 z5 f5=>?_;refine qa<|iU k5 (by simp) λh6 k6 z6 f6=>?_;refine qa<|wpAny_letGo<|qb<|qb ⟨_,rfl,qb<|q _ ?_ ?_ λb o hb z=>?_⟩
 .show h6.get? it=_
  rw[k6];rfl
 .exact f6 _ _ gJ (f5 _ _ gJ<|f4 _ _ gJ<|f3 _ _ gJ t2)
 .exact f6 b o hb (f5 b o hb<|f4 b o hb<|f3 b o hb<|f2 b o hb z)
theorem zrA{Q:Qb Qc->Qd->Prop}(hh:A.handled=none)(k:IsItemIter s.heap it d i es.size ep ok ov)(r:kl s.heap d es ep)(hx:es.size<=i)
  (q:∀ h':Heap,Heap.ExtBut it s.heap h'->Q none {s with heap:=h'}):wpAny (model prog w) A (pyNext<|.ref it) Q E s:=by
 have kT:s.TypeIs (.ref it) "dict_itemiterator":=⟨_,k,rfl⟩;have(o,e,_,dat):=r;unfold pyNext;refine qa<|wpAny_attempt (wpAny_callSpecial?_slot (name:=Str.ofString "__next__") kT Ã
  (wpAny_call_entry Ã kT à ?_<|Þ _))
 refine qa<|qb<|qa<|qa ?_;refine qa<|wpAny_typeNameOfWhole_itemiter kT<|qb<|qa<|wpAny_fieldsOf k rfl ?_;simp only[show Builtin.Dict_items.ownsTuple "dict_itemiterator"=true by decide,if_true];show wpAny _ _ (if(Value.ref d==Value.none)=true then _ else _) _ _ s;rw[if_neg (show ¬((Value.ref d==Value.none)=true) from qf)];refine qa<|qb<|qa<|wpAny_dictEntries e dat ?_;rw[if_neg (by simp)];refine qa<|qb<|qa<|wpAny_dictEpoch e dat ?_;rw[if_neg (by simp)];refine qb ?_;simp only[show ¬((i:Int) < 0) from by omega,if_false,Int.toNat_natCast,Array.getElem?_eq_none hx];refine qa<|qa<|wpAny_typeNameOfWhole_itemiter kT<|qb ?_;show wpAny _ _ (setField (.ref it) 2 .none >>= _) _ _ s;refine qa<|wpAny_setField k rfl (by simp) ?_;show wpAny _ _ (newExc (.type "StopIteration") [] >>= _) _ _ _;refine qa ?_;simp only[newExc,newTuple];refine qa<|qA ?_ (by show(0:Nat)<=sizeLine; exact Å _);refine qa (m:=firstArgMember _ _)<|wpAny_of_eq (a:=Value.none) (by first|rfl | (simp only[firstArgMember]; rfl)) ?_;refine qA ?_ (by first|trivial|size_fits);simp only[raiseNew];refine qa<|wpAny_handled ?_;rw[show A.in1.handled=none from hh];refine qa<|qb<|wpAny_throw ?_;refine qa<|wpAny_isInstance (T := "StopIteration") (b:=true) ⟨_,qg _ rfl,rfl⟩ isSubtype_stop ?_;exact qb<|q _<|((Ë ..).extBut.push _).push _
theorem OG(hd:(d==sysModules)=false)(r:kl s.heap d es ep)
  (q:Q (.ref s.heap.objs.size) {s with heap:=s.heap.push {cls:=.type "dict_items",data:=.fields #[.ref d]}}):wpAny (model prog w) A (call (.builtin "dict.items") [.ref d]) Q E s:=by
 have hT:=r.typeIs;have(o,e,_,dat):=r;refine wpAny_call_entry F.slot_dict_items hT F.entry_dict_items ?_<|F.args_dict_items_1 _;unfold Builtin.«dict.items» Builtin.Dict.noArgs;refine qa<|qa<|wpAny_notOrdered_dict hT ?_;refine qa<|qb ?_;refine qa<|qb<|qb ?_;unfold Builtin.Dict.showsAll;rw[hd,if_neg qf];refine qa<|qb ?_;unfold newFields;exact qa<|qA<|qb ⟨_,rfl,q⟩
theorem OF{v:Qg}(hv:s.heap.IsItemsView v d)(r:kl s.heap d es ep)
  (q:∀ h':Heap,IsItemIter h' s.heap.objs.size d 0 es.size ep .none .none->(∀ b o,s.heap.get? b=some o->h'.get? b=some o)->Q (.ref s.heap.objs.size) {s with heap:=h'}):wpAny (model prog w) A (pyIter<|.ref v) Q E s:=by
 have(o,e,_,dat):=r;have(o2,e2,c2,d2):=id hv;have hT:=hv.typeIs (s:=s);refine wpAny_pyIter_slot hT F.slot_dict_items_iter<|wpAny_call_entry F.slot_dict_items_iter hT F.entry_dict_items_iter ?_<|F.args_dict_items_iter_1 _;unfold Builtin.«dict_items.__iter__»;refine qa<|qb ?_;unfold Builtin.Dict_items.dictOf;refine qa<|qa<|wpAny_field e2 d2 (x:=.ref d) rfl<|qb ?_;unfold Builtin.Dict_items.newIterator;refine qa<|qa<|wpAny_dictEntries e dat<|qa<|wpAny_dictEpoch e dat ?_;unfold newFields;refine qA (qb ⟨_,rfl, "dict_itemiterator",_,⟨_,qg _ rfl,rfl⟩,Ã.lookup,?_⟩) (by rw[show Builtin.Dict_items.ownsTuple "dict_itemiterator"=true by decide,if_pos rfl]; show(8:Nat)<=sizeLine+2; decide);exact q _ (qg _ rfl) λb o z=>qd _ z
end
theorem Hk{X:Cx}{o:Obj}(I:Inv X pins σ H s)(e:H a=some (.aW o<|.dT kvs)):
  (a==sysModules)=false/\∃ (es:Array DictEntry) (ep:Nat),s.heap.get? a=some o/\o.ExactDict/\o.data=.dict es ep/\es.size=kvs.length/\∀ (i:Nat) (k:Qa Key) (v:V),kvs[i]?=some (k,v)->∃ (b:Qg) (x:DictEntry),es[i]?=some x/\x.key=.ref b/\aK X.K H b (k.map kV)/\zA v x.val:=by
 have(ea,z,y,xs,r,o',es,ep,h1,h2,h3,h4,h5):=(show zI X.prog X.w X.K H s.heap a (.aW o<|.dT kvs) from I.aq a _ e);rw[ea]at h1;cases h1;refine⟨y,es,ep,ea,h2,h3,?_,λi k v hi=>?_⟩
 .have:=congrArg List.length h4
  rw[Array.length_toList,List.length_map,<-xM r]at this;exact this
 .have(q,hq,r1,r2,r3):=CO r i (k,v) hi
  refine⟨q.2.1,entryOfKey (tupleKind<|zD X.prog X.w) q,?_,rfl,r2,r3⟩;have:es.toList[i]?=some (entryOfKey (tupleKind<|zD X.prog X.w) q):=by rw[h4,List.getElem?_map,hq]; rfl
  simpa using this
def Tu(K:qc)(a:Qg)(o:Obj)(kvs:Qa (Qa Key×V)):It :=
 ⟨λi H=>H a=some (.aW o<|.dT kvs)/\i < kvs.length,λi H x H'=>∃ T,H T=none/\x=.ref T/\∀ k v,kvs[i]?=some (k,v)->∃ b,aK K H b (k.map kV)/\H'=upd H T (.tup [.ref b,v]),λi H=>H a=some (.aW o<|.dT kvs)/\kvs.length<=i⟩
theorem zml{k:Nat}(a it:Qg)(o:Obj)(kvs:Qa (Qa Key×V))(ep:Nat)(Aa:∃ es,o.data=.dict es ep):Turn P w K (.Tuple elts k pos) (Tu K a o kvs) [it] it (λi h=>∃ ok ov,IsItemIter h it a i kvs.length ep ok ov) where
 mem:=by simp
 obj:=λi h st b hb=>by
  have e:b=it:=by simpa using hb
  subst e;have(ok,ov,e):=st;exact⟨_,e,λv z=>by
   have z':Data.fields _=Data.cell v:=z;cases z'⟩
 keep:=λi h h' st k=>by
  have(ok,ov,e):=st;exact⟨ok,ov,k it (by simp) _ e⟩
 item:=by
  intro X hP hw hK hc i pins s σ H E I hf st hg;subst hP hw hK;have(e,hi):=hg;have(ok,ov,st):=st;have(kR,es,ig,ea,xd,dat,hsz,ent):=Hk I e;have uC:ig=ep:=by
   have(p7,z):=Aa;rw[dat]at z;injection z
  subst uC;have(b,x,ex,kx,hb,rv):=ent i kvs[i].1 kvs[i].2 (qm hi);refine zph (es:=es) (by rw[hsz]; exact st) ⟨o,ea,xd,dat⟩ ex λh1 pw gQ kk=>?_;refine⟨_,rfl,wpAny_letOwnedTupleGo_items (s:={s with heap:=h1}) pw λh2 jh sb=>?_⟩;have gJ:s.heap.objs.size≠it:=Ne.symm (qj<|qh st);have I2:Inv X pins σ H {s with heap:=h2}:=I.aS (t':=s.toks) (wr:=[it]) (λb o hb q=>(sb.2 b (by simpa using hb)).trans<|kk b o (by simpa using hb) q) hf;have fT:bM X pins H s.heap.objs.size:=I.bJ (qe _) (I.aq.fresh<|qe _);rw[kx]at gQ;have I3:Inv X pins σ (upd H s.heap.objs.size<|.tup [.ref b,kvs[i].2]) {s with heap:=h2}:=I2.eT fT I.sz ⟨by show 2<=sizeLine; decide,[.ref b,x.val],.cons rfl<|.cons rv .nil,_,(sb.2 _ gJ).trans gQ,rfl,⟨_,rfl⟩,.inl rfl⟩;refine⟨.ref s.heap.objs.size,_,I3,rfl,⟨_,I.aq.fresh<|qe _,rfl,λk v ug=>⟨b,?_,?_⟩⟩,⟨_,_,by rw[<-hsz]; exact jh⟩,λc hc=>?_⟩
  .rw[qm hi]at ug
   rw[qx ug]at hb;exact hb
  .rw[qm hi]at ug
   rw[qx ug]
  .have e:c=it:=by simpa using hc
   subst e;rw[zq<|Ne.symm gJ];exact(hf c hc).1
 done:=by
  intro X hP hw hK hc i pins s σ H E I hf st hg;subst hP hw hK;have(e,hi):=hg;have(ok,ov,st):=st;have(kR,es,ig,ea,xd,dat,hsz,ent):=Hk I e;have uC:ig=ep:=by
   have(p7,z):=Aa;rw[dat]at z;injection z
  subst uC;have(f0,f1,f2,f3,f4,f5):=hf it (by simp);exact zrA (es:=es) (I.ok.hd hc) (by rw[hsz]; exact st) ⟨o,ea,xd,dat⟩ (by omega) λh' eb=>⟨rfl,I.turned (t':=s.toks) (λb o hb e=>eb b o hb e) f0 f1 f3 f4 f5⟩
 self:=λ_ _ _ _ _ st h=>by
  have(ok,ov,st):=st;exact wpAny_pyIter_slot ⟨_,st,rfl⟩ F.slot_dict_itemiterator_iter<|wpAny_call_entry F.slot_dict_itemiterator_iter ⟨_,st,rfl⟩ ZC (qb ⟨_,rfl, "dict_itemiterator",_,⟨_,st,rfl⟩,Ã.lookup,h⟩)<|F.args_dict_itemiterator_iter_1 _
section
variable{X:Cx}{kk:Nat}
def L0(K:qc)(td:TE):TI:=λσ H R=>td σ H λx H1=>∃ a o kvs,x=.ref a/\H1 a=some (.aW o<|.dT kvs)/\R (Tu K a o kvs) H1
theorem Cp{d:Expr}(hd:Wr (PE X d td))(cW:attributeBase d "items" X.env (eval d X.env)=eval d X.env:=by rfl)(cS:(apos.endLine==aM.line)=true:=by rfl):Wr (PI X (.Tuple elts kk gG) (.Call (.Attribute d "items" apos) [] [] aM)<|L0 X.K td):=by
 refine⟨?_⟩;intro pins s σ H R I h;refine wpAny_Call_method0_late cW cS<|aw (hd.run pins s σ H _ I h) λv s1 hZ=>?_;have(x,H1,I1,r1,q1):=hZ;have(a,o,kvs,rfl,e,q):=q1;cases r1;have(kR,es,ep,ea,xd,dat,hsz,_):=Hk I1 e;have yb:kl s1.heap a es ep:=⟨o,ea,xd,dat⟩;refine⟨"dict", "dict.items",F.plainAttrs_dict,F.slot_dict_items,F.type_dict_items,yb.typeIs,λb hb=>?_,Ü rfl<|PySem.evalArgs_none<|OG kR yb ?_⟩
 .cases hb
  exact⟨o,ea,xd.2.1⟩
 have I2:Inv X pins σ H1 {s1 with heap:=s1.heap.push {cls:=.type "dict_items",data:=.fields #[.ref a]}}:=I1.kept (t':=s1.toks) λb o z=>qd _ z;refine OF (v:=s1.heap.objs.size) (s:={s1 with heap:=s1.heap.push {cls:=.type "dict_items",data:=.fields #[.ref a]}}) ⟨_,qg _ rfl,rfl,rfl⟩ ⟨o,qd _ ea,xd,dat⟩ λh' hit mU=>?_;refine⟨_,_,_,_,H1,rfl,I2.kept (t':=s1.toks) mU,zml a _ o kvs ep ⟨es,dat⟩,⟨_,_,by rw[<-hsz]; exact hit⟩,λb hb=>?_,q⟩;rw[qq.mp hb];exact I2.bJ (qe _)<|I2.aq.fresh<|qe _
end
def sW:U->Qb (Qa D)
 | .d (.dict kvs)=>if kM kvs=true then some (kvs.map λp=>.tuple [p.1,p.2])else none
 | _=>none
theorem M7:∀ {ws:Qa (Qa Key×V)} {kvs:Qa (D×D)},iQ K H ws kvs->∀ {i:Nat} {p:D×D},kvs[i]?=some p->∃ k v,ws[i]?=some (k,v)/\p.1=ic k/\DF K H v p.2
 | _,_,.nil,i,p,h=>by simp at h
 | _,_,.cons hv t,0,p,h=>by cases h; exact⟨_,_,rfl,rfl,hv⟩
 | _,_,.cons hv t,i+1,p,h=>M7 t (i:=i) h
theorem M6:∀ {ws:Qa (Qa Key×V)} {kvs:Qa (D×D)},iQ K H ws kvs->ws.length=kvs.length
 | _,_,.nil=>rfl
 | _,_,.cons hv t=>congrArg (·+1)<|M6 t
theorem CJ{me:ME}(h:VE K te me):VI K (L0 K te) (bU sW me):=by
 intro ρ σ H ds ah R r e q;obtain⟨⟨a,ρ1⟩,e1,e⟩:=zb e;have(u,eu,e):=zb e;have(xs,ex,e):=zb e;cases e;refine h ρ σ H a _ _ r e1 λv H1 g1 k1=>?_;have p:=k1.now r g1 eu;unfold sW at ex;split at ex
 .split at ex
  rotate_left
  .cases ex
  rename_i nx;cases ex;have(b,o,ws,rfl,h1,h2):=DF.b6 p nx;refine⟨b,o,ws,rfl,h1,q _ _ g1 λH2 k i=>?_⟩;have jy:=k.aW _ _ _ h1;refine⟨λd ed=>?_,λei=>?_⟩
  .rw[List.getElem?_map]at ed
   obtain⟨⟨kd,vd⟩,ew,rfl⟩:=qr.mp ed;have(ks,w,cp,rfl,dv):=M7 h2 ew;refine⟨⟨jy,(qk.mp cp).1⟩,λx H' y=>?_⟩;have(T,nT,rfl,y):=y;have(kb,mZ,rfl):=y ks w cp;have sm:=zB nT (.tup [.ref kb,w]);exact⟨sm,.tup (.inl zp)<|.cons (DF.kp sm.kp<|.tup mZ xo)<|.cons ((dv.kp k).kp sm.kp) .nil⟩
  .rw[List.length_map,<-M6 h2]at ei
   exact⟨jy,Nat.le_of_eq ei.symm⟩
 .cases ex
abbrev vj(h:Heap)(t1:Qg):Heap:=h.push {cls:=.type "tuple_iterator",data:=.fields #[.ref t1,.int 0 0]}
abbrev xm(h:Heap)(t1 t2:Qg):Heap:=(vj h t1).push {cls:=.type "tuple_iterator",data:=.fields #[.ref t2,.int 0 0]}
abbrev vi(h:Heap)(t1 t2:Qg):Heap:=(xm h t1 t2).push {cls:=.type "tuple",data:=.seq #[.ref h.objs.size,.ref (vj h t1).objs.size]}
abbrev Cr(h:Heap)(t1 t2:Qg):Heap:=(vi h t1 t2).push {cls:=.type "tuple",data:=.seq #[.none,.none]}
abbrev Ho(h:Heap)(t1 t2:Qg):Heap:=(Cr h t1 t2).push {cls:=.type "zip",data:=.fields #[.none,.bool false,.bool false,.ref (xm h t1 t2).objs.size,.ref (vi h t1 t2).objs.size]}
theorem zrC(t1 t2:Qg)(xs ys:Array Qc):
  Meets (Builtin.«zip.__new__» ⟨[.type "zip",.ref t1,.ref t2],[]⟩) (λ_ R s=>s.heap.IsTuple t1 xs/\s.heap.IsTuple t2 ys/\
   R (.ok<|.ret<|.ref (Cr s.heap t1 t2).objs.size) {s with heap:=Ho s.heap t1 t2}):=
 .of_wp λprog w A R s h=>by
  have(hp,g,d,tk,os):=s;have(h1,h2,h):=h;have ie:Heap.IsTuple (vj hp t1) t2 ys:=by
   have(o,e,r):=h2;exact⟨o,qd _ e,r⟩
  have JB:=sub_zip
  wp_walk using wpAny_pyIter_tuple h1,wpAny_pyIter_tuple ie
  exact⟨_,rfl,h⟩
section
variable{z TI TO i1 i2 t1 t2:Qg}{k:Nat}{xs ys:Array Qc}{x y a b:Qc}
theorem zpi{Q:Qb Qc->Qd->Prop}(ap:ZipApart z TI TO i1 i2 t1 t2)(hz:IsZip s.heap z TI TO .none)(hI:IsPair s.heap TI (.ref i1) (.ref i2))(hO:IsPair s.heap TO a b)
  (h1:s.heap.IsTupleIter i1 t1 k) (h2:s.heap.IsTupleIter i2 t2 k) (g1:s.heap.IsTuple t1 xs) (g2:s.heap.IsTuple t2 ys) (ex:xs[k]?=some x) (ey:ys[k]?=some y)
  (q:∀ h':Heap,IsZip h' z TI TO (rawInt s.heap.objs.size)->IsPair h' TO x y->h'.IsTupleIter i1 t1 (k+1)->h'.IsTupleIter i2 t2 (k+1)->IsPair h' s.heap.objs.size x y->
   (∀ c o,c≠z->c≠TO->c≠i1->c≠i2->s.heap.get? c=some o->h'.get? c=some o)->Q (some<|.ref s.heap.objs.size) {s with heap:=h'}):wpAny (model prog w) A (pyNext<|.ref z) Q E s:=by
 have kT:s.TypeIs (.ref z) "zip":=⟨_,hz,rfl⟩;unfold pyNext;refine qa<|wpAny_attempt<|wpAny_callSpecial?_slot (name:=Str.ofString "__next__") kT F.slot_zip_next<|wpAny_call_entry F.slot_zip_next kT F.entry_zip_next ?_<|F.args_zip_next_1 _;unfold Builtin.«zip.__next__»;refine qa<|qb ?_;refine qa<|wpAny_field hz rfl (x:=.bool false) rfl ?_;refine qa<|wpAny_field hz rfl (x:=.ref TI) rfl ?_;refine qa<|wpAny_seqItems hI rfl ?_;show wpAny _ _ (Builtin.SmallTypes.ownedTupleIsFree (.ref z) >>= _) _ _ s;unfold Builtin.SmallTypes.ownedTupleIsFree;refine qa<|qa<|wpAny_field hz rfl (x:=.none) rfl<|qb ?_;show wpAny _ _ (if true=true then _ else _) _ _ _;rw[if_pos rfl];refine qa<|wpAny_rule<|qa<|wpAny_field hz rfl (x:=.ref TO) rfl ?_;refine qa<|iU hz (by simp) λha ka za fa=>?_;have Sx:IsPair ha TO a b:=fa _ _ ap.TOz hO;have JV:ha.IsTupleIter i1 t1 k:=by
  have(o,e,r):=h1;exact⟨o,fa _ _ ap.i1z e,r⟩
 have JW:ha.IsTuple t1 xs:=by
  have(o,e,r):=g1;exact⟨o,fa _ _ ap.l1z e,r⟩
 refine qa ?_;show wpAny _ _ (forIn [(Value.ref i1,0),(Value.ref i2,1)] (none,()) _) _ _ _;rw[List.forIn_cons];refine qa<|qa<|wpAny_onRaise ?_;show wpAny _ _ (Builtin.SmallTypes.nextOf (.ref i1) >>= _) _ _ _;refine qa<|HI (s:={s with heap:=ha}) JV JW ex λhb kb sb=>qb ?_;refine qa<|wpAny_seqItems (s:={s with heap:=hb}) (o:=_) ((sb.2 _ ap.TOi1).trans Sx) rfl ?_;refine qa<|wpAny_updateSeq_pair (s:={s with heap:=hb}) ((sb.2 _ ap.TOi1).trans Sx) λhc kc sc=>?_;refine qa<|wpAny_letGo<|qb ?_;show wpAny _ _ (forIn [(Value.ref i2,1)] (none,()) _) _ _ _;rw[List.forIn_cons];have mW:∀ c o,c≠z->c≠TO->c≠i1->s.heap.get? c=some o->hc.get? c=some o:=λc o n1 n2 n3 e=>(sc.2 c n2).trans<|(sb.2 c n3).trans<|fa c o n1 e;have h22:hc.IsTupleIter i2 t2 k:=by
  have(o,e,r):=h2;exact⟨o,mW _ _ ap.i2z (Ne.symm ap.TOi2) (Ne.symm ap.i12) e,r⟩
 have g22:hc.IsTuple t2 ys:=by
  have(o,e,r):=g2;exact⟨o,mW _ _ ap.l2z ap.l2TO ap.l2i1 e,r⟩
 refine qa<|qa<|wpAny_onRaise ?_;show wpAny _ _ (Builtin.SmallTypes.nextOf (.ref i2) >>= _) _ _ _;refine qa<|HI (s:={s with heap:=hc}) h22 g22 ey λhd kd sd=>qb ?_;have Sw:IsPair hd TO x b:=(sd.2 _ ap.TOi2).trans kc;refine qa<|wpAny_seqItems (s:={s with heap:=hd}) Sw rfl ?_;refine qa<|wpAny_updateSeq_pair (s:={s with heap:=hd}) Sw λhe ke se=>?_;refine qa<|wpAny_letGo<|qb ?_;show wpAny _ _ (forIn ([]:Qa (Qc×Nat)) (none,()) _) _ _ _;rw[List.forIn_nil];refine qb ?_;have Sv:IsPair he TO x y:=ke;show wpAny _ _ (seqItems? (.ref TO) >>= _) _ _ _;refine qa<|wpAny_seqItems (s:={s with heap:=he}) Sv rfl ?_;simp only[newTuple];refine qa<|qA ?_ (by show(2:Nat)<=sizeLine; decide);have sz:he.objs.size=s.heap.objs.size:=by rw[se.1,sd.1,sc.1,sb.1]; exact za
 show wpAny _ _ (Builtin.SmallTypes.ownedTupleHandOut (.ref z) (.ref he.objs.size) >>= _) _ _ {s with heap:=he.push {cls:=.type "tuple",data:=.seq #[x,y]}};have kz:(he.push {cls:=.type "tuple",data:=.seq #[x,y]}).get? z=some {cls:=.type "zip",data:=.fields #[.ellipsis,.bool false,.bool false,.ref TI,.ref TO]}:=
  qd _ ((se.2 _<|Ne.symm ap.TOz).trans<|(sd.2 _<|Ne.symm ap.i2z).trans<|(sc.2 _<|Ne.symm ap.TOz).trans<|(sb.2 _<|Ne.symm ap.i1z).trans ka)
 have kt:(he.push {cls:=.type "tuple",data:=.seq #[x,y]}).get? he.objs.size=some {cls:=.type "tuple",data:=.seq #[x,y]}:=qg _ rfl;have kO:(he.push {cls:=.type "tuple",data:=.seq #[x,y]}).get? TO=_:=qd _ Sv;have k1:Heap.IsTupleIter (he.push {cls:=.type "tuple",data:=.seq #[x,y]}) i1 t1 (k+1):=by
  have(o,e,r):=kb;exact⟨o,qd _<|(se.2 _<|Ne.symm ap.TOi1).trans<|(sd.2 _ ap.i12).trans<|(sc.2 _<|Ne.symm ap.TOi1).trans e,r⟩
 have k2:Heap.IsTupleIter (he.push {cls:=.type "tuple",data:=.seq #[x,y]}) i2 t2 (k+1):=by
  have(o,e,r):=kd;exact⟨o,qd _<|(se.2 _<|Ne.symm ap.TOi2).trans e,r⟩
 have kk:∀ c o,c≠z->c≠TO->c≠i1->c≠i2->s.heap.get? c=some o->(he.push {cls:=.type "tuple",data:=.seq #[x,y]}).get? c=some o:=λc o n1 n2 n3 n4 e=>
  qd _ ((se.2 c n2).trans<|(sd.2 c n4).trans<|mW c o n1 n2 n3 e)
 have nz:he.objs.size≠z:=by
  rw[sz];exact Ne.symm<|qj<|qh hz
 generalize he.push {cls:=.type "tuple",data:=.seq #[x,y]}=hf at kz kt kO k1 k2 kk ⊢;unfold Builtin.SmallTypes.ownedTupleHandOut;refine qa<|qa<|iU (s:={s with heap:=hf}) kz (by simp) λhg kg zg fg=>?_;refine iU (s:={s with heap:=hg}) kg (by simp) λhh kh zh fh=>?_;have up:∀ c o,c≠z->hf.get? c=some o->hh.get? c=some o:=λc o n e=>fh c o n<|fg c o n e;refine qb ⟨_,rfl,qb ?_⟩;rw[sz]at kt kh nz ⊢;refine q hh kh (up _ _ ap.TOz kO) ?_ ?_ (up _ _ nz kt) λc o n1 n2 n3 n4 e=>up _ _ n1<|kk c o n1 n2 n3 n4 e
 .have(o,e,r):=k1
  exact⟨o,up _ _ ap.i1z e,r⟩
 .have(o,e,r):=k2
  exact⟨o,up _ _ ap.i2z e,r⟩
theorem zrD{Q:Qb Qc->Qd->Prop}(hh:A.handled=none)(ap:ZipApart z TI TO i1 i2 t1 t2)(hz:IsZip s.heap z TI TO .none)(hI:IsPair s.heap TI (.ref i1) (.ref i2))(hO:IsPair s.heap TO a b)
  (h1:s.heap.IsTupleIter i1 t1 k) (h2:s.heap.IsTupleIter i2 t2 k) (g1:s.heap.IsTuple t1 xs) (g2:s.heap.IsTuple t2 ys) (en:xs[k]?=none)
  (q:∀ h':Heap,(∀ c o,c≠z->c≠TO->c≠i1->c≠i2->s.heap.get? c=some o->h'.get? c=some o)->Q none {s with heap:=h'}):wpAny (model prog w) A (pyNext<|.ref z) Q E s:=by
 have kT:s.TypeIs (.ref z) "zip":=⟨_,hz,rfl⟩;unfold pyNext;refine qa<|wpAny_attempt<|wpAny_callSpecial?_slot (name:=Str.ofString "__next__") kT F.slot_zip_next<|wpAny_call_entry F.slot_zip_next kT F.entry_zip_next ?_<|F.args_zip_next_1 _;unfold Builtin.«zip.__next__»;refine qa<|qb ?_;refine qa<|wpAny_field hz rfl (x:=.bool false) rfl ?_;refine qa<|wpAny_field hz rfl (x:=.ref TI) rfl ?_;refine qa<|wpAny_seqItems hI rfl ?_;show wpAny _ _ (Builtin.SmallTypes.ownedTupleIsFree (.ref z) >>= _) _ _ s;unfold Builtin.SmallTypes.ownedTupleIsFree;refine qa<|qa<|wpAny_field hz rfl (x:=.none) rfl<|qb ?_;show wpAny _ _ (if true=true then _ else _) _ _ _;rw[if_pos rfl];refine qa<|wpAny_rule<|qa<|wpAny_field hz rfl (x:=.ref TO) rfl ?_;refine qa<|iU hz (by simp) λha ka za fa=>?_;have JV:ha.IsTupleIter i1 t1 k:=by
  have(o,e,r):=h1;exact⟨o,fa _ _ ap.i1z e,r⟩
 have JW:ha.IsTuple t1 xs:=by
  have(o,e,r):=g1;exact⟨o,fa _ _ ap.l1z e,r⟩
 refine qa ?_;show wpAny _ _ (forIn [(Value.ref i1,0),(Value.ref i2,1)] (none,()) _) _ _ _;rw[List.forIn_cons];refine qa<|qa<|wpAny_onRaise ?_;show wpAny _ _ (Builtin.SmallTypes.nextOf (.ref i1) >>= _) _ _ _;refine qa<|OL (s:={s with heap:=ha}) hh JV JW en λhb e sb hZ=>?_;have(oe,ge,ce):=hZ;have kb:=sb z _ (Ne.symm ap.i1z) ka;refine iU (s:={s with heap:=hb}) kb (by simp) λhc kc zc fc=>?_;have nez:e≠z:=λh=>by
  rw[h]at ge;have z1:=qx (ge.symm.trans kb);rw[z1]at ce;have z2 : "zip" = "StopIteration":=Value.type.inj ce;exact absurd z2 (by decide)
 show wpAny _ _ (isInstance (.ref e) (.type "StopIteration") >>= _) _ _ _;refine qa<|wpAny_isInstance (T := "StopIteration") (b:=true) ⟨oe,fc _ _ nez ge,ce⟩ isSubtype_stop ?_;exact qb<|q hc λc o n1 n2 n3 n4 e=>fc c o n1<|sb c o n3<|fa c o n1 e
end
def Tn(K:qc)(a b:Qg):It :=
 ⟨λi H=>∃ xs ys x y,bw K H a xs/\bw K H b ys/\xs[i]?=some x/\ys[i]?=some y,λi H x H'=>∃ T,H T=none/\x=.ref T/\∀ xs ys v u,bw K H a xs->bw K H b ys->xs[i]?=some v->ys[i]?=some u->H'=upd H T (.tup [v,u]),λi H=>∃ xs ys,bw K H a xs/\bw K H b ys/\xs.length=i⟩
abbrev Tg(z TI TO i1 i2 t1 t2:Qg)(i:Nat)(h:Heap):Prop:=IsZip h z TI TO .none/\IsPair h TI (.ref i1) (.ref i2)/\(∃ a b,IsPair h TO a b)/\h.IsTupleIter i1 t1 i/\h.IsTupleIter i2 t2 i
theorem zrE{k:Nat}(z TI TO i1 i2 t1 t2:Qg)(ap:ZipApart z TI TO i1 i2 t1 t2):
  Turn P w K (.Tuple elts k pos) (Tn K t1 t2) [z,TI,TO,i1,i2] z (Tg z TI TO i1 i2 t1 t2) where
 mem:=by simp
 obj:=λi h st c hc=>by
  obtain⟨hz,hI,⟨a,b,hO⟩,⟨o1,e1,_,d1⟩,⟨o2,e2,_,d2⟩⟩:=st;simp only[qv,List.not_mem_nil,or_false]at hc;rcases hc with rfl|rfl|rfl|rfl|rfl
  .exact⟨_,hz,λv q=>by
    have q':Data.fields _=Data.cell v:=q;cases q'⟩
  .exact⟨_,hI,λv q=>by
    have q':Data.seq _ _=Data.cell v:=q;cases q'⟩
  .exact⟨_,hO,λv q=>by
    have q':Data.seq _ _=Data.cell v:=q;cases q'⟩
  .exact⟨o1,e1,λv q=>by rw[d1]at q; cases q⟩
  .exact⟨o2,e2,λv q=>by rw[d2]at q; cases q⟩
 keep:=λi h h' st kk=>by
  obtain⟨hz,hI,⟨a,b,hO⟩,⟨o1,e1,r1⟩,⟨o2,e2,r2⟩⟩:=st;exact⟨kk z (by simp) _ hz,kk TI (by simp) _ hI,⟨a,b,kk TO (by simp) _ hO⟩,⟨o1,kk i1 (by simp) _ e1,r1⟩,⟨o2,kk i2 (by simp) _ e2,r2⟩⟩
 item:=by
  intro X hP hw hK hc i pins s σ H E I hf st hg;subst hP hw hK;have(xs,ys,x,y,kU,kS,hx,hy):=hg;obtain⟨hz,hI,⟨a,b,hO⟩,h1,h2⟩:=st;have(kP,pA,kQ,_):=I.tuple kU;have(bP,tP,c8,_):=I.tuple kS;have(u1,JZ,r1):=pA.get hx;have(u2,JY,r2):=tP.get hy;refine zpi ap hz hI hO h1 h2 kQ c8 (by simpa using JZ) (by simpa using JY) λh' z' O' k1 k2 gQ kk=>?_;refine⟨_,rfl,wpAny_letOwnedTupleGo_zip (s:={s with heap:=h'}) z' λie z2 sb=>?_⟩;have nm:s.heap.objs.size∉[z,TI,TO,i1,i2]:=λhm=>by
   have:s.heap.objs.size < s.heap.objs.size:=by
    simp only[qv,List.not_mem_nil,or_false]at hm;have(_,e1,_):=h1;have(_,e2,_):=h2;rcases hm with h|h|h|h|h
    .exact qi (h▸qh hz) (qe _)
    .exact qi (h▸qh hI) (qe _)
    .exact qi (h▸qh hO) (qe _)
    .exact qi (h▸qh e1) (qe _)
    .exact qi (h▸qh e2) (qe _)
   exact Ç _ this
  have nz:s.heap.objs.size≠z:=λh=>nm (by rw[h]; simp);have I2:Inv X pins σ H {s with heap:=ie}:=I.aS (t':=s.toks) (wr:=[z,TI,TO,i1,i2]) (λc o hc q=>by
   simp only[qv,List.not_mem_nil,or_false,not_or]at hc;exact(sb.2 c hc.1).trans<|kk c o hc.1 hc.2.2.1 hc.2.2.2.1 hc.2.2.2.2 q) hf
  have fT:bM X pins H s.heap.objs.size:=I.bJ (qe _) (I.aq.fresh<|qe _);have I3:Inv X pins σ (upd H s.heap.objs.size<|.tup [x,y]) {s with heap:=ie}:=I2.eT fT I.sz ⟨by show 2<=sizeLine; decide,[u1,u2],.cons r1<|.cons r2 .nil,_,(sb.2 _ nz).trans gQ,rfl,⟨_,rfl⟩,.inl rfl⟩;refine⟨.ref s.heap.objs.size,_,I3,rfl,⟨_,I.aq.fresh<|qe _,rfl,λgv jU v u ua t9 hv hu=>?_⟩,⟨z2,(sb.2 _ ap.TIz).trans<|kk _ _ ap.TIz ap.TITO ap.TIi1 ap.TIi2 hI,⟨_,_,(sb.2 _ ap.TOz).trans O'⟩,?_,?_⟩,λc hc=>?_⟩
  .cases I.bS kU ua
   cases I.bS kS t9;rw[hx]at hv;rw[hy]at hu;cases hv;cases hu;rfl
  .have(o,e,r):=k1
   exact⟨o,(sb.2 _ ap.i1z).trans e,r⟩
  .have(o,e,r):=k2
   exact⟨o,(sb.2 _ ap.i2z).trans e,r⟩
  .have ne:c≠s.heap.objs.size:=λh=>nm<|h▸hc
   rw[zq ne];exact(hf c hc).1
 done:=by
  intro X hP hw hK hc i pins s σ H E I hf st hg;subst hP hw hK;have(xs,ys,kU,kS,hl):=hg;obtain⟨hz,hI,⟨a,b,hO⟩,h1,h2⟩:=st;have(kP,pA,kQ,_):=I.tuple kU;have(bP,tP,c8,_):=I.tuple kS;refine zrD (I.ok.hd hc) ap hz hI hO h1 h2 kQ c8 (by
   have:=pA.length;simp;omega) λh' kk=>⟨rfl,I.aS (t':=s.toks) (wr:=[z,TI,TO,i1,i2]) (λc o hc q=>by
   simp only[qv,List.not_mem_nil,or_false,not_or]at hc;exact kk c o hc.1 hc.2.2.1 hc.2.2.2.1 hc.2.2.2.2 q) hf⟩
 self:=λ_ _ _ _ _ st h=>wpAny_pyIter_zip st.1 h
section
theorem zpj{t1 t2:Qg}{xs ys:Array Qc}(h1:s.heap.IsTuple t1 xs)(h2:s.heap.IsTuple t2 ys)
  (h:∀ h':Heap,Tg (s.heap.objs.size+4) (s.heap.objs.size+2) (s.heap.objs.size+3) s.heap.objs.size (s.heap.objs.size+1) t1 t2 0 h'->(∀ b o,s.heap.get? b=some o->h'.get? b=some o)->Q (.ref<|s.heap.objs.size+4) {s with heap:=h'}):
  wpAny (model prog w) A (call (.type "zip") [.ref t1,.ref t2]) Q E s:=by
 refine callType_new F.called_zip (by decide) (F.typeCall_zip_2 _ _) (F.newCall_zip_2 _ _) (λobj=>F.args_object_init_3 obj _ _) F.entry_zip_new (zrC t1 t2 xs ys) ⟨h1,h2,?_⟩;have z1:(vj s.heap t1).objs.size=s.heap.objs.size+1:=Heap.size_push ..;have z2:(xm s.heap t1 t2).objs.size=s.heap.objs.size+2:=by rw[Heap.size_push,z1]
 have z3:(vi s.heap t1 t2).objs.size=s.heap.objs.size+3:=by rw[Heap.size_push,z2]
 have z4:(Cr s.heap t1 t2).objs.size=s.heap.objs.size+4:=by rw[Heap.size_push,z3]
 show _/\_;rw[z4];have ez:(Ho s.heap t1 t2).get? (s.heap.objs.size+4)=some {cls:=.type "zip",data:=.fields #[.none,.bool false,.bool false,.ref<|s.heap.objs.size+2,.ref<|s.heap.objs.size+3]}:=by
  have:=qg (Cr s.heap t1 t2) (o:={cls:=.type "zip",data:=.fields #[.none,.bool false,.bool false,.ref (xm s.heap t1 t2).objs.size,.ref (vi s.heap t1 t2).objs.size]}) rfl;rw[z4,z2,z3]at this;rw[<-this];unfold Ho;rw[z2,z3]
 refine⟨⟨_,ez,rfl⟩,h _ ⟨ez,?_,⟨.none,.none,?_⟩,⟨{cls:=.type "tuple_iterator",data:=.fields #[.ref t1,.int 0 0]},?_,rfl,rfl⟩,⟨{cls:=.type "tuple_iterator",data:=.fields #[.ref t2,.int 0 0]},?_,rfl,rfl⟩⟩ λb o x=>?_⟩
 .have:=qg (xm s.heap t1 t2) (o:={cls:=.type "tuple",data:=.seq #[.ref s.heap.objs.size,.ref (vj s.heap t1).objs.size]}) rfl
  rw[z2,z1]at this;refine qd _<|qd _ ?_;unfold vi;rw[z1];exact this
 .have:=qg (vi s.heap t1 t2) (o:={cls:=.type "tuple",data:=.seq #[.none,.none]}) rfl
  rw[z3]at this;exact qd _ this
 .exact qd _ (qd _<|qd _<|qd _<|qg _ rfl)
 .have:=qg (vj s.heap t1) (o:={cls:=.type "tuple_iterator",data:=.fields #[.ref t2,.int 0 0]}) rfl
  rw[z1]at this;exact qd _<|qd _<|qd _ this
 .exact qd _ (qd _<|qd _<|qd _<|qd _ x)
end
section
variable{X:Cx}{k:Nat}
def Ro(K:qc)(ta:TA):TI:=λσ H R=>ta σ H λvs H1=>∃ a b,vs=[.ref a,.ref b]/\(∃ xs,bw K H1 a xs)/\(∃ ys,bw K H1 b ys)/\R (Tn K a b) H1
theorem LZ{a b:Expr}{ta:TA}{p:Pos}(ha:Wr (PA X [a,b] ta))(hK:X.K=K:=by rfl)(hg:Gl X "zip":=by exact rfl)(hm:X.mg "zip"=none:=by exact qR ‹Bl _ _› (by decide))(hs:zR a=true:=by rfl)(lL:[b].all zR=true:=by rfl):
  Wr (PI X (.Tuple elts k gG) (.Call (.Name "zip" p) [a,b] [] pos)<|Ro K ta):=by
 subst hK;refine⟨?_⟩;intro pins s σ H R I h;refine Call_<|rq I hg hm boot_zip<|Ö (aw (ha.run pos pins s σ H _ I h) λus s1 hZ=>?_) (kr hs)<|oZ lL;have(vs,H1,I1,r1,q1):=hZ;obtain⟨t1,t2,e,⟨xs,kU⟩,⟨ys,kS⟩,q⟩:=q1;subst e;have(u1,u2,rfl,IM,IL):=wU r1;cases IM;cases IL;have(kP,pA,kQ,hz1):=I1.tuple kU;have(bP,tP,c8,Jq):=I1.tuple kS;have Iq:t1 < s1.heap.objs.size:=by
  have(o,e,_):=kQ;exact qh e
 have Ip:t2 < s1.heap.objs.size:=by
  have(o,e,_):=c8;exact qh e
 have mQ:∀ {x y:Nat},x < y->x≠y:=λh=>qj h;refine zpj (show s1.heap.IsTuple t1 kP.toArray from kQ) (show s1.heap.IsTuple t2 bP.toArray from c8) λh' pO kk=>?_;have I2:Inv X pins σ H1 {s1 with heap:=h'}:=I1.kept (t':=s1.toks) kk;refine wpAny_pyIter_zip pO.1 ?_;have f:∀ j:Nat,bM X pins H1 (s1.heap.objs.size+j):=λj=>I1.bJ (Nat.le_add_right _ _)<|I1.aq.fresh<|Nat.le_add_right _ _;have ap:ZipApart (s1.heap.objs.size+4) (s1.heap.objs.size+2) (s1.heap.objs.size+3) s1.heap.objs.size (s1.heap.objs.size+1) t1 t2:=by
  generalize s1.heap.objs.size=n at Iq Ip;constructor<;>(simp only[Qg]at *; omega)
 refine⟨_,_,_,_,H1,rfl,I2,zrE _ _ _ _ _ t1 t2 ap,pO,λc hc=>?_,q⟩;simp only[qv,List.not_mem_nil,or_false]at hc;rcases hc with rfl|rfl|rfl|rfl|rfl
 .exact f 4
 .exact f 2
 .exact f 3
 .exact f 0
 .exact f 1
end
def lh:Qa D->Qa D->Qa D
 | x::xs,y::ys=>.tuple [x,y]::lh xs ys
 | _,_=>[]
theorem Cn:∀ {xs ys:Qa D} {i:Nat} {d:D},(lh xs ys)[i]?=some d->∃ x y,xs[i]?=some x/\ys[i]?=some y/\d=.tuple [x,y]
 | [],ys,i,d,h=>by simp[lh]at h
 | x::xs,[],i,d,h=>by simp[lh]at h
 | x::xs,y::ys,0,d,h=>by cases h; exact⟨x,y,rfl,rfl,rfl⟩
 | x::xs,y::ys,i+1,d,h=>Cn (xs:=xs) (ys:=ys) (i:=i) h
theorem CI:∀ (xs ys:Qa D),xs.length=ys.length->(lh xs ys).length=xs.length
 | [],[],_=>rfl
 | [],y::ys,h=>by cases h
 | x::xs,[],h=>by cases h
 | x::xs,y::ys,h=>congrArg (·+1)<|CI xs ys<|Nat.succ.inj h
def wD:Qa U->Qb (Qa D)
 | [.d<|.tuple xs,.d<|.tuple ys]=>if xs.length=ys.length then some (lh xs ys)else none
 | _=>none
def AY(ma:MA):MI:=λρ=>(ma ρ).bind λp=>(bt p.2 p.1).bind λus=>(wD us).bind λds=>some (ds,p.2)
theorem LY{ta:TA}{ma:MA}(h:j5 K ta ma):VI K (Ro K ta) (AY ma):=by
 intro ρ σ H ds ah R r e q;obtain⟨⟨as,ρ1⟩,e1,e⟩:=zb e;have(us,eu,e):=zb e;have(zs,ez,e):=zb e;cases e;refine h ρ σ H as ρ1 _ r e1 λvs H1 g1 s1=>?_;have rp:=s1.nZ r g1 eu;unfold wD at ez;split at ez
 .split at ez
  rotate_left
  .cases ez
  rename_i xs ys hl;cases ez;cases rp with
  | cons p1 t=>
   cases t with
   | cons p2 t=>
    cases t;have(a,vx,rfl,h1,d1):=DF.aD p1;have(b,vy,rfl,h2,d2):=DF.aD p2;refine⟨a,b,rfl,⟨vx,(aK.sq h1)⟩,⟨vy,(aK.sq h2)⟩,q _ _ g1 λH2 kk i=>⟨λd ed=>?_,λei=>?_⟩⟩
    .have(x,y,ex,ey,rfl):=Cn ed
     have(v,ev,dv):=(d1.kp kk).get ex;have(w,ew,dw):=(d2.kp kk).get ey;refine⟨⟨vx,vy,v,w,(aK.kp kk h1).sq,(aK.kp kk h2).sq,ev,ew⟩,λz H' y=>?_⟩;have(T,nT,rfl,y):=y;cases y vx vy v w ((aK.kp kk h1).sq) ((aK.kp kk h2).sq) ev ew;have sm:=zB nT (.tup [v,w]);exact⟨sm,.tup (.inl zp)<|.cons (dv.kp sm.kp)<|.cons (dw.kp sm.kp) .nil⟩
    .exact⟨vx,vy,(aK.kp kk h1).sq,(aK.kp kk h2).sq,by rw[CI _ _ hl]at ei; rw[d1.len]; exact ei.symm⟩
 .cases ez
section
theorem zk3{b:Qg}{Q:Bool->Qd->Prop}(hT:s.TypeIs (.ref b) "tuple")(h:Q false s):wpAny (model prog w) A (Builtin.Dict.quietEq<|.ref b) Q E s:=by
 unfold Builtin.Dict.quietEq;refine qa<|wpAny_specialOf hT F.slot_tuple_eq.lookup<|qb ?_;exact h
theorem zk4{id:String}{o:Obj}{Q:Array DictEntry->Qd->Prop}(ho:s.heap.get? d=some o)(hd:o.data=.dict es ep)
  (hk:∀ e∈es.toList,∃ b,e.key=.ref b/\s.TypeIs (.ref b) "tuple") (hh:∀ e∈es.toList,¬(es.filter (·.hash==e.hash)).size > 1) (h:Q es s):
  wpAny (model prog w) A (Builtin.Dict.entriesForEmpty id d) Q E s:=by
 unfold Builtin.Dict.entriesForEmpty;refine qa<|wpAny_dictEntries ho hd ?_;refine qa ?_;rw[<-Array.forIn_toList];refine wpAny_forIn_list _ (λrest _ s'=>s'=s/\∀ e∈rest,e∈es.toList) _ ?_ ?_ _ _ ⟨rfl,λe h=>h⟩
 .rintro e rest b s' ⟨rfl,hr⟩
  have(c,ec,tc):=hk e (hr e qp);rw[ec];refine qa<|zk3 tc ?_;simp only[Bool.not_false,if_true];rw[if_neg<|hh e<|hr e qp];exact qb ⟨rfl,λe h=>hr e<|qo _ h⟩
 .rintro b s' ⟨rfl,_⟩
  exact qb h
theorem Vd(ne:es.isEmpty=false)(hk:∀ e∈es.toList,∃ b,e.key=.ref b):(decide (es.size<=8) && es.all λe=>(keyPart e.key).isSome)=false:=by
 have:(es.all λe=>(keyPart e.key).isSome)=false:=by
  rw[<-Array.all_toList];cases h:es.toList with
  | nil=>
   have:es=#[]:=by
    apply Array.ext';rw[h]
   rw[this]at ne;cases ne
  | cons e r=>
   have(b,eb):=hk e (by rw[h]; exact qp);rw[List.all_cons,eb];rfl
 rw[this,Bool.and_false]
theorem zil{o:Obj}(hdS:(d==sysModules)=false)(ho:s.heap.get? d=some o)(hx:o.ExactDict)(hd:o.data=.dict es ep)(hz:es.size<=sizeLine)
  (hk:∀ e∈es.toList,∃ b,e.key=.ref b/\s.TypeIs (.ref b) "tuple") (hh:∀ e∈es.toList,¬(es.filter (·.hash==e.hash)).size > 1)
  (h:∀ h':Heap,(∃ o' ig,h'.get? s.heap.objs.size=some o'/\o'.ExactDict/\o'.data=.dict es ig)->(∀ b u,s.heap.get? b=some u->h'.get? b=some u)->Q (.ref s.heap.objs.size) {s with heap:=h'}):
  wpAny (model prog w) A (call (.type "dict") [.ref d]) Q E s:=by
 refine callType_codes (Q₁:=λobj aB=>obj=.ref s.heap.objs.size/\aB={s with heap:=s.heap.push {cls:=.type "dict",data:=.dict #[]}}) F.kt_called_dict (F.kt_typeCall_dict_1 _) F.entry_dict_init (kt_code_dict_new _ ⟨rfl,rfl⟩) ?_;rintro obj aB ⟨rfl,rfl⟩;have nd:s.heap.objs.size≠d:=Ne.symm (qj<|qh ho);have hn:(s.heap.push {cls:=.type "dict",data:=.dict #[]}).get? s.heap.objs.size=some {cls:=.type "dict",data:=.dict #[]}:=qg _ rfl;have gR:(s.heap.push {cls:=.type "dict",data:=.dict #[]}).get? d=some o:=qd _ ho;have kk:∀ b u,s.heap.get? b=some u->(s.heap.push {cls:=.type "dict",data:=.dict #[]}).get? b=some u:=λb u e=>qd _ e;generalize s.heap.push {cls:=.type "dict",data:=.dict #[]}=h1 at hn gR kk ⊢;have tn:Shared.TypeIs {s with heap:=h1} (.ref s.heap.objs.size) "dict":=⟨_,hn,rfl⟩;have to:Shared.TypeIs {s with heap:=h1} (.ref d) "dict":=⟨_,gR,hx.1⟩;refine⟨tn,F.args_dict_init_2 _ _,?_⟩;unfold Builtin.«dict.__init__»;refine qa ?_;unfold Builtin.Dict.selfAndRest;refine qa<|wpAny_notOrdered_dict tn ?_;show wpAny _ _ (pure (s.heap.objs.size,[Value.ref d])) _ _ _;refine qb ?_;show wpAny _ _ (Builtin.Dict.updateFrom "dict.__init__" s.heap.objs.size (.ref d) [] .none) _ _ _;unfold Builtin.Dict.updateFrom;refine qa<|wpAny_typeOf to ?_;rw[if_neg (by decide)];refine qa ?_;unfold Builtin.Dict.merge;refine qa ?_;unfold Builtin.Dict.readDirectly;refine qa<|wpAny_isInstance to isSubtype_dict_dict ?_;simp only[Bool.not_true,Bool.false_eq_true,if_false];refine qa<|wpAny_specialOf to F.slot_dict_iter.lookup<|qb ?_;simp only[beq_self_eq_true,if_true];refine qa<|qb ?_;unfold Builtin.Dict.mergeDict;rw[if_neg (by simpa using nd)];unfold Builtin.Dict.showsAll;rw[if_neg (by rw[hdS]; exact qf)];refine qa<|qb ?_;refine qa<|wpAny_dictEntries gR hd ?_;cases ne:es.isEmpty with
 | true=>
  have e0:es=#[]:=Array.isEmpty_iff.mp ne;subst e0;have fw:(decide ((#[]:Array DictEntry).size<=8) && (#[]:Array DictEntry).all λe=>(keyPart e.key).isSome)=true:=by rw[<-Array.all_toList]; rfl
  simp only[fw,Bool.not_true,Bool.false_eq_true,if_false];refine qa<|wpAny_dictEpoch (s:={s with heap:=h1}) gR hd ?_;refine qa<|wpAny_dictEntries (s:={s with heap:=h1}) gR hd ?_;refine qa ?_;rw[Std.Legacy.Range.forIn_eq_forIn_range'];simp only[Std.Legacy.Range.size,Nat.sub_zero,Nat.add_sub_cancel,Nat.div_one,Array.size_empty,List.range'_zero,List.forIn_nil];refine qb<|qb ?_;exact qa<|qb<|qb ⟨rfl,h h1 ⟨_,0,hn,⟨rfl,rfl,rfl⟩,rfl⟩ kk⟩
 | false=>
  have fw:=Vd ne λe he=>let ⟨b,eb,_⟩:=hk e he; ⟨b,eb⟩;simp only[fw,Bool.not_false,if_true];refine qa<|wpAny_dictEntries hn rfl ?_;simp only[Array.isEmpty_empty,if_true];refine qa<|zk4 (s:={s with heap:=h1}) gR hd (λe he=>?_) hh ?_
  .have(b,eb,o2,eo,ec):=hk e he
   exact⟨b,eb,o2,kk _ _ eo,ec⟩
  simp only[ne,Bool.not_false,if_true];refine qa<|wpAny_updateDictKeysTo hn rfl ?_ (by show es.size<=_; omega);refine qb<|qa<|qb<|qb ⟨rfl,h _ ⟨_,_,Ð _ hn rfl,⟨rfl,rfl,rfl⟩,rfl⟩ λb u e=>?_⟩;exact((Ë ..).2 b<|qj<|qh e).trans<|kk b u e
end
def hK:Key->Int
 | .inl i=>hashInt i
 | .inr _=>0
def hT(ks:Qa Key):Int:=reduceHash (Builtin.Tuple.tupleHashOf<|ks.map hK)
def EC(ks:Qa Key):Bool:=ks.all λk=>match k with | .inl _=>true | .inr _=>false
def sU(RZ:Qa (Qa Key)):Bool:=RZ.all EC && decide ((RZ.map hT).Nodup)
theorem zAI:∀ {ks:Qa Key},EC ks=true->(tupleKind<|zD P w).hash ks=hT ks:=λ{ks} h=>by
 show reduceHash (Builtin.Tuple.tupleHashOf<|ks.map<|Kl w)=_;unfold hT;congr 2;refine É λk hk=>?_;have:=ô.mp h k hk;cases k with
 | inl i=>rfl
 | inr x=>cases this
theorem zmm{es:Qa DictEntry}(hn:(es.map (·.hash)).Nodup){e:DictEntry}(he:e∈es):(es.filter (·.hash==e.hash)).length<=1:=by
 induction es with
 | nil=>cases he
 | cons x es ih=>
  rw[List.map_cons,List.nodup_cons]at hn;rw[List.filter_cons];rcases qv.mp he with rfl|Sr
  .rw[if_pos (by simp)]
   have:es.filter (·.hash==e.hash)=[]:=List.filter_eq_nil_iff.mpr λy hy z=>hn.1<|À.mpr ⟨y,hy,by simpa using z⟩;rw[this];simp
  .have:¬((x.hash==e.hash)=true):=λz=>hn.1<|À.mpr ⟨e,Sr,by simpa using (beq_iff_eq.mp z).symm⟩
   rw[if_neg this];exact ih hn.2 Sr
section
variable{X:Cx}
theorem X1{l:Qa (Qa Key×V)}{m:Qa (Qa Key×Qg×Qc)}(r:KT X.K H l m):m.map (·.1)=l.map (·.1):=by
 induction r with
 | nil=>rfl
 | cons hq t ih=>rw[List.map_cons,List.map_cons,ih,hq.1]
theorem X0(I:Inv X pins σ H s)(e:Rd H a (.dT kvs))(hh:sU (kvs.map (·.1))=true)(h:∀ p s',H p=none->Inv X pins σ (upd H p<|.dT kvs) s'->Q (.ref p) s'):wpAny (model X.prog X.w) A (call (.type "dict") [.ref a]) Q E s:=by
 have(z,y,xs,r,o,es,ep,h1,h2,h3,h4,h5):=(show zI X.prog X.w X.K H s.heap a (.dT kvs) from BD I.aq e);have(_,_,gv,r',dd):=sM I.aU I.aq e;have hlen:es.size=kvs.length:=by
  have:=congrArg List.length h4;rw[Array.length_toList,List.length_map,<-xM r]at this;exact this
 have(hi,hn):=Bool.and_eq_true_iff.mp hh;have hn:=of_decide_eq_true hn;have mV:=X1 r;have hashes:es.toList.map (·.hash)=(kvs.map (·.1)).map hT:=by
  rw[h4,<-mV,List.map_map,List.map_map];refine É λx hx=>?_;exact zAI<|ô.mp hi x.1 (by rw[<-mV]; exact À.mpr ⟨x,hx,rfl⟩)
 refine zil y h1 h2 h3 (by omega) (λq hq=>?_) (λq hq=>?_) λh' ⟨o',ig,n1,n2,n3⟩ kk=>?_
 .rw[h4]at hq
  have(x,hx,rfl):=À.mp hq;have key:∀ {l:Qa (Qa Key×V)} {m:Qa (Qa Key×Qg×Qc)},KT X.K H l m->∀ x∈m,aK X.K H x.2.1 (x.1.map kV):=by
   intro l m q
   induction q with
   | nil=>intro x hx; cases hx
   | cons hq _ ih=>
    intro x hx;rcases qv.mp hx with e|hx
    .subst e
     rw[<-hq.1];exact hq.2.1
    .exact ih x hx
  exact⟨x.2.1,rfl,(oV I.aU I.aq<|key r x hx).typeIs⟩
 .rw[<-hashes]at hn
  have:=zmm hn hq;rw[<-Array.length_toList,Array.toList_filter];omega
 .refine h _ _ (I.aq.fresh<|qe _) (I.laid (a:=s.heap.objs.size) (o:=.dT kvs) (t':=s.toks) kk (qe _) ⟨z,beq_eq_false_iff_ne.mpr<|Ne.symm<|qj I.D1,xs,?_,o',es,ig,n1,n2,n3,h4,h5⟩)
  exact KT.keeps r λb ys hb=>by rw[zq (λz=>by rw[z,I.aq.fresh<|qe _]at hb; cases hb)]; exact hb
theorem zmn:fO X (.type "dict") (λxs H Q=>∃ a kvs,xs=[.ref a]/\Rd H a (.dT kvs)/\sU (kvs.map (·.1))=true/\∀ p,H p=none->Q (.ref p) (upd H p<|.dT kvs)):=by
 intro pins s σ H xs us Q I r h;have(a,kvs,rfl,hr,hh,q):=h;have(u,rfl,ru):=l6 r;cases ru;exact X0 I hr hh λp s' hp I'=>⟨.ref p,_,I',rfl,q p hp⟩
end
def uX:Qa (D×D)->Qb (Qa<|Qa Key×D)
 | []=>some []
 | (k,d)::r=>(cn k).bind λk=>(uX r).bind λr=>some<|(k,d)::r
def xB:U->Qb U
 | .t kvs=>if sU (kvs.map (·.1))=true then some (.t kvs)else none
 | .d (.dict kvs)=>if kM kvs=true then(uX kvs).bind λkvs=>if sU (kvs.map (·.1))=true then some (.t kvs)else none else none
 | _=>none
section
theorem Oj{ws:Qa (Qa Key×V)}{kvs:Qa (Qa Key×D)}(h:b7 K H ws kvs):ws.map (·.1)=kvs.map (·.1):=by
 induction h with
 | nil=>rfl
 | cons hq t ih=>rw[List.map_cons,List.map_cons,ih,hq.1]
theorem Hj:∀ {kvs:Qa (D×D)} {ws:Qa (Qa Key×V)} {r:Qa (Qa Key×D)},iQ K H ws kvs->uX kvs=some r->b7 K H ws r
 | [],ws,r,h,e=>by cases h; cases e; exact .nil
 | (k,d)::kvs,ws,r,h,e=>by
  have(k',ek,e):=zb (show(cn k).bind _=some r from e);have(r',er,e):=zb e;cases e;cases h with
  | @cons k2 v _ vs ds hv t=>
   rw[CA]at ek;cases ek;exact .cons ⟨rfl,hv⟩<|Hj t er
theorem zpk:VC K (λxs H Q=>∃ a kvs,xs=[.ref a]/\Rd H a (.dT kvs)/\sU (kvs.map (·.1))=true/\∀ p,H p=none->Q (.ref p) (upd H p<|.dT kvs)) (f1 xB):=sJ λv a u H Q h e q=>by
 unfold xB at e;split at e
 .split at e
  rotate_left
  .cases e
  rename_i kvs hh;cases e;have(b,ws,rfl,h1,h2):=h;refine⟨b,ws,rfl,.inl h1,by rw[Oj h2]; exact hh,λp hp=>?_⟩;have sm:=zB hp (.dT ws);exact q _ _ sm ⟨p,ws,rfl,zp,h2.kp sm.kp⟩ λ_=>⟨p,rfl,hp⟩
 .split at e
  rotate_left
  .cases e
  rename_i nx;have(r,er,e):=zb e;split at e
  rotate_left
  .cases e
  rename_i hh;cases e;have(b,o,ws,rfl,h1,h2):=DF.b6 h nx;have kd:=Hj h2 er;refine⟨b,ws,rfl,.inr ⟨o,h1⟩,by rw[Oj kd]; exact hh,λp hp=>?_⟩;have sm:=zB hp (.dT ws);exact q _ _ sm ⟨p,ws,rfl,zp,kd.kp sm.kp⟩ λ_=>⟨p,rfl,hp⟩
 .cases e
end
def Bx(i j:Int):Prop:=i.natAbs.log2 < 1000000/\j.natAbs.log2 < 1000000
theorem Oi{n:Int}(h:n.natAbs.log2 < 1000000):Builtin.Int.intBits n<=2^20:=by
 refine intBits_le ?_
 by_cases z:n.natAbs=0
 .rw[z]; exact Nat.two_pow_pos _
 .exact qi ((Nat.log2_lt z).mp h) (Ä (by decide) (by decide))
section
variable{X:Cx}
theorem xA:bQ X (binaryOp .Mult) (rI Bx λi j=>.int<|i * j):=vY λ_ _ _ _ _ _ _ hc q=>mul_int q<|IntMulOk.of_bits (Oi hc.1)<|Oi hc.2
end
section
def sO:=oq Bx λi j=>.int<|i * j
theorem xx:VO K (rI Bx λi j=>.int<|i * j) sO:=u7 λi j H=>.int _
def Bw:Qa U->Qb U
 | [.d<|.int i,.d<|.int j]=>some<|.d<|.int (if j < i then j else i)
 | _=>none
theorem XZ:VC K (λxs H Q=>∃ i j,xs=[.int i,.int j]/\Q (.int (if j < i then j else i)) H) Bw:=by
 intro vs us u H Q hr e q;unfold Bw at e;split at e
 .rename_i i j
  cases e;cases hr with
  | cons h1 t=>
   cases t with
   | cons h2 t=>
    cases t;cases DF.int_inv h1;cases DF.int_inv h2;exact⟨i,j,rfl,q _ _ (λ_ _ z=>z) (.int _) Nw.data⟩
 .cases e
end
section
variable{ρ:En}{me ma mb mc mk mi md my mv mx mo:ME}{mA mK:MA}{mt mu:MT}{mI:MI}{mg:MG}{m1 m2:MS}{u:U}{x:D}
variable{QE:Ar×En->Prop}{QI:Qa D×En->Prop}
theorem zk7:Wo (vn md my mx ρ) QE=Wo (md ρ) (Co (λp=>(p.1.get p.2).bind λu0=>if qX u0=true then(my p.2).bind λq=>(mx q.2).bind λz=>(p.1.get z.2).bind λu=>(q.1.get z.2).bind λy=>(z.1.get z.2).bind λx=>(j9 u y).bind λo=>x.da.bind λx=>some (.u<|.d<|o.getD x,z.2)else none) ⟨0⟩ QE):=by
 have e:vn md my mx ρ=(md ρ).bind λp=>(p.1.get p.2).bind λu0=>if qX u0=true then(my p.2).bind λq=>(mx q.2).bind λz=>(p.1.get z.2).bind λu=>(q.1.get z.2).bind λy=>(z.1.get z.2).bind λx=>(j9 u y).bind λo=>x.da.bind λx=>some (.u<|.d<|o.getD x,z.2)else none:=by
  unfold vn;refine bind_fn λp=>bind_fn λu0=>?_;split
  .refine bind_fn λq=>bind_fn λz=>bind_fn λu=>bind_fn λy=>bind_fn λx=>bind_fn λo=>?_
   cases x<;>rfl
  .rfl
 rw[e,zo]
theorem Z9:Wo (AY mA ρ) QI=Wo (mA ρ) (Co (λp=>(bt p.2 p.1).bind λus=>(wD us).bind λds=>some (ds,p.2)) ⟨0⟩ QI):=by
 show Wo (Option.bind _ _) QI=_;rw[zo]
theorem znT{kvs:Qa (Qa Key×D)}:qX (.t kvs)=true:=rfl
theorem Z8{a b:Int}:Bw [.d<|.int a,.d<|.int b]=some (.d<|.int (if b < a then b else a)):=rfl
theorem xk{a b:Int}(h:a.natAbs.log2 < 1000000)(h2:b.natAbs.log2 < 1000000):sO (.d<|.int a) (.d<|.int b)=some (.d<|.int<|a * b):=uY (c:=Bx) ⟨h,h2⟩
theorem Ca{g:α->D}{b:α->Bool}{e:α->D}{Q:Qa D×En->Prop}(hz:as.length<=sizeLine)
  (st:∀ a∈as,∀ ys,Wo (mg (g a) ρ)<|Co mt ⟨0⟩<|v9 nt me ys λah zs=>ah=ρ/\zs=if b a=true then ys++[e a]else ys) (q:Q ((as.filter b).map e,ρ)):Wo (jt nt mg mt me (as.map g) ρ []) Q:=by
 refine By (λi ah ys=>ah=ρ/\ys=((as.take i).filter b).map e) (by rw[List.length_map]; exact hz) (λi ah ys h=>?_) ⟨rfl,rfl⟩ (λi d ah ys hd h=>?_) λah ys h=>?_
 .rw[h.2,List.length_map]
  exact qy (Ô _ _) (by rw[List.length_take]; exact Nat.min_le_left _ _)
 .have(rfl,rfl):=h
  rw[List.getElem?_map]at hd;have(a,ha,rfl):=qr.mp hd;have:=st a (Â ha) (((as.take i).filter b).map e);have en:((as.take<|i+1).filter b).map e=if b a=true then((as.take i).filter b).map e++[e a]else((as.take i).filter b).map e:=by
   rw[List.take_succ,ha,List.filter_append,List.map_append];show _++(([a]:Qa α).filter b).map e=_;rw[List.filter_cons];split<;>simp
  rw[en];exact this
 .have(rfl,rfl):=h
  rw[List.length_map,List.take_of_length_le<|qe _];exact q
end
section
variable{X:Cx}
end
end L2
namespace L2
open PySem
def oH(n d:Int):Int:=(if d < 0 then -n else n) / (Int.gcd n d:Nat)
def nC(n d:Int):Int:=(if d < 0 then -d else d) / (Int.gcd n d:Nat)
theorem zpl{n d:Int}(hd:d≠0):oH n d * d=n * nC n d/\1<=nC n d/\Int.gcd (oH n d) (nC n d)=1/\nC n d<=d.natAbs/\(oH n d).natAbs<=n.natAbs:=by
 have hg:0 < Int.gcd n d:=Int.gcd_pos_of_ne_zero_right n hd;have(u,hu):=Int.gcd_dvd_left n d;have(v,hv):=Int.gcd_dvd_right n d;have Sq:(0:Int) < (Int.gcd n d:Nat):=Int.natCast_pos.mpr hg;have hc:Int.gcd (n / (Int.gcd n d:Nat)) (d / (Int.gcd n d:Nat))=1:=Int.gcd_ediv_gcd_ediv_gcd hg;unfold oH nC;generalize (Int.gcd n d:Nat)=g at *;have DS:(g:Int)≠0:=by omega
 have eu:n / (g:Int)=u:=by rw[hu]; exact ë u DS
 have ev:d / (g:Int)=v:=by rw[hv]; exact ë v DS
 have SK:(-n) / (g:Int)=-u:=by rw[hu,<-Int.mul_neg]; exact ë (-u) DS
 have uA:(-d) / (g:Int)=-v:=by rw[hv,<-Int.mul_neg]; exact ë (-v) DS
 rw[eu,ev]at hc;have g1:1<=g:=hg;have an:n.natAbs=g * u.natAbs:=by rw[hu,Int.natAbs_mul]; rfl
 have ad:d.natAbs=g * v.natAbs:=by rw[hv,Int.natAbs_mul]; rfl
 have lu:u.natAbs<=n.natAbs:=by rw[an]; exact Nat.le_mul_of_pos_left _ hg
 have lv:v.natAbs<=d.natAbs:=by rw[ad]; exact Nat.le_mul_of_pos_left _ hg
 by_cases c:d < 0
 .rw[if_pos c,if_pos c,SK,uA]
  have hv0:v < 0:=by
   rcases(by omega:v < 0\/0<=v)with z|z
   .exact z
   .have:=Int.mul_nonneg (é Sq) z
    omega
  refine⟨?_,by omega,?_,by omega,by omega⟩
  .rw[hu,hv]
   simp only[Int.neg_mul,Int.mul_neg,Int.neg_inj]
   ac_rfl
  .rw[Int.neg_gcd,Int.gcd_neg]
   exact hc
 .rw[if_neg c,if_neg c,eu,ev]
  have hv0:0 < v:=by
   rcases(by omega:0 < v\/v<=0)with z|z
   .exact z
   .have:=Int.mul_nonneg (é Sq) (show 0<=-v by omega)
    rw[Int.mul_neg,<-hv]at this;omega
  refine⟨?_,by omega,hc,by omega,by omega⟩;rw[hu,hv]
  ac_rfl
theorem Z7{n d N D:Int}(hd:d≠0)(h1:1<=D)(hc:Int.gcd N D=1)(he:N * d=n * D):N=oH n d/\D=nC n d:=by
 have(e,y1,c,_,_):=zpl (n:=n) hd;generalize oH n d=x at *;generalize nC n d=y at *;have k:N * y=x * D:=by
  have z:(N * y) * d=(x * D) * d:=by grind
  exact õ hd z
 have d1:D∣y:=by
  have t:D∣N * y:=⟨x,by rw[k]; ac_rfl⟩;have u:=ò.mpr t;rw[Int.gcd_comm,hc]at u;simpa using u
 have d2:y∣D:=by
  have t:y∣x * D:=⟨N,by rw[<-k]; ac_rfl⟩;have u:=ò.mpr t;rw[Int.gcd_comm,c]at u;simpa using u
 have l1:=Int.le_of_dvd (by omega) d1;have l2:=Int.le_of_dvd (by omega) d2;have e2:D=y:=by omega
 refine⟨?_,e2⟩;rw[e2]at k;exact õ (by omega) k
theorem Oh(n d:Int){g:Int}(hg:0 < g):n.fdiv (if d < 0 then 0 - g else g)=(if d < 0 then -n else n) / g:=by
 split
 .rw[Int.zero_sub,<-Int.fdiv_eq_ediv_of_nonneg _ (Int.le_of_lt hg)]
  have:=Int.neg_fdiv_neg (-n) g;rw[Int.neg_neg]at this;exact this
 .rw[Int.fdiv_eq_ediv_of_nonneg _<|Int.le_of_lt hg]
theorem Z6(x y:Int):Int.gcd (if x < 0 then -x else x) (if y < 0 then -y else y)=Int.gcd x y:=by
 rw[XJ];split
 .exact Int.gcd_neg
 .rfl
theorem XY{n d:Int}(hd:d≠0):oH n d=(Rat.divInt n d).num/\nC n d=((Rat.divInt n d).den:Int):=by
 have h:=Z7 (n:=n) (d:=d) (N:=(Rat.divInt n d).num) (D:=((Rat.divInt n d).den:Int)) hd (by have:=(Rat.divInt n d).den_pos; omega) (by
  have:=(Rat.divInt n d).reduced;exact this) (by
  have e:Rat.divInt (Rat.divInt n d).num ((Rat.divInt n d).den:Int)=Rat.divInt n d:=Rat.num_divInt_den _;rw[Rat.divInt_eq_divInt_iff (by have:=(Rat.divInt n d).den_pos; omega) hd]at e;rw[e])
 exact⟨h.1.symm,h.2.symm⟩
def fR(r:Rat):D:=.tuple [.int r.num,.int (r.den:Int)]
theorem Vc{n d:Int}(hd:d≠0):PyData.tuple [.int<|oH n d,.int<|nC n d]=fR (Rat.divInt n d):=by
 have(e1,e2):=XY (n:=n) hd;rw[e1,e2];rfl
theorem AX(r:Rat):1<=(r.den:Int):=by have:=r.den_pos; omega
theorem cop(r:Rat):Int.gcd r.num (r.den:Int)=1:=by
 have:=r.reduced;exact this
theorem XX(a b:Rat):Rat.divInt (a.num * b.den+b.num * a.den) ((a.den:Int) * b.den)=a+b:=by
 rw[Rat.add_def',<-Rat.divInt_ofNat,Int.natCast_mul]
theorem Yo(a b:Rat):Rat.divInt (a.num * b.num) ((a.den:Int) * b.den)=a * b:=by
 rw[Rat.mul_def',<-Rat.divInt_ofNat,Int.natCast_mul]
theorem Z5(r:Rat):r * (r.den:Rat)=(r.num:Rat):=by
 have e:(r.num:Rat) / ((r.den:Int):Rat)=r:=by rw[<-Rat.divInt_eq_div]; exact Rat.num_divInt_den r
 have n:((r.den:Int):Rat)≠0:=λh=>by
  have:=Rat.intCast_inj.mp (show((r.den:Int):Rat)=((0:Int):Rat) from h);have:=r.den_pos;omega
 have:=Rat.div_mul_cancel (a:=(r.num:Rat)) n;rw[e]at this;exact this
def Bd(M B:Nat)(r:Rat):Prop:=∃ k:Int,r * (M:Rat)=(k:Rat)/\k.natAbs<=B
section
variable{M N C:Nat}{r s:Rat}
theorem Bd.le(h:Bd M B r)(c:B<=C):Bd M C r:=let ⟨k,e,b⟩:=h; ⟨k,e,qy b c⟩
theorem Bd.size(hM:0 < M)(h:Bd M B r):r.den<=M/\r.num.natAbs<=B:=by
 have(k,e,b):=h;have e2:r.num * (M:Int)=k * (r.den:Int):=by
  have h1:=Z5 r;have h2:((r.num * (M:Int):Int):Rat)=((k * (r.den:Int):Int):Rat):=by
   rw[Rat.intCast_mul,Rat.intCast_mul,<-h1,<-e,Rat.intCast_natCast,Rat.intCast_natCast,Rat.mul_assoc,Rat.mul_assoc,Rat.mul_comm (r.den:Rat)]
  exact Rat.intCast_inj.mp h2
 have dv:(r.den:Int)∣(M:Int):=by
  have t:(r.den:Int)∣r.num * (M:Int):=⟨k,by rw[e2,Int.mul_comm]⟩;have u:=ò.mpr t;rw[Int.gcd_comm,cop]at u;simpa using u
 have(c,hc):=dv;have dp:(0:Int) < r.den:=by have:=r.den_pos; omega
 have c0:0 < c:=by
  rcases(by omega:0 < c\/c<=0)with z|z
  .exact z
  .have:=Int.mul_nonneg (é dp) (show 0<=-c by omega)
   rw[Int.mul_neg,<-hc]at this;omega
 have ek:k=r.num * c:=by
  rw[hc]at e2;have:k * (r.den:Int)=(r.num * c) * (r.den:Int):=by rw[<-e2]; ac_rfl
  exact õ (by omega) this
 constructor
 .have:(r.den:Int) * 1<=(r.den:Int) * c:=Int.mul_le_mul_of_nonneg_left (by omega) (by omega)
  omega
 .rw[ek,Int.natAbs_mul]at b
  exact qy (Nat.le_mul_of_pos_right _ (by omega)) b
theorem Bd.add(h:Bd M B r)(h':Bd M C s):Bd M (B+C) (r+s):=by
 have(k,e,b):=h;have(l,f,c):=h';exact⟨k+l,by rw[Rat.add_mul,e,f,Rat.intCast_add],qy (Int.natAbs_add_le _ _)<|Nat.add_le_add b c⟩
theorem Bd.mul(h:Bd M B r)(h':Bd N C s):Bd (M * N) (B * C) (r * s):=by
 have(k,e,b):=h;have(l,f,c):=h';refine⟨k * l,?_,by rw[Int.natAbs_mul]; exact Õ b c⟩;rw[Rat.intCast_mul,<-e,<-f,Rat.natCast_mul];grind
theorem Bd.neg(h:Bd M B r):Bd M B (-r):=by
 have(k,e,b):=h;exact⟨-k,by rw[Rat.neg_mul,e,Rat.intCast_neg],by rw[Int.natAbs_neg]; exact b⟩
theorem Bd.zero:Bd M B 0:=⟨0,by rw[Rat.zero_mul]; rfl,Å _⟩
theorem Bd.int(n:Int):Bd 1 n.natAbs (n:Rat):=⟨n,by rw[show((1:Nat):Rat)=1 from rfl,Rat.mul_one],qe _⟩
end
abbrev Pq(α:Type):=Qa (Qa Int×α)
section
def look(p:Pq α)(k:Qa Int):Qb α:=(p.find? λt=>decide<|t.1=k).map (·.2)
def bI(p:Pq α)(k:Qa Int)(x:α):Pq α:=if(p.any λt=>decide<|t.1=k)=true then p.map (λt=>if t.1=k then(t.1,x)else t)else p++[(k,x)]
def cq(p:Pq α):Prop:=(p.map (·.1)).Nodup
theorem Hu{p:Pq α}{k:Qa Int}:look p k=none↔(p.any λt=>decide<|t.1=k)=false:=by
 induction p with
 | nil=>simp[look]
 | cons t p ih=>
  unfold look at ih ⊢;rw[List.find?_cons,List.any_cons]
  by_cases h:t.1=k
  .simp[h]
  .rw[decide_eq_false h,Bool.false_or]
   exact ih
theorem Hi{p:Pq α}{k:Qa Int}:(look p k).isSome=(p.any λt=>decide<|t.1=k):=by
 cases h:look p k with
 | none=>rw[Hu.mp h]; rfl
 | some x=>
  cases z:(p.any λt=>decide<|t.1=k)with
  | true=>rfl
  | false=>rw[Hu.mpr z]at h; cases h
theorem Og(p:Pq α)(k:Qa Int)(x:α):(bI p k x).map (·.1)=if(p.any λt=>decide<|t.1=k)=true then p.map (·.1)else p.map (·.1)++[k]:=by
 unfold bI;split
 .rw[List.map_map]
  refine É λt _=>?_;show(if t.1=k then(t.1,x)else t).1=t.1;split<;>rfl
 .rw[List.map_append]
  rfl
theorem GL{p:Pq α}{k:Qa Int}{x:α}{t:Qa Int×α}(h:t∈bI p k x):(t∈p/\t.1≠k)\/t=(k,x):=by
 unfold bI at h;split at h
 .have(u,hu,rfl):=À.mp h
  by_cases c:u.1=k
  .rw[if_pos c]; exact .inr (by rw[c])
  .rw[if_neg c]; exact .inl ⟨hu,c⟩
 .rename_i hn
  rcases Á.mp h with z|z
  .exact .inl ⟨z,λe=>hn<|ê.mpr ⟨t,z,decide_eq_true e⟩⟩
  .exact .inr (qq.mp z)
theorem cq.put{p:Pq α}(h:cq p)(k:Qa Int)(x:α):cq (bI p k x):=by
 unfold cq;rw[Og];split
 .exact h
 .rename_i hn
  refine List.nodup_append.mpr ⟨h,by simp,λa ha b hb=>?_⟩;have:b=k:=by simpa using hb
  rw[this];have(t,ht,rfl):=À.mp ha;exact λe=>hn<|ê.mpr ⟨t,ht,decide_eq_true e⟩
theorem vF(p:Pq α)(k:Qa Int)(x:α):(bI p k x).length<=p.length+1:=by
 unfold bI;split
 .rw[List.length_map]; omega
 .rw[qt]; exact qe _
def gf[Add α][Zero α](acc:Pq α)(ts:Pq α):Pq α:=ts.foldl (λa t=>bI a t.1<|(look a t.1).getD 0+t.2) acc
end
section
variable[Add α][Zero α]
theorem B9(ts:Pq α):∀ {acc:Pq α},cq acc->cq (gf acc ts):=by
 induction ts with
 | nil=>exact λh=>h
 | cons t ts ih=>exact λh=>ih<|h.put _ _
theorem Cm(ts:Pq α):∀ (acc:Pq α),(gf acc ts).length<=acc.length+ts.length:=by
 induction ts with
 | nil=>intro acc; exact qe _
 | cons t ts ih=>
  intro acc;have h1:=ih (bI acc t.1<|(look acc t.1).getD 0+t.2);have h2:=vF acc t.1 ((look acc t.1).getD 0+t.2);rw[qu];show(gf (bI acc t.1<|(look acc t.1).getD 0+t.2) ts).length<=_;omega
theorem NT(acc ts:Pq α)(t:Qa Int×α):gf acc (ts++[t])=bI (gf acc ts) t.1 ((look (gf acc ts) t.1).getD 0+t.2):=by
 unfold gf;rw[List.foldl_append];rfl
end
theorem mw{p:Pq α}{k:Qa Int}{x:α}(h:look p k=some x):(k,x)∈p:=by
 unfold look at h;have(t,ht,rfl):=qr.mp h;have h1:=List.mem_of_find?_eq_some ht;have h2:t.1=k:=by simpa using List.find?_some ht
 rw[<-h2];exact h1
theorem rB{p:Pq α}(nd:cq p){t:Qa Int×α}(h:t∈p):look p t.1=some t.2:=by
 induction p with
 | nil=>cases h
 | cons u p ih=>
  have rP:u.1∉p.map (·.1)/\cq p:=ö.mp nd;unfold look at ih ⊢;rw[List.find?_cons];rcases qv.mp h with rfl|h
  .rw[decide_eq_true rfl]; rfl
  .rw[decide_eq_false λe=>rP.1<|List.mem_map.mpr ⟨t,h,e.symm⟩]
   exact ih rP.2 h
def bh(p:Pq Rat)(g:Qa Int->Rat):Rat:=(p.map λt=>t.2 * g t.1).sum
theorem rA(g:Qa Int->Rat):bh [] g=0:=rfl
theorem zS(t:Qa Int×Rat)(p:Pq Rat)(g:Qa Int->Rat):bh (t::p) g=t.2 * g t.1+bh p g:=rfl
theorem M5(p q:Pq Rat)(g:Qa Int->Rat):bh (p++q) g=bh p g+bh q g:=by
 induction p with
 | nil=>rw[List.nil_append,rA,Rat.zero_add]
 | cons t p ih=>rw[List.cons_append,zS,zS,ih,Rat.add_assoc]
theorem NS{p q:Pq Rat}(h:p.Perm q)(g:Qa Int->Rat):bh p g=bh q g:=by
 induction h with
 | nil=>rfl
 | cons t _ ih=>rw[zS,zS,ih]
 | swap t u p=>rw[zS,zS,zS,zS]; grind
 | trans _ _ i1 i2=>exact i1.trans i2
theorem F5(p:Pq Rat)(g:Qa Int->Rat):bh (p.filter λt=>decide<|t.2≠0) g=bh p g:=by
 induction p with
 | nil=>rfl
 | cons t p ih=>
  rw[List.filter_cons]
  by_cases h:t.2=0
  .rw[if_neg (by simp[h]),zS,h,ih]; grind
  .rw[if_pos (by simp[h]),zS,zS,ih]
theorem Z4{p:Pq Rat}(nd:cq p){k:Qa Int}{x:Rat}(h:look p k=some x)(y:Rat)(g:Qa Int->Rat):bh (p.map λt=>if t.1=k then(t.1,x+y)else t) g=bh p g+y * g k:=by
 induction p with
 | nil=>cases h
 | cons t p ih=>
  have rP:t.1∉p.map (·.1)/\cq p:=ö.mp nd;rw[List.map_cons,zS,zS]
  by_cases c:t.1=k
  .have e:p.map (λt=>if t.1=k then(t.1,x+y)else t)=p:=by
    have:∀ u∈p,(λt:Qa Int×Rat=>if t.1=k then(t.1,x+y)else t) u=id u:=λu hu=>if_neg λz=>rP.1<|À.mpr ⟨u,hu,z.trans c.symm⟩;rw[List.map_congr_left this,List.map_id]
   have ex:t.2=x:=by
    unfold look at h;rw[List.find?_cons,decide_eq_true c]at h;exact qx h
   rw[e,if_pos c,ex,c];grind
  .have h':look p k=some x:=by
    unfold look at h ⊢;rw[List.find?_cons,decide_eq_false c]at h;exact h
   rw[if_neg c,ih rP.2 h'];grind
theorem Yn{p:Pq Rat}(nd:cq p)(k:Qa Int)(y:Rat)(g:Qa Int->Rat):bh (bI p k<|(look p k).getD 0+y) g=bh p g+y * g k:=by
 unfold bI;cases h:look p k with
 | none=>
  rw[if_neg (by rw[Hu.mp h]; exact qf),M5,zS,rA,Option.getD_none];grind
 | some x=>
  rw[if_pos (by rw[<-Hi,h]; rfl),Option.getD_some];exact Z4 nd h y g
theorem M4(ts:Pq Rat)(g:Qa Int->Rat):∀ {acc:Pq Rat},cq acc->bh (gf acc ts) g=bh acc g+bh ts g:=by
 induction ts with
 | nil=>intro acc _; rw[rA,Rat.add_zero]; rfl
 | cons t ts ih=>
  intro acc nd;show bh (gf (bI acc t.1 _) ts) g=_;rw[ih<|nd.put _ _,Yn nd,zS,Rat.add_assoc]
def pK(a b:Qa Int×α):Prop:=cP a.1 b.1=true
def ins(x:Qa Int×α):Pq α->Pq α
 | []=>[x]
 | y::l=>if cP x.1 y.1=true then x::y::l else y::ins x l
def mH:Pq α->Pq α
 | []=>[]
 | x::l=>ins x<|mH l
theorem Hh(x:Qa Int×α):∀ l:Pq α,(ins x l).Perm<|x::l
 | []=>.refl _
 | y::l=>by
  unfold ins;split
  .exact .refl _
  .exact((Hh x l).cons y).trans (List.Perm.swap x y l)
theorem mr:∀ l:Pq α,(mH l).Perm l
 | []=>.refl _
 | x::l=>(Hh x<|mH l).trans<|(mr l).cons x
theorem NR(x:Qa Int×α):∀ {l:Pq α},l.Pairwise pK->(∀ y∈l,x.1≠y.1)->(ins x l).Pairwise pK
 | [],_,_=>by unfold ins; simp
 | y::l,h,ne=>by
  have(h1,h2):=Ù.mp h;unfold ins;split
  .rename_i c
   refine Ù.mpr ⟨λw hw=>?_,h⟩;rcases qv.mp hw with rfl|hw
   .exact c
   .exact vM c (h1 w hw)
  .rename_i c
   refine Ù.mpr ⟨λw hw=>?_,NR x h2 λw hw=>ne w<|qo _ hw⟩;rcases qv.mp ((Hh x l).mem_iff.mp hw)with rfl|hw
   .exact(xI<|ne y qp).resolve_left c
   .exact h1 w hw
theorem Hg:∀ {l:Pq α},cq l->(mH l).Pairwise pK
 | [],_=>.nil
 | x::l,nd=>by
  have rP:x.1∉l.map (·.1)/\cq l:=ö.mp nd;exact NR x (Hg rP.2) λy hy e=>rP.1<|À.mpr ⟨y,(mr l).mem_iff.mp hy,e.symm⟩
structure Nf (p:Pq Rat):Prop where
 st:p.Pairwise pK
 nz:∀ t∈p,t.2≠0
theorem GK{p:Pq Rat}{k:Qa Int}(h:∀ t∈p,t.1≠k):bh p (λe=>if e=k then 1 else 0)=0:=by
 induction p with
 | nil=>rfl
 | cons t p ih=>
  rw[zS,ih λu hu=>h u<|qo _ hu,if_neg<|h t qp];grind
theorem mQ{a b:Qa Int×α}(h:pK a b):a.1≠b.1:=λe=>by
 unfold pK at h;rw[e,tw]at h;cases h
theorem Nf.tail{t:Qa Int×Rat}{p:Pq Rat}(h:Nf (t::p)):Nf p:=⟨(Ù.mp h.st).2,λu hu=>h.nz u<|qo _ hu⟩
theorem Nf.gz{t:Qa Int×Rat}{p:Pq Rat}(h:Nf (t::p)):bh (t::p) (λe=>if e=t.1 then 1 else 0)=t.2:=by
 rw[zS,GK λu hu e=>mQ ((List.pairwise_cons.mp h.st).1 u hu) e.symm,if_pos rfl];grind
theorem M3:∀ {p q:Pq Rat},Nf p->Nf q->(∀ g,bh p g=bh q g)->p=q
 | [],[],_,_,_=>rfl
 | [],t::q,_,hq,h=>by
  have:=h λe=>if e=t.1 then 1 else 0;rw[hq.gz,rA]at this;exact absurd this.symm<|hq.nz t qp
 | t::p,[],hp,_,h=>by
  have:=h λe=>if e=t.1 then 1 else 0;rw[hp.gz,rA]at this;exact absurd this<|hp.nz t qp
 | t::p,u::q,hp,hq,h=>by
  have key:t.1=u.1:=by
   by_cases c:t.1=u.1
   .exact c
   .exfalso
    rcases xI c with z|z
    .have:=h λe=>if e=t.1 then 1 else 0
     rw[hp.gz,GK]at this
     .exact hp.nz t qp this
     .intro w hw e
      rcases qv.mp hw with rfl|hw
      .exact c e.symm
      .have:=vM z ((Ù.mp hq.st).1 w hw)
       rw[e,tw]at this;cases this
    .have:=h λe=>if e=u.1 then 1 else 0
     rw[hq.gz,GK]at this
     .exact hq.nz u qp this.symm
     .intro w hw e
      rcases qv.mp hw with rfl|hw
      .exact c e
      .have:=vM z ((Ù.mp hp.st).1 w hw)
       rw[e,tw]at this;cases this
  have val:t.2=u.2:=by
   have:=h λe=>if e=t.1 then 1 else 0;rw[hp.gz,key,hq.gz]at this;exact this
  have tl:∀ g,bh p g=bh q g:=λg=>by
   have:=h g;rw[zS,zS,key,val]at this;grind
  rw[M3 hp.tail hq.tail tl,Prod.ext key val]
def nz(p:Pq Rat):Pq Rat:=p.filter λt=>decide<|t.2≠0
theorem KG{p:Pq Rat}(h:cq p):cq (nz p):=h.sublist (List.filter_sublist.map _)
theorem Vb{p:Pq Rat}(h:cq p):Nf (mH<|nz p):=⟨Hg<|KG h,λt ht=>by
 have:=ß.mp ((mr _).mem_iff.mp ht);simpa using this.2⟩
theorem Jc:cq ([]:Pq Rat):=List.nodup_nil
theorem Ym(p:Pq Rat)(g:Qa Int->Rat):bh (mH<|nz p) g=bh p g:=(NS (mr _) g).trans (F5 p g)
def PB(M B:Nat)(p:Pq Rat):Prop:=∀ t∈p,Bd M B t.2
theorem GJ{M:Nat}{p:Pq Rat}(h:PB M B p)(k:Qa Int):Bd M B ((look p k).getD 0):=by
 cases e:look p k with
 | none=>exact Bd.zero
 | some x=>exact h _<|mw e
theorem LX{M:Nat}(ts:Pq Rat):∀ {C:Nat} {acc:Pq Rat},PB M C acc->PB M B ts->PB M (C+ts.length * B) (gf acc ts):=by
 induction ts with
 | nil=>intro C acc h _ t ht; exact(h t ht).le (by rw[List.length_nil]; omega)
 | cons t ts ih=>
  intro C acc h h' u hu;have hp:PB M (C+B) (bI acc t.1<|(look acc t.1).getD 0+t.2):=λv hv=>by
   rcases GL hv with⟨z,_⟩|rfl
   .exact(h v z).le (by omega)
   .exact(GJ h _).add (h' t qp)
  exact(ih hp (λv hv=>h' v<|qo _ hv) u hu).le (by rw[qu,Nat.add_mul]; omega)
theorem pb0{M:Nat}:PB M B []:=λt ht=>by cases ht
def A9(p:Pq Rat):Pq Rat:=p.map λt=>(t.1,-t.2)
def gC(a b:Qa Int):Qa Int:=List.zipWith (·+·) a b
def gB[Mul α](p q:Pq α):Pq α:=p.flatMap λs=>q.map λt=>(gC s.1 t.1,s.2 * t.2)
theorem Yl(p:Pq Rat)(g:Qa Int->Rat):bh (A9 p) g=-bh p g:=by
 induction p with
 | nil=>rfl
 | cons t p ih=>
  show bh ((t.1,-t.2)::A9 p) g=_;rw[zS,zS,ih];grind
theorem Z3(s:Qa Int×Rat)(q:Pq Rat)(g:Qa Int->Rat):bh (q.map λt=>(gC s.1 t.1,s.2 * t.2)) g=s.2 * bh q λb=>g (gC s.1 b):=by
 induction q with
 | nil=>rw[List.map_nil,rA,rA,Rat.mul_zero]
 | cons t q ih=>rw[List.map_cons,zS,zS,ih]; grind
theorem Yk(p q:Pq Rat)(g:Qa Int->Rat):bh (gB p q) g=bh p λa=>bh q λb=>g (gC a b):=by
 induction p with
 | nil=>rfl
 | cons s p ih=>
  show bh (_++gB p q) g=_;rw[M5,Z3,ih,zS]
theorem NQ[Mul α](p q:Pq α):(gB p q).length=p.length * q.length:=by
 induction p with
 | nil=>simp[gB]
 | cons s p ih=>
  show(_++gB p q).length=_;rw[qt,ih,List.length_map,qu,Nat.add_mul,Nat.one_mul,Nat.add_comm]
theorem Yj[Mul α]{p q:Pq α}{t:Qa Int×α}(h:t∈gB p q):∃ u∈p,∃ v∈q,t=(gC u.1 v.1,u.2 * v.2):=by
 have(u,hu,h):=â.mp h;have(v,hv,rfl):=À.mp h;exact⟨u,hu,v,hv,rfl⟩
def iv(m:Nat)(r:Rat):Int:=r.num * ((m:Int) / (r.den:Int))
def az(ks:Qa Int):D:=.tuple (ks.map PyData.int)
abbrev kL(ks:Qa Int):Qa Key:=ks.map Sum.inl
section
variable{c:α->D}
def aZ(c:α->D)(p:Pq α):Qa (Qa Key×D):=p.map λt=>(kL t.1,c t.2)
def cw(c:α->D)(p:Pq α):Qa (D×D):=p.map λt=>(az t.1,c t.2)
def gH(c:α->D)(p:Pq α):Qa D:=p.map λt=>.tuple [az t.1,c t.2]
theorem B8(p:Pq α):(gH c p).length=p.length:=List.length_map ..
theorem vm{a:Qa Int}:kL a=kL b↔a=b:=Gx
theorem F4(k:Qa Int):ic (kL k)=az k:=by
 unfold ic az kL;rw[List.map_map];rfl
theorem pb(k:Qa Int):cn (az k)=some (kL k):=by rw[<-F4,CA]
theorem Z2(p:Pq α):(aZ c p).map (λp=>(ic p.1,p.2))=cw c p:=by
 unfold aZ cw;rw[List.map_map];refine É λt _=>?_;show(ic<|kL t.1,c t.2)=_;rw[F4]
theorem B7(p:Pq α):kM (cw c p)=true:=by
 cases p with
 | nil=>rfl
 | cons t p=>rfl
theorem M1(p:Pq α)(k:Qa Int):gg (aZ c p) (kL k)=(look p k).map c:=by
 unfold gg aZ look
 induction p with
 | nil=>rfl
 | cons t p ih=>
  rw[List.map_cons,List.find?_cons,List.find?_cons]
  by_cases h:t.1=k
  .rw[decide_eq_true h,decide_eq_true<|vm.mpr h]; rfl
  .rw[decide_eq_false h,decide_eq_false λz=>h<|vm.mp z]; exact ih
theorem Z1(p:Pq α)(k:Qa Int):uZ (cw c p) (kL k)=(look p k).map c:=by
 unfold uZ cw look
 induction p with
 | nil=>rfl
 | cons t p ih=>
  rw[List.map_cons,List.find?_cons,List.find?_cons]
  by_cases h:t.1=k
  .rw[decide_eq_true h,decide_eq_true (show cn (az t.1)=some (kL k) by rw[pb,h])]; rfl
  .rw[decide_eq_false h,decide_eq_false (show ¬cn (az t.1)=some (kL k) by rw[pb]; exact λz=>h<|vm.mp<|qx z)]; exact ih
theorem znY{p:Pq α}{k:Qa Int}:j9 (.t<|aZ c p) (.d<|az k)=some ((look p k).map c):=by
 show(cn<|az k).map _=_;rw[pb,Option.map_some,M1]
theorem znZ{p:Pq α}{k:Qa Int}:j9 (.d<|.dict<|cw c p) (.d<|az k)=some ((look p k).map c):=by
 show(if kM (cw c p)=true then _ else _)=_;rw[if_pos<|B7 p];show(cn<|az k).map _=_;rw[pb,Option.map_some,Z1]
theorem Z0{p:Pq α}:kM (cw c p)=true:=B7 p
theorem ZZ{p:Pq α}:(cw c p).map (λx=>x.1)=p.map λt=>az t.1:=by
 unfold cw;rw[List.map_map];rfl
theorem zle{k:Qa Int}:cn (az k)=some (kL k):=pb k
theorem F3(p:Pq α)(k:Qa Int)(x:α):dN (aZ c p) (kL k) (c x)=aZ c (bI p k x):=by
 have any:((aZ c p).any λkv=>decide<|kv.1=kL k)=(p.any λt=>decide<|t.1=k):=by
  unfold aZ;rw[List.any_map];congr 1
  funext t
  exact decide_eq_decide.mpr vm
 unfold dN bI;rw[any];split
 .unfold aZ
  rw[List.map_map,List.map_map];refine É λt _=>?_;show(if kL t.1=kL k then _ else _)=(λt:Qa Int×α=>(kL t.1,c t.2)) (if t.1=k then(t.1,x)else t)
  by_cases h:t.1=k
  .rw[if_pos<|vm.mpr h,if_pos h]
  .rw[if_neg λz=>h<|vm.mp z,if_neg h]
 .unfold aZ
  rw[List.map_append];rfl
theorem B6(p:Pq α):(aZ c p).length=p.length:=List.length_map ..
theorem A8{p:Pq α}{k:Qa Int}{x:α}(h:p.length < 16777216):Fv (.t<|aZ c p) (az k) (c x)=some (.t<|aZ c<|bI p k x):=by
 show(cn<|az k).bind _=_;rw[pb,bd,if_pos (by rw[B6]; exact h),F3]
theorem ziW{p:Pq α}:sW (.d<|.dict<|cw c p)=some (gH c p):=by
 show(if kM (cw c p)=true then _ else _)=_;rw[if_pos<|B7 p];unfold cw gH;rw[List.map_map];rfl
theorem NP:∀ p:Pq α,uX (cw c p)=some (aZ c p)
 | []=>rfl
 | t::p=>by
  show(cn<|az t.1).bind _=_;rw[pb,bd];show(uX<|cw c p).bind _=_;rw[NP p,bd];rfl
theorem ZY(p:Pq α):(aZ c p).map (·.1)=(p.map (·.1)).map kL:=by
 unfold aZ;rw[List.map_map,List.map_map];rfl
def Fy(p:Pq α):Prop:=sU ((p.map (·.1)).map kL)=true
theorem KE{p:Pq α}(h:Fy p):xB (.d<|.dict<|cw c p)=some (.t<|aZ c p):=by
 show(if kM (cw c p)=true then _ else _)=_;rw[if_pos<|B7 p,NP,bd,if_pos (by rw[ZY]; exact h)]
theorem Fx(k:Qa Int)(d:D):pk (.tuple [az k,d])=some k:=Hv k
theorem LW:∀ p:Pq α,vX (gH c p)=some (p.map (·.1))
 | []=>rfl
 | t::p=>by
  show(pk<|.tuple [az t.1,c t.2]).bind _=_;rw[Fx,bd];show(vX<|gH c p).bind _=_;rw[LW p];rfl
theorem Va{p:Pq α}(nd:cq p)(hl:p.length < 64):F8 (.l<|gH c p)=some (.l<|gH c<|mH p):=by
 have e:Bu (gH c p)=gH c (mH p):=N8 ((mr p).map _) (List.pairwise_map.mpr<|(Hg nd).imp λ{a b} h=>⟨_,_,Fx a.1 _,Fx b.1 _,h⟩);show(some _).bind _=_;rw[bd,LW,bd,if_pos ⟨by unfold gH; rw[List.length_map]; exact hl,nd⟩,e]
end
theorem Wd{r:Rat}:bo (.d<|fR r) (.d<|.int 0)=some (.d<|.int r.num):=rfl
theorem Wc{r:Rat}:bo (.d<|fR r) (.d<|.int 1)=some (.d<|.int (r.den:Int)):=rfl
theorem LV(r:Rat):(!decide (r.num=0))=decide (r≠0):=by
 rw[Bool.eq_iff_iff,Bool.not_eq_true',decide_eq_false_iff_not,decide_eq_true_iff];exact not_congr Rat.num_eq_zero
theorem CH{f:α->D}{g:β->D}:∀ (as:Qa α) (bs:Qa β),lh (as.map f) (bs.map g)=(as.zip bs).map λt=>.tuple [f t.1,g t.2]
 | [],bs=>by cases bs<;>rfl
 | a::as,[]=>rfl
 | a::as,b::bs=>by rw[List.map_cons,List.map_cons,List.zip_cons_cons,List.map_cons,<-CH as bs]; rfl
theorem Oq{f:α->D}{ks:Qa Int}(h:as.length=ks.length):wD [.d<|.tuple<|as.map f,.d<|az ks]=some ((as.zip ks).map λt=>.tuple [f t.1,.int t.2]):=by
 show(if _ then _ else _)=_;rw[if_pos (by rw[List.length_map,List.length_map]; exact h),CH]
theorem Hy{as ks:Qa Int}(h:as.length=ks.length):wD [.d<|az as,.d<|az ks]=some ((as.zip ks).map λt=>.tuple [.int t.1,.int t.2]):=Oq (f:=PyData.int) h
theorem sT{g:α->D}{e:α->D}{mg:MG}{mt:MT}{me:ME}{ρ:En}{Q:Qa D×En->Prop}(hz:as.length<=16777216)
  (st:∀ a∈as,∀ ys,Wo (mg (g a) ρ)<|Co mt ⟨0⟩<|v9 nt me ys λah zs=>ah=ρ/\zs=ys++[e a]) (q:Q (as.map e,ρ)):Wo (jt nt mg mt me (as.map g) ρ []) Q:=by
 refine Ca (b:=λ_=>true) (e:=e) (by rw[wL]; exact hz) (λa ha ys=>?_) ?_
 .simp only[if_true]
  exact st a ha ys
 .rw[show as.filter (λ_=>true)=as from List.filter_eq_self.mpr λ_ _=>rfl]
  exact q
theorem U9:PyData.tuple [.int 1,.int 1]=fR 1:=rfl
theorem U8{r:Rat}(h1:r.num.natAbs < 10^n)(h2:r.den < 10^n)(h0:0 < n:=by decide)(h3:n<=470:=by decide):gU 1 (2 * (n+1+2)+3) (fR r):=by
 refine tE (λd hd=>?_)<|qe _;rcases qv.mp hd with rfl|hd
 .exact vG h1 h0 h3
 .rw[qq.mp hd]
  exact vG (by rw[Int.natAbs_natCast]; exact h2) h0 h3
theorem U7{ks:Qa Int}(h:∀ k∈ks,k.natAbs < 10^3)(hl:ks.length<=m):gU 1 (m * (4+2)+3) (az ks):=by
 refine tE (λd hd=>?_) (by rw[List.length_map]; exact hl);have(k,hk,rfl):=À.mp hd;exact vG<|h k hk
theorem ZX{p:Pq Rat}(h:∀ t∈p,t.2.num.natAbs < 10^n/\t.2.den < 10^n)(hk:∀ t∈p,∀ k∈t.1,k.natAbs < 10^3)(hl:∀ t∈p,t.1.length<=3)(hm:p.length<=m)(h0:0 < n:=by decide)(h3:n<=470:=by decide):gU 3 (m * (2 * (2 * (n+1+2)+24+2)+3+2)+3) (.tuple<|gH fR p):=by
 refine tE (λd hd=>?_) (by rw[B8]; exact hm);have(t,ht,rfl):=À.mp hd;refine tE (λd hd=>?_)<|qe _;rcases qv.mp hd with rfl|hd
 .exact(U7 (hk t ht)<|hl t ht).mono (qe _) (by omega)
 .rw[qq.mp hd]
  exact(U8 (h t ht).1 (h t ht).2 h0 h3).mono (qe _) (by omega)
theorem zr0{o:Qb Rat}:(Option.map fR o).getD (.tuple [.int 0,.int 1])=fR (o.getD 0):=by cases o<;>rfl
theorem zpm[Mul α](p q:Pq α)(s:Qa Int×α):gB (p++[s]) q=gB p q++q.map λt=>(gC s.1 t.1,s.2 * t.2):=by
 unfold gB;rw[List.flatMap_append];simp
def mon:Qa (Rat×Int)->Rat
 | []=>1
 | t::l=>t.1^t.2.toNat * mon l
def mono(pt:Qa Rat)(e:Qa Int):Rat:=mon (pt.zip e)
def fQ(s:Int)(q:Pq Rat):Pq Rat:=q.map λt=>(t.1,(s:Rat) * t.2)
theorem U6{s:Int}(hs:s=1\/s=-1)(r:Rat):PyData.tuple [.int<|s * r.num,.int (r.den:Int)]=fR ((s:Rat) * r):=by
 rcases hs with rfl|rfl
 .rw[Int.one_mul,show((1:Int):Rat)=1 from rfl,Rat.one_mul]; rfl
 .rw[show((-1:Int):Rat)=-1 from rfl,Rat.neg_mul,Rat.one_mul,Int.neg_mul,Int.one_mul]; rfl
theorem L6{M:Nat}{s:Int}(hs:s=1\/s=-1){q:Pq Rat}(h:PB M B q):PB M B (fQ s q):=λt ht=>by
 have(u,hu,rfl):=À.mp ht;rcases hs with rfl|rfl
 .show Bd M B (((1:Int):Rat) * u.2)
  rw[show((1:Int):Rat)=1 from rfl,Rat.one_mul];exact h u hu
 .show Bd M B (((-1:Int):Rat) * u.2)
  rw[show((-1:Int):Rat)=-1 from rfl,Rat.neg_mul,Rat.one_mul];exact(h u hu).neg
theorem Yi(q:Pq Rat):fQ 1 q=q:=by
 unfold fQ;have:∀ t∈q,(λt:Qa Int×Rat=>(t.1,((1:Int):Rat) * t.2)) t=id t:=λt _=>by
  show(t.1,((1:Int):Rat) * t.2)=t;rw[show((1:Int):Rat)=1 from rfl,Rat.one_mul]
 rw[List.map_congr_left this,List.map_id]
theorem Yh(q:Pq Rat):fQ (-1) q=A9 q:=by
 unfold fQ A9;refine É λt _=>?_;rw[show((-1:Int):Rat)=-1 from rfl,Rat.neg_mul,Rat.one_mul]
theorem zpn{p:Pq α}{k:Qa Int}{x:α}(h:∀ t∈p,t.1≠k):bI p k x=p++[(k,x)]:=by
 unfold bI;rw[if_neg];intro z;have(t,ht,e):=ê.mp z;exact h t ht<|of_decide_eq_true e
theorem zr2{bs cs:Pq α}{t:Qa Int×α}(nd:cq (bs++t::cs)):∀ u∈bs,u.1≠t.1:=λu hu e=>by
 unfold cq at nd;rw[List.map_append,List.map_cons]at nd;exact(List.nodup_append.mp nd).2.2 u.1 (À.mpr ⟨u,hu,rfl⟩) t.1 qp e
theorem Ni(bs:Pq Rat)(t:Qa Int×Rat):nz (bs++[t])=if t.2=0 then nz bs else nz bs++[t]:=by
 unfold nz;rw[List.filter_append,List.filter_cons]
 by_cases h:t.2=0
 .rw[if_pos h,if_neg (by simp[h])]; simp
 .rw[if_neg h,if_pos (by simp[h])]; rfl
theorem L4{bs cs:Pq Rat}{t:Qa Int×Rat}(nd:cq (bs++t::cs)):bI (nz bs) t.1 t.2=nz bs++[t]:=zpn λu hu=>zr2 nd u (ß.mp hu).1
theorem L3{f:α->β}:∀ {l:Qa α},(l.map f).Nodup->∀ a∈l,∀ b∈l,f a=f b->a=b
 | [],_,a,ha,_,_,_=>by cases ha
 | x::l,nd,a,ha,b,hb,e=>by
  rw[List.map_cons,List.nodup_cons]at nd;rcases qv.mp ha with h1|h1
  .rcases qv.mp hb with h2|h2
   .rw[h1,h2]
   .exact(nd.1<|À.mpr ⟨b,h2,by rw[<-e,h1]⟩).elim
  .rcases qv.mp hb with h2|h2
   .exact(nd.1<|À.mpr ⟨a,h1,by rw[e,h2]⟩).elim
   .exact L3 nd.2 a h1 b h2 e
end L2
namespace L2
open PySem PySem.Spec PyProof.Rows
open PySem.AutoSeq1 (wpAny_loadPart')
theorem zmr(t:Qg)(items:Array Qc)(n:Nat)(dd:Qb Qg)(sl:Array (Qb Qc))(u:Tok):
  Meets (Builtin.«tuple.__mul__» ⟨[.ref t,.int 1 u],[]⟩) (λ_ R s=>s.heap.get? t=some {cls:=.type "tuple",dict:=dd,data:=.seq items n,slots:=sl}/\R (.ok<|.ret<|.ref t) s):=
 .of_wp λprog w A R s h=>by
  have(hp,g,d,tk,os):=s;have(hl,h):=h
  wp_walk using wpAny_loadPart' hl
  exact⟨_,rfl,h⟩
theorem zms(t:Qg)(items:Array Qc)(n:Nat)(dd:Qb Qg)(sl:Array (Qb Qc))(x:Int)(u:Tok)(hf:(decide (x < -2^63) || decide (x>=2^63))=false)(h1:(items.isEmpty || x==1)=false)(h0:(decide (x<=0) || items.isEmpty)=true):
  Meets (Builtin.«tuple.__mul__» ⟨[.ref t,.int x u],[]⟩) (λ_ R s=>s.heap.get? t=some {cls:=.type "tuple",dict:=dd,data:=.seq items n,slots:=sl}/\
   R (.ok<|.ret<|.ref s.heap.objs.size) {s with heap:=s.heap.push {cls:=.type "tuple",data:=.seq #[]}}):=
 .of_wp λprog w A R s h=>by
  have(hp,g,d,tk,os):=s;have(hl,h):=h
  wp_walk using wpAny_loadPart' hl
  refine wpAny_ite_false (by rw[hf]; rfl) ?_
  wp_walk using wpAny_loadPart' hl
  exact⟨_,rfl,h⟩
theorem zmt(t:Qg)(items:Array Qc)(n:Nat)(dd:Qb Qg)(sl:Array (Qb Qc))(x:Int)(u:Tok)(hf:(decide (x < -2^63) || decide (x>=2^63))=false)(h1:(items.isEmpty || x==1)=false)(h0:(decide (x<=0) || items.isEmpty)=false)
  (hm:¬((items.size:Int) * x > (2^63 - 1) / 8)) (ht:Builtin.Tuple.tupleTooMany ((items.size:Int) * x)=false) (hz:(List.foldl (λx1 x2=>x1++x2) #[] (List.replicate x.toNat items)).size<=sizeLine):
  Meets (Builtin.«tuple.__mul__» ⟨[.ref t,.int x u],[]⟩) (λ_ R s=>s.heap.get? t=some {cls:=.type "tuple",dict:=dd,data:=.seq items n,slots:=sl}/\
   R (.ok<|.ret<|.ref s.heap.objs.size) {s with heap:=s.heap.push {cls:=.type "tuple",data:=.seq (List.foldl (λx1 x2=>x1++x2) #[] (List.replicate x.toNat items))}}):=
 .of_wp λprog w A R s h=>by
  have(hp,g,d,tk,os):=s;have(hl,h):=h
  wp_walk using wpAny_loadPart' hl
  refine wpAny_ite_false (by rw[hf]; rfl) ?_
  wp_walk using wpAny_loadPart' hl
  refine wpAny_ite_false (decide_eq_false hm) ?_
  wp_walk using wpAny_loadPart' hl
  exact⟨_,rfl,h⟩
theorem zgm:fillsNumberSlot (.type "tuple") "mul"=pure false :=
 PySem.fillsNumberSlot_seq (id := "tuple.__mul__") (r:=some (.builtin "tuple.__rmul__")) F.slot_tuple_mul.lookup (by decide +kernel) F.slot_tuple_rmul.lookup (by decide +kernel)
theorem zjO:seqRepeat? (.type "tuple")=pure (some<|.builtin "tuple.__mul__"):=by
 unfold seqRepeat?;rw[PySem.seqSlot_of (T := "tuple") (name := "__mul__") (id := "tuple.__mul__") F.slot_tuple_mul.lookup (by decide +kernel),PySem.seqSlot_of (T := "tuple") (name := "__rmul__") (id := "tuple.__rmul__") F.slot_tuple_rmul.lookup (by decide +kernel)];rfl
theorem zhP(a:Int)(t:Tok)(l:Qg)(items:Array Qc)(n:Nat)(dd:Qb Qg)(sl:Array (Qb Qc)):
  Meets (Builtin.«int.__rmul__» ⟨[.int a t,.ref l],[]⟩) (λ_ R s=>s.heap.get? l=some {cls:=.type "tuple",dict:=dd,data:=.seq items n,slots:=sl}/\R (.ok<|.ret Value.notImplemented) s):=
 .of_wp λprog w A R s h=>by have(hp,g,d,tk,os):=s; have(hl,h):=h; wp_walk; exact⟨_,rfl,h⟩
section
variable{X:Cx}
def KD(K:qc):R2:=λx y H Q=>∃ l k xs,x=.ref l/\y=.int k/\bw K H l xs/\xs≠[]/\k < 1000000/\-1000000 < k/\xs.length * k.toNat<=1000000/\
 ((k=1/\Q x H)\/(k≠1/\∀ p,H p=none->Q (.ref p) (upd H p<|.tup (List.replicate k.toNat xs).flatten)))
theorem Ck(K:qc)(hK:X.K=K:=by rfl):bQ X (binaryOp .Mult) (KD K):=by
 subst hK;intro pins s σ H x y v u Q I rx ry h;have(l,k,xs,rfl,rfl,hq,rY,hk,hk0,hz,q):=h;cases rx;have(t,rfl):=ry;have(af,rv,ht,hzz):=I.tuple hq;obtain⟨⟨c,iL,dt,sl⟩,hl,hc,n,hd⟩:=ht;replace hc:c=.type "tuple":=hc;replace hd:dt=.seq af.toArray n:=hd;subst hc hd;have lv:=rv.length;have R1:af.toArray.isEmpty=false:=by
  cases af with
  | nil=>cases rv; exact absurd rfl rY
  | cons a r=>rfl
 have hf:(decide (k < -2^63) || decide (k>=2^63))=false:=by
  rw[Bool.or_eq_false_iff];exact⟨decide_eq_false (by omega),decide_eq_false (by omega)⟩
 have f0:List.foldl (λx1 x2=>x1++x2) #[] (List.replicate k.toNat af.toArray)=(List.replicate k.toNat af).flatten.toArray:=by
  have:=HB af k.toNat [];rw[List.nil_append]at this;exact this
 have ln:(List.replicate k.toNat xs).flatten.length<=sizeLine:=by
  rw[GB,Nat.mul_comm];have:sizeLine=16777216:=wL;omega
 refine wpAny_binaryOp_repeat_ref (T := "tuple") (U := "int") (by decide) ⟨_,hl,rfl⟩ (λs'=>typeIs_int s' k t) zgm F.fills_int_mul F.slot_int_rmul zjO F.slot_int_index.lookup
  (call_meets F.slot_int_rmul (typeIs_int s k t) F.entry_int_rmul (F.args_int_rmul_2 _ _) (zhP k t l af.toArray n iL sl) ⟨hl,rfl,⟨_,hl,rfl⟩,?_⟩)
 rcases q with⟨rfl,q⟩|⟨k1,q⟩
 .exact call_meets F.slot_tuple_mul ⟨_,hl,rfl⟩ F.entry_tuple_mul (F.args_tuple_mul_2 _ _) (zmr l af.toArray n iL sl t) ⟨hl,.ref l,H,I,rfl,q⟩
 .have h1:(af.toArray.isEmpty || k==1)=false:=by rw[R1,Bool.false_or]; simpa using k1
  by_cases k0:k<=0
  .refine call_meets F.slot_tuple_mul ⟨_,hl,rfl⟩ F.entry_tuple_mul (F.args_tuple_mul_2 _ _) (zms l af.toArray n iL sl k t hf h1 (by rw[decide_eq_true k0]; rfl)) ⟨hl,.ref _,_,I.laid (t':=s.toks) (o:=.tup []) (λ_ _ q=>qd _ q) (qe _) ⟨Å _,[],.nil,_,qg _ rfl,rfl,⟨_,rfl⟩,.inl rfl⟩,rfl,?_⟩
   have:=q _ I.fresh;rw[show k.toNat=0 by omega]at this;exact this
  .have m63:(af.toArray.size:Int) * k<=1000000:=by
    have e1:(af.toArray.size:Int)=(xs.length:Int):=by rw[List.size_toArray,lv]
    have e2:k=(k.toNat:Int):=by omega
    rw[e1,e2,<-Int.natCast_mul];omega
   refine call_meets F.slot_tuple_mul ⟨_,hl,rfl⟩ F.entry_tuple_mul (F.args_tuple_mul_2 _ _) (zmt l af.toArray n iL sl k t hf h1 (by rw[decide_eq_false k0,R1]; rfl) (by omega) (decide_eq_false (by rw[show((sizeLine:Nat):Int)=16777216 by rw[wL]; rfl]; omega)) ?_) ⟨hl,.ref _,_,I.laid (t':=s.toks) (o:=.tup (List.replicate k.toNat xs).flatten) (λ_ _ q=>qd _ q) (qe _) ⟨ln,(List.replicate k.toNat af).flatten,rv.rep k.toNat,_,qg _ rfl,rfl,⟨0,?_⟩,.inl rfl⟩,rfl,q _ I.fresh⟩
   .rw[f0,List.size_toArray,GB,Nat.mul_comm]
    have:sizeLine=16777216:=wL;rw[<-lv];omega
   .show Data.seq (List.foldl (λx1 x2=>x1++x2) #[] (List.replicate k.toNat af.toArray)) _=_
    rw[f0]
end
def qW:U->U->Qb U
 | .d (.tuple xs),.d (.int k)=>if xs≠[]/\k < 1000000/\-1000000 < k/\xs.length * k.toNat<=1000000 then some (.d<|.tuple (List.replicate k.toNat xs).flatten)else none
 | _,_=>none
theorem GI{vs:Qa V}{ds:Qa D}(h:aI K H vs ds):∀ n:Nat,aI K H (List.replicate n vs).flatten (List.replicate n ds).flatten
 | 0=>.nil
 | n+1=>by
  rw[List.replicate_succ,List.replicate_succ,List.flatten_cons,List.flatten_cons];exact h.app<|GI h n
theorem Cj:VO K (KD K) qW:=by
 intro x y a b u H Q ha hb e q;unfold qW at e;split at e
 .split at e
  rotate_left
  .cases e
  rename_i xs k hc;cases e;have(l,vs,rfl,h1,h2):=DF.aD ha;cases DF.int_inv hb;have ln:=h2.len;refine⟨l,k,vs,rfl,rfl,(aK.sq h1),λz=>hc.1<|ñ (by rw[<-ln,z]; rfl),hc.2.1,hc.2.2.1,by rw[ln]; exact hc.2.2.2,?_⟩
  by_cases k1:k=1
  .subst k1
   refine .inl ⟨rfl,q _ _ (λ_ _ z=>z) ?_ Nw.data⟩;have e:(List.replicate (1:Int).toNat xs).flatten=xs:=by simp
   rw[e];exact DF.tup h1 h2
  .refine .inr ⟨k1,λp hp=>?_⟩
   have sm:=zB hp (.tup (List.replicate k.toNat vs).flatten);exact q _ _ sm (.tup (.inl zp)<|(GI h2 _).kp sm.kp) Nw.data
 .cases e
theorem Oo{xs:Qa D}{k:Int}(h:0 < xs.length)(h2:k < 1000)(h3:-1000 < k)(h4:xs.length < 1000):qW (.d<|.tuple xs) (.d<|.int k)=some (.d<|.tuple (List.replicate k.toNat xs).flatten):=by
 show(if _ then _ else _)=_;rw[if_pos ⟨λz=>by rw[z]at h; exact Ç _ h,by omega,by omega,qy (Õ (Nat.le_of_lt h4) (show k.toNat<=1000 by omega)) (by decide)⟩]
end L2
namespace L2
open PySem PySem.Spec PyProof.Rows
def F2(K:qc)(tk tv:TE):TE:=λσ H Q=>∀ p,H p=none->tk σ (upd H p<|.dT []) λx H1=>tv σ H1 λy H2=>H2 p=some (.dT [])/\∃ k b,x=.ref b/\aK K H2 b (k.map kV)/\Q (.ref p) (upd H2 p<|.dT [(k,y)])
theorem zr5{X:Cx}{k v:Expr}(hu:X.A.units+1 < cLine)(hk:PE X k tk)(hv:PE X v tv):PE X (.Dict [some k] [v] pos) (F2 X.K tk tv):=by
 intro pins s σ H Q I q;have hn:=I.aq.fresh (qe s.heap.objs.size);have I1:=I.laid (a:=s.heap.objs.size) (o:=.dT []) (h':=s.heap.push {cls:=.type "dict",data:=.dict #[]}) (t':=s.toks) (λ_ _ q=>qd _ q) (qe _) (Hd s.heap I.D1);refine wpAny_Dict_any rfl rfl (by simp) (by show 1<=15; decide)<|pairTrees_cons_walk<|aw (hk pins _ σ _ _ I1<|q _ hn) λu s1 ⟨x,H1,I1,rx,q1⟩=>aw (hv pins s1 σ H1 _ I1 q1) λw2 s2 ⟨y,H2,I2,ry,e,ks,b,ex,eb,q2⟩=>pairTrees_nil_walk ?_;subst ex;cases rx;unfold storeAll;rw[List.forIn_cons];have(z,hd,xs,rel,dd):=BC I2.aU I2.aq e;cases rel;refine qa<|qa<|wpAny_dictSet_heap (hsz:=Å _) (show X.A.units < cLine from Nat.lt_of_succ_lt hu) (oV I2.aU I2.aq eb) dd λh' lP hs=>qb ?_;dsimp only;rw[List.forIn_nil];refine qb ?_;have(q',es,ep,hq,h2,h3,h4,_,h5):=lP;refine⟨.ref s.heap.objs.size,_,vD (ob:=.dT [(ks,y)]) I2 (by rw[e]; exact True.intro) hs ⟨q',hq⟩ ⟨by show 1<=sizeLine; decide,hd,_,(KT.put (kvs:=[]) .nil ks eb ry).keeps λc ys ec=>?_,q',es,ep,hq,h2,h3,h4,h5⟩,rfl,q2⟩;rw[zq (qS ec e (λz=>nomatch z))];exact ec
theorem GH{X:Cx}{k v:Expr}(hr:aA n X.A)(hk:Wr (PE X k tk))(hv:Wr (PE X v tv)):Wr (PE X (.Dict [some k] [v] pos)<|F2 X.K tk tv):=⟨zr5 (sL hr) hk.run hv.run⟩
section
variable{ρ ρ1 ah:En}
theorem Rs.free{p:Qg}{c o:HO}(r:Rs K ρ σ H)(hc:H p=some c)(m:Mo c)(n:¬Ow ρ σ p):Rs K ρ σ (upd H p o):=by
 have kp:=iz hc m o;refine⟨r.len,λi u e=>?_,r.apart⟩;have(v,ev,q):=r.rep i u e;refine⟨v,ev,q.kp kp λou a c' ea ha=>?_⟩;have ne:a≠p:=by
  rintro rfl;exact n ⟨i,u,e,ou,by rw[ev,ea]⟩
 rw[zq ne];exact ha
theorem Go.free{p:Qg}{c o:HO}(g:Go K ρ σ H ah H')(hp:H p=none)(hc:H' p=some c)(m:Mo c)(n:¬Ow ah σ p):Go K ρ σ H ah (upd H' p o):=by
 refine⟨g.rs.free hc m n,λa ob ha hn=>?_,g.shr,λa ha=>?_⟩
 .have ne:a≠p:=by
   rintro rfl;rw[hp]at ha;cases ha
  rw[zq ne];exact g.fr a ob ha hn
 .by_cases e:a=p
  .subst e
   exact hp
  .rw[zq e]at ha
   exact g.dm a ha
def xj(mk mv:ME):ME:=λρ=>(mk ρ).bind λp=>(mv p.2).bind λq=>(p.1.get q.2).bind λk=>(q.1.get q.2).bind λv=>k.da.bind λk=>v.da.bind λv=>(cn k).bind λk=>some (.u<|.t [(k,v)],q.2)
theorem mf{w:U}{x:D}(h:w.da=some x):w=.d x:=by
 cases w<;>first | (cases h; rfl) | cases h
theorem GG{mk mv:ME}(hk:VE K tk mk)(hv:VE K tv mv):VE K (F2 K tk tv) (xj mk mv):=by
 intro ρ σ H a ah Q r e q;obtain⟨⟨a1,ρ1⟩,e1,e⟩:=zb e;obtain⟨⟨b1,au⟩,e2,e⟩:=zb e;have(uk,ek,e):=zb e;have(uv,ev,e):=zb e;have(dk,J6,e):=zb e;have(dv,J5,e):=zb e;have(ks,J3,e):=zb e;cases e;cases mf J6;cases mf J5;intro p hp;have sm:=zB hp (.dT []);have g0:=Go.grow r sm;have n0:¬Ow ρ σ p:=λz=>by
  have(c,hc,_):=r.ow z;rw[hp]at hc;cases hc
 refine hk ρ σ (upd H p<|.dT []) a1 ρ1 _ g0.rs e1 λx H1 g1 k1=>hv ρ1 σ H1 b1 _ _ g1.rs e2 λy H2 g2 k2=>?_;have n1:¬Ow ρ1 σ p:=λz=>n0<|g1.shr.ow z;have n2:¬Ow au σ p:=λz=>n1<|g2.shr.ow z;have kW:H2 p=some (.dT []):=g2.fr p _ (g1.fr p _ zp n0) n1;have pk:=k1.later g0.rs g1 g2 ek;have pv:=k2.now g1.rs g2 ev;have(b,rfl,hb):=tj pk J3;have kp:=iz kW trivial (.dT [(ks,y)]);refine⟨kW,ks,b,rfl,hb,q _ _ (((g0.trans g1).trans g2).free hp kW trivial n2) ⟨⟨p,[(ks,y)],rfl,zp,.cons ⟨rfl,DF.kp kp pv⟩ .nil⟩,λ_=>⟨p,rfl,hp⟩⟩⟩
end
def Rn(K:qc)(a:Qg):It :=
 ⟨λi H=>∃ xs x,aO K H a xs/\xs[i]?=some x,λi H x H'=>∃ T,H T=none/\x=.ref T/\∀ xs v,aO K H a xs->xs[i]?=some v->H'=upd H T (.tup [.int i,v]),λi H=>∃ xs,aO K H a xs/\xs.length=i⟩
theorem zmv{k:Nat}(e it t:Qg)(uh:e≠it)(yF:t≠e)(yE:t≠it):
  Turn P w K (.Tuple elts k pos) (Rn K t) [e,it] e (λi h=>(∃ old,IsEnum h e it i old)/\h.IsListIter it t i) where
 mem:=by simp
 obj:=λi h st b hb=>by
  obtain⟨⟨old,he⟩,⟨o,ho,_,hd⟩⟩:=st;rcases qv.mp hb with z|z
  .subst z
   exact⟨_,he,λv q=>by
    have q':Data.fields _=Data.cell v:=q;cases q'⟩
  .rw[qq.mp z]
   exact⟨o,ho,λv q=>by rw[hd]at q; cases q⟩
 keep:=λi h h' st kk=>by
  obtain⟨⟨old,he⟩,⟨o,ho,hc,hd⟩⟩:=st;exact⟨⟨old,kk e (by simp) _ he⟩,⟨o,kk it (by simp) _ ho,hc,hd⟩⟩
 item:=by
  intro X hP hw hK hc i pins s σ H E I hf st hg;subst hP hw hK;have(xs,x,hq,hx):=hg;have(af,rv,ht,hz):=I.list hq;have hi:i < af.toArray.size:=by
   rw[List.size_toArray,<-rv.length];exact(qk.mp hx).1
  have W:=WalksT.enumerate (prog:=X.prog) (w:=X.w) (A:=X.A) (I.ok.hd hc) e it t uh yF yE af.toArray;refine W.item i s _ _ hi ⟨st.1,st.2,ht.isList⟩ λT vals h1 tk hP hT gQ mid kk=>?_;refine⟨_,rfl,W.go elts k pos i T {s with heap:=h1,toks:=tk} _ _ mid λh2 jh mU=>?_⟩;have(tt,u,hu,rfl):=hP;have apart:=W.apart _ _ _ mid;have I2:Inv X pins σ H {s with heap:=h2,toks:=tk}:=I.aS (wr:=[e,it]) (λb o hb q=>mU b o hb<|kk b o hb q) hf;have fT:bM X pins H T:=I.bJ hT (I.aq.fresh hT);have ru:zA x u:=by
   have(u',eu,r):=rv.get hx;have:u'=u:=by
    have z:af[i]?=some u:=by simpa using hu
    rw[eu]at z;exact qx z
   rw[<-this];exact r
  have(oT,g1,g2,nT,g3):=gQ;have I3:Inv X pins σ (upd H T<|.tup [.int i,x]) {s with heap:=h2,toks:=tk}:=I2.eT fT (qy I.sz hT) ⟨by show 2<=sizeLine; decide,[.int i tt,u],.cons ⟨tt,rfl⟩<|.cons ru .nil,oT,mU T oT apart g1,g2,⟨nT,g3⟩,.inr ⟨_,_,_,rfl⟩⟩;refine⟨.ref T,_,I3,rfl,⟨T,I.aq.fresh hT,rfl,λgv v pP hv=>?_⟩,⟨?_,jh.2.1⟩,λb hb=>?_⟩
  .have:=I.cQ hq pP
   subst this;rw[hx]at hv;cases hv;rfl
  .exact jh.1
  .have ne:b≠T:=λz=>apart (by rw[<-z]; exact hb)
   rw[zq ne];exact(hf b hb).1
 done:=by
  intro X hP hw hK hc i pins s σ H E I hf st hg;subst hP hw hK;have(xs,hq,hl):=hg;have(af,rv,ht,hz):=I.list hq;have hi:i=af.toArray.size:=by
   rw[List.size_toArray,<-rv.length];exact hl.symm
  have W:=WalksT.enumerate (prog:=X.prog) (w:=X.w) (A:=X.A) (I.ok.hd hc) e it t uh yF yE af.toArray;refine W.done s _ _ ?_ λh1 tk kk=>⟨rfl,I.aS (wr:=[e,it]) kk hf⟩;rw[<-hi];exact⟨st.1,st.2,ht.isList⟩
 self:=λ_ _ _ _ _ st h=>by
  obtain⟨⟨old,he⟩,_⟩:=st;exact wpAny_pyIter_enum he h
section
variable{X:Cx}{k:Nat}
def L1(K:qc)(ta:TA):TI:=λσ H R=>ta σ H λvs H1=>∃ a,vs=[.ref a]/\(∃ xs,aO K H1 a xs)/\R (Rn K a) H1
theorem zr7{a:Expr}{ta:TA}{p:Pos}(ha:Wr (PA X [a] ta))(hK:X.K=K:=by rfl)(hg:Gl X "enumerate":=by exact rfl)(hm:X.mg "enumerate"=none:=by exact qR ‹Bl _ _› (by decide))(hs:zR a=true:=by rfl):
  Wr (PI X (.Tuple elts k gG) (.Call (.Name "enumerate" p) [a] [] pos)<|L1 K ta):=by
 subst hK;refine⟨?_⟩;intro pins s σ H R I h;refine Call_<|rq I hg hm boot_enumerate<|Ö (aw (ha.run pos pins s σ H _ I h) λus s1 hZ=>?_) (kr hs) rfl;have(vs,H1,I1,r1,q1):=hZ;obtain⟨t,e,⟨xs,hq⟩,q⟩:=q1;subst e;have(u,rfl,ru):=l6 r1;cases ru;have(af,rv,ht,hz):=I1.list hq;have tl:t < s1.heap.objs.size:=by
  have(o,n,e,_):=ht;exact qh e
 refine call_enumerate_list ht.isList λh' he hit _ kk=>?_;have I2:Inv X pins σ H1 {s1 with heap:=h'}:=I1.kept (t':=s1.toks) kk;refine wpAny_pyIter_enum he ?_;refine⟨s1.heap.objs.size+1,[s1.heap.objs.size+1,s1.heap.objs.size],_,_,H1,rfl,I2,zmv (s1.heap.objs.size+1) s1.heap.objs.size t (Nat.succ_ne_self _) (qj<|ä tl)<|qj tl,⟨⟨_,he⟩,hit⟩,λb hb=>?_,q⟩;rcases qv.mp hb with z|z
 .subst z
  exact I1.bJ (ð _)<|I1.aq.fresh<|ð _
 .rw[qq.mp z]
  exact I1.bJ (qe _)<|I1.aq.fresh<|qe _
end
def B5:Qa U->Qb (Qa D)
 | [.d<|.list ds]=>some<|nU 0 ds
 | _=>none
def F1(ma:MA):MI:=λρ=>(ma ρ).bind λp=>(bt p.2 p.1).bind λus=>(B5 us).bind λds=>some (ds,p.2)
theorem zr8{ta:TA}{ma:MA}(h:j5 K ta ma):VI K (L1 K ta) (F1 ma):=by
 intro ρ σ H ds ah R r e q;obtain⟨⟨as,ρ1⟩,e1,e⟩:=zb e;have(us,eu,e):=zb e;have(zs,ez,e):=zb e;cases e;refine h ρ σ H as ρ1 _ r e1 λvs H1 g1 s1=>?_;have rp:=s1.nZ r g1 eu;unfold B5 at ez;split at ez
 .rename_i xs
  cases ez;cases rp with
  | cons h1 t=>
   cases t;have(b,ys,rfl,h1,h2):=DF.lst_inv h1;refine⟨b,rfl,⟨ys,h1.sq⟩,q _ _ g1 λH2 k i=>⟨λd ed=>?_,λei=>?_⟩⟩
   .have(x,ex,rfl):=xQ ed
    have(v,ev,dv):=(h2.kp k).get ex;refine⟨⟨ys,v,(h1.kp k).sq,ev⟩,λx H' y=>?_⟩;have(T,nT,rfl,y):=y;cases y ys v (h1.kp k).sq ev;have sm:=zB nT (.tup [.int i,v]);refine⟨sm,.tup (.inl zp)<|.cons ?_<|.cons (dv.kp sm.kp) .nil⟩;rw[Nat.zero_add];exact .int _
   .exact⟨ys,(h1.kp k).sq,by rw[vU]at ei; rw[h2.len]; exact ei.symm⟩
 .cases ez
section
variable{ρ:En}{mk mv:ME}{mA:MA}{f:Qa D->Qa D}{QE:Ar×En->Prop}{QI:Qa D×En->Prop}
theorem zlg:Wo (xj mk mv ρ) QE=Wo (mk ρ) (Co (λp=>(mv p.2).bind λq=>(p.1.get q.2).bind λk=>(q.1.get q.2).bind λv=>k.da.bind λk=>v.da.bind λv=>(cn k).bind λk=>some (.u<|.t [(k,v)],q.2)) ⟨0⟩ QE):=by
 show Wo (Option.bind _ _) QE=_;rw[zo]
theorem zlh:Wo (F1 mA ρ) QI=Wo (mA ρ) (Co (λp=>(bt p.2 p.1).bind λus=>(B5 us).bind λds=>some (ds,p.2)) ⟨0⟩ QI):=by
 show Wo (Option.bind _ _) QI=_;rw[zo]
theorem zr9{ds:Qa D}:B5 [.d<|.list ds]=some (nU 0 ds):=rfl
end
end L2
namespace L2
open PySem
def ch:Nat->Nat->Nat
 | _,0=>1
 | 0,_+1=>0
 | n+1,k+1=>ch n k+ch n (k+1)
theorem Rm{a:Qa Int}(h:a.length+b.length<=1000):oY (.d<|az a) (.d<|az b)=some (.d<|az<|a++b):=by
 have:=Ot (xs:=a.map PyData.int) (ys:=b.map PyData.int) (by rw[List.length_map,List.length_map]; omega);rw[<-List.map_append]at this;exact this
theorem U5{k:Int}:PyData.tuple [.int k]=az [k]:=rfl
end L2
namespace L2
open PySem PySem.Spec PyProof.Rows
open PySem.AutoSeq1 (wpAny_loadPart')
open MeetsSeq MeetsSeq2 MeetsSeq3 SeqRoads2
end L2
namespace L2
open PySem PySem.Spec PyProof.Rows
section
variable{l b:Qg}{items aQ:Array Qc}{xs ys:Qa Int}
end
section
variable{X:Cx}{k:Nat}
end
section
end
section
variable{X:Cx}{a b c d:Expr}{tc:TE}
end
section
end
section
variable{f f' f'':U->U->Qb U}{ma mb mc md:ME}{ρ:En}{QE:Ar×En->Prop}
end
end L2
namespace HT
open PySem PySem.Spec PyProof.Rows
section
variable{prog:Program} {w:World} {A:Around} {E:Value->Shared->Prop} {s:Shared}
end
end HT
namespace L2
open PySem PySem.Spec PyProof.Rows
section
variable{X:Cx}{st:Expr}{ts:TE}{p2:Pos}
end
section
end
section
end
section
end
end L2
namespace L2
open PySem PySem.Calls PySem.Spec PyProof.Rows
section
end
section
end
end L2
namespace L2
open PySem PySem.Spec PyProof.Rows
section
variable{X:Cx}{CX:j6}{k:Nat}{f C:Qg}{dvs:Qa V}{ds:Qa Qc}{E:XK}{m:Str}{p:Pos}{es:Qa Expr}{t:TA}
end
section
variable{X:Cx}{k:Nat}{p:Pos}{es:Qa Expr}{t:TA}
end
section
end
section
end
section
variable{X:Cx}{k:Nat}
end
section
end
end L2
namespace L2
open PySem
section
variable{mA:MA}{ρ:En}{QI:Qa D×En->Prop}
end
end L2
namespace L2
open PySem PySem.Spec PyProof.Rows
section
variable{EX:gW}
end
section
variable{mg:MG}{mb:MS}{ρ:En}{Q:Fl->Prop}
end
theorem zpo{X:Cx}{b:Qg}{v:V}{r:Qc}{k:Qa Key}{Q:Unit->Qd->Prop}(hu:A.units+1 < cLine)(I:Inv X pins σ H s)
  (e:H a=some (.dT kvs)) (eb:aK X.K H b (k.map kV)) (l:kvs.length < sizeLine) (rv:zA v r) (h:∀ s',Inv X pins σ (upd H a<|.dT<|cN kvs k v) s'->Q () s'):wpAny (model X.prog X.w) A (dictSet a (.ref b) r) Q E s:=by
 have(z,hd,xs,rel,dd):=BC I.aU I.aq e;have hz:xs.length<=sizeLine:=by rw[<-Paired.length rel]; exact z
 have hl:(cN kvs k v).length<=sizeLine:=by have:=xO kvs k v; omega
 refine wpAny_dictSet_heap (hsz:=hz) (show A.units < cLine from Nat.lt_of_succ_lt hu) (oV I.aU I.aq eb) dd λh' lP hs=>h _ ?_;have(q,es,ep,hq,h2,h3,h4,_,h5):=lP;refine vD I (by rw[e]; exact True.intro) hs ⟨q,hq⟩ ⟨hl,hd,_,(rel.put k eb rv).keeps λc ys ec=>?_,q,es,ep,hq,h2,h3,h4,h5⟩;rw[zq (qS ec e (λz=>nomatch z))];exact ec
section
variable{X:Cx}{xs:Qa Str}{ts:Qa Str}{fp:Qa Qg}
end
section
variable{ρ ah ρ1:En}{H1:Hp}
theorem Sn.free{A:Qg->Prop}{D:Qg}{c o:HO}(s:Sn K pn ai A H₀ ao ρ σ H)(hc:H D=some c)(m:Mo c)(n:¬Ow ρ σ D)(hA:A D):Sn K pn ai A H₀ ao ρ σ (upd H D o):=by
 refine⟨s.rs.free hc m n,λa ob h nA=>?_,s.ow,s.pin,λa h=>?_,s.kp.trans<|iz hc m o⟩
 .have ne:a≠D:=by rintro rfl; exact nA hA
  rw[zq ne];exact s.fr a ob h nA
 .by_cases e:a=D
  .subst e; rw[zp]at h; cases h
  .rw[zq e]at h; exact s.dm a h
theorem KC{D:Qg}{A:Qg->Prop}{oB:En}{wB:St}{Hx:Hp}(r:Rs K ρ1 σ H1)(hD:H1 D=none)(s:Sn K (d9 nt js.length) (c0 nt js σ) A (upd H1 D<|.dT []) H1 oB wB Hx)
  (own:∀ (i:Nat) (u:U),nt<=i->oB[i]?=some (some u)->u.own=true->∃ w,(dM nt js ρ1)[i]?=some (some w)/\w.own=true):¬Ow oB wB D:=by
 rintro⟨i,u,e,ou,es⟩;rcases s.ow i u D e ou es with⟨hi,_⟩|z
 .have cU:=rC.mp hi
  have(w,ew,ow):=own i u cU.1 e ou;have(p,j,rfl,hj,hr):=vo ew;rw[s.pin _ hi,FJ hj]at es;have e2:σ[j]?=some (some<|.ref D):=by
   rw[qB]at es;cases q:σ[j]? with
   | none=>rw[q]at es; cases es
   | some o=>rw[q]at es; exact congrArg some<|qx es
  have(c,hc,_):=r.ow ⟨j,w,hr,ow,e2⟩;rw[hD]at hc;cases hc
 .rw[zp]at z; cases z
def Au(nt:Nat)(mg:MG)(mt:MT)(mk mv:ME):Qa D->En->Qa (Qa Key×D)->Qb (Qa (Qa Key×D)×En)
 | [],ρ,ys=>some (ys,ρ)
 | d::ds,ρ,ys=>if ys.length < sizeLine then(mg d ρ).bind λρ1=>(mt ρ1).bind λb=>if b.1=true then(mk b.2).bind λp=>(mv p.2).bind λq=>(p.1.get q.2).bind λuk=>(q.1.get q.2).bind λuv=>uk.da.bind λdk=>uv.da.bind λdv=>(cn dk).bind λk=>
   Au nt mg mt mk mv ds (reset nt q.2) (dN ys k dv)else Au nt mg mt mk mv ds (reset nt b.2) ys else none
end
section
end
section
variable{X:Cx}
end
section
variable{X:Cx}{C:Qg}{fs:Qa (Str×V)}{v:V}
end
section
variable{X:Cx}
end
section
variable{X:Cx}{C:Qg}{fl:Qa Str}{k:Nat}{p:Pos}{es:Qa Expr}{t:TA}
end
section
variable{n:Str}{C:Qg}{fl:Qa Str}
end
section
variable{X:Cx}
theorem NO:∀ (ns:Qa Int),aI K H (ns.map V.int)<|ns.map PyData.int
 | []=>.nil
 | n::ns=>.cons (.int n)<|NO ns
theorem xi{g:Qg}(gt:nu K g ns)(hn:ns≠[]:=by decide):VE K (tC<|.ref g) (mC<|.tuple<|ns.map PyData.int):=by
 intro ρ σ H a ah Q rs e q;cases e;have(o,i,n,z1,z2,z3,z4,z5):=gt;refine q _ _ (Go.refl rs) ⟨DF.tup (.inr ⟨o,i,n,z1,z2,z3,z4,z5,?_⟩)<|NO ns,Nw.data⟩;cases ns with
 | nil=>exact absurd rfl hn
 | cons a r=>exact⟨a,_,rfl⟩
end
section
variable{c:β->D}{mI:MI}{mg:MG}{mt:MT}{mk mv me ma:ME}{mA:MA}{ρ:En}{QE:Ar×En->Prop}{QT:Bool×En->Prop}
def zBJ(nt:Nat)(mk mv:ME)(ys:Qa (Qa Key×D))(P:En->Qa (Qa Key×D)->Prop)(p:Bool×En):Prop :=
 if p.1=true then Wo (mk p.2) (Co (λp=>(mv p.2).bind λq=>(p.1.get q.2).bind λuk=>(q.1.get q.2).bind λuv=>uk.da.bind λdk=>uv.da.bind λdv=>(cn dk).bind λk=>some (reset nt q.2,dN ys k dv)) ⟨0⟩ λz=>P z.1 z.2)else P (reset nt p.2) ys
def dcP(l:Pq β):Pq β:=l.foldl (λys t=>bI ys t.1 t.2) []
theorem Zd{g:α->D}{b:α->Bool}{k:α->Qa Int}{v:α->β}{Q:Qa (Qa Key×D)×En->Prop}(hz:as.length<=16777216)
  (st:∀ a∈as,∀ ys:Pq β,Wo (mg (g a) ρ)<|Co mt ⟨0⟩<|zBJ nt mk mv (aZ c ys) λah zs=>ah=ρ/\zs=aZ c (if b a=true then bI ys (k a) (v a)else ys))
  (q:Q (aZ c<|dcP<|(as.filter b).map λa=>(k a,v a),ρ)):Wo (Au nt mg mt mk mv (as.map g) ρ []) Q:=by
 have main:∀ (es:Qa α) (acc:Pq β),(∀ a∈es,a∈as)->acc.length+es.length<=16777216->Q (aZ c<|((es.filter b).map λa=>(k a,v a)).foldl (λys t=>bI ys t.1 t.2) acc,ρ)->Wo (Au nt mg mt mk mv (es.map g) ρ<|aZ c acc) Q:=by
  intro es
  induction es with
  | nil=>intro acc _ _ q; exact⟨_,rfl,q⟩
  | cons a es ih=>
   intro acc hm hl q;rw[qu]at hl;obtain⟨ρ1,e1,⟨bb,au⟩,e2,kk⟩:=st a (hm a qp) acc;rw[List.map_cons];unfold Au;rw[if_pos (by rw[B6]; show _ < 16777216; omega),zo];refine⟨ρ1,e1,?_⟩;rw[jN,zo];refine⟨_,e2,?_⟩;rw[jN];rw[List.filter_cons]at q;have pl:=vF acc (k a) (v a);cases bb with
   | false=>
    have(e3,e4):=kk;rw[if_neg qf,e3,e4]
    by_cases hb:b a=true
    .rw[if_pos hb]
     rw[if_pos hb]at q;exact ih _ (λx hx=>hm x<|qo _ hx) (by omega) q
    .rw[if_neg hb]
     rw[if_neg hb]at q;exact ih _ (λx hx=>hm x<|qo _ hx) (by omega) q
   | true=>
    rw[if_pos rfl,zo];have(p,e3,kk):=kk;refine⟨p,e3,?_⟩;rw[jN];have(z,e4,e5,e6):=kk;have(q1,f1,e4):=zb e4;have(uk,f2,e4):=zb e4;have(uv,f3,e4):=zb e4;have(dk,f4,e4):=zb e4;have(dv,f5,e4):=zb e4;have(kk,f6,e4):=zb e4;cases e4;rw[f1,bd,f2,bd,f3,bd,f4,bd,f5,bd,f6,bd];dsimp only at e5 e6;rw[e5,e6]
    by_cases hb:b a=true
    .rw[if_pos hb]
     rw[if_pos hb]at q;exact ih _ (λx hx=>hm x<|qo _ hx) (by omega) q
    .rw[if_neg hb]
     rw[if_neg hb]at q;exact ih _ (λx hx=>hm x<|qo _ hx) (by omega) q
 exact main as [] (λ_ h=>h) (by simpa using hz) q
end
section
variable{X:Cx}{i v f:Expr}{tx:TE}{k:Nat}(K:qc)(hK:X.K=K)
include hK
end
section
end
section
end
section
variable{g:Array GenState}{d:Drawn}{t:Nat}{os:OsState}{items:Array Qc}
end
section
variable{X:Cx}{D:Qg}{xs:Qa V}
end
section
variable{X:Cx}
end
section
end
end L2
namespace L2
open PySem PySem.Calls PySem.Spec PyProof.Rows
section
end
section
def Kc:U->Qb (Qa<|Qa Key×D)
 | .t kvs=>some kvs
 | .d (.dict ds)=>if kM ds=true then uX ds else none
 | _=>none
theorem U4{v:V}{u:U}{kvs:Qa (Qa Key×D)}(h:Rp K H v u)(e:Kc u=some kvs):∃ a ws,v=.ref a/\Rd H a (.dT ws)/\b7 K H ws kvs:=by
 unfold Kc at e;split at e
 .cases e
  have(a,ws,rfl,h1,h2):=h;exact⟨a,ws,rfl,.inl h1,h2⟩
 .split at e
  .rename_i nx
   have(a,o,ws,rfl,h1,h2):=DF.b6 h nx;exact⟨a,ws,rfl,.inr ⟨o,h1⟩,Hj h2 e⟩
  .cases e
 .cases e
end
end L2
namespace L2
open PySem PySem.Spec PyProof.Rows
section
variable{X:Cx}
end
section
def nB:U->U->Qb U
 | .l xs,.d (.int k)=>if -1000000 < k/\k < 1000000/\xs.length * k.toNat<=sizeLine then some (.l (List.replicate k.toNat xs).flatten)else none
 | _,_=>none
theorem BZ:VO K Ks nB:=by
 intro x y a b u H Q ha hb e q;unfold nB at e;split at e
 .split at e
  .rename_i xs k hz
   cases e;have(p,us,rfl,h1,h2):=ha;cases DF.int_inv hb;refine⟨p,k,us,rfl,rfl,h1,by omega,by omega,by rw[h2.len]; exact hz.2.2,λr hr=>?_⟩;have s:=zB hr (.lst (List.replicate k.toNat us).flatten);exact q _ _ s ⟨r,_,rfl,zp,(GI h2 _).kp s.kp⟩ λ_=>⟨r,rfl,hr⟩
  .cases e
 .cases e
end
def Rl(K:qc)(a b:Qg):It :=
 ⟨λi H=>∃ xs ys x y,aO K H a xs/\aO K H b ys/\xs[i]?=some x/\ys[i]?=some y,λi H x H'=>∃ T,H T=none/\x=.ref T/\∀ xs ys v u,aO K H a xs->aO K H b ys->xs[i]?=some v->ys[i]?=some u->H'=upd H T (.tup [v,u]),λi H=>∃ xs ys,aO K H a xs/\aO K H b ys/\xs.length=i⟩
abbrev Rj(z TI TO i1 i2 t1 t2:Qg)(i:Nat)(h:Heap):Prop:=IsZip h z TI TO .none/\IsPair h TI (.ref i1) (.ref i2)/\(∃ a b,IsPair h TO a b)/\h.IsListIter i1 t1 i/\h.IsListIter i2 t2 i
theorem zpp{k:Nat}(z TI TO i1 i2 t1 t2:Qg)(ap:ZipApart z TI TO i1 i2 t1 t2):
  Turn P w K (.Tuple elts k pos) (Rl K t1 t2) [z,TI,TO,i1,i2] z (Rj z TI TO i1 i2 t1 t2) where
 mem:=by simp
 obj:=λi h st c hc=>by
  obtain⟨hz,hI,⟨a,b,hO⟩,⟨o1,e1,_,d1⟩,⟨o2,e2,_,d2⟩⟩:=st;simp only[qv,List.not_mem_nil,or_false]at hc;rcases hc with rfl|rfl|rfl|rfl|rfl
  .exact⟨_,hz,λv q=>by
    have q':Data.fields _=Data.cell v:=q;cases q'⟩
  .exact⟨_,hI,λv q=>by
    have q':Data.seq _ _=Data.cell v:=q;cases q'⟩
  .exact⟨_,hO,λv q=>by
    have q':Data.seq _ _=Data.cell v:=q;cases q'⟩
  .exact⟨o1,e1,λv q=>by rw[d1]at q; cases q⟩
  .exact⟨o2,e2,λv q=>by rw[d2]at q; cases q⟩
 keep:=λi h h' st kk=>by
  obtain⟨hz,hI,⟨a,b,hO⟩,⟨o1,e1,r1⟩,⟨o2,e2,r2⟩⟩:=st;exact⟨kk z (by simp) _ hz,kk TI (by simp) _ hI,⟨a,b,kk TO (by simp) _ hO⟩,⟨o1,kk i1 (by simp) _ e1,r1⟩,⟨o2,kk i2 (by simp) _ e2,r2⟩⟩
 item:=by
  intro X hP hw hK hc i pins s σ H E I hf st hg;subst hP hw hK;have(xs,ys,x,y,kU,kS,hx,hy):=hg;obtain⟨hz,hI,⟨a,b,hO⟩,h1,h2⟩:=st;have(kP,pA,kQ,_):=I.list kU;have(bP,tP,c8,_):=I.list kS;have(u1,JZ,r1):=pA.get hx;have(u2,JY,r2):=tP.get hy;refine wpAny_pyNext_zip_item ap hz hI hO h1 h2 kQ.isList c8.isList (by simpa using JZ) (by simpa using JY) λh' z' O' k1 k2 gQ _ kk=>?_;refine⟨_,rfl,wpAny_letOwnedTupleGo_zip (s:={s with heap:=h'}) z' λie z2 sb=>?_⟩;have nm:s.heap.objs.size∉[z,TI,TO,i1,i2]:=λhm=>by
   have:s.heap.objs.size < s.heap.objs.size:=by
    simp only[qv,List.not_mem_nil,or_false]at hm;have(_,e1,_):=h1;have(_,e2,_):=h2;rcases hm with h|h|h|h|h
    .exact qi (h▸qh hz) (qe _)
    .exact qi (h▸qh hI) (qe _)
    .exact qi (h▸qh hO) (qe _)
    .exact qi (h▸qh e1) (qe _)
    .exact qi (h▸qh e2) (qe _)
   exact Ç _ this
  have nz:s.heap.objs.size≠z:=λh=>nm (by rw[h]; simp);have I2:Inv X pins σ H {s with heap:=ie}:=I.aS (t':=s.toks) (wr:=[z,TI,TO,i1,i2]) (λc o hc q=>by
   simp only[qv,List.not_mem_nil,or_false,not_or]at hc;exact(sb.2 c hc.1).trans<|kk c o hc.1 hc.2.2.1 hc.2.2.2.1 hc.2.2.2.2 q) hf
  have fT:bM X pins H s.heap.objs.size:=I.bJ (qe _) (I.aq.fresh<|qe _);have I3:Inv X pins σ (upd H s.heap.objs.size<|.tup [x,y]) {s with heap:=ie}:=I2.eT fT I.sz ⟨by show 2<=sizeLine; decide,[u1,u2],.cons r1<|.cons r2 .nil,_,(sb.2 _ nz).trans gQ,rfl,⟨_,rfl⟩,.inl rfl⟩;refine⟨.ref s.heap.objs.size,_,I3,rfl,⟨_,I.aq.fresh<|qe _,rfl,λgv jU v u ua t9 hv hu=>?_⟩,⟨z2,(sb.2 _ ap.TIz).trans<|kk _ _ ap.TIz ap.TITO ap.TIi1 ap.TIi2 hI,⟨_,_,(sb.2 _ ap.TOz).trans O'⟩,?_,?_⟩,λc hc=>?_⟩
  .cases I.cQ kU ua
   cases I.cQ kS t9;rw[hx]at hv;rw[hy]at hu;cases hv;cases hu;rfl
  .have(o,e,r):=k1
   exact⟨o,(sb.2 _ ap.i1z).trans e,r⟩
  .have(o,e,r):=k2
   exact⟨o,(sb.2 _ ap.i2z).trans e,r⟩
  .have ne:c≠s.heap.objs.size:=λh=>nm<|h▸hc
   rw[zq ne];exact(hf c hc).1
 done:=by
  intro X hP hw hK hc i pins s σ H E I hf st hg;subst hP hw hK;have(xs,ys,kU,kS,hl):=hg;obtain⟨hz,hI,⟨a,b,hO⟩,h1,h2⟩:=st;have(kP,pA,kQ,_):=I.list kU;have(bP,tP,c8,_):=I.list kS;refine wpAny_pyNext_zip_end (I.ok.hd hc) ap hz hI hO h1 h2 kQ.isList c8.isList (.inl<|by
   have:=pA.length;simp;omega) λh' kk=>⟨rfl,I.aS (t':=s.toks) (wr:=[z,TI,TO,i1,i2]) (λc o hc q=>by
   simp only[qv,List.not_mem_nil,or_false,not_or]at hc;exact kk c o hc.1 hc.2.2.1 hc.2.2.2.1 hc.2.2.2.2 q) hf⟩
 self:=λ_ _ _ _ _ st h=>wpAny_pyIter_zip st.1 h
section
variable{X:Cx}{k:Nat}
def Fm(K:qc)(ta:TA):TI:=λσ H R=>ta σ H λvs H1=>∃ a b,vs=[.ref a,.ref b]/\(∃ xs,aO K H1 a xs)/\(∃ ys,aO K H1 b ys)/\R (Rl K a b) H1
theorem Nh{a b:Expr}{ta:TA}{p:Pos}(ha:Wr (PA X [a,b] ta))(hK:X.K=K:=by rfl)(hg:Gl X "zip":=by exact rfl)(hm:X.mg "zip"=none:=by exact qR ‹Bl _ _› (by decide))(hs:zR a=true:=by rfl)(lL:[b].all zR=true:=by rfl):
  Wr (PI X (.Tuple elts k gG) (.Call (.Name "zip" p) [a,b] [] pos)<|Fm K ta):=by
 subst hK;refine⟨?_⟩;intro pins s σ H R I h;refine Call_<|rq I hg hm boot_zip<|Ö (aw (ha.run pos pins s σ H _ I h) λus s1 hZ=>?_) (kr hs)<|oZ lL;have(vs,H1,I1,r1,q1):=hZ;obtain⟨t1,t2,e,⟨xs,kU⟩,⟨ys,kS⟩,q⟩:=q1;subst e;have(u1,u2,rfl,IM,IL):=wU r1;cases IM;cases IL;have(kP,pA,kQ,hz1):=I1.list kU;have(bP,tP,c8,Jq):=I1.list kS;have Iq:t1 < s1.heap.objs.size:=by
  exact kQ.lt
 have Ip:t2 < s1.heap.objs.size:=by
  exact c8.lt
 have mQ:∀ {x y:Nat},x < y->x≠y:=λh=>qj h;refine call_zip_2 kQ.isList c8.isList λh' c1 c2 c3 c4 c5 _ kk=>?_;have pO:Rj (s1.heap.objs.size+4) (s1.heap.objs.size+2) (s1.heap.objs.size+3) s1.heap.objs.size (s1.heap.objs.size+1) t1 t2 0 h':=⟨c1,c2,⟨_,_,c3⟩,c4,c5⟩;have I2:Inv X pins σ H1 {s1 with heap:=h'}:=I1.kept (t':=s1.toks) kk;refine wpAny_pyIter_zip pO.1 ?_;have f:∀ j:Nat,bM X pins H1 (s1.heap.objs.size+j):=λj=>I1.bJ (Nat.le_add_right _ _)<|I1.aq.fresh<|Nat.le_add_right _ _;have ap:ZipApart (s1.heap.objs.size+4) (s1.heap.objs.size+2) (s1.heap.objs.size+3) s1.heap.objs.size (s1.heap.objs.size+1) t1 t2:=by
  generalize s1.heap.objs.size=n at Iq Ip;constructor<;>(simp only[Qg]at *; omega)
 refine⟨_,_,_,_,H1,rfl,I2,zpp _ _ _ _ _ t1 t2 ap,pO,λc hc=>?_,q⟩;simp only[qv,List.not_mem_nil,or_false]at hc;rcases hc with rfl|rfl|rfl|rfl|rfl
 .exact f 4
 .exact f 2
 .exact f 3
 .exact f 0
 .exact f 1
end
def Bz:Qa U->Qb (Qa D)
 | [.d<|.list xs,.d<|.list ys]=>if xs.length=ys.length then some (lh xs ys)else none
 | _=>none
def Fk(ma:MA):MI:=λρ=>(ma ρ).bind λp=>(bt p.2 p.1).bind λus=>(Bz us).bind λds=>some (ds,p.2)
theorem Xc{ta:TA}{ma:MA}(h:j5 K ta ma):VI K (Fm K ta) (Fk ma):=by
 intro ρ σ H ds ah R r e q;obtain⟨⟨as,ρ1⟩,e1,e⟩:=zb e;have(us,eu,e):=zb e;have(zs,ez,e):=zb e;cases e;refine h ρ σ H as ρ1 _ r e1 λvs H1 g1 s1=>?_;have rp:=s1.nZ r g1 eu;unfold Bz at ez;split at ez
 .split at ez
  rotate_left
  .cases ez
  rename_i xs ys hl;cases ez;cases rp with
  | cons p1 t=>
   cases t with
   | cons p2 t=>
    cases t;have(a,vx,rfl,h1,d1):=DF.lst_inv p1;have(b,vy,rfl,h2,d2):=DF.lst_inv p2;refine⟨a,b,rfl,⟨vx,(PL.sq h1)⟩,⟨vy,(PL.sq h2)⟩,q _ _ g1 λH2 kk i=>⟨λd ed=>?_,λei=>?_⟩⟩
    .have(x,y,ex,ey,rfl):=Cn ed
     have(v,ev,dv):=(d1.kp kk).get ex;have(w,ew,dw):=(d2.kp kk).get ey;refine⟨⟨vx,vy,v,w,(PL.kp kk h1).sq,(PL.kp kk h2).sq,ev,ew⟩,λz H' y=>?_⟩;have(T,nT,rfl,y):=y;cases y vx vy v w ((PL.kp kk h1).sq) ((PL.kp kk h2).sq) ev ew;have sm:=zB nT (.tup [v,w]);exact⟨sm,.tup (.inl zp)<|.cons (dv.kp sm.kp)<|.cons (dw.kp sm.kp) .nil⟩
    .exact⟨vx,vy,(PL.kp kk h1).sq,(PL.kp kk h2).sq,by rw[CI _ _ hl]at ei; rw[d1.len]; exact ei.symm⟩
 .cases ez
section
variable{X:Cx}
end
section
end
section
variable{X:Cx}
end
section
end
theorem EB:∀ {us:Qa α},us.length=1->∃ a,us=[a]
 | [a],_=>⟨a,rfl⟩
theorem EA:∀ {us:Qa α},us.length=2->∃ a b,us=[a,b]
 | [a,b],_=>⟨a,b,rfl⟩
theorem Ri:∀ {us:Qa α},us.length=3->∃ a b c,us=[a,b,c]
 | [a,b,c],_=>⟨a,b,c,rfl⟩
theorem Rh:∀ {us:Qa α},us.length=4->∃ a b c d,us=[a,b,c,d]
 | [a,b,c,d],_=>⟨a,b,c,d,rfl⟩
theorem oG:∀ {us:Qa α},us.length=5->∃ a b c d e,us=[a,b,c,d,e]
 | [a,b,c,d,e],_=>⟨a,b,c,d,e,rfl⟩
structure Zs where
 P:Qe
 w:Qh
 K:qc
 mg:Str->Qb Qc
 base:Heap
def b8(K:qc)(x:Str)(st:Stmt):Prop:=∃ (f:Qg) (fd:FuncData),jG K x x st f fd/\PySem.W.nsIn K mainGlobals x=some (some<|.ref f)
theorem fnK{f:Qg}{oc:Qc}{od an:Qb Qg}{kV doc pm be ct:Qc}(a:PySem.W.nsIn K mainGlobals x=some (some<|.ref f))(l:K.lookup f=some ⟨oc,od,.func<|PySem.W.fnOf x x (nV st) (je st) (zM st) .none kV doc pm an be ct,n5⟩)
  (c:PySem.W.codeIn K be x=true) (k:PySem.W.keepIn K (.ref f)=true):b8 K x st:=⟨f,_,Gk l c k,a⟩
def cx(Z:Zs)(x:Str)(st:Stmt):Prop:=∃ (f:Qg) (fd:FuncData),jG Z.K x x st f fd/\Z.mg x=some (.ref f)
theorem b8.z{base:Heap}(a:b8 K x st)(X:K.In h)(G:h.Ns mainGlobals mg):cx ⟨P,w,K,mg,base⟩ x st:=by
 have(f,fd,F,g):=a;exact⟨f,fd,F,á X G g⟩
abbrev Zs.C(Z:Zs)(x:Str)(k:Nat)(ps:Qa Str)(n:Nat)(F:FD):Prop:=AF Z.P Z.w Z.K Z.mg Z.base x k ps (nX Z.K n F)
abbrev Zs.X(Z:Zs)(x:Str)(k:Nat)(ps:Qa Str)(n:Nat)(F:FX):Prop:=Kj Z.P Z.w Z.K Z.mg Z.base x k ps (spX Z.K n F)
section
variable{Z:Zs}{k nn:Nat}{m:MS}{f:Qg}
abbrev Fj(Z:Zs)(x:Str)(st:Stmt)(k:Nat)(pn:Qa Nat)(m:MS)(N:Qa Str)(f:Qg):Prop:=∀ {be:Qc} {A:Qf} {outer:Qa Env} {s:Qd} {H:Hp} {E:XK},N.Nodup->aA k (A.deeper<|envOfC x (zM st) s.heap.objs.size f be)->
 ∃ t,VS Z.K pn Tw t m/\Wr (d5 (nJ iR Z.P Z.w Z.K Z.mg Z.base N x (zM st) f be A outer s H E).rO (je st) t)
theorem RN(F:jG Z.K x x st f fd)(N:Qa Str)(bB:Fj Z x st k pn m N f)(S:bj N ps (zM st):=by exact⟨rfl,rfl,rfl,by decide +kernel,rfl,by decide +kernel,by decide +kernel⟩)(wg:ps.length=n:=by rfl)(hN:N.length=nn:=by rfl)(wk:n<=nn:=by decide):
  bK Z.P Z.w Z.K Z.mg Z.base iR (k+1) f fd ps (nX Z.K n<|bF nn pn m):=F.RP S wg hN wk λbe A outer s H E hr=>let ⟨t,a,b⟩:=bB S.nd hr; ⟨t,b,a⟩
theorem cJ(A:cx Z x st)(N:Qa Str)(bB:∀ {f},Fj Z x st k pn m N f)(S:bj N ps (zM st):=by exact⟨rfl,rfl,rfl,by decide +kernel,rfl,by decide +kernel,by decide +kernel⟩)(wg:ps.length=n:=by rfl)(hN:N.length=nn:=by rfl)(wk:n<=nn:=by decide)
  (hb:∀ (kV doc pm:Qc) (an:Qb Qg) (be ct:Qc) (us:Qa Qc),us.length=ps.length->bindArgs (PySem.W.fnOf x x (nV st) (je st) (zM st) .none kV doc pm an be ct) ⟨us,[]⟩=pure (ps.zip us):=by
   intro _ _ _ _ _ _ us hl
   first
   | (have(_,rfl):=EB hl; rfl)
   | (have(_,_,rfl):=EA hl; rfl)
   | (have(_,_,_,rfl):=Ri hl; rfl)
   | (have(_,_,_,_,rfl):=Rh hl; rfl)
   | (have(_,_,_,_,_,rfl):=oG hl; rfl)
   | (cases(ñ hl); rfl)):Z.C x (k+1) ps n (bF nn pn m):=
 let ⟨f,fd,F,g⟩:=A; ⟨⟨f,fd,RN F N bB S wg hN wk,F.binds hb,F.kp,g⟩⟩
end
theorem NN{ρ:En}{u:U}(h:(ρ[i]?).join=some u):ρ[i]?=some (some u):=by
 cases e:ρ[i]? with
 | none=>rw[e]at h; cases h
 | some o=>
  rw[e]at h;cases h;rfl
section
variable{ρ:En}
theorem Zc{u:U}(r:Rs K ρ σ H)(hi:i∉js)(e:ρ[i]?=some (some u))(o:u.own=true)(es:σ[i]?=some (some<|.ref a)):¬ki ρ σ js a:=by
 rintro⟨p,j,w,hp,ej,ow,ng⟩;cases r.apart i j u w e ej o ow (by rw[es,ng]);exact hi<|Â hp
end
end L2
namespace L2
open PySem
section
variable{a:α}{f:α->Qb β}{R:β->Prop}{t:Ph f}
theorem WK:Wo (some a) (Co f t R)=Wo (f a) R:=eC
theorem WJ{x:Fl}{Q:Fl->Prop}{P:En->Prop}:Wo (some x) (qY Q P)=qY Q P x:=eC
end
end L2
namespace L2
open PySem PySem.Spec PyProof.Rows
section
variable{g:Array GenState}{d:Drawn}{t:Nat}{os:OsState}{items:Array Qc}
end
section
variable{X:Cx}{D:Qg}{xs:Qa V}
end
section
variable{X:Cx}
end
end L2
namespace L2
open PySem PySem.Spec
def Tt(b:Bool):Prop:=b=true
theorem WI{b:Bool}(h:b=true):Tt b:=h
def wx(ρ:En)(i:Nat):Bool:=((ρ[i]?).join).isSome
def gt(ρ:En)(i:Nat):U:=((ρ[i]?).join).getD (.d .none)
theorem zAP{ρ:En}:gt ρ i=((ρ[i]?).join).getD (.d .none):=rfl
theorem zAQ{u v:U}:(some u:Qb U).getD v=u:=rfl
theorem Ng{ρ:En}(h:wx ρ i=true):(ρ[i]?).join=some (gt ρ i):=by
 unfold wx at h;unfold gt;cases e:(ρ[i]?).join with
 | none=>rw[e]at h; cases h
 | some u=>rfl
def uG(ρ:En):Ar->Bool
 | .s i=>wx ρ i
 | .u _=>true
def ag(ρ:En):Ar->U
 | .s i=>gt ρ i
 | .u x=>x
theorem zAR{ρ:En}:ag ρ (.s i)=gt ρ i:=rfl
theorem zAS{ρ:En}{x:U}:ag ρ (.u x)=x:=rfl
theorem Ci{ρ:En}{a:Ar}(h:uG ρ a=true):a.get ρ=some (ag ρ a):=by
 cases a with
 | s i=>exact Ng h
 | u x=>rfl
def gs(ρ:En)(as:Qa Ar):Qa U:=as.map (ag ρ)
theorem zAT{ρ:En}:gs ρ []=[]:=rfl
theorem zAU{ρ:En}{a:Ar}{as:Qa Ar}:gs ρ (a::as)=ag ρ a::gs ρ as:=rfl
theorem F0{ρ:En}:∀ {as:Qa Ar},as.all (uG ρ)=true->bt ρ as=some (gs ρ as)
 | [],_=>rfl
 | a::as,h=>by
  rw[List.all_cons,Bool.and_eq_true_iff]at h;rw[O4,Ci h.1,bd,F0 h.2];rfl
def D7(m:En->Qb α)(ρ:En):Qb α:=m ρ
def Cu(ρ:En)(t:Ph ρ)(Q:Ar×En->Prop)(u:U):Prop:=Q (.u u,ρ)
def Cw(ρ:En)(as:Qa Ar)(t:Ph ρ)(Q:Ar×En->Prop)(o:U×Qa U):Prop:=Q (.u o.1,wb ρ as o.2)
def Jf(f:U->Qb U)(p:Ar×En):Qb (Ar×En):=(p.1.get p.2).bind λx=>(f x).bind λu=>some (.u u,p.2)
def K6(mA:MA)(p:Ar×En):Qb (Qa Ar×En):=(mA p.2).bind λq=>some (p.1::q.1,q.2)
def LL(a:Ar)(q:Qa Ar×En):Qb (Qa Ar×En):=some (a::q.1,q.2)
def Ji(f:Qa U->Qb U)(p:Qa Ar×En):Qb (Ar×En):=(bt p.2 p.1).bind λus=>(f us).bind λu=>some (.u u,p.2)
def AN(f:FD)(p:Qa Ar×En):Qb (Ar×En):=if g8 p.2 p.1=true then(bt p.2 p.1).bind λus=>(f us).bind λo=>some (.u o.1,wb p.2 p.1 o.2)else none
def Ez(i:Nat)(p:Ar×En):Qb Fl:=(put p).bind λq=>some<|.nx<|q.2.set i<|some q.1
def kB(p:Ar×En):Qb (Bool×En):=(p.1.get p.2).bind λu=>u.Ax.bind λb=>some (b,p.2)
def DK(m1 m2:MS)(p:Bool×En):Qb Fl:=if p.1=true then m1 p.2 else m2 p.2
def Fi(p:Ar×En):Qb Fl:=some (.nx p.2)
section
variable{γ:Type}{ρ:En}{ma mb me:ME}{mA:MA}{mt:MT}{m1 m2:MS}{u x y:U}{d:D}{a b:Ar}{as:Qa Ar}{f:U->Qb U}{f2:U->U->Qb U}{fl:Qa U->Qb U}{F:FD}
variable{QE:Ar×En->Prop}{QA:Qa Ar×En->Prop}{QT:Bool×En->Prop}{QS:Fl->Prop}
theorem WH{m:En->Qb α}{Q:α->Prop}:Wo (D7 m ρ) Q=Wo (m ρ) Q:=rfl
theorem WG{g:Ar×En->Qb β}{t:Ph ρ}{t2:Ph g}{R:β->Prop}:Cu ρ t (Co g t2 R) u=Wo (g (.u u,ρ)) R:=rfl
theorem Zb{g:Ar×En->Qb β}{t:Ph g}{R:β->Prop}(h:Tt (wx ρ i)):Wo (zj i ρ) (Co g t R)=Wo (g (.s i,ρ)) R:=by
 rw[Nk,Ng h,eC,jN,eC];rfl
theorem zAV{g:Ar×En->Qb β}{t:Ph g}{R:β->Prop}:Wo (mC d ρ) (Co g t R)=Wo (g (.u<|.d d,ρ)) R:=KA
theorem zn4(h:Tt (uG ρ a && uG ρ b)):Wo (AZ f2 a (b,ρ)) QE=Wo (f2 (ag ρ a)<|ag ρ b) (Cu ρ ⟨0⟩ QE):=by
 have(h1,h2):=Bool.and_eq_true_iff.mp h;unfold AZ;rw[Ci h1,bd,Ci h2,bd,zo];exact congrArg (Wo _)<|funext λ_=>eC
theorem WE:Wo (gM f ma ρ) QE=Wo (ma ρ) (Co (Jf f) ⟨0⟩ QE):=zAF
theorem Za(h:Tt (uG ρ a)):Wo (Jf f (a,ρ)) QE=Wo (f<|ag ρ a) (Cu ρ ⟨0⟩ QE):=by
 unfold Jf;rw[Ci h,bd,zo];exact congrArg (Wo _)<|funext λ_=>eC
theorem zn5:Wo (zf me mA ρ) QA=Wo (me ρ) (Co (K6 mA) ⟨0⟩ QA):=X5
theorem zlk:Wo (K6 mA (a,ρ)) QA=Wo (mA ρ) (Co (LL a) ⟨0⟩ QA):=zo
theorem ziX{g:Qa Ar×En->Qb β}{t:Ph g}{R:β->Prop}:Wo (LL a (as,ρ)) (Co g t R)=Wo (g (a::as,ρ)) R:=eC
theorem Y9{g:Qa Ar×En->Qb β}{t:Ph g}{R:β->Prop}:Wo (zt ρ) (Co g t R)=Wo (g ([],ρ)) R:=Nj
theorem WD:Wo (cF fl mA ρ) QE=Wo (mA ρ) (Co (Ji fl) ⟨0⟩ QE):=zAG
theorem Y8(h:Tt (as.all<|uG ρ)):Wo (Ji fl (as,ρ)) QE=Wo (fl<|gs ρ as) (Cu ρ ⟨0⟩ QE):=by
 unfold Ji;rw[F0 h,bd,zo];exact congrArg (Wo _)<|funext λ_=>eC
theorem Y7:Wo (aR F mA ρ) QE=Wo (mA ρ) (Co (AN F) ⟨0⟩ QE):=Vg
theorem zn6(h:Tt (g8 ρ as && as.all (uG ρ))):Wo (AN F (as,ρ)) QE=Wo (F<|gs ρ as) (Cw ρ as ⟨0⟩ QE):=by
 have(h1,h2):=Bool.and_eq_true_iff.mp h;unfold AN;rw[if_pos h1,F0 h2,bd,zo];exact congrArg (Wo _)<|funext λ_=>eC
theorem WC{us:Qa U}{g:Ar×En->Qb β}{t:Ph ρ}{t2:Ph g}{R:β->Prop}:Cw ρ as t (Co g t2 R) (u,us)=Wo (g (.u u,wb ρ as us)) R:=rfl
theorem Y6:Wo (aV i me ρ) QS=Wo (me ρ) (Co (Ez i) ⟨0⟩ QS):=Vf
theorem zn7{t:Ph (lV m2)}:Wo (Ez i (.u u,ρ)) (Co (lV m2) t QS)=Wo (D7 m2<|ρ.set i<|some u) QS:=eC
theorem zAW:Wo (mB me ρ) QT=Wo (me ρ) (Co kB ⟨0⟩ QT):=zBH
theorem WB{c:Bool}{g:Bool×En->Qb β}{t:Ph g}{R:β->Prop}:Wo (kB (.u<|.d<|.bool c,ρ)) (Co g t R)=Wo (g (c,ρ)) R:=eC
theorem Y5:Wo (cv mt m1 m2 ρ) QS=Wo (mt ρ) (Co (DK m1 m2) ⟨0⟩ QS):=Ve
theorem Y4:Wo (DK m1 m2 (true,ρ)) QS=Wo (m1 ρ) QS:=rfl
theorem Y3:Wo (DK m1 m2 (false,ρ)) QS=Wo (m2 ρ) QS:=rfl
theorem zn8:Wo (iV me ρ) QS=Wo (me ρ) (Co Fi ⟨0⟩ QS):=X4
theorem zll{t:Ph (lV m2)}:Wo (Fi (a,ρ)) (Co (lV m2) t QS)=Wo (D7 m2 ρ) QS:=eC
theorem zn9{t:Ph (lV m2)}:Wo (du ρ) (Co (lV m2) t QS)=Wo (D7 m2 ρ) QS:=Ou
theorem zoa{p:Qa Ar×En}:AN F p=if g8 p.2 p.1=true then(bt p.2 p.1).bind λus=>(F us).bind λo=>some (.u o.1,wb p.2 p.1 o.2)else none:=rfl
theorem zob{p:Ar×En}:Ez i p=(put p).bind λq=>some (.nx<|q.2.set i<|some q.1):=rfl
theorem WA{p:Ar×En}:kB p=(p.1.get p.2).bind λu=>u.Ax.bind λb=>some (b,p.2):=rfl
theorem Y2{p:Bool×En}:DK m1 m2 p=if p.1=true then m1 p.2 else m2 p.2:=rfl
theorem zlm{p:Ar×En}:Fi p=some (.nx p.2):=rfl
end
end L2
namespace L2
open PySem PySem.Spec PyProof.Rows
section
variable{K:Type}[DecidableEq K]{knd:HeapKind prog w K}
end
section
variable{X:Cx}{b:Qg}
end
section
variable{EX:gW}
end
section
variable{ρ:En}{my:ME}{QS:Fl->Prop}
end
section
theorem aK.obj{vs:Qa V}(eG:K.In h)(ok:bE P w K H h)(e:aK K H a vs):∃ o items n,h.get? a=some o/\o.cls=.type "tuple"/\o.data=.seq items n/\zC vs items.toList:=by
 rcases e with e|⟨o,af,n,hk,hc,hs,_,r,_⟩
 case inr=>exact⟨o,af,n,eG a o hk,hc,hs,r⟩
 obtain⟨_,af,r,o,h1,h2,⟨n,h3⟩,_⟩:=(show zI P w K H h a (.tup vs) from ok a _ e);exact⟨o,af.toArray,n,h1,h2,h3,by simpa using r⟩
theorem Rg:∀ {ks:Qa Key} {us:Qa Qc},zC (ks.map kV) us->aN (Jn P w) h ks us
 | [],_,r=>by rw[List.map_nil]at r; cases r; exact .nil
 | k::ks,_,r=>by
  rw[List.map_cons]at r;cases r with
  | cons h t=>exact .cons (sN h)<|Rg t
theorem N0.is(eG:K.In h)(ok:bE P w K H h)(e:N0 K H ks a):fH (Jn P w) h ks a:=by
 have(o,af,n,h1,h2,h3,r):=aK.obj eG ok e;exact⟨o,af,n,h1,h2,h3,Rg r⟩
theorem Rf[DecidableEq J]{I:IK P w J}{R:Qa J->Qg->Prop}(hR:∀ ks b,R ks b->fH I h ks b):∀ {xs:Qa (Key ⊕ Qa J)} {vs:Qa V} {us:Qa Qc},Paired (NI R) xs vs->zC vs us->aN (yz I) h xs us
 | [],_,_,p,r=>by cases p; cases r; exact .nil
 | x::xs,_,_,p,r=>by
  cases p with
  | @cons _ v _ vs' hx t=>
   cases r with
   | cons rv rt=>
    refine .cons ?_<|Rf hR t rt;cases x with
    | inl k=>cases(show v=kV k from hx); exact sN rv
    | inr ks=>
     have(b,rfl,hb):=(show ∃ b,v=.ref b/\R ks b from hx);cases rv;exact⟨b,rfl,hR ks b hb⟩
theorem jF.is[DecidableEq J]{I:IK P w J}{R:Qa J->Qg->Prop}{xs:Qa (Key ⊕ Qa J)}(eG:K.In h)(ok:bE P w K H h)(hR:∀ ks b,R ks b->fH I h ks b)(e:jF K H R xs a):fH (yz I) h xs a:=by
 have(vs,e1,e2):=e;have(o,af,n,h1,h2,h3,r):=aK.obj eG ok e1;exact⟨o,af,n,h1,h2,h3,Rf hR e2 r⟩
theorem N3.is{xs:Qa K3}(eG:K.In h)(ok:bE P w K H h)(e:N3 K H xs a):(wW P w).is h xs a :=
 jF.is eG ok (λ_ _ e=>jF.is eG ok (λ_ _ e=>jF.is eG ok (λ_ _ e=>N0.is eG ok e) e) e) e
end
abbrev KX(K:qc)(H:Hp):Qa (Qa K3×V)->Qa (Qa K3×Qg×Qc)->Prop:=Paired λp q=>p.1=q.1/\N3 K H p.1 q.2.1/\zA p.2 q.2.2
section
variable{kvs:Qa (Qa K3×V)}{xs:Qa (Qa K3×Qg×Qc)}
theorem KX.val(r:KX K H kvs xs)(k:Qa K3):gk (dq kvs k) ((atKey xs k).map (·.2)):=by
 induction r with
 | nil=>exact True.intro
 | @cons p q ps qs h t ih=>
  have(h1,_,h2):=h
  by_cases e:p.1=k
  .have e':q.1=k:=h1.symm.trans e
   have b:atKey (q::qs) k=some q.2:=by simp[atKey,List.find?_cons,e']
   rw[CF e,b]; exact h2
  .have e':¬q.1=k:=λz=>e<|h1.trans z
   have b:atKey (q::qs) k=atKey qs k:=by simp[atKey,List.find?_cons,e']
   rw[CD e,b]; exact ih
theorem KX.jk(r:KX K H kvs xs)(k:Qa K3)(ry:zA y u):
  KX K H (kvs.map λkv=>if kv.1=k then(kv.1,y)else kv) (xs.map<|putAt k u):=by
 induction r with
 | nil=>exact .nil
 | @cons p q ps qs h t ih=>
  rw[List.map_cons,List.map_cons];refine .cons ?_ ih;have(h1,h2,h3):=h;unfold putAt
  by_cases e:p.1=k
  .rw[if_pos e,if_pos<|h1.symm.trans e]; exact⟨h1,h2,ry⟩
  .rw[if_neg e,if_neg λz=>e<|h1.trans z]; exact⟨h1,h2,h3⟩
theorem KX.put(r:KX K H kvs xs)(k:Qa K3){b:Qg}(hb:N3 K H k b)(ry:zA y u):KX K H (cN kvs k y) (storedH xs k b u):=by
 have e:(kvs.any λkv=>decide<|kv.1=k)=(atKey xs k).isSome:=by
  rw[He,(r.val k).bA,Option.isSome_map]
 unfold cN storedH;rw[e]
 by_cases q:(atKey xs k).isSome=true
 .rw[if_pos q,if_pos q]; exact r.jk k ry
 .rw[if_neg q,if_neg q]; exact Paired.snoc r ⟨rfl,hb,ry⟩
theorem KX.keeps(r:KX K H kvs xs)(ht:∀ b ys,H b=some (.tup ys)->H' b=some (.tup ys)):KX K H' kvs xs:=Paired.gL r λ_ _ z=>⟨z.1,z.2.1.keeps ht,z.2.2⟩
end
theorem Bo{kvs:Qa (Qa K3×V)}(eG:K.In h)(ok:bE P w K H h)(e:H a=some (.dX kvs)):kvs.length<=sizeLine/\(a==sysModules)=false/\
  ∃ xs,KX K H kvs xs/\h.DictOfH (wW P w) a xs:=by
 have(z,y,xs,r,o,es,ep,h1,h2,h3,h4,h5):=(show zI P w K H h a (.dX kvs) from ok a _ e);refine⟨z,y,xs,r,o,es,ep,h1,h2,h3,h4,λx hx=>?_,h5⟩;have all:∀ {l:Qa (Qa K3×V)} {m:Qa (Qa K3×Qg×Qc)},KX K H l m->∀ x∈m,(wW P w).is h x.1 x.2.1:=by
  intro l m q
  induction q with
  | nil=>intro x hx; exact nomatch hx
  | @cons p q ps qs hq t ih=>
   intro x hx;rcases qv.mp hx with e|hx
   .subst e
    exact N3.is eG ok (by rw[<-hq.1]; exact hq.2.1)
   .exact ih x hx
 exact all r x hx
theorem FZ(hu:A.units+5 < cLine):(wW P w).room A.in1:=by
 show A.units+1+(3+1) < cLine;omega
def Eg(K:qc)(H:Hp)(a:Qg)(y:V)(r:Qb V):Prop:=∃ kvs k b,H a=some (.dX kvs)/\y=.ref b/\N3 K H k b/\r=dq kvs k
def Tx(K:qc)(H:Hp)(a:Qg)(y v:V)(H':Hp):Prop:=∃ kvs k b,H a=some (.dX kvs)/\y=.ref b/\N3 K H k b/\kvs.length < sizeLine/\H'=upd H a (.dX<|cN kvs k v)
section
variable{X:Cx}{v:V}{o:Qb V}{r:Qc}
theorem zpq(hu:A.units+5 < cLine)(I:Inv X pins σ H s)(g:Eg X.K H a y (some v))(ry:zA y u)(h:∀ w' s',Inv X pins σ H s'->zA v w'->Q w' s'):
  wpAny (model X.prog X.w) A (getItem (.ref a) u) Q E s:=by
 have(kvs,k,b,e,rfl,eb,l):=g;cases(show u=Value.ref b from ry);have(z,hd,xs,rel,dd):=Bo I.aU I.aq e;have(w',hw,gc):=gk.some_of (v:=v) (o:=(atKey xs k).map (·.2)) (by rw[l]; exact rel.val k);have(p,hp,kW):=qr.mp hw;refine wpAny_getItem_heap (FZ hu) (N3.is I.aU I.aq eb) dd hp ?_;rw[kW];exact h w' _ (I.tok _) gc
theorem Xb(hu:A.units+5 < cLine)(I:Inv X pins σ H s)(g:Eg X.K H a y o)(ry:zA y u)(h:∀ s',Inv X pins σ H s'->Q (.bool (!o.isSome)) s'):
  wpAny (model X.prog X.w) A (compareOp .NotIn u<|.ref a) Q E s:=by
 have(kvs,k,b,e,rfl,eb,l):=g;cases(show u=Value.ref b from ry);have(z,hd,xs,rel,dd):=Bo I.aU I.aq e;refine wpAny_notIn_heap (FZ hu) (N3.is I.aU I.aq eb) hd dd ?_;have q:=(rel.val k).bA;rw[Option.isSome_map]at q;rw[<-q,<-l];exact h _<|I.tok _
theorem zpr{Q:Unit->Qd->Prop}(hu:A.units+5 < cLine)(I:Inv X pins σ H s)(g:Tx X.K H a y v H')(ry:zA y u)(rv:zA v r)(h:∀ s',Inv X pins σ H' s'->Q () s'):
  wpAny (model X.prog X.w) A (setItem (.ref a) u r) Q E s:=by
 have(kvs,k,b,e,rfl,eb,l,rfl):=g;cases(show u=Value.ref b from ry);have(z,hd,xs,rel,dd):=Bo I.aU I.aq e;have hz:xs.length<=sizeLine:=by rw[<-Paired.length rel]; exact z
 have hl:(cN kvs k v).length<=sizeLine:=by have:=xO kvs k v; omega
 refine wpAny_setItem_heap (hsz:=hz) (FZ hu) (N3.is I.aU I.aq eb) dd λh' lP hs=>h _ ?_;have(q,es,ep,hq,h2,h3,h4,_,h5):=lP;refine vD I (by rw[e]; exact True.intro) hs ⟨q,hq⟩ ⟨hl,hd,_,(rel.put k eb rv).keeps λc ys ec=>?_,q,es,ep,hq,h2,h3,h4,h5⟩;rw[zq (qS ec e (λz=>nomatch z))];exact ec
end
structure Re (K:qc) (H H':Hp):Prop where
 aq:∀ (P:Qe) (w:Qh) (h:Heap),bE P w K H h->bE P w K H' h
 aF:∀ b,H b=none->H' b=none
 tup:∀ b xs,H b=some (.tup xs)->H' b=some (.tup xs)
 aW:∀ b o u,H b=some (.aW o u)->H' b=some (.aW o u)
 lH:∀ b ps,H b=some (.lH ps)->H' b=some (.lH ps)
theorem Re.refl(K:qc)(H:Hp):Re K H H:=⟨λ_ _ _ h=>h,λ_ h=>h,λ_ _ h=>h,λ_ _ _ h=>h,λ_ _ h=>h⟩
theorem Inv.re{X:Cx}(I:Inv X pins σ H s)(r:Re X.K H H'):Inv X pins σ H' s :=
 I.un (h':=s.heap) (t':=s.toks) ⟨λ_ _ e _ _ _=>e,λ_ o e _ _ _=>⟨o.slots,e⟩,λb _ _ e _=>r.aF b e,λ_ o e _=>⟨o,e⟩,r.tup,r.aW,λb ps e=>⟨#[],by rw[r.lH b ps e]; simp⟩⟩ (r.aq _ _ _ I.aq)
def Iv(K:qc)(t:TE):TE:=λσ H Q=>∃ H1,Re K H H1/\t σ H1 λv H2=>∃ H3,Re K H2 H3/\Q v H3
theorem Ey{X:Cx}{t:TE}(h:Wr (PE X e t)):Wr (PE X e<|Iv X.K t):=⟨λpins s σ H Q I q=>by
 have(H1,r1,q):=q;refine aw (h.run pins s σ H1 _ (I.re r1) q) λu s1 z=>?_;have(v,H2,I2,rv,H3,r3,z):=z;exact⟨v,H3,I2.re r3,rv,z⟩⟩
def Ex(ps:Qa (Qg×HO))(H:Hp):Hp:=λb=>((ps.find? λq=>decide<|q.1=b).map (·.2)).or<|H b
def bO(H:Hp)(a C dx:Qg)(vs:Qa (Str×V))(ps:Qa (Qg×HO)):Hp:=upd (Ex ps H) a (.ins C dx vs)
def Ew(a:Qg)(ps:Qa (Qg×HO))(H:Hp):Hp:=λb=>if(ps.any λq=>decide<|q.1=b)=true then some (.own a)else H b
def hU(H:Hp)(a C dx:Qg)(vs:Qa (Str×V))(ps:Qa (Qg×HO)):Hp:=upd (Ew a ps H) a (d4 C dx vs ps)
section
variable{C:Qg}{vs:Qa (Str×V)}{ps:Qa (Qg×HO)}
theorem LK:∀ {ps:Qa (Qg×HO)},zI P w K H h a (d4 C dx vs ps)->zI P w K H h a (.ins C dx vs)/\∀ q∈ps,H q.1=some (.own a)/\q.1≠a/\q.2.flat=true/\zI P w K H h q.1 q.2
 | [],x=>⟨x,λq hq=>by cases hq⟩
 | (b,p)::ps,x=>by
  have(y,e,n,f,o):=(show zI P w K H h a (.sub b p<|d4 C dx vs ps) from x);have(z,t):=LK y;refine⟨z,λq hq=>?_⟩;rcases qv.mp hq with rfl|hq
  .exact⟨e,n,f,o⟩
  .exact t q hq
theorem LJ:∀ {ps:Qa (Qg×HO)},zI P w K H h a (.ins C dx vs)->(∀ q∈ps,H q.1=some (.own a)/\q.1≠a/\q.2.flat=true/\zI P w K H h q.1 q.2)->zI P w K H h a (d4 C dx vs ps)
 | [],x,_=>x
 | (b,p)::ps,x,t=>by
  have(e,n,f,o):=t (b,p) qp;exact⟨LJ x λq hq=>t q<|qo _ hq,e,n,f,o⟩
theorem Xa{b:Qg}{p:HO}(nd:(ps.map (·.1)).Nodup)(h:(b,p)∈ps):(ps.find? λq=>decide<|q.1=b)=some (b,p):=by
 induction ps with
 | nil=>cases h
 | cons q ps ih=>
  rw[List.map_cons,List.nodup_cons]at nd;rcases qv.mp h with rfl|h
  .rw[List.find?_cons_of_pos (by simp)]
  .rw[List.find?_cons_of_neg (by
    have:q.1≠b:=λe=>nd.1<|e▸List.mem_map.mpr ⟨(b,p),h,rfl⟩;simpa using this)]
   exact ih nd.2 h
theorem sS{b:Qg}{p:HO}(nd:(ps.map (·.1)).Nodup)(h:(b,p)∈ps)(n:b≠a):bO H a C dx vs ps b=some p:=by
 unfold bO;rw[zq n];unfold Ex;rw[Xa nd h];rfl
theorem rF:bO H a C dx vs ps a=some (.ins C dx vs):=zp
theorem o9{b:Qg}(h:b∉ps.map (·.1))(n:b≠a):bO H a C dx vs ps b=H b:=by
 unfold bO;rw[zq n];unfold Ex;rw[List.find?_eq_none.mpr λq hq=>by
  have:q.1≠b:=λe=>h<|e▸List.mem_map.mpr ⟨q,hq,rfl⟩;simpa using this]
 rfl
theorem vk{b:Qg}(h:b∈ps.map (·.1))(n:b≠a):hU H a C dx vs ps b=some (.own a):=by
 unfold hU;rw[zq n];unfold Ew;have(q,hq,e):=À.mp h;rw[if_pos<|List.any_eq_true.mpr ⟨q,hq,decide_eq_true e⟩]
theorem xG:hU H a C dx vs ps a=some (d4 C dx vs ps):=zp
theorem tF{b:Qg}(h:b∉ps.map (·.1))(n:b≠a):hU H a C dx vs ps b=H b:=by
 unfold hU;rw[zq n];unfold Ew;rw[if_neg λz=>?_];have(q,hq,e):=ê.mp z;exact h<|À.mpr ⟨q,hq,of_decide_eq_true e⟩
theorem zps(w:∀ q∈ps,H q.1=some (.own a))(b:Qg):b=a\/(∃ p,(b,p)∈ps)\/(b∉ps.map (·.1)/\b≠a):=by
 by_cases h1:b=a
 .exact .inl h1
 .by_cases h2:b∈ps.map (·.1)
  .obtain⟨⟨c,p⟩,hq,e⟩:=À.mp h2
   cases(show c=b from e);exact .inr<|.inl ⟨p,hq⟩
  .exact .inr (.inr ⟨h2,h1⟩)
theorem MD(n:ps≠[]):(∀ x,d4 C dx vs ps≠.own x)/\(∀ x,d4 C dx vs ps≠.tup x)/\(∀ o u,d4 C dx vs ps≠.aW o u)/\∀ x,d4 C dx vs ps≠.lH x:=by
 cases ps with
 | nil=>exact absurd rfl n
 | cons q r=>exact⟨(λx z=>by cases z),(λx z=>by cases z),(λx y z=>by cases z),(λx z=>by cases z)⟩
theorem U3(e:H a=some (d4 C dx vs ps))(n:ps≠[])(nd:(ps.map (·.1)).Nodup)(d:dx∉ps.map (·.1))(w:∀ q∈ps,H q.1=some (.own a)):Re K H (bO H a C dx vs ps):=by
 have(m1,m2,m3,m4):=MD (C:=C) (dx:=dx) (vs:=vs) n;have pa:∀ q∈ps,q.1≠a:=λq hq z=>by
  have:=w q hq;rw[z,e]at this;exact m1 _<|qx this
 have keep:∀ b o,H b=some o->(∀ x,o≠.own x)->b≠a->bO H a C dx vs ps b=some o:=λb o hb no nb=>by
  rw[o9 (λz=>?_) nb]
  .exact hb
  .have(q,hq,eq):=À.mp z
   have:=w q hq;rw[eq,hb]at this;exact no _<|qx this
 have ow:∀ b c,c≠a->H b=some (.own c)->bO H a C dx vs ps b=some (.own c):=λb c nc hb=>by
  rw[o9 (λz=>?_) λz=>?_]
  .exact hb
  .have(q,hq,eq):=À.mp z
   have:=w q hq;rw[eq,hb]at this;cases this;exact nc rfl
  .rw[z,e]at hb
   exact m1 _<|qx hb
 have tp:∀ b xs,H b=some (.tup xs)->bO H a C dx vs ps b=some (.tup xs):=λb xs hb=>keep b _ hb (λx z=>by cases z) λz=>by
  rw[z,e]at hb;exact m2 _<|qx hb
 refine⟨λP w' h ok b o hb=>?_,λb hb=>?_,tp,λb o u hb=>keep b _ hb (λx z=>by cases z) λz=>?_,λb rM hb=>keep b _ hb (λx z=>by cases z) λz=>?_⟩
 .have(x,t):=LK (ok a _ e)
  rcases zps w b with rfl|⟨p,hp⟩|⟨h1,h2⟩
  .rw[rF]at hb
   cases hb;obtain⟨x1,x2,x3,x4,mA,⟨od,es,ep,x5,x6⟩,x7⟩:=(show zI P w' K H h b (.ins C dx vs) from x);refine⟨?_,x2,x3,x4,mA,⟨od,es,ep,x5,x6⟩,x7⟩;rw[o9 d x3];exact x1
  .rw[sS nd hp<|pa _ hp]at hb
   cases hb;have(_,_,f,y):=t (b,o) hp;exact y.mF f (λ_ z=>z) tp
  .rw[o9 h1 h2]at hb
   exact(ok b o hb).cA (λ_ _ _ z=>z) (λc hc=>ow c b h2 hc) tp
 .rw[o9 (λz=>?_) λz=>?_]
  .exact hb
  .have(q,hq,eq):=À.mp z
   have:=w q hq;rw[eq,hb]at this;cases this
  .rw[z,e]at hb
   cases hb
 .rw[z,e]at hb
  exact m3 _ _<|qx hb
 .rw[z,e]at hb
  exact m4 _<|qx hb
theorem zmz{b:Qg}{p:HO}(x:zI P w K H h b p)(f:p.flat=true):∃ o,h.get? b=some o:=by
 cases p with
 | lst xs=>have(_,_,_,_,e):=x; exact⟨_,e⟩
 | dK kvs=>have(_,_,_,_,o,_,_,e,_):=x; exact⟨o,e⟩
 | dT kvs=>have(_,_,_,_,o,_,_,e,_):=x; exact⟨o,e⟩
 | dX kvs=>have(_,_,_,_,o,_,_,e,_):=x; exact⟨o,e⟩
 | _=>cases f
theorem BY(e:H a=some (.ins C dx vs))(pa:∀ q∈ps,q.1≠a)(w:∀ q∈ps,H q.1=some q.2/\q.2.flat=true):Re K H (hU H a C dx vs ps):=by
 have part:∀ b o,H b=some o->b∈ps.map (·.1)->o.flat=true:=λb o hb hm=>by
  have(q,hq,eq):=À.mp hm;have(h1,h2):=w q hq;rw[eq,hb]at h1;cases h1;exact h2
 have keep:∀ b o,H b=some o->o.flat=false->b≠a->hU H a C dx vs ps b=some o:=λb o hb no nb=>by
  rw[tF (λz=>?_) nb]
  .exact hb
  .rw[part b o hb z]at no
   cases no
 have ow:∀ b c,H b=some (.own c)->hU H a C dx vs ps b=some (.own c):=λb c hb=>keep b _ hb rfl λz=>by
  rw[z,e]at hb;cases hb
 have tp:∀ b xs,H b=some (.tup xs)->hU H a C dx vs ps b=some (.tup xs):=λb xs hb=>keep b _ hb rfl λz=>by
  rw[z,e]at hb;cases hb
 refine⟨λP w' h ok b o hb=>?_,λb hb=>?_,tp,λb o u hb=>keep b _ hb rfl λz=>?_,λb rM hb=>keep b _ hb rfl λz=>?_⟩
 .by_cases h1:b=a
  .subst h1
   rw[xG]at hb;cases hb;refine LJ ?_ λq hq=>?_
   .exact(ok b _ e).cA (λ_ _ _ z=>z) (λc hc=>ow c b hc) tp
   .have(h2,h3):=w q hq
    exact⟨vk (À.mpr ⟨q,hq,rfl⟩)<|pa q hq,pa q hq,h3,(ok _ _ h2).mF h3 (λ_ z=>z) tp⟩
  .by_cases h2:b∈ps.map (·.1)
   .rw[vk h2 h1]at hb
    cases hb;have(q,hq,eq):=À.mp h2;have(h3,h4):=w q hq;rw[<-eq];exact zmz (ok _ _ h3) h4
   .rw[tF h2 h1]at hb
    exact(ok b o hb).cA (λ_ _ _ z=>z) (λc hc=>ow c b hc) tp
 .rw[tF (λz=>?_) λz=>?_]
  .exact hb
  .have(q,hq,eq):=À.mp z
   have:=(w q hq).1;rw[eq,hb]at this;cases this
  .rw[z,e]at hb
   cases hb
 .rw[z,e]at hb
  cases hb
 .rw[z,e]at hb
  cases hb
end
def Rc(K:qc)(r:V->Qa V->Hp->VK->Prop):V->Qa V->Hp->VK->Prop:=λx xs H Q=>∃ H1,Re K H H1/\r x xs H1 λv H2=>∃ H3,Re K H2 H3/\Q v H3
theorem K5{X:Cx}{id:String}{r:V->Qa V->Hp->VK->Prop}(h:wy X id r):wy X id (Rc X.K r):=λpins s σ H x xs v us Q I rx rs q=>by
 have(H1,r1,q):=q;refine aw (h pins s σ H1 x xs v us _ (I.re r1) rx rs q) λu s1 z=>?_;have(y,H2,I2,ry,H3,r3,z):=z;exact⟨y,H3,I2.re r3,ry,z⟩
def Rv(K:qc)(T:String)(r:V->Qa V->Hp->VK->Prop)(to:TE)(t:TA):TE:=λσ H Q=>to σ H λx H1=>(∃ Ki,Re K H1 Ki/\Io K T x Ki)/\t σ H1 λxs H2=>r x xs H2 Q
section
variable{X:Cx}{es:Qa Expr}{to:TE}{t:TA}{name:Str}{id:String}{r:V->Qa V->Hp->VK->Prop}
theorem K4(pa:PlainAttrs T)(slot:Slot T name id)(yD:typeOf (.builtin id)=pure (.type "method_descriptor"))(hm:wy X id r)(ho:Wr (PE X o to))(ha:Wr (PA X (e::es) t))
  (cW:attributeBase o name X.env (eval o X.env)=eval o X.env:=by rfl)
  (m5:((backTo aM<|starEach (e::es) X.env).all (λx=>!x.1) && (backToKw aM<|keywordEach [] X.env).all (λx=>x.1.isSome)
   && decide ((e::es).length+([]:Qa Keyword).length+(if([]:Qa Keyword).isEmpty then 0 else 1) < 30))=true:=by rfl)
  (cS:(apos.endLine==aM.line)=true:=by rfl) (hs:zR e=true:=by rfl) (cL:es.all zR=true:=by rfl):
  Wr (PE X (.Call (.Attribute o name apos) (e::es) [] aM)<|Rv X.K T r to t):=by
 refine⟨?_⟩;intro pins s σ H Q I h;refine wpAny_Call_method_late cW m5 cS rfl<|aw (ho.run pins s σ H _ I h) λv s1 hZ=>?_;obtain⟨x,H1,I1,r1,⟨Ki,re,ty⟩,q1⟩:=hZ;have(h1,h2):=Mb (I1.re re) r1 ty;refine⟨T,id,pa,slot,yD,h1,h2,?_⟩;have hA:=ha.run aM pins s1 σ H1 _ I1 q1;have lM:=kr (env:=X.env) (es:=es) hs;have pS:=oZ (env:=X.env) (pos:=aM) cL;rw[lM]at hA ⊢;refine Ü (by show(false || (backTo aM<|starEach es X.env).any (·.1))=false; rw[pS]<;>rfl)<|ó ?_;exact aw hA λus s2 ⟨vs,H2,I2,r2,q2⟩=>hm pins s2 σ H2 x vs v us Q I2 r1 r2 q2
end
def qV(K:qc)(ta:TE)(f:Str):TE:=Iv K (Kt K ta f)
noncomputable def jM:Qa (Str×PU)->Str->PU->Qa (Str×PU)
 | [],_,_=>[]
 | (n,x)::r,f,y=>if n=f then(n,y)::r else(n,x)::jM r f y
noncomputable def aP(ps:Qa (Qg×HO))(b:Qg)(p:HO):Qa (Qg×HO):=ps.map λq=>if q.1=b then(b,p)else q
section
variable{C b:Qg}{vs:Qa (Str×V)}{ps:Qa (Qg×HO)}{fs:Qa (Str×PU)}{p:HO}
theorem pd:(aP ps b p).map (·.1)=ps.map (·.1):=by
 unfold aP;rw[List.map_map];refine É λq _=>?_;show(if q.1=b then(b,p)else q).1=q.1;split
 .rename_i e; exact e.symm
 .rfl
theorem W9(h:b∉ps.map (·.1)):aP ps b p=ps:=by
 unfold aP
 conv=>rhs; rw[<-List.map_id ps]
 refine É λq hq=>?_;rw[if_neg (show ¬q.1=b from λe=>h<|e▸List.mem_map.mpr ⟨q,hq,rfl⟩)];rfl
theorem OE{q:Qg×HO}(e:q.1=b)(h:b∉ps.map (·.1)):aP (q::ps) b p=(b,p)::ps:=by
 have:=W9 (p:=p) h;unfold aP at this ⊢;rw[List.map_cons,if_pos e,this]
theorem CM{q:Qg×HO}(e:q.1≠b):aP (q::ps) b p=q::aP ps b p:=by
 unfold aP;rw[List.map_cons,if_neg e]
theorem FO.list{xs:Qa D}(h:FO K H vs ps fs)(e:fs.lookup f=some (.l xs)):∃ b us,vs.lookup f=some (.ref b)/\(b,HO.lst us)∈ps/\aI K H us xs:=by
 induction h with
 | nil=>cases e
 | @d n v x vs ps fs h t ih=>
  rw[List.lookup_cons]at e ⊢;split at e
  .cases e
  .rename_i q
   try rw[q]
   exact ih e
 | @l n b us gv vs ps fs h t ih=>
  rw[List.lookup_cons]at e ⊢;split at e
  .rename_i q
   try rw[q]
   cases e;exact⟨b,us,rfl,qp,h⟩
  .rename_i q
   try rw[q]
   have(c,fP,h1,h2,h3):=ih e;exact⟨c,fP,h1,qo _ h2,h3⟩
 | @t n b us gv vs ps fs h t ih=>
  rw[List.lookup_cons]at e ⊢;split at e
  .cases e
  .rename_i q
   try rw[q]
   have(c,fP,h1,h2,h3):=ih e;exact⟨c,fP,h1,qo _ h2,h3⟩
 | @x n b us gv vs ps fs h t ih=>
  rw[List.lookup_cons]at e ⊢;split at e
  .cases e
  .rename_i q
   try rw[q]
   have(c,fP,h1,h2,h3):=ih e;exact⟨c,fP,h1,qo _ h2,h3⟩
theorem FO.putL{ys:Qa D}{us:Qa V}(h:FO K H vs ps fs)(nd:(ps.map (·.1)).Nodup)(e:vs.lookup f=some (.ref b))(hb:b∈ps.map (·.1))(xs:Qa D)(ef:fs.lookup f=some (.l xs))(hy:aI K H us ys):FO K H vs (aP ps b<|.lst us) (jM fs f<|.l ys):=by
 induction h with
 | nil=>cases ef
 | @d n v x vs ps fs h t ih=>
  rw[List.lookup_cons]at e ef;unfold jM;split at ef
  .cases ef
  .rename_i q
   try rw[q]at e
   replace e:List.lookup f vs=some (V.ref b):=e;rw[if_neg (λz=>by rw[z]at q; simp at q)];exact .d h<|ih nd e hb ef
 | @l n c fP gv vs ps fs h t ih=>
  rw[List.map_cons,List.nodup_cons]at nd;rw[List.lookup_cons]at e ef;unfold jM;split at ef
  .rename_i q
   try rw[q]at e
   cases e;rw[if_pos (eq_of_beq q).symm,OE rfl nd.1];exact .l hy t
  .rename_i q
   try rw[q]at e
   replace e:List.lookup f vs=some (V.ref b):=e;rw[if_neg (λz=>by rw[z]at q; simp at q)];have eJ:b∈ps.map (·.1):=by
    have(b',ph,h1,h2,_):=t.list ef;rw[e]at h1;cases h1;exact À.mpr ⟨_,h2,rfl⟩
   rw[CM (q:=(c,HO.lst fP)) (by intro z; have z:c=b:=z; exact nd.1 (by show c∈_; rw[z]; exact eJ))];exact .l h<|ih nd.2 e eJ ef
 | @t n c fP gv vs ps fs h t ih=>
  rw[List.map_cons,List.nodup_cons]at nd;rw[List.lookup_cons]at e ef;unfold jM;split at ef
  .cases ef
  .rename_i q
   try rw[q]at e
   replace e:List.lookup f vs=some (V.ref b):=e;rw[if_neg (λz=>by rw[z]at q; simp at q)];have eJ:b∈ps.map (·.1):=by
    have(b',ph,h1,h2,_):=t.list ef;rw[e]at h1;cases h1;exact À.mpr ⟨_,h2,rfl⟩
   rw[CM (q:=(c,HO.dT fP)) (by intro z; have z:c=b:=z; exact nd.1 (by show c∈_; rw[z]; exact eJ))];exact .t h<|ih nd.2 e eJ ef
 | @x n c fP gv vs ps fs h t ih=>
  rw[List.map_cons,List.nodup_cons]at nd;rw[List.lookup_cons]at e ef;unfold jM;split at ef
  .cases ef
  .rename_i q
   try rw[q]at e
   replace e:List.lookup f vs=some (V.ref b):=e;rw[if_neg (λz=>by rw[z]at q; simp at q)];have eJ:b∈ps.map (·.1):=by
    have(b',ph,h1,h2,_):=t.list ef;rw[e]at h1;cases h1;exact À.mpr ⟨_,h2,rfl⟩
   rw[CM (q:=(c,HO.dX fP)) (by intro z; have z:c=b:=z; exact nd.1 (by show c∈_; rw[z]; exact eJ))];exact .x h<|ih nd.2 e eJ ef
theorem W8(n:∀ q∈ps,q.1≠a)(w:∀ q∈ps,H q.1=some (.own a))(hb:b∈ps.map (·.1)):hU (upd (bO H a C dx vs ps) b p) a C dx vs (aP ps b p)=upd H a (d4 C dx vs<|aP ps b p):=by
 funext c
 by_cases h1:c=a
 .subst h1
  rw[xG,zp]
 .rw[zq h1]
  by_cases h2:c∈ps.map (·.1)
  .rw[vk (by rw[pd]; exact h2) h1]
   have(q,hq,e):=À.mp h2;rw[<-e,w q hq]
  .rw[tF (by rw[pd]; exact h2) h1,zq (show c≠b from λz=>h2 (by rw[z]; exact hb)),o9 h2 h1]
theorem Y1(e:H a=some (d4 C dx vs ps))(w:∀ q∈ps,H q.1=some (.own a)):hU (bO H a C dx vs ps) a C dx vs ps=H:=by
 funext c
 by_cases h1:c=a
 .subst h1
  rw[xG,e]
 .by_cases h2:c∈ps.map (·.1)
  .rw[vk h2 h1]
   have(q,hq,e):=À.mp h2;rw[<-e,w q hq]
  .rw[tF h2 h1,o9 h2 h1]
end
section
variable{C b:Qg}{vs:Qa (Str×V)}{ps:Qa (Qg×HO)}{fs:Qa (Str×PU)}{p:HO}
def VQ(K:qc)(t:TE)(m:ME):Prop :=
 ∀ (ρ:En) (σ:St) (H:Hp) (a:Ar) (ah:En) (Q:VK),Rs K ρ σ H->m ρ=some (a,ah)->ah=ρ/\((∀ v,lX K ρ σ H H v a->Q v H)->t σ H Q)
theorem Gg:VQ K (dW i) (zj i):=by
 intro ρ σ H a ah Q r e;unfold zj at e;split at e
 .rename_i u eu
  cases e;refine⟨rfl,λq=>?_⟩;have(v,ev,p):=r.rep i u eu;exact⟨v,ev,q v ⟨ev,u,eu⟩⟩
 .cases e
theorem zBK{c:V}{x:D}(h:∀ H,DF K H c x):VQ K (tC c) (mC x):=by
 intro ρ σ H a ah Q r e;cases e;exact⟨rfl,λq=>q _ ⟨h H,Nw.data⟩⟩
theorem FO.flat(h:FO K H vs ps fs):∀ q∈ps,q.2.flat=true:=by
 induction h with
 | nil=>exact λq hq=>by cases hq
 | d _ _ ih=>exact ih
 | l _ _ ih=>
  intro q hq;rcases qv.mp hq with rfl|hq
  .rfl
  .exact ih q hq
 | t _ _ ih=>
  intro q hq;rcases qv.mp hq with rfl|hq
  .rfl
  .exact ih q hq
 | x _ _ ih=>
  intro q hq;rcases qv.mp hq with rfl|hq
  .rfl
  .exact ih q hq
structure Op (K:qc) (H:Hp) (a C dx:Qg) (vs:Qa (Str×V)) (ps:Qa (Qg×HO)):Prop where
 at_:H a=some (d4 C dx vs ps)
 ne:ps≠[]
 nd:(ps.map (·.1)).Nodup
 uD:dx∉ps.map (·.1)
 own:∀ q∈ps,H q.1=some (.own a)
 flat:∀ q∈ps,q.2.flat=true
theorem Op.pa(o:Op K H a C dx vs ps):∀ q∈ps,q.1≠a:=λq hq z=>by
 have:=o.own q hq;rw[z,o.at_]at this;exact(MD (C:=C) (dx:=dx) (vs:=vs) o.ne).1 _<|qx this
theorem Op.bO(o:Op K H a C dx vs ps):Re K H (bO H a C dx vs ps):=U3 o.at_ o.ne o.nd o.uD o.own
theorem Op.hU(o:Op K H a C dx vs ps):Re K (L2.bO H a C dx vs ps) H:=by
 have:=BY (K:=K) (H:=L2.bO H a C dx vs ps) (a:=a) (C:=C) (dx:=dx) (vs:=vs) (ps:=ps) rF o.pa λq hq=>⟨sS o.nd hq<|o.pa q hq,o.flat q hq⟩;rw[Y1 o.at_ o.own]at this;exact this
theorem Op.put(o:Op K H a C dx vs ps){p0:HO}(hb:(b,p0)∈ps)(f:p.flat=true):Re K (upd (L2.bO H a C dx vs ps) b p) (upd H a<|d4 C dx vs<|aP ps b p):=by
 have ba:=o.pa _ hb;have hm:b∈ps.map (·.1):=À.mpr ⟨_,hb,rfl⟩;have:=BY (K:=K) (H:=upd (L2.bO H a C dx vs ps) b p) (a:=a) (C:=C) (dx:=dx) (vs:=vs) (ps:=aP ps b p) (by rw[zq<|Ne.symm ba]; exact rF) (λq hq=>?_) λq hq=>?_
 .rw[W8 o.pa o.own hm]at this
  exact this
 .have hk:q.1∈ps.map (·.1):=by rw[<-pd (b:=b) (p:=p)]; exact À.mpr ⟨q,hq,rfl⟩
  have(z,hz,ez):=À.mp hk;rw[<-ez];exact o.pa z hz
 .have(z,hz,rfl):=À.mp hq
  by_cases c:z.1=b
  .rw[if_pos c]
   exact⟨zp,f⟩
  .rw[if_neg c,zq c]
   exact⟨sS o.nd hz<|o.pa z hz,o.flat z hz⟩
end
noncomputable def U.fl(c f:Str):U->Qb (Qa D)
 | .o c' fs=>if c'=c then(match fs.lookup f with|some (.l xs)=>some xs|_=>none)else none
 | _=>none
noncomputable def U.aP(f:Str)(y:PU):U->U
 | .o c fs=>.o c<|jM fs f y
 | u=>u
theorem U2{w:U}{xs:Qa D}(h:w.fl c f=some xs):∃ fs,w=.o c fs/\fs.lookup f=some (.l xs):=by
 unfold U.fl at h;split at h
 .rename_i c' fs
  split at h
  .rename_i e
   subst e;split at h
   .rename_i ys hy
    cases h;exact⟨fs,rfl,hy⟩
   .cases h
  .cases h
 .cases h
noncomputable def Bn(c:Str)(i:Nat)(f:Str)(me:ME):ME:=λρ=>(ρ[i]?).join.bind λw=>(w.fl c f).bind λxs=>(me ρ).bind λp=>(p.1.get p.2).bind λu=>u.da.bind λx=>if xs.length < sizeLine then some (.u<|.d .none,p.2.set i<|some<|w.aP f<|.l<|xs++[x])else none
section
theorem LI{me:ME}(hc:∀ C,XN K c C->fG K C/\gu K C f)(hq:VQ K te me):VE K (Rv K "list" (Rc K GC) (qV K (dW i) f)<|jO te ip) (Bn c i f me):=by
 intro ρ σ H a ah Q r e q;have(w,e0,e):=zb e;have(xs,ex,e):=zb e;obtain⟨⟨a1,ρ1⟩,e1,e⟩:=zb e;have(u,eu,e):=zb e;have(x,ed,e):=zb e;cases mf ed;dsimp only at e;split at e
 .rename_i hz
  cases e;have(fs,rfl,hf):=U2 ex;have ei:=ir e0;have(v0,bZ,R):=r.rep i _ ei;have(l,C,dx,vs,ps,rfl,hl,ne,xn,nd,fo,wo,own):=R;have(b,us,h1,h2,h3):=fo.list hf;have o:Op K H l C dx vs ps:=⟨hl,ne,nd,wo,own,fo.flat⟩;have ba:=o.pa _ h2;have Ag:bO H l C dx vs ps b=some (.lst us):=sS nd h2 ba;have(cl,na):=hc C xn;refine⟨_,o.bO,_,bZ,l,C,dx,vs,_,rfl,rF,cl,na,h1,H,o.hU,⟨_,o.bO,.inl ⟨rfl,us,aO.of Ag⟩⟩,?_⟩;have(rfl,run):=hq ρ σ H a1 ρ1 _ r e1;refine run λv k1=>?_;have pv:DF K H v x:=k1.now r (Go.refl r) eu;refine⟨_,o.bO,b,us,v,rfl,rfl,Ag,by rw[h3.len]; exact hz,_,o.put (p:=.lst (us++[v])) h2 rfl,?_⟩;have kp:=iz hl (Mo.d4 ne) (d4 C dx vs<|aP ps b<|.lst<|us++[v]);have hbm:b∈ps.map (·.1):=À.mpr ⟨_,h2,rfl⟩;refine q _ _ (Go.own (u':=.o c (jM fs f<|.l<|xs++[x])) r ei rfl bZ ⟨l,C,dx,vs,aP ps b<|.lst<|us++[v],rfl,zp,?_,xn,by rw[pd]; exact nd,(fo.kp kp).putL nd h1 hbm xs hf<|(h3.kp kp).snoc<|DF.kp kp pv,by rw[pd]; exact wo,λz hz=>?_⟩) ⟨.aF,Nw.data⟩
  .intro z
   have:=congrArg List.length z;unfold aP at this;rw[List.length_map]at this;exact ne<|î.mp this
  .have hk:z.1∈ps.map (·.1):=by rw[<-pd (b:=b) (p:=.lst (us++[v]))]; exact À.mpr ⟨z,hz,rfl⟩
   have(y,hy,ey):=À.mp hk;rw[<-ey,zq<|o.pa y hy];exact own y hy
 .cases e
end
def Ke(K:qc)(H:Hp)(a:Qg)(y:V)(o:Qb V)(Q:Hp->Prop):Prop:=∃ H' sI,Re K H H'/\Eg K H' a y o/\Re K H' sI/\Q sI
noncomputable def K0(K:qc)(td ty:TE):TE:=λσ H Q=>td σ H λx H1=>ty σ H1 λy H2=>∃ a v,x=.ref a/\Ke K H2 a y (some v) (Q v)
noncomputable def GF(K:qc)(ty td:TE):TE:=λσ H Q=>ty σ H λy H1=>td σ H1 λx H2=>∃ a o,x=.ref a/\Ke K H2 a y o (Q<|.bl (!o.isSome))
noncomputable def KZ(K:qc)(td ty tv:TE):TS:=λD σ H=>tv σ H λv H1=>td σ H1 λx H2=>ty σ H2 λy H3=>∃ a Kh H4 H5,x=.ref a/\Re K H3 Kh/\Tx K Kh a y v H4/\Re K H4 H5/\D.nx σ H5
section
variable{X:Cx}{i:Expr}{k:Nat}
theorem Jy(hr:aA k X.A):X.A.units+5 < cLine:=by have:=hr.un; omega
theorem Y0{o:Qb V}(I:Inv X pins σ H s)(g:Eg X.K H a y o):s.TypeIs (.ref a) "dict":=by
 have(kvs,k,b,e,_):=g;have(_,_,xs,_,dd):=Bo I.aU I.aq e;exact dd.typeIs
theorem U1(hr:aA k X.A)(ho:Wr (PE X o td))(hi:Wr (PE X i ty))(hs:AW i:=by intro _ _; rfl):Wr (PE X (.Subscript o i pos)<|K0 X.K td ty):=by
 refine⟨?_⟩;intro pins s σ H Q I h;refine Nm PySem.F.slot_dict_getitem.lookup hs<|aw (ho.run pins s σ H _ I h) λu s1 hY=>?_;have(x,H1,I1,rx,q1):=hY;refine aw (hi.run pins s1 σ H1 _ I1 q1) λiv s2 hZ=>?_;have(y,H2,I2,ry,a,v,ex,H2',H3,re,g,IT,q2):=hZ;subst ex;obtain rfl:u=Value.ref a:=rx;exact⟨Y0 (I2.re re) g,zpq (Jy hr) (I2.re re) g ry λw' s3 I3 gc=>⟨v,H3,I3.re IT,gc,q2⟩⟩
theorem zpt(hr:aA k X.A)(hi:PE X i ty)(ho:PE X o td):PC X .NotIn i o (GF X.K ty td):=by
 intro pins s σ H Q I h;refine aw (hi pins s σ H _ I h) λiv s1 hY=>?_;have(y,H1,I1,ry,q1):=hY;refine aw (ho pins s1 σ H1 _ I1 q1) λu s2 hZ=>?_;have(x,H2,I2,rx,a,ov,ex,H2',H3,re,g,IT,q2):=hZ;subst ex;obtain rfl:u=Value.ref a:=rx;exact Xb (Jy hr) (I2.re re) g ry λs3 I3=>⟨.bl (!ov.isSome),H3,I3.re IT,rfl,q2⟩
theorem zpu(hr:aA k X.A)(hi:Wr (PE X i ty))(ho:Wr (PE X o td))(h1:behindInMarks .NotIn o=false:=by rfl):Wr (PT X (.Compare i [.NotIn] [o] pos)<|tB<|GF X.K ty td):=⟨Mu (zpt hr hi.run ho.run) h1⟩
theorem U0(hr:aA k X.A)(ho:Wr (PE X o td))(hi:Wr (PE X i ty))(hv:Wr (PE X value tv))(hs:swapsWith value (some<|.Subscript o i pos') pos.line X.env=pure false:=by rfl):
  Wr (PS X (.Assign [.Subscript o i pos'] value pos)<|KZ X.K td ty tv):=by
 refine⟨?_⟩;intro pins s σ H D I h;refine wpAny_Assign_Subscript (aw (hv.run pins s σ H _ I h) λr s1 hV=>?_) hs;have(v,H1,I1,rv,q1):=hV;refine aw (ho.run pins s1 σ H1 _ I1 q1) λu s2 hY=>?_;have(x,H2,I2,rx,q2):=hY;refine aw (hi.run pins s2 σ H2 _ I2 q2) λiv s3 hZ=>?_;have(y,H3,I3,ry,a,Kh,H4,H5,ex,re,g,re5,q3):=hZ;subst ex;obtain rfl:u=Value.ref a:=rx;exact zpr (Jy hr) (I3.re re) g ry rv λs4 I4=>⟨σ,H5,I4.re re5,q3⟩
end
noncomputable def R0(f:D->Qb (Qa J))(d:D):Qb (Key ⊕ Qa J):=match qO d with
 | some k=>some<|.inl k
 | none=>(f d).map .inr
noncomputable def mR(f:D->Qb (Qa J)):D->Qb (Qa<|Key ⊕ Qa J)
 | .tuple ds=>ds.mapM<|R0 f
 | _=>none
noncomputable def DE:D->Qb (Qa K3):=mR (mR<|mR cn)
section
theorem Fh{f:D->Qb (Qa J)}{R:Qa J->Qg->Prop}(hf:∀ v d ks,DF K H v d->f d=some ks->∃ b,v=.ref b/\R ks b){v:V}{d:D}{xs:Qa (Key ⊕ Qa J)}(h:DF K H v d)(e:mR f d=some xs):∃ b,v=.ref b/\jF K H R xs b:=by
 unfold mR at e;split at e
 .rename_i ds
  have(b,us,rfl,h1,h2):=DF.aD h;refine⟨b,rfl,us,h1,?_⟩;clear h h1
  induction ds generalizing us xs with
  | nil=>cases h2; rw[List.mapM_nil]at e; cases e; exact .nil
  | cons d ds ih=>
   cases h2;rename_i w vs hd t;rw[List.mapM_cons]at e;have(x,ex,e):=zb e;have(ys,ey,e):=zb e;cases e;refine .cons ?_<|ih ey _ t;unfold R0 at ex;split at ex
   .rename_i k hk
    cases ex;exact F9 hd hk
   .have(ks,ek,e2):=qr.mp ex
    cases e2;exact hf _ _ _ hd ek
 .cases e
theorem zA1{v:V}{d:D}{xs:Qa K3}(h:DF K H v d)(e:DE d=some xs):∃ b,v=.ref b/\N3 K H xs b :=
 Fh (λ_ _ _ h e=>Fh (λ_ _ _ h e=>Fh (λ_ _ _ h e=>tj h e) h e) h e) h e
end
noncomputable def PP(K:qc)(H:Hp):HO->PU->Prop
 | .lst us,.l xs=>aI K H us xs
 | .dT us,.t xs=>b7 K H us xs
 | .dX us,.x xs=>b7 K H us xs
 | _,_=>False
noncomputable def PU.part:PU->Bool
 | .d _=>false
 | _=>true
noncomputable def U.fp(c f:Str):U->Qb PU
 | .o c' fs=>if c'=c then fs.lookup f else none
 | _=>none
section
variable{C b:Qg}{vs:Qa (Str×V)}{ps:Qa (Qg×HO)}{fs:Qa (Str×PU)}{p:HO}{u:PU}{ρ:En}{w:U}
theorem PP.flat(h:PP K H p u):p.flat=true:=by
 unfold PP at h;split at h
 .rfl
 .rfl
 .rfl
 .cases h
theorem FO.ind{M:Qa (Str×V)->Qa (Qg×HO)->Qa (Str×PU)->Prop}(h:FO K H vs ps fs)(h0:M [] [] [])(hd:∀ n v x vs ps fs,DF K H v x->FO K H vs ps fs->M vs ps fs->M ((n,v)::vs) ps ((n,.d x)::fs))(hp:∀ n b p u vs ps fs,PP K H p u->FO K H vs ps fs->M vs ps fs->M ((n,.ref b)::vs) ((b,p)::ps) ((n,u)::fs)):M vs ps fs:=by
 induction h with
 | nil=>exact h0
 | d h t ih=>exact hd _ _ _ _ _ _ h t ih
 | l h t ih=>exact hp _ _ (.lst _) (.l _) _ _ _ h t ih
 | t h t ih=>exact hp _ _ (.dT _) (.t _) _ _ _ h t ih
 | x h t ih=>exact hp _ _ (.dX _) (.x _) _ _ _ h t ih
theorem FO.pp{n:Str}(h:PP K H p u)(t:FO K H vs ps fs):FO K H ((n,.ref b)::vs) ((b,p)::ps) ((n,u)::fs):=by
 unfold PP at h;split at h
 .exact .l h t
 .exact .t h t
 .exact .x h t
 .cases h
theorem FO.part(h:FO K H vs ps fs):fs.lookup f=some u->u.part=true->∃ b p,vs.lookup f=some (.ref b)/\(b,p)∈ps/\PP K H p u:=by
 refine FO.ind (M:=λvs ps fs=>fs.lookup f=some u->u.part=true->∃ b p,vs.lookup f=some (.ref b)/\(b,p)∈ps/\PP K H p u) h (λe=>nomatch e) (λn v x vs ps fs _ _ ih e o=>?_) λn b p u' vs ps fs hp _ ih e o=>?_
 .rw[List.lookup_cons]at e ⊢
  split at e
  .cases e; cases o
  .rename_i q
   try rw[q]
   exact ih e o
 .rw[List.lookup_cons]at e ⊢
  split at e
  .rename_i q
   try rw[q]
   cases e;exact⟨b,p,rfl,qp,hp⟩
  .rename_i q
   try rw[q]
   have(b,p,h1,h2,h3):=ih e o;exact⟨b,p,h1,qo _ h2,h3⟩
theorem FO.put{u':PU}{p':HO}(h:FO K H vs ps fs)(hy:PP K H p' u'):(ps.map (·.1)).Nodup->vs.lookup f=some (.ref b)->fs.lookup f=some u->u.part=true->FO K H vs (aP ps b p') (jM fs f u'):=by
 refine FO.ind (M:=λvs ps fs=>(ps.map (·.1)).Nodup->vs.lookup f=some (.ref b)->fs.lookup f=some u->u.part=true->FO K H vs (aP ps b p') (jM fs f u')) h (λ_ e=>nomatch e) (λn v x vs ps fs hx t ih nd e ef o=>?_) λn c p u0 vs ps fs hp t ih nd e ef o=>?_
 .rw[List.lookup_cons]at e ef
  unfold jM;split at ef
  .cases ef; cases o
  .rename_i q
   try rw[q]at e
   rw[if_neg (λz=>by rw[z]at q; simp at q)];exact .d hx<|ih nd e ef o
 .rw[List.map_cons,List.nodup_cons]at nd
  rw[List.lookup_cons]at e ef;unfold jM;split at ef
  .rename_i q
   try rw[q]at e
   cases e;rw[if_pos (eq_of_beq q).symm,OE rfl nd.1];exact .pp hy t
  .rename_i q
   try rw[q]at e
   replace e:List.lookup f vs=some (V.ref b):=e;rw[if_neg (λz=>by rw[z]at q; simp at q)];have eJ:b∈ps.map (·.1):=by
    have(b',ph,h1,h2,_):=t.part ef o;rw[e]at h1;cases h1;exact À.mpr ⟨_,h2,rfl⟩
   rw[CM (q:=(c,p)) (by intro z; have z:c=b:=z; exact nd.1 (by show c∈_; rw[z]; exact eJ))];exact .pp hp<|ih nd.2 e ef o
theorem Vo(h:w.fp c f=some u):∃ fs,w=.o c fs/\fs.lookup f=some u:=by
 unfold U.fp at h;split at h
 .rename_i c' fs
  split at h
  .rename_i e
   subst e;exact⟨fs,rfl,h⟩
  .cases h
 .cases h
structure Pt (K:qc) (σ:St) (H:Hp) (c:Str) (i:Nat) (f:Str) (u:PU) (fs:Qa (Str×PU)) (a C dx:Qg) (vs:Qa (Str×V)) (ps:Qa (Qg×HO)) (b:Qg) (p:HO):Prop where
 st:σ[i]?=some (some<|.ref a)
 op:Op K H a C dx vs ps
 xn:XN K c C
 vl:vs.lookup f=some (.ref b)
 mem:(b,p)∈ps
 pp:PP K H p u
 fo:FO K H vs ps fs
 fl:fs.lookup f=some u
theorem KY(r:Rs K ρ σ H)(e:(ρ[i]?).join=some w)(ef:w.fp c f=some u)(o:u.part=true):∃ fs a C dx vs ps b p,w=.o c fs/\Pt K σ H c i f u fs a C dx vs ps b p:=by
 have(fs,rfl,hf):=Vo ef;have(v0,bZ,R):=r.rep i _ (ir e);have(l,C,dx,vs,ps,rfl,hl,ne,xn,nd,fo,wo,own):=R;have(b,p,h1,h2,h3):=fo.part hf o;exact⟨fs,l,C,dx,vs,ps,b,p,rfl,bZ,⟨hl,ne,nd,wo,own,fo.flat⟩,xn,h1,h2,h3,fo,hf⟩
theorem Pt.at(t:Pt K σ H c i f u fs a C dx vs ps b p):bO H a C dx vs ps b=some p:=sS t.op.nd t.mem (t.op.pa _ t.mem)
theorem Pt.fld{Q:VK}(t:Pt K σ H c i f u fs a C dx vs ps b p)(hc:∀ C,XN K c C->fG K C/\gu K C f)(q:Q (.ref b) H):qV K (dW i) f σ H Q :=
 ⟨_,t.op.bO,_,t.st,a,C,dx,vs,_,rfl,rF,(hc C t.xn).1,(hc C t.xn).2,t.vl,H,t.op.hU,q⟩
theorem Pt.put{u':PU}{p':HO}(t:Pt K σ H c i f u fs a C dx vs ps b p)(r:Rs K ρ σ H)(ei:ρ[i]?=some (some<|.o c fs))(o:u.part=true)(h:∀ H',Kp H H'->PP K H' p' u'):Re K (upd (bO H a C dx vs ps) b p') (upd H a<|d4 C dx vs<|aP ps b p')/\Go K ρ σ H (ρ.set i<|some<|.o c<|jM fs f u') (upd H a<|d4 C dx vs<|aP ps b p'):=by
 have kp:=iz t.op.at_ (Mo.d4 t.op.ne) (d4 C dx vs<|aP ps b p');refine⟨t.op.put t.mem (h H<|Kp.refl H).flat,Go.own (u':=.o c (jM fs f u')) r ei rfl t.st ⟨a,C,dx,vs,aP ps b p',rfl,zp,λz=>?_,t.xn,by rw[pd]; exact t.op.nd,(t.fo.kp kp).put (h _ kp) t.op.nd t.vl t.fl o,by rw[pd]; exact t.op.uD,λz hz=>?_⟩⟩
 .have:=congrArg List.length z
  unfold aP at this;rw[List.length_map]at this;exact t.op.ne<|î.mp this
 .have hk:z.1∈ps.map (·.1):=by rw[<-pd (b:=b) (p:=p')]; exact À.mpr ⟨z,hz,rfl⟩
  have(y,hy,ey):=À.mp hk;rw[<-ey,zq<|t.op.pa y hy];exact t.op.own y hy
end
noncomputable def PU.xs:PU->Qb (Qa<|Qa K3×D)
 | .x kvs=>some kvs
 | _=>none
theorem Vn{u:PU}{kvs:Qa (Qa K3×D)}(h:u.xs=some kvs):u=.x kvs:=by
 cases u<;>cases h;rfl
noncomputable def fX(c:Str)(i:Nat)(f:Str)(ρ:En):Qb (Qa<|Qa K3×D):=(ρ[i]?).join.bind λw=>(w.fp c f).bind (·.xs)
noncomputable def oF(p:Ar×En):Qb (Qa K3):=(p.1.get p.2).bind λu=>u.da.bind DE
noncomputable def Fg(c:Str)(i:Nat)(f:Str)(mk:ME):ME:=λρ=>(fX c i f ρ).bind λkvs=>(mk ρ).bind λp=>(oF p).bind λk=>(gg kvs k).bind λy=>some (.u<|.d y,p.2)
noncomputable def EF(neg:Bool)(mk:ME)(c:Str)(i:Nat)(f:Str):ME:=λρ=>(mk ρ).bind λp=>(fX c i f p.2).bind λkvs=>(oF p).bind λk=>some (.u<|.d<|.bool (if neg=true then !(gg kvs k).isSome else(gg kvs k).isSome),p.2)
noncomputable def Ff(c:Str)(i:Nat)(f:Str)(mk mv:ME):MS:=λρ=>(mv ρ).bind λp=>(fX c i f p.2).bind λkvs=>(mk p.2).bind λq=>(oF q).bind λk=>(p.1.get q.2).bind λx=>x.da.bind λx=>(q.2[i]?).join.bind λw=>if kvs.length < sizeLine then some (.nx<|q.2.set i<|some<|w.aP f<|.x<|dN kvs k x)else none
section
variable{ρ:En}{C b:Qg}{vs:Qa (Str×V)}{ps:Qa (Qg×HO)}{fs:Qa (Str×PU)}{p:HO}{mk mv:ME}{EX:gW}
theorem Fe{kvs:Qa (Qa K3×D)}(r:Rs K ρ σ H)(e:fX c i f ρ=some kvs):∃ fs a C dx vs ps b us,ρ[i]?=some (some<|.o c fs)/\Pt K σ H c i f (.x kvs) fs a C dx vs ps b (.dX us)/\b7 K H us kvs:=by
 unfold fX at e;have(w,e0,e):=zb e;have(u,eu,e):=zb e;cases Vn e;have(fs,a,C,dx,vs,ps,b,p,rfl,t):=KY r e0 eu rfl;have h:=t.pp;unfold PP at h;split at h
 .rename_i h'; cases h'
 .rename_i h'; cases h'
 .rename_i us xs h'
  cases h';exact⟨fs,a,C,dx,vs,ps,b,us,ir e0,t,h⟩
 .cases h
theorem GD{a:Ar}{v:V}{k:Qa K3}(h:∀ u,a.get ρ=some u->Rp K H v u)(e:oF (a,ρ)=some k):∃ b,v=.ref b/\N3 K H k b:=by
 unfold oF at e;have(u,eu,e):=zb e;have(d,ed,e):=zb e;cases mf ed;exact zA1 (h _ eu) e
theorem Pt.SO{u:PU}{us:Qa (Qa K3×V)}{k:Qa K3}{kb:Qg}{Q:Hp->Prop}(t:Pt K σ H c i f u fs a C dx vs ps b (.dX us))(hk:N3 K H k kb)(q:Q H):Ke K H b (.ref kb) (dq us k) Q :=
 ⟨_,H,t.op.bO,⟨us,k,kb,t.at,rfl,hk.keeps t.op.bO.tup,rfl⟩,t.op.hU,q⟩
theorem Vm(hc:∀ C,XN K c C->fG K C/\gu K C f)(hq:VQ K tk mk):VE K (K0 K (qV K (dW i) f) tk) (Fg c i f mk):=by
 intro ρ σ H a ah Q r e q;have(kvs,e0,e):=zb e;obtain⟨⟨a1,ρ1⟩,e1,e⟩:=zb e;have(k,ek,e):=zb e;have(y,ey,e):=zb e;cases e;have(fs,l,C,dx,vs,ps,b,us,_,t,kv):=Fe r e0;refine t.fld hc ?_;have(rfl,run):=hq ρ σ H a1 ρ1 _ r e1;refine run λv k1=>?_;have(kb,rfl,hk):=GD (λu eu=>k1.now r (Go.refl r) eu) ek;rcases kv.val k with⟨v,d,h1,h2,h3⟩|⟨_,h2⟩
 .rw[ey]at h2
  cases h2;exact⟨b,v,rfl,h1▸t.SO hk (q _ _ (Go.refl r) ⟨h3,Nw.data⟩)⟩
 .rw[ey]at h2
  cases h2
theorem Zq(hc:∀ C,XN K c C->fG K C/\gu K C f)(hk:VE K tk mk):VE K (GF K tk<|qV K (dW i) f) (EF true mk c i f):=by
 intro ρ σ H a ah Q r e q;obtain⟨⟨a1,ρ1⟩,e1,e⟩:=zb e;have(kvs,e0,e):=zb e;have(k,ek,e):=zb e;cases e;refine hk ρ σ H a1 ρ1 _ r e1 λv H1 g1 k1=>?_;have(fs,l,C,dx,vs,ps,b,us,_,t,kv):=Fe g1.rs e0;refine t.fld hc ?_;have(kb,rfl,mZ):=GD (λu eu=>k1.now r g1 eu) ek;refine⟨b,dq us k,rfl,t.SO mZ<|q _ _ g1 ⟨?_,Nw.data⟩⟩;rcases kv.val k with⟨v,d,h1,h2,h3⟩|⟨h1,h2⟩<;>rw[h1,h2]<;>exact .bl _
theorem Vl(hc:∀ C,XN K c C->fG K C/\gu K C f)(hq:VQ K tk mk)(hv:VE K tv mv):VS K pn EX (KZ K (qV K (dW i) f) tk tv) (Ff c i f mk mv):=by
 intro ai A H₀ ao ρ σ H fl D s e k;replace e:=zb e;obtain⟨⟨a1,ρ1⟩,e1,e⟩:=e;replace e:=zb e;have(kvs,e0,e):=e;replace e:=zb e;obtain⟨⟨a2,au⟩,e2,e⟩:=e;replace e:=zb e;have(ky,ek,e):=e;replace e:=zb e;have(u,eu,e):=e;replace e:=zb e;have(x,ed,e):=e;cases mf ed;replace e:=zb e;have(w,ew,e):=e;dsimp only at e ew eu;split at e
 .rename_i hz
  cases e;refine hv ρ σ H a1 ρ1 _ s.rs e1 λv H1 g1 k1=>?_;have(fs,l,C,dx,vs,ps,b,us,ei,t,kv):=Fe g1.rs e0;refine t.fld hc ?_;have(rfl,run):=hq ρ1 σ H1 a2 au _ g1.rs e2;refine run λy k2=>?_;have pv:DF K H1 v x:=k1.now s.rs g1 eu;have(kb,rfl,mZ):=GD (λu eu=>k2.now g1.rs (Go.refl g1.rs) eu) ek;rw[ei]at ew;cases ew;have(re,go):=t.put (u':=.x (dN kvs ky x)) (p':=.dX (cN us ky v)) g1.rs ei rfl λH' kp=>(kv.kp kp).put ky<|DF.kp kp pv;exact⟨b,_,_,_,rfl,t.op.bO,⟨us,ky,kb,t.at,rfl,mZ.keeps t.op.bO.tup,by rw[kv.len]; exact hz,rfl⟩,re,k _ _<|s.go<|g1.trans go⟩
 .cases e
end
def EE(K:qc)(r:Qa V->Hp->VK->Prop):Qa V->Hp->VK->Prop:=λxs H Q=>∃ H1,Re K H H1/\r xs H1 λv H2=>∃ H3,Re K H2 H3/\Q v H3
section
variable{X:Cx}
theorem MC{g:Qc}(h:fO X g r):fO X g (EE X.K r):=λpins s σ H xs us Q I rs q=>by
 have(H1,r1,q):=q;refine aw (h pins s σ H1 xs us _ (I.re r1) rs q) λu s1 z=>?_;have(y,H2,I2,ry,H3,r3,z):=z;exact⟨y,H3,I2.re r3,ry,z⟩
end
noncomputable def PU.ls:PU->Qb (Qa D)
 | .l xs=>some xs
 | _=>none
theorem Vk{u:PU}{xs:Qa D}(h:u.ls=some xs):u=.l xs:=by
 cases u<;>cases h;rfl
noncomputable def uw(c:Str)(i:Nat)(f:Str)(ρ:En):Qb (Qa D):=(ρ[i]?).join.bind λw=>(w.fp c f).bind (·.ls)
noncomputable def qI:D->Qb Int
 | .int n=>some n
 | _=>none
theorem Hf{d:D}{n:Int}(h:qI d=some n):d=.int n:=by
 cases d<;>cases h;rfl
noncomputable def Ft(c:Str)(i:Nat)(f:Str):ME:=λρ=>(uw c i f ρ).bind λxs=>some (.u<|.d<|.int xs.length,ρ)
section
variable{ρ:En}{mk mv:ME}
theorem LS{xs:Qa D}(r:Rs K ρ σ H)(e:uw c i f ρ=some xs):∃ fs a C dx vs ps b us,ρ[i]?=some (some<|.o c fs)/\Pt K σ H c i f (.l xs) fs a C dx vs ps b (.lst us)/\aI K H us xs:=by
 unfold uw at e;have(w,e0,e):=zb e;have(u,eu,e):=zb e;cases Vk e;have(fs,a,C,dx,vs,ps,b,p,rfl,t):=KY r e0 eu rfl;have h:=t.pp;unfold PP at h;split at h
 .rename_i us xs h'
  cases h';exact⟨fs,a,C,dx,vs,ps,b,us,ir e0,t,h⟩
 .rename_i h'; cases h'
 .rename_i h'; cases h'
 .cases h
theorem Vj(hc:∀ C,XN K c C->fG K C/\gu K C f):VE K (mE (EE K<|EN K)<|jO (qV K (dW i) f) ip) (Ft c i f):=by
 intro ρ σ H a ah Q r e q;have(xs,e0,e):=zb e;cases e;have(fs,l,C,dx,vs,ps,b,us,_,t,kv):=LS r e0;refine t.fld hc ?_;refine⟨_,t.op.bO,b,us,rfl,.inl<|aO.of t.at,H,t.op.hU,q _ _ (Go.refl r) ⟨?_,Nw.data⟩⟩;rw[kv.len];exact .int _
end
section
variable{C C':Qg}
theorem XN.one(h:XN K c C)(h':XN K c C'):C=C':=by
 have z:=(show PySem.W.nsIn K mainGlobals c=some (some<|.ref C) from h).symm.trans (show PySem.W.nsIn K mainGlobals c=some (some<|.ref C') from h');injection z with z;injection z with z;injection z
end
structure AB (P:Qe) (w:Qh) (K:qc) (mg:Str->Qb Qc) (base:Heap) (c:Str) (m:Str) (k:Nat) (ps:Qa Str) (sp:Sp):Prop where
 ex:∃ (C f:Qg) (fd:FuncData),XN K c C/\fG K C/\bK P w K mg base iR k f fd ps sp/\lA K fd ps []/\uI K C m f
noncomputable def KW(K:qc)(c:Str)(m:Str)(sp:Sp)(ta:TE)(t:TA):TE:=λσ H Q=>ta σ H λx H1=>(∃ C a dx fs H',XN K c C/\x=.ref a/\Re K H1 H'/\H' a=some (.ins C dx fs)/\fs.lookup m=none)/\t σ H1 λvs H2=>sp (x::vs) H2 Q E0
section
variable{X:Cx}{m:Str}{C:Qg}{k:Nat}{es:Qa Expr}{t:TA}
theorem rg{pl:Sem Bool}(M:AB X.prog X.w X.K X.mg X.base c m k ps sp)(he:Wr (PE X o ta))(ha:Wr (PA X (e::es) t))(hr:aA k X.A:=by exact aA.mono ‹aA _ _› (by decide))
  (hs:zR e=true:=by rfl) (cL:es.all zR=true:=by rfl)
  (ht:eval (.Call (.Attribute o m apos) (e::es) [] pos) X.env=(do
   let ov <-eval o X.env
   standAt apos.atName
   let (f,first) <-holding [ov] (getMethod ov m pl)
   callWith pos f first (backTo pos<|starEach (e::es) X.env) (backToKw pos<|keywordEach [] X.env)):=by rfl):
  Wr (PE X (.Call (.Attribute o m apos) (e::es) [] pos)<|KW X.K c m sp ta t):=by
 refine⟨?_⟩;have(C,f,fd,xn,cl,F,hb,hm):=M.ex;intro pins s σ H Q I h;refine PySem.W.methodCall_KW (pl:=pl) (aw (he.run pins s σ H _ I h) λu s1 hZ=>?_) ht;obtain⟨x,H1,I1,rx,⟨C',a,dx,fs,H',Ih,ex,re,ea,l⟩,q⟩:=hZ;cases xn.one Ih;subst ex;obtain rfl:u=Value.ref a:=rx;refine zlL (I1.re re) ea cl hm l ?_;refine PySem.W.callWith_K (first:=[.ref a]) (h₀:=X.base) I.ok.mod.eG hm.kp (aw (ha.run pos pins s1 σ H1 _ I1 q) λus s2 ⟨vs,H2,I2,r,q2⟩=>⟨I2.aU,?_⟩) (kr hs)<|oZ cL;exact Gn (us:=.ref a::us) (vs:=.ref a::vs) (dvs:=[]) (E:=E0) F hr hb .nil BB I2 (.cons rfl r) (by rw[List.append_nil]; exact q2)
end
noncomputable def U.tW(c m:Str):U->Bool
 | .o c' fs=>decide (c'=c) && (fs.lookup m).isNone
 | _=>false
theorem W7{m:Str}{w:U}(h:w.tW c m=true):∃ fs,w=.o c fs/\fs.lookup m=none:=by
 unfold U.tW at h;split at h
 .rename_i c' fs
  rw[Bool.and_eq_true,decide_eq_true_iff,Option.isNone_iff_eq_none]at h;have(rfl,h):=h;exact⟨fs,rfl,h⟩
 .cases h
noncomputable def lg(c:Str)(i:Nat)(m:Str)(F:FD)(ma:MA):ME:=λρ=>(ρ[i]?).join.bind λw=>if w.tW c m=true then aR F (zf (zj i) ma) ρ else none
section
variable{vs:Qa (Str×V)}{ps:Qa (Qg×HO)}{fs:Qa (Str×PU)}{m:Str}{C C':Qg}{t:TA}{ma:MA}
theorem FO.aF(h:FO K H vs ps fs):fs.lookup m=none->vs.lookup m=none:=by
 refine FO.ind (M:=λvs ps fs=>fs.lookup m=none->vs.lookup m=none) h (λ_=>rfl) (λn v x vs ps fs _ _ ih e=>?_) λn b p u' vs ps fs _ _ ih e=>?_
 all_goals
  rw[List.lookup_cons]at e ⊢;split at e
  .cases e
  .rename_i q
   try rw[q]
   exact ih e
theorem qU{F:FD}(n:Nat)(h:j5 K t ma)(hn:∀ ρ as ah,zf (zj i) ma ρ=some (as,ah)->as.length=n:=by repeat (first|exact Ld|refine Mh ?_)):VE K (KW K c m (nX K n F) (dW i) t) (lg c i m F ma):=by
 intro ρ σ H a ah Q r e q;have(w,e0,e):=zb e;split at e
 .rename_i hw
  have(fs,rfl,hf):=W7 hw;have(v0,bZ,R):=r.rep i _ (ir e0);have(l,C',dx,vs,ps,rfl,hl,ne,Ih,nd,fo,wo,own):=R;have op:Op K H l C' dx vs ps:=⟨hl,ne,nd,wo,own,fo.flat⟩;have(v,ev,z):=zK n (zd ze h) hn ρ σ H a ah Q r e q;rw[bZ]at ev;cases ev;exact⟨_,bZ,⟨C',l,dx,vs,_,Ih,rfl,op.bO,rF,fo.aF hf⟩,z⟩
 .cases e
end
noncomputable def LR:TE:=λ_ H Q=>∀ p,H p=none->Q (.ref p) (upd H p<|.dX [])
section
variable{b:Qg}
theorem W6(e:H b=some (.dT [])):Re K H (upd H b<|.dX []):=by
 have ne:∀ {c:Qg} {o:HO},H c=some o->o≠.dT []->c≠b:=λhc n z=>by
  rw[z,e]at hc;exact n (qx hc).symm
 have keep:∀ {c:Qg} {o:HO},H c=some o->o≠.dT []->upd H b (.dX []) c=some o:=λhc n=>by rw[zq<|ne hc n]; exact hc
 refine⟨λP w h ok c o hc=>?_,λc hc=>?_,λc xs hc=>keep hc (λz=>nomatch z),λc o u hc=>keep hc (λz=>nomatch z),λc ps hc=>keep hc (λz=>nomatch z)⟩
 .have st:∀ {c:Qg} {o:HO},zI P w K H h c o->zI P w K (upd H b<|.dX []) h c o:=λx=>x.cA (λ_ _ _ q=>q) (λb q=>keep q (λz=>nomatch z)) λb ys q=>keep q (λz=>nomatch z)
  by_cases z:c=b
  .subst z
   rw[zp]at hc;cases hc;refine st ?_;have(h1,h2,xs,hx,o,es,ep,h3,h4,h5,h6,h7):=(show zI P w K H h c (.dT []) from ok c _ e);cases hx;exact⟨h1,h2,[],.nil,o,es,ep,h3,h4,h5,h6,.nil⟩
  .rw[zq z]at hc
   exact st<|ok c o hc
 .rw[zq (λz=>by rw[z,e]at hc; cases hc)]
  exact hc
theorem MB{X:Cx}:Wr (PE X (.Dict [] [] pos) LR):=⟨λpins s σ H Q I q=>(Ey vI).run pins s σ H Q I ⟨H,Re.refl _ _,λp hp=>⟨_,W6 zp,by rw[YO]; exact q p hp⟩⟩⟩
end
noncomputable def PU.new:PU->TE
 | .l _=>Bh ip
 | .t _=>BW
 | _=>LR
noncomputable def PU.ho:PU->HO
 | .l _=>.lst []
 | .t _=>.dT []
 | _=>.dX []
noncomputable def PU.nil:PU->Bool
 | .l []=>true
 | .t []=>true
 | .x []=>true
 | _=>false
theorem W5{p:PU}{Q:VK}(h:∀ b,H b=none->Q (.ref b) (upd H b p.ho)):p.new σ H Q:=by
 cases p with
 | l xs=>exact⟨Å _,h⟩
 | _=>exact h
theorem LQ{p:PU}(h:p.nil=true):PP K H p.ho p:=by
 unfold PU.nil at h;split at h
 .exact aI.nil
 .exact Paired.nil
 .exact Paired.nil
 .cases h
noncomputable def Fs(K:qc):Qa (Str×PU)->TS
 | []=>λD σ H=>D.nx σ H
 | [(f,p)]=>wM K (dW 0) p.new f
 | (f,p)::r=>Bg (wM K (dW 0) p.new f)<|Fs K r
noncomputable def DB(a C dx:Qg):Qa (Str×PU)->Qa (Str×V)->Hp->(Hp->Prop)->Prop
 | [],_,H,Q=>Q H
 | (f,p)::r,vs,H,Q=>∀ b,H b=none->DB a C dx r (vs++[(f,.ref b)]) (upd (upd H b p.ho) a<|.ins C dx<|vs++[(f,.ref b)]) Q
noncomputable def IC(C:Qg)(fl:Qa (Str×PU)):Sp:=λvs H Q _=>∃ a dx,vs=[.ref a]/\H a=some (.ins C dx [])/\DB a C dx fl [] H (Q .aF)
theorem W4{C:Qg}{fl:Qa (Str×PU)}{vs:Qa V}{Q:VK}{E:XK}(h:IC C fl vs H Q E):vs.length=1:=by
 have(a,dx,rfl,_):=h;rfl
section
variable{C:Qg}
theorem NM:∀ {fs:Qa (Str×V)},f∉fs.map (·.1)->gZ f y fs=fs++[(f,y)]
 | [],_=>rfl
 | (g,v)::r,h=>by
  rw[List.map_cons,qv,not_or]at h;unfold gZ;rw[if_neg (λz=>h.1 (by first|exact z|exact z.symm)),NM h.2];rfl
theorem NL(c:fG K C){Q:Hp->Prop}{R:VK}:∀ {fl:Qa (Str×PU)} {vs:Qa (Str×V)} {H:Hp},fl≠[]->(∀ p∈fl,gu K C p.1)->(vs.map (·.1)++fl.map (·.1)).Nodup->vs.length+fl.length<=1000->H a=some (.ins C dx vs)->DB a C dx fl vs H Q->Fs K fl {nx:=λ_ H'=>Q H',rt:=R} (gr N [.ref a]) H
 | [],_,_,ne,_,_,_,_,_=>absurd rfl ne
 | (f,p)::r,vs,H,_,na,nd,hl,e,q=>by
  have hf:f∉vs.map (·.1):=λz=>(List.nodup_append.mp nd).2.2 _ z _ qp rfl;rw[qu]at hl;have go:∀ {D:Ends},(∀ b,H b=none->D.nx (gr N [.ref a]) (upd (upd H b p.ho) a<|.ins C dx<|vs++[(f,.ref b)]))->wM K (dW 0) p.new f D (gr N [.ref a]) H:=λh=>by
   refine W5 λb hb=>?_;refine⟨.ref a,rfl,a,C,dx,vs,rfl,?_,c,na _ qp,by omega,?_⟩
   .rw[zq (λz=>by rw[<-z,e]at hb; cases hb)]
    exact e
   .rw[NM hf]
    exact h b hb
  cases r with
  | nil=>exact go q
  | cons x r=>
   refine go λb hb=>?_;refine NL c (λz=>nomatch z) (λp hp=>na p<|qo _ hp) ?_ ?_ zp<|q b hb
   .rw[List.map_append,List.append_assoc]
    exact nd
   .rw[qt]
    simp only[qu,List.length_nil]at hl ⊢;omega
end
structure qE (P:Qe) (w:Qh) (K:qc) (mg:Str->Qb Qc) (base:Heap) (n:Str) (fl:Qa (Str×PU)):Prop where
 fn:∃ (C f:Qg) (fd:FuncData) (ps:Qa Str),XN K n C/\mg n=some (.ref C)/\Mk K C f/\lA K fd ps []/\bK P w K mg base iR 1 f fd ps (IC C fl)
noncomputable def Ru(K:qc)(c:Str)(fl:Qa (Str×PU)):TE:=λσ H Q=>∀ C,XN K c C->Iv K (Lo C (IC C fl) [] E0 ip) σ H Q
theorem zA3{X:Cx}{fl:Qa (Str×PU)}{p:Pos}(O:qE X.prog X.w X.K X.mg X.base x fl)(hr:aA 2 X.A:=by exact aA.mono ‹aA _ _› (by decide))(hg:Gl X x:=by exact rfl)(cV:(x==("__debug__":Str))=false:=by decide):
  Wr (PE X (.Call (.Name x p) [] [] pos)<|Ru X.K x fl):=by
 have(C,f,fd,ps,xn,gm,M,hb,F):=O.fn;exact⟨λpins s σ H Q I h=>(Ey ⟨zp7 (dvs:=[]) (E:=E0) M F hr hg gm hb .nil BB cV⟩).run pins s σ H Q I<|h C xn⟩
structure Az (K:qc) (H₀:Hp) (x C dx:Qg) (vs:Qa (Str×V)) (ps:Qa (Qg×HO)) (fs:Qa (Str×PU)) (H:Hp):Prop where
 at_:H x=some (.ins C dx vs)
 pa:∀ q∈ps,H q.1=some q.2/\q.2.flat=true
 nd:(ps.map (·.1)).Nodup
 fo:∀ H,FO K H vs ps fs
 uD:H dx=some (.own x)
 sm:∀ b o,H₀ b=some o->b≠x->H b=some o
 nw:∀ q∈ps,H₀ q.1=none
 ln:ps.length=fs.length
section
variable{x C b:Qg}{vs:Qa (Str×V)}{ps:Qa (Qg×HO)}{fs fl:Qa (Str×PU)}{p:HO}{u:PU}
theorem FO.snoc{n:Str}(h:FO K H vs ps fs)(hp:PP K H p u):FO K H (vs++[(n,.ref b)]) (ps++[(b,p)]) (fs++[(n,u)]):=
 FO.ind (M:=λvs ps fs=>FO K H (vs++[(n,.ref b)]) (ps++[(b,p)])<|fs++[(n,u)]) h (FO.pp hp .nil) (λ_ _ _ _ _ _ h _ ih=>.d h ih) λ_ _ _ _ _ _ _ h _ ih=>.pp h ih
theorem Az.step(i:Az K H₀ x C dx vs ps fs H)(hx:H₀ x=none)(hb:H b=none)(hu:u.nil=true):Az K H₀ x C dx (vs++[(f,.ref b)]) (ps++[(b,u.ho)]) (fs++[(f,u)]) (upd (upd H b u.ho) x<|.ins C dx<|vs++[(f,.ref b)]):=by
 have bx:b≠x:=λz=>by rw[z,i.at_]at hb; cases hb
 have nb:∀ {c:Qg} {o:HO},H c=some o->c≠b:=λhc z=>by rw[z,hb]at hc; cases hc
 have b0:H₀ b=none:=by
  cases e:H₀ b with
  | none=>rfl
  | some o=>rw[i.sm b o e bx]at hb; cases hb
 refine⟨zp,λq hq=>?_,?_,λH=>(i.fo H).snoc<|LQ hu,?_,λc o hc n=>?_,λq hq=>?_,by rw[qt,qt,i.ln]; rfl⟩
 .rcases Á.mp hq with hq|hq
  .have(h1,h2):=i.pa q hq
   refine⟨?_,h2⟩;rw[zq (λz=>by rw[z,i.at_]at h1; rw[<-qx h1]at h2; cases h2),zq<|nb h1];exact h1
  .cases qq.mp hq
   refine⟨?_,(LQ (K:=K) (H:=H) hu).flat⟩;rw[zq bx];exact zp
 .rw[List.map_append,List.nodup_append]
  refine⟨i.nd,by simp,λc hc d hd z=>?_⟩;cases qq.mp hd;have(q,hq,eq):=À.mp hc;exact nb (i.pa q hq).1<|eq.trans z
 .rw[zq λz=>?_,zq<|nb i.uD]
  .exact i.uD
  .have:=i.uD
   rw[z,i.at_]at this;cases this
 .rw[zq n,zq<|nb<|i.sm c o hc n]
  exact i.sm c o hc n
 .rcases Á.mp hq with hq|hq
  .exact i.nw q hq
  .cases qq.mp hq
   exact b0
theorem LP{Q:Hp->Prop}(hx:H₀ x=none):∀ {fl fs:Qa (Str×PU)} {vs:Qa (Str×V)} {ps:Qa (Qg×HO)} {H:Hp},Az K H₀ x C dx vs ps fs H->(∀ p∈fl,p.2.nil=true)->(∀ vs ps H,Az K H₀ x C dx vs ps (fs++fl) H->Q H)->DB x C dx fl vs H Q
 | [],fs,vs,ps,H,i,_,q=>q vs ps H (by rw[List.append_nil]; exact i)
 | (f,u)::r,fs,vs,ps,H,i,hn,q=>λb hb=>LP hx (i.step hx hb<|hn _ qp) (λp hp=>hn p<|qo _ hp) λvs ps H j=>q vs ps H (by rw[List.append_assoc]at j; exact j)
noncomputable def ED(c:Str)(fl:Qa (Str×PU)):ME:=λρ=>some (.u<|.o c fl,ρ)
theorem zA4(ne:fl≠[])(hn:∀ p∈fl,p.2.nil=true):VE K (Ru K c fl) (ED c fl):=by
 intro ρ σ H a ah Q r e q;cases e;intro C xn;refine⟨H,Re.refl _ _,λx dx hx hd nx=>⟨x,dx,rfl,zp,?_⟩⟩;refine LP (K:=K) (H₀:=H) (fs:=[]) (ps:=[]) hx ⟨zp,λq hq=>(nomatch hq),.nil,λ_=>.nil,?_,λb o hb n=>?_,λq hq=>(nomatch hq),rfl⟩ hn λvs ps H2 i=>⟨rfl,?_⟩
 .rw[zq nx]
  exact zp
 .rw[zq n,zq<|ku hb hd]
  exact hb
 .have px:∀ q∈ps,q.1≠x:=λq hq z=>by
   have(h1,h2):=i.pa q hq;rw[z,i.at_]at h1;rw[<-qx h1]at h2;cases h2
  have dm:dx∉ps.map (·.1):=λz=>by
   have(q,hq,eq):=À.mp z;have(h1,h2):=i.pa q hq;rw[eq,i.uD]at h1;rw[<-qx h1]at h2;cases h2
  refine⟨_,BY (ps:=ps) i.at_ px i.pa,?_⟩;have sm:cz H (hU H2 x C dx vs ps):=λb o hb=>by
   have bx:=ku hb hx;rw[tF (λz=>?_) bx]
   .exact i.sm b o hb bx
   .have(q,hq,eq):=À.mp z
    have:=i.nw q hq;rw[eq,hb]at this;cases this
  refine q _ _ (Go.grow r sm) ⟨⟨x,C,dx,vs,ps,rfl,xG,λz=>?_,xn,i.nd,i.fo _,dm,λq hq=>vk (À.mpr ⟨q,hq,rfl⟩)<|px q hq⟩,λ_=>⟨x,rfl,hx⟩⟩;have l:=i.ln;rw[z]at l;exact ne<|î.mp l.symm
end
section
variable{C b l:Qg}{vs:Qa (Str×V)}{ps:Qa (Qg×HO)}
theorem Op.new(o:Op K H a C dx vs ps)(hl:L2.bO H a C dx vs ps l=none)(t:HO):H l=none/\Re K (upd (L2.bO H a C dx vs ps) l t) (upd H l t):=by
 have la:l≠a:=λz=>by rw[z,rF]at hl; cases hl
 have lp:l∉ps.map (·.1):=λz=>by
  have(q,hq,eq):=À.mp z;rw[<-eq,sS o.nd hq<|o.pa q hq]at hl;cases hl
 have h0:H l=none:=by rw[o9 lp la]at hl; exact hl
 refine⟨h0,?_⟩;have ql:∀ q∈ps,q.1≠l:=λq hq z=>lp<|À.mpr ⟨q,hq,z⟩;have:=BY (K:=K) (H:=upd (L2.bO H a C dx vs ps) l t) (a:=a) (C:=C) (dx:=dx) (vs:=vs) (ps:=ps) (by rw[zq<|Ne.symm la]; exact rF) o.pa λq hq=>⟨by rw[zq<|ql q hq]; exact sS o.nd hq<|o.pa q hq,o.flat q hq⟩;have e:L2.hU (upd (L2.bO H a C dx vs ps) l t) a C dx vs ps=upd H l t:=by
  funext c
  by_cases h1:c=a
  .subst h1
   rw[xG,zq<|Ne.symm la,o.at_]
  .by_cases h2:c∈ps.map (·.1)
   .rw[vk h2 h1]
    have(q,hq,e):=À.mp h2;rw[<-e,zq<|ql q hq,o.own q hq]
   .rw[tF h2 h1]
    by_cases h3:c=l
    .subst h3
     rw[zp,zp]
    .rw[zq h3,zq h3,o9 h2 h1]
 rw[e]at this;exact this
end
noncomputable def Fq(c:Str)(i:Nat)(f:Str):ME:=λρ=>(uw c i f ρ).bind λxs=>some (.u<|.d<|.tuple xs,ρ)
section
variable{mk mv:ME}{EX:gW}
theorem Vi(hc:∀ C,XN K c C->fG K C/\gu K C f):VE K (mE (EE K<|Ha K)<|jO (qV K (dW i) f) ip) (Fq c i f):=by
 intro ρ σ H a ah Q r e q;have(xs,e0,e):=zb e;cases e;have(fs,l,C,dx,vs,ps,b,us,_,t,kv):=LS r e0;refine t.fld hc ?_;refine⟨_,t.op.bO,b,us,rfl,.inl ⟨aO.of t.at,λp hp=>?_⟩⟩;have(h0,re):=t.op.new hp (.tup us);have sm:=zB h0 (.tup us);exact⟨_,re,q _ _ (Go.grow r sm) ⟨DF.tup (.inl zp)<|kv.kp sm.kp,Nw.data⟩⟩
end
section
variable{ρ:En}{mk mv me:ME}{ma:MA}{m:Str}{QE:Ar×En->Prop}{QS:Fl->Prop}{QT:Bool×En->Prop}{F:FD}{fl:Qa (Str×PU)}
theorem Zp:Wo (lg c i m F ma ρ) QE=Wo (ρ[i]?).join (Co (λw=>if w.tW c m=true then aR F (zf (zj i) ma) ρ else none) ⟨0⟩ QE):=by
 show Wo (Option.bind _ _) QE=_;rw[zo]
theorem Zo:Wo (ED c fl ρ) QE=QE (.u<|.o c fl,ρ):=by
 show Wo (some _) QE=_;rw[eC]
theorem Wz{QX:Qa (Qa K3×D)->Prop}:Wo (fX c i f ρ) QX=Wo (ρ[i]?).join (Co (λw=>(w.fp c f).bind (·.xs)) ⟨0⟩ QX):=by
 show Wo (Option.bind _ _) QX=_;rw[zo]
theorem Zn{QX:Qa D->Prop}:Wo (uw c i f ρ) QX=Wo (ρ[i]?).join (Co (λw=>(w.fp c f).bind (·.ls)) ⟨0⟩ QX):=by
 show Wo (Option.bind _ _) QX=_;rw[zo]
theorem zoh:Wo (Fg c i f mk ρ) QE=Wo (fX c i f ρ) (Co (λkvs=>(mk ρ).bind λp=>(oF p).bind λk=>(gg kvs k).bind λy=>some (.u<|.d y,p.2)) ⟨0⟩ QE):=by
 show Wo (Option.bind _ _) QE=_;rw[zo]
theorem Zm{neg:Bool}:Wo (EF neg mk c i f ρ) QE=Wo (mk ρ) (Co (λp=>(fX c i f p.2).bind λkvs=>(oF p).bind λk=>some (.u<|.d<|.bool (if neg=true then !(gg kvs k).isSome else(gg kvs k).isSome),p.2)) ⟨0⟩ QE):=by
 show Wo (Option.bind _ _) QE=_;rw[zo]
theorem zoi:Wo (Ff c i f mk mv ρ) QS=Wo (mv ρ) (Co (λp=>(fX c i f p.2).bind λkvs=>(mk p.2).bind λq=>(oF q).bind λk=>(p.1.get q.2).bind λx=>x.da.bind λx=>(q.2[i]?).join.bind λw=>if kvs.length < sizeLine then some (.nx<|q.2.set i<|some<|w.aP f<|.x<|dN kvs k x)else none) ⟨0⟩ QS):=by
 show Wo (Option.bind _ _) QS=_;rw[zo]
theorem zoj:Wo (Ft c i f ρ) QE=Wo (uw c i f ρ) (Co (λxs=>some (.u<|.d<|.int xs.length,ρ)) ⟨0⟩ QE):=by
 show Wo (Option.bind _ _) QE=_;rw[zo]
theorem zok:Wo (Fq c i f ρ) QE=Wo (uw c i f ρ) (Co (λxs=>some (.u<|.d<|.tuple xs,ρ)) ⟨0⟩ QE):=by
 show Wo (Option.bind _ _) QE=_;rw[zo]
theorem zol:Wo (Bn c i f me ρ) QE=Wo (ρ[i]?).join (Co (λw=>(w.fl c f).bind λxs=>(me ρ).bind λp=>(p.1.get p.2).bind λu=>u.da.bind λx=>if xs.length < sizeLine then some (.u<|.d .none,p.2.set i<|some<|w.aP f<|.l<|xs++[x])else none) ⟨0⟩ QE):=by
 show Wo (Option.bind _ _) QE=_;rw[zo]
end
theorem sR{X:Cx}(he:Wr (PE X e ta))(hb:attributeBase e f X.env (eval e X.env)=eval e X.env:=by rfl):Wr (PE X (.Attribute e f pos)<|qV X.K ta f):=Ey ⟨V2 he.run hb⟩
def OB(K:qc)(c:Str)(fl:Qa Str):Prop:=∀ C,XN K c C->fG K C/\∀ f∈fl,gu K C f
theorem OB.of{C:Qg}{fl:Qa Str}(h:XN K c C)(k:fG K C)(n:∀ f∈fl,gu K C f):OB K c fl:=λC' h'=>by
 cases h.one h';exact⟨k,n⟩
theorem OB.at{fl:Qa Str}(o:OB K c fl)(h:f∈fl:=by decide):∀ C,XN K c C->fG K C/\gu K C f:=λC x=>⟨(o C x).1,(o C x).2 f h⟩
def sG(K:qc)(c x q:Str)(st:Stmt):Prop:=∃ (C f:Qg) (fd:FuncData),XN K c C/\fG K C/\jG K x q st f fd/\uI K C x f
theorem mtK{q:Str}{C f:Qg}{oc:Qc}{od an:Qb Qg}{kV doc pm be ct:Qc}(a:PySem.W.nsIn K mainGlobals c=some (some<|.ref C))(pg:PySem.W.plainGet K C Str.empty=true)(hd:PySem.W.hasDictIn K C=true)(po:PySem.W.plainOver K C=true)(sa:PySem.W.findIn K (.ref C) "__setattr__"=some (some<|.builtin "object.__setattr__"))
  (m:PySem.W.findIn K (.ref C) x=some (some<|.ref f)) (fn:PySem.W.isFn K (.ref f)=true) (l:K.lookup f=some ⟨oc,od,.func<|PySem.W.fnOf x q (nV st) (je st) (zM st) .none kV doc pm an be ct,n5⟩) (cd:PySem.W.codeIn K be q=true) (k:PySem.W.keepIn K (.ref f)=true):sG K c x q st :=
 ⟨C,f,_,a,⟨pg,hd,po,sa⟩,Gk l cd k,⟨m,fn,k⟩⟩
abbrev Zs.M(Z:Zs)(c x:Str)(k:Nat)(ps:Qa Str)(n:Nat)(F:FD):Prop:=AB Z.P Z.w Z.K Z.mg Z.base c x k ps (nX Z.K n F)
section
variable{Z:Zs}{q:Str}{k nn:Nat}{m:MS}
theorem Er(A:sG Z.K c x q st)(N:Qa Str)(bB:∀ {f},Fj Z q st k pn m N f)(S:bj N ps (zM st):=by exact⟨rfl,rfl,rfl,by decide +kernel,rfl,by decide +kernel,by decide +kernel⟩)(wg:ps.length=n:=by rfl)(hN:N.length=nn:=by rfl)(wk:n<=nn:=by decide)
  (hb:∀ (kV doc pm:Qc) (an:Qb Qg) (be ct:Qc) (us:Qa Qc),us.length=ps.length->bindArgs (PySem.W.fnOf x q (nV st) (je st) (zM st) .none kV doc pm an be ct) ⟨us,[]⟩=pure (ps.zip us):=by
   intro _ _ _ _ _ _ us hl
   first
   | (have(_,rfl):=EB hl; rfl)
   | (have(_,_,rfl):=EA hl; rfl)
   | (have(_,_,_,rfl):=Ri hl; rfl)
   | (have(_,_,_,_,rfl):=Rh hl; rfl)):Z.M c x (k+1) ps n (bF nn pn m):=
 let ⟨C,f,fd,xn,cl,F,mt⟩:=A; ⟨⟨C,f,fd,xn,cl,F.RP S wg hN wk λbe A outer s H E hr=>let ⟨t,a,b⟩:=bB S.nd hr; ⟨t,b,a⟩,F.binds hb,mt⟩⟩
theorem zBL{fl:Qa (Str×PU)}{C f:Qg}(xn:XN Z.K c C)(g:Z.mg c=some (.ref C))(M:Mk Z.K C f)(cl:fG Z.K C)(na:∀ p∈fl,gu Z.K C p.1)(F:jG Z.K "__init__" q st f fd)(ne:fl≠[])(nd:(fl.map (·.1)).Nodup)(hl:fl.length<=1000)
  (S:bj ["self"] ["self"] (zM st))
  (hb:∀ (kV doc pm:Qc) (an:Qb Qg) (be ct:Qc) (us:Qa Qc),us.length=1->bindArgs (PySem.W.fnOf "__init__" q (nV st) (je st) (zM st) .none kV doc pm an be ct) ⟨us,[]⟩=pure (([("self":Str)]:Qa Str).zip us))
  (hw:∀ {be:Qc} {A:Qf} {outer:Qa Env} {s:Qd} {H:Hp} {E:XK},([("self":Str)]:Qa Str).Nodup->Wr (d5 (nJ iR Z.P Z.w Z.K Z.mg Z.base ["self"] q (zM st) f be A outer s H E).rO (je st)<|Fs Z.K fl)):qE Z.P Z.w Z.K Z.mg Z.base c fl:=by
 refine⟨C,f,fd,["self"],xn,g,M,F.binds hb,F.RO (k:=0) S (λvs H Q E h=>W4 h) λbe A outer s H vs Q E hr h=>⟨_,hw S.nd,?_⟩⟩;have(a,dx,rfl,e,q):=h;exact NL cl ne na (by rw[List.map_nil,List.nil_append]; exact nd) (by rw[List.length_nil,Nat.zero_add]; exact hl) e q
end
section
variable{K:Type}[DecidableEq K]{knd:HeapKind prog w K}
theorem zpv{xs:Qa (K×Qg×Qc)}{k:K}{v:Qc}(hu:knd.room A)(mY:knd.is s.heap k a)(hm:s.heap.DictOfH knd d xs)
  (h1:∀ p,atKey xs k=some p->Q p.2 {s with toks:=s.toks+knd.draws k})
  (hQ:atKey xs k=none->∀ h',h'.DictOfH knd d (storedH xs k a v)->Heap.SameBut d s.heap h'->Q v {s with heap:=h',toks:=s.toks+knd.draws k})
  (hsz:xs.length<=sizeLine:=by size_fits):
  wpAny (model prog w) A (dictSetDefault d (.ref a) v) Q E s:=by
 have(o,es,ep,ho,hc,hd,he,Sj,hn):=hm;unfold dictSetDefault
 try with_reducible refine wpAny_holding ?_
 refine qa<|knd.pyHash hu mY ?_;refine qa<|wpAny_dictFind_heap (s:={s with toks:=s.toks+knd.draws k}) hu mY ho hd he Sj hn ?_ ?_
 .intro yZ
  have JF:k∉xs.map (·.1):=not_mem_keys_of_get yZ;refine qa<|wpAny_rule<|qa<|wpAny_updateDictKeys (hz:=by have e:=size_of_entries he; omega) (s:={s with toks:=s.toks+knd.draws k}) ho hd<|qb<|hQ (atKey_none_of_get yZ) _ ⟨_,_,ep+1,Ð _ ho<|Obj.isFreed_of_dict<|Obj.data_mapDictKeys hd _,
   hc.mapDictKeys _,Obj.data_mapDictKeys hd _,?_,?_,?_⟩<|Ë ..
  .rw[storedH_new<|atKey_none_of_get yZ]
   simp[he,entryOfKey]
  .rw[storedH_new<|atKey_none_of_get yZ]
   intro x hx;rcases Á.mp hx with hx|hx
   .exact knd.keeps (Sj x hx) ho hd (Ë ..)
   .simp only[qq]at hx
    subst hx;exact knd.keeps mY ho hd<|Ë ..
  .rw[storedH_new<|atKey_none_of_get yZ]
   rw[List.map_append,List.nodup_append];refine⟨hn,by simp,?_⟩;intro x hx y hy;simp only[List.map_cons,List.map_nil,qq]at hy;subst hy;exact λe=>JF<|e▸hx
 .intro j p hj
  refine qa<|wpAny_dictEntries (s:={s with toks:=s.toks+knd.draws k}) ho hd ?_;rw[entry_at he j,hj];exact qa<|wpAny_rule<|qb<|h1 p<|atKey_of_get hn hj
end
noncomputable def KU(K:qc)(td ty tx:TE):TE:=λσ H Q=>td σ H λx H1=>∃ a,x=.ref a/\Ec H1 a/\ty σ H1 λy H2=>tx σ H2 λz H3=>
 ∃ kvs k b,y=.ref b/\H3 a=some (.dT kvs)/\aK K H3 b (k.map kV)/\kvs.length < sizeLine/\(∀ v,dq kvs k=some v->Q v H3)/\(dq kvs k=none->Q z (upd H3 a<|.dT<|cN kvs k z))
theorem Ub{X:Cx}{b:Qg}{v:V}{r:Qc}{k:Qa Key}(hu:A.units+1 < cLine)(I:Inv X pins σ H s)
  (e:H a=some (.dT kvs)) (eb:aK X.K H b (k.map kV)) (l:kvs.length < sizeLine) (rv:zA v r) (h1:∀ x w' s',dq kvs k=some x->Inv X pins σ H s'->zA x w'->Q w' s') (h2:dq kvs k=none->∀ s',Inv X pins σ (upd H a<|.dT<|cN kvs k v) s'->Q r s'):
  wpAny (model X.prog X.w) A (call (.builtin "dict.setdefault") [.ref a,.ref b,r]) Q E s:=by
 have(z,hd,xs,rel,dd):=BC I.aU I.aq e;have hz:xs.length<=sizeLine:=by rw[<-Paired.length rel]; exact z
 have hl:(cN kvs k v).length<=sizeLine:=by have:=xO kvs k v; omega
 refine wpAny_call_entry PySem.F.slot_dict_setdefault dd.typeIs PySem.F.entry_dict_setdefault ?_<|PySem.F.args_dict_setdefault_3 _ _ _;unfold Builtin.«dict.setdefault»;refine qa ?_;unfold Builtin.Dict.keyAndDefault;refine qa<|wpAny_notOrdered_dict dd.typeIs ?_;show wpAny _ _ (pure (a,Value.ref b,some r)) _ _ s;refine qb ?_;show wpAny _ _ (if(a==sysModules)=true then _ else(dictSetDefault a (.ref b) r >>= _)) _ _ s;rw[if_neg (by rw[hd]; exact qf)];have rK:=rel.val k;refine qa<|zpv (hsz:=hz) (tupleKind_room_in1 hu) (oV I.aU I.aq eb) dd (λp hp=>?_) λhn h' lP hs=>?_
 .rw[hp]at rK
  cases ev:dq kvs k with
  | none=>rw[ev]at rK; exact rK.elim
  | some x=>
   rw[ev]at rK;exact qb ⟨_,rfl,h1 x _ _ ev (I.tok _) rK⟩
 .rw[hn]at rK
  have ev:dq kvs k=none:=by
   cases ev:dq kvs k with
   | none=>rfl
   | some x=>rw[ev]at rK; exact rK.elim
  refine qb ⟨_,rfl,h2 ev _ ?_⟩;have(q,es,ep,hq,h2,h3,h4,_,h5):=lP;refine vD I (by rw[e]; exact True.intro) hs ⟨q,hq⟩ ⟨hl,hd,_,(rel.put k eb rv).keeps λc ys ec=>?_,q,es,ep,hq,h2,h3,h4,h5⟩;rw[zq (qS ec e (λz=>nomatch z))];exact ec
theorem Ua{X:Cx}{f:Expr}{tx:TE}(hr:aA n X.A)(ho:Wr (PE X o td))(he:Wr (PE X e ty))(hf:Wr (PE X f tx))(m:M2 X o "setdefault" apos e f aM:=by exact⟨rfl,rfl,rfl,rfl⟩):Wr (PE X (.Call (.Attribute o "setdefault" apos) [e,f] [] aM)<|KU X.K td ty tx):=by
 refine⟨?_⟩;intro pins s σ H Q I h;refine wpAny_Call_method m.base m.SE m.line PySem.F.plainAttrs_dict PySem.F.slot_dict_setdefault PySem.F.type_dict_setdefault<|aw (ho.run pins s σ H _ I h) λu s1 hZ=>?_;have(x,H1,I1,rx,a,ex,d,q1):=hZ;subst ex;obtain rfl:u=Value.ref a:=rx;have(t1,t2,_):=Ma I1 d;refine⟨t1,t2,?_⟩;rw[m.trees];refine Ü rfl<|ó<|ï (aw (he.run pins s1 σ H1 _ I1 q1) λiv s2 ⟨y,H2,I2,ry,q2⟩=>
  ï (aw (hf.run pins s2 σ H2 _ I2 q2) λfv s3 hZ=>Calls.spliced_nil ?_))
 have(z,H3,I3,rz,kvs,k,b,ey,e3,eb,hl,k1,k2):=hZ;subst ey;obtain rfl:iv=Value.ref b:=ry;exact Ub (sL hr) I3 e3 eb hl rz (λx w' s' ev I' gc=>⟨_,_,I',gc,k1 x ev⟩) λev s' I'=>⟨_,_,I',rz,k2 ev⟩
noncomputable def Bm(i:Nat)(my mx:ME):ME:=λρ=>(ρ[i]?).join.bind λw0=>if qX w0=true then(my ρ).bind λp=>(mx p.2).bind λq=>(p.1.get q.2).bind λy=>y.da.bind λy=>(q.1.get q.2).bind λx=>x.da.bind λx=>(cn y).bind λk=>(q.2[i]?).join.bind λw=>match w with
 | .t kvs=>if kvs.length < sizeLine then some (match gg kvs k with|some v=>(.u<|.d v,q.2) | none=>(.u<|.d x,q.2.set i<|some<|.t<|dN kvs k x))else none
 | _=>none else none
theorem T9{tx:TE}{my mx:ME}(hy:VE K ty my)(hx:VE K tx mx):VE K (KU K (dW i) ty tx) (Bm i my mx):=by
 intro ρ σ H a ah Q r e q;replace e:=zb e;have(w0,e0,e):=e;split at e
 rotate_left
 .cases e
 rename_i hw0;replace e:=zb e;obtain⟨⟨a1,ρ1⟩,e1,e⟩:=e;replace e:=zb e;obtain⟨⟨b1,au⟩,e2,e⟩:=e;replace e:=zb e;have(uy,An,e):=e;replace e:=zb e;have(y,ey,e):=e;replace e:=zb e;have(ux,SJ,e):=e;replace e:=zb e;have(x,ex,e):=e;replace e:=zb e;have(k,ek,e):=e;replace e:=zb e;have(w,ew,e):=e;cases mf ey;cases mf ex;dsimp only at An SJ ew e;have(v0,bZ,p0):=r.rep i w0 (ir e0);have(l,rfl,hl):=Ol p0 hw0;refine⟨_,bZ,l,rfl,hl,hy ρ σ H a1 ρ1 _ r e1 λyv H1 g1 k1=>hx ρ1 σ H1 b1 au _ g1.rs e2 λxv H2 g2 k2=>?_⟩;have py:=k1.later r g1 g2 An;have px:=k2.now g1.rs g2 SJ;split at e
 .rename_i kvs
  split at e
  .rename_i hz
   have(w',cp,p1):=g2.rs.rep i _ (ir ew);have(l',us,rfl,uf,ds):=p1;rw[bZ]at cp;cases cp;have(kb,rfl,mZ):=tj py ek;refine⟨us,k,kb,rfl,uf,mZ,by rw[ds.len]; exact hz,λv hv=>?_,λhv=>?_⟩
   .rcases ds.val k with⟨v',d,h1,h2,h3⟩|⟨h1,_⟩
    .rw[h1]at hv
     cases hv;rw[h2]at e;cases e;exact q _ _ (g1.trans g2) ⟨h3,Nw.data⟩
    .rw[h1]at hv; cases hv
   .rcases ds.val k with⟨v',d,h1,h2,h3⟩|⟨_,h2⟩
    .rw[h1]at hv; cases hv
    .rw[h2]at e
     cases e;have kp:=iz uf trivial (.dT<|cN us k xv);exact q _ _ ((g1.trans g2).trans<|Go.own (u':=.t (dN kvs k x)) g2.rs (ir ew) rfl bZ ⟨l,_,rfl,zp,(ds.kp kp).put k<|DF.kp kp px⟩) ⟨DF.kp kp px,Nw.data⟩
  .cases e
 .cases e
section
variable{X:Cx}
noncomputable def Fp(K:qc):R2:=λx y H Q=>∃ p xs i v,x=.ref p/\y=.int i/\0<=i/\aO K H p xs/\br xs i=some v/\Q v H
theorem Zl:Kv X (Fp X.K):=by
 intro pins s σ H x y v u Q I rx ry h;have(p,xs,i,z,rfl,rfl,h0,hq,he,q):=h;cases rx;have(t,rfl):=ry;have(af,r,pl,hz):=I.list hq;have(j,h1,h2,h3,h4,h5):=GY he;have(w,ew,gc):=r.get h2;have hl:=r.length;have hn:=vB;have hj:i.toNat=j:=by
  rw[seqIndex_of h0 h5]at h1;exact qx h1
 exact wpAny_getItem_list pl.isList h0 (by omega) (by rw[hj]; simpa using ew) ⟨z,H,I,gc,q⟩
theorem T8{i:Expr}{to ti:TE}(ho:Wr (PE X o to))(hi:Wr (PE X i ti))(he:Wr (PE X e te))(ha:∀ ov iv new,augStore i ov iv new=(do holding [new,ov,iv] (setItem ov iv new); release [new,ov,iv] []; pure .next):=by intros; rfl):
  Wr (PS X (.AugAssign (.Subscript o i gG) .Add e pos)<|FQ to ti te (Fp X.K) (Jl λi j=>i+j) BE):=⟨YD ho.run hi.run Zl he.run Vr vN ha⟩
end
noncomputable def U.lK:U->Qb (Qa D)
 | .l xs=>some xs
 | _=>none
theorem xw{w:U}{xs:Qa D}(h:w.lK=some xs):w=.l xs:=by
 cases w with
 | l ys=>cases h; rfl
 | _=>cases h
noncomputable def Ep(i:Nat)(mi me:ME):MS:=λρ=>(ρ[i]?).join.bind λ_=>(mi ρ).bind λp=>(p.1.get p.2).bind λy=>y.da.bind λy=>(qI y).bind λn=>(p.2[i]?).join.bind λw=>w.lK.bind λxs=>if 0<=n then(br xs n).bind λx=>(qI x).bind λa=>
 (me p.2).bind λq=>(q.1.get q.2).bind λz=>z.da.bind λz=>(qI z).bind λb=>(q.2[i]?).join.bind λw=>w.lK.bind λys=>(eI ys.length n).bind λj=>some (.nx<|q.2.set i<|some<|.l<|ys.set j<|.int<|a+b)else none
section
variable{EX:gW}{ρ ah:En}
theorem zA5{ti:TE}{me mi:ME}(hi:VE K ti mi)(h:VE K te me):VS K pn EX (FQ (dW i) ti te (Fp K) (Jl λi j=>i+j) BE) (Ep i mi me):=by
 intro ai A H₀ ao ρ σ H f D s e k;replace e:=zb e;have(w0,e0,e):=e;replace e:=zb e;obtain⟨⟨a1,ρ1⟩,e1,e⟩:=e;replace e:=zb e;have(uy,An,e):=e;replace e:=zb e;have(y,ey,e):=e;replace e:=zb e;have(n,en,e):=e;replace e:=zb e;have(w,ew,e):=e;replace e:=zb e;have(xs,ex,e):=e;split at e
 rotate_left
 .cases e
 rename_i h0;replace e:=zb e;have(x,exx,e):=e;replace e:=zb e;have(av,ea,e):=e;replace e:=zb e;obtain⟨⟨b1,au⟩,e2,e⟩:=e;replace e:=zb e;have(uz,SI,e):=e;replace e:=zb e;have(z,ez,e):=e;replace e:=zb e;have(bv,eb,e):=e;replace e:=zb e;have(w2,JX,e):=e;replace e:=zb e;have(ys,ey2,e):=e;replace e:=zb e;have(j,ej,e):=e;cases e;cases Hf en;cases Hf ea;cases Hf eb;cases mf ey;cases mf ez;cases xw ex;cases xw ey2;dsimp only at An ew SI JX e2;have(v0,bZ,_):=s.rs.rep i w0 (ir e0);refine⟨v0,bZ,hi ρ σ H a1 ρ1 _ s.rs e1 λyv H1 g1 k1=>?_⟩;have py:=k1.now s.rs g1 An;have(w',cp,p1):=g1.rs.rep i _ (ir ew);have(l,us,rfl,hl,ds):=p1;rw[bZ]at cp;cases cp;have(xv,exv,dx):=ds.br exx;refine⟨l,us,n,xv,rfl,DF.int_inv py,h0,aO.of hl,exv,?_⟩;refine h ρ1 σ H1 b1 au _ g1.rs e2 λzv H2 g2 k2=>?_;have pz:=k2.now g1.rs g2 SI;refine⟨av,bv,DF.int_inv dx,DF.int_inv pz,?_⟩;have(w',cp,p2):=g2.rs.rep i _ (ir JX);have(l',ph,rfl,i8,uE):=p2;rw[bZ]at cp;cases cp;refine⟨l,ph,n,j,rfl,DF.int_inv py,i8,by rw[uE.len]; exact ej,k _ _<|(s.go<|g1.trans g2).go<|Go.own (u':=.l (ys.set j<|.int<|av+bv)) g2.rs (ir JX) rfl bZ ?_⟩;have kp:=iz i8 trivial (.lst<|ph.set j<|.int<|av+bv);exact⟨l,_,rfl,zp,(uE.kp kp).set (.int _) j⟩
noncomputable def AM(i:Nat)(me:ME):ME:=λρ=>(ρ[i]?).join.bind λw=>w.lK.bind λ_=>(me ρ).bind λp=>(p.1.get p.2).bind λu=>u.lK.bind λzs=>(p.2[i]?).join.bind λw=>w.lK.bind λxs=>if xs.length+zs.length<=sizeLine then some (.u<|.d .none,p.2.set i<|some<|.l<|xs++zs)else none
theorem KS{me:ME}(h:VE K te me):VE K (Dv K "list" Nn (dW i)<|jO te ip) (AM i me):=by
 intro ρ σ H a ah Q r e q;replace e:=zb e;have(w0,e0,e):=e;replace e:=zb e;have(Ry,ex0,e):=e;replace e:=zb e;obtain⟨⟨b,ρ1⟩,e1,e⟩:=e;replace e:=zb e;have(u,eu,e):=e;replace e:=zb e;have(zs,ez,e):=e;replace e:=zb e;have(w,ew,e):=e;replace e:=zb e;have(xs,ex,e):=e;cases xw ex0;cases xw ez;cases xw ex;dsimp only at eu ew e;split at e
 .rename_i hz
  cases e;have(v0,bZ,p0):=r.rep i _ (ir e0);have(l,Ik,rfl,ue,_):=p0;refine⟨_,bZ,.inl ⟨rfl,Ik,aO.of ue⟩,?_⟩;refine h ρ σ H b ρ1 _ r e1 λv H1 g1 k1=>?_;have(l2,ph,rfl,i8,uE):=k1.now r g1 eu;have(w,cp,p1):=g1.rs.rep i _ (ir ew);have(l',us,rfl,hl,ds):=p1;rw[bZ]at cp;cases cp;refine⟨l,l2,us,ph,rfl,rfl,hl,i8,by rw[ds.len,uE.len]; exact hz,q _ _ (g1.trans<|Go.own (u':=.l (xs++zs)) g1.rs (ir ew) rfl bZ ?_) ⟨.aF,Nw.data⟩⟩;have kp:=iz hl trivial (.lst<|us++ph);exact⟨l,_,rfl,zp,(ds.kp kp).app<|uE.kp kp⟩
 .cases e
end
abbrev Ts(d i n ep:Nat)(x0 x1 ok ov:Qc):Obj:={cls:=.type "dict_itemiterator",dict:=none,data:=.fields #[x0,x1,.ref d,.int i 0,.int n 0,.int ep 0,ok,ov],slots:=#[]}
def qH(h:Heap)(it d:Qg)(i n ep:Nat):Prop:=∃ x0 x1 ok ov,(x0=Value.none\/∃ a:Qg,x0=rawInt a)/\h.get? it=some (Ts d i n ep x0 x1 ok ov)
section
theorem zpw{Q:Qb Obj->Qd->Prop}(h:Q (s.heap.get? a) s):wpAny (model prog w) A (loadIfAlive a) Q E s:=λΓ p _=>by
 unfold loadIfAlive;rw[Sem.wp_loadIfAlive];exact(by simpa using h)
theorem zmB{Q:Qb Qc->Qd->Prop}(k0:qH s.heap it d i es.size ep)(r:kl s.heap d es ep){x:DictEntry}(hx:es[i]?=some x)
  (q:∀ h':Heap,qH h' it d (i+1) es.size ep->h'.get? s.heap.objs.size=some {cls:=.type "tuple",data:=.seq #[x.key,x.val]}->(∀ b o,b≠it->s.heap.get? b=some o->h'.get? b=some o)->Q (some<|.ref s.heap.objs.size) {s with heap:=h'}):wpAny (model prog w) A (pyNext<|.ref it) Q E s:=by
 have(x0,x1,ok,ov,R6,k):=k0;have kT:s.TypeIs (.ref it) "dict_itemiterator":=⟨_,k,rfl⟩;have(o,e,_,dat):=r;have gJ:s.heap.objs.size≠it:=Ne.symm (qj<|qh k);unfold pyNext;refine qa<|wpAny_attempt (wpAny_callSpecial?_slot (name:=Str.ofString "__next__") kT Ã
  (wpAny_call_entry Ã kT à ?_<|Þ _))
 refine qa<|qb<|qa<|qa ?_;refine qa<|wpAny_typeNameOfWhole_itemiter kT<|qb<|qa<|wpAny_fieldsOf k rfl ?_;simp only[show Builtin.Dict_items.ownsTuple "dict_itemiterator"=true by decide,if_true];show wpAny _ _ (if(Value.ref d==Value.none)=true then _ else _) _ _ s;rw[if_neg (show ¬((Value.ref d==Value.none)=true) from qf)];refine qa<|qb<|qa<|wpAny_dictEntries e dat ?_;rw[if_neg (by simp)];refine qa<|qb<|qa<|wpAny_dictEpoch e dat ?_;rw[if_neg (by simp)];refine qb ?_;simp only[show ¬((i:Int) < 0) from by omega,if_false,Int.toNat_natCast,hx];refine qa<|qa<|wpAny_typeNameOfWhole_itemiter kT<|qb<|qa<|wpAny_isOneOf_itemiter kT ?_;show wpAny _ _ (setField (.ref it) 3 (rawInt<|(i:Int)+1) >>= _) _ _ s;refine qa<|iU k (by simp) λh1 k1 z1 f1=>?_;refine qa<|wpAny_holding ?_;have yu:Shared.TypeIs {s with heap:=h1} (.ref it) "dict_itemiterator":=⟨_,k1,rfl⟩;refine qa<|wpAny_isOneOf_itemiter yu ?_;show wpAny _ _ (Builtin.Dict_items.isOneOf (.ref it) _ >>= _) _ _ _;refine qa<|wpAny_isOneOf_itemiter yu ?_;show wpAny _ _ (Builtin.Dict_items.pairFromOwner (.ref it) 6 x.key x.val) _ _ _;unfold Builtin.Dict_items.pairFromOwner;simp only[newTuple];refine qa<|qA ?_ (by show(2:Nat)<=sizeLine; decide);have k2:(h1.push {cls:=.type "tuple",data:=.seq #[x.key,x.val]}).get? it=some (Ts d (i+1) es.size ep x0 x1 ok ov):=qd _ k1;have t2:(h1.push {cls:=.type "tuple",data:=.seq #[x.key,x.val]}).get? h1.objs.size=_:=qg _ rfl;have f2:∀ b o,b≠it->s.heap.get? b=some o->(h1.push {cls:=.type "tuple",data:=.seq #[x.key,x.val]}).get? b=some o:=λb o hb z=>qd _<|f1 b o hb z;rw[z1]at t2;show wpAny _ _ _ _ _ {s with heap:=h1.push {cls:=.type "tuple",data:=.seq #[x.key,x.val]}};generalize h1.push {cls:=.type "tuple",data:=.seq #[x.key,x.val]}=h2 at k2 t2 f2 ⊢;rw[z1];have free:wpAny (model prog w) A.in1 (do
   let old:=[<-field (.ref it) 6,<-field (.ref it) (6+1)]
   setField (.ref it) 6 x.key; setField (.ref it) (6+1) x.val
   setField (.ref it) 0 (rawInt s.heap.objs.size); setField (.ref it) 1 (.bool false)
   letGo old [.ref s.heap.objs.size]
   pure (Value.ref s.heap.objs.size)) (λv s'=>v=.ref s.heap.objs.size/\∃ h',s'={s with heap:=h'}/\qH h' it d (i+1) es.size ep/\h'.get? s.heap.objs.size=some {cls:=.type "tuple",data:=.seq #[x.key,x.val]}/\∀ b o,b≠it->s.heap.get? b=some o->h'.get? b=some o) (λ_ _=>False) {s with heap:=h2}:=by
  refine qa<|wpAny_field k2 rfl (x:=ok) rfl ?_;refine qa<|wpAny_field k2 rfl (x:=ov) rfl ?_;refine qa<|iU k2 (by simp) λh3 k3 z3 f3=>?_;refine qa<|iU k3 (by simp) λh4 k4 z4 f4=>?_;refine qa<|iU k4 (by simp) λh5 k5 z5 f5=>?_;refine qa<|iU k5 (by simp) λh6 k6 z6 f6=>?_;refine qa<|wpAny_letGo<|qb ⟨rfl,h6,rfl,⟨rawInt s.heap.objs.size,.bool false,x.key,x.val,.inr ⟨_,rfl⟩,?_⟩,?_,λb o hb z=>?_⟩
  .rw[k6]
   rfl
  .exact f6 _ _ gJ (f5 _ _ gJ<|f4 _ _ gJ<|f3 _ _ gJ t2)
  .exact f6 b o hb (f5 b o hb<|f4 b o hb<|f3 b o hb<|f2 b o hb z)
 have fin:∀ {h':Heap},qH h' it d (i+1) es.size ep->h'.get? s.heap.objs.size=some {cls:=.type "tuple",data:=.seq #[x.key,x.val]}->(∀ b o,b≠it->s.heap.get? b=some o->h'.get? b=some o)->Q (some<|.ref s.heap.objs.size) {s with heap:=h'}:=λ{h'} a b c=>q h' a b c;unfold Builtin.Dict_items.ownedTupleIsFree;rcases R6 with rfl|⟨a0,rfl⟩
 .refine qa (qa<|wpAny_field k2 rfl (x:=.none) rfl<|qb ?_)
  show wpAny _ _ (if true=true then _ else _) _ _ _;rw[if_pos rfl];refine wpAny_mono free (λv s' hz=>?_) λ_ _ z=>z.elim;have(rfl,h',rfl,a,b,c):=hz;exact qb ⟨_,rfl,qb<|fin a b c⟩
 .refine qa (qa<|wpAny_field k2 rfl (x:=rawInt a0) rfl ?_)
  show wpAny _ _ (loadIfAlive (a0:Int).toNat >>= _) _ _ _;refine qa<|zpw ?_;dsimp only
  by_cases ha:(h2.get? (a0:Int).toNat).isNone=true
  .rw[if_pos ha]
   refine qb ?_;show wpAny _ _ (if true=true then _ else _) _ _ _;rw[if_pos rfl];refine wpAny_mono free (λv s' hz=>?_) λ_ _ z=>z.elim;have(rfl,h',rfl,a,b,c):=hz;exact qb ⟨_,rfl,qb<|fin a b c⟩
  .rw[if_neg ha]
   refine qa<|wpAny_field k2 rfl (x:=x1) rfl ?_
   by_cases hb:(x1 != Value.bool true)=true
   .rw[if_pos hb]
    refine qa<|iU k2 (by simp) λh3 k3 z3 f3=>qb ?_;show wpAny _ _ (if false=true then _ else _) _ _ _;rw[if_neg qf];refine qb<|qb ⟨_,rfl,qb<|fin ⟨rawInt a0,.bool true,ok,ov,.inr ⟨_,rfl⟩,?_⟩ (f3 _ _ gJ t2) λb o hb z=>f3 b o hb<|f2 b o hb z⟩;rw[k3];rfl
   .rw[if_neg hb]
    refine qb ?_;show wpAny _ _ (if false=true then _ else _) _ _ _;rw[if_neg qf];exact qb<|qb ⟨_,rfl,qb<|fin ⟨rawInt a0,x1,ok,ov,.inr ⟨_,rfl⟩,k2⟩ t2 f2⟩
end
abbrev gA(kx vx t1 i1 t2 i2:Expr)(scope:Scope)(pos:Pos):Expr:=.DictComp kx vx [⟨t1,i1,[],0⟩,⟨t2,i2,[],0⟩] scope pos
section
variable{t1 i1:Expr}{it:Qc}{D:Qg}
theorem W3:compTurn (gA kx vx t1 i1 t2 i2 scope pos) 0 it (.ref D) env=(do
   standAt i1.pos
   match <-pyNext it with
   | none=>pure<|.done .next
   | some v=>
    letOwnedTupleGo t1 it v
    assign t1 env v
    let x <-eval i2 env
    standAt i2.pos
    let x <-foldedSetIterable i2 env x
    let _ <-runOwn (.compStart (gA kx vx t1 i1 t2 i2 scope pos) 1 (<-holding [x] (pyIter x)) (.ref D) env) env
    again (.compLoop (gA kx vx t1 i1 t2 i2 scope pos) 0 it (.ref D) env)):=by rfl
theorem WZ:compTurn (gA kx vx t1 i1 t2 i2 scope pos) 1 it (.ref D) env=(do
   standAt i2.pos
   match <-pyNext it with
   | none=>pure<|.done .next
   | some v=>
    letOwnedTupleGo t2 it v
    assign t2 env v
    (do
      let kv <-eval kx env
      let vv <-holding [kv] (eval vx env)
      standAt {kx.pos with endLine:=vx.pos.endLine,endCol:=vx.pos.endCol}
      holding [kv,vv] (dictSet D kv vv))
    again (.compLoop (gA kx vx t1 i1 t2 i2 scope pos) 1 it (.ref D) env)):=by rfl
theorem Zk(I:Nat->Qd->Prop)
  (turn:∀ n s,I n s->∀ E,wpAny (model prog w) A (pyNext it) (λr s1=>match r with
   | none=>R (.ok .next) s1
   | some v=>wpAny (model prog w) A (letOwnedTupleGo t2 it v) (λ_ s2=>wpAny (model prog w) A (assign t2 env v) (λ_ s3=>
     wpAny (model prog w) A (eval kx env) (λk s5=>wpAny (model prog w) A (eval vx env) (λv s6=>wpAny (model prog w) A (dictSet D k v) (λ_ s7=>∃ m,m < n/\I m s7) E s6) E s5) E s3) E s2) E s1) E s)
  (n:Nat) (h:I n s):codeAny (model prog w) A (.compLoop (gA kx vx t1 i1 t2 i2 scope pos) 1 it (.ref D) env) R s:=by
 refine codeAny_loop rfl I (λn s hI=>?_) n h;show wpAny _ A ((compTurn _ 1 it (.ref D) env).onRaise (λx=>do noteFrame x env; theTreesLotGoes x)) _ _ s;refine wpAny_noted ?_;rw[WZ];refine qa<|wpAny_standAt<|qa<|wpAny_mono (turn n s hI _) (λr s1 h1=>?_) λ_ _ z=>z;cases r with
 | none=>exact qb h1
 | some v=>
  refine qa<|wpAny_mono h1 (λ_ s2 h2=>?_) λ_ _ z=>z;refine qa<|wpAny_mono h2 (λ_ s3 h3=>?_) λ_ _ z=>z;refine qa<|qa<|wpAny_mono h3 (λx s5 h5=>?_) λ_ _ z=>z;refine qa<|wpAny_holding<|wpAny_mono h5 (λy s6 h6=>?_) λ_ _ z=>z;exact qa<|wpAny_standAt<|wpAny_holding<|wpAny_mono h6 (λ_ s7 h7=>qb ⟨rfl,h7⟩) λ_ _ z=>z
theorem Zj{acc:Qc}
  (h0:codeAny (model prog w) A (.compLoop (gA kx vx t1 i1 t2 i2 scope pos) 1 it acc env) R s)
  (h:wpAny (model prog w) A (pyIter it) (λDM s'=>codeAny (model prog w) A (.compLoop (gA kx vx t1 i1 t2 i2 scope pos) 1 DM acc env) R s')
   (notedBy (model prog w) A env λx s'=>R (.error x) s') s):
  codeAny (model prog w) A (.compStart (gA kx vx t1 i1 t2 i2 scope pos) 1 it acc env) R s:=by
 refine codeAny_of_tree ?_;show wpAny _ A ((compStart (gA kx vx t1 i1 t2 i2 scope pos) 1 it acc env).onRaise (λx=>do noteFrame x env; standAt theWindowsPlace)) _ _ s;refine wpAny_notedAt ?_;unfold compStart;show wpAny _ A (ask >>= _) _ _ s;refine qa<|wpAny_askSetting<|wpAny_ite ?_;split
 .first
   | exact qa<|qb<|qb<|And.intro rfl h0
   | exact qb (And.intro rfl h0)
 .first
   | exact qa<|wpAny_rule<|qa<|wpAny_standAt<|qa<|wpAny_mono h (λDM s' h'=>qb<|And.intro rfl h') λ_ _ x=>x
   | (refine qa<|wpAny_rule ?_; show wpAny _ _ (standAt i2.pos >>= _) _ _ s; exact qa<|wpAny_standAt<|qa<|wpAny_mono h (λDM s' h'=>qb<|And.intro rfl h') λ_ _ x=>x)
theorem Zi(hs:∀ x,foldedSetIterable i2 env x=pure x)(I:Nat->Qd->Prop)
  (turn:∀ n s,I n s->∀ E,wpAny (model prog w) A (pyNext it) (λr s1=>match r with
   | none=>R (.ok .next) s1
   | some v=>wpAny (model prog w) A (letOwnedTupleGo t1 it v) (λ_ s2=>wpAny (model prog w) A (assign t1 env v) (λ_ s3=>
     wpAny (model prog w) A (eval i2 env) (λx s4=>wpAny (model prog w) A (pyIter x) (λJk s5=>codeAny (model prog w) A (.compStart (gA kx vx t1 i1 t2 i2 scope pos) 1 Jk (.ref D) env) (λr s6=>r=.ok .next/\∃ m,m < n/\I m s6) s5) E s4) E s3) E s2) E s1) E s)
  (n:Nat) (h:I n s):codeAny (model prog w) A (.compLoop (gA kx vx t1 i1 t2 i2 scope pos) 0 it (.ref D) env) R s:=by
 refine codeAny_loop rfl I (λn s hI=>?_) n h;show wpAny _ A ((compTurn _ 0 it (.ref D) env).onRaise (λx=>do noteFrame x env; theTreesLotGoes x)) _ _ s;refine wpAny_noted ?_;rw[W3];refine qa<|wpAny_standAt<|qa<|wpAny_mono (turn n s hI _) (λr s1 h1=>?_) λ_ _ z=>z;cases r with
 | none=>exact qb h1
 | some v=>
  refine qa<|wpAny_mono h1 (λ_ s2 h2=>?_) λ_ _ z=>z;refine qa<|wpAny_mono h2 (λ_ s3 h3=>?_) λ_ _ z=>z;refine qa<|wpAny_mono h3 (λx s4 h4=>?_) λ_ _ z=>z;refine qa<|wpAny_standAt<|qa<|wpAny_of_eq (hs x) ?_;refine qa<|wpAny_holding<|wpAny_mono h4 (λJk s5 h5=>?_) λ_ _ z=>z;refine qa<|wpAny_runOwn (h:=none) ?_;refine codeAny_mono h5 λr s6 h6=>?_;have(rfl,h6):=h6;exact qb ⟨rfl,h6⟩
end
noncomputable def yc(v d:Qg):HO:=.ext λh=>h.IsItemsView v d
theorem zpx:typeLookup (.type "dict_items") "__len__"=pure (some<|.builtin "dict_items.__len__"):=by rw[typeLookup_type,builtinLookup_eq_fast]; kernel_rfl
section
variable{v:Qg}
theorem zmC{Q:Bool->Qd->Prop}(hT:s.TypeIs (.ref v) "dict_items")(h:Q false s):wpAny (model prog w) A (Builtin.List.listLengthHint<|.ref v) Q E s:=by
 unfold Builtin.List.listLengthHint;refine qa<|wpAny_specialOf hT zpx ?_;generalize So:("dict_items.__len__":String)=id0
 wp_delta
 rw[show splitId id0=some ("dict_items", "__len__") from by subst So; decide +kernel];subst So;refine qa<|wpAny_isInstance (T := "dict_items") (b:=true) hT (by rw[isSubtype_type]; kernel_rfl) ?_;refine wpAny_ite_split (λpX=>absurd pX (by decide)) λ_=>?_;refine wpAny_ite_split (λ_=>?_) (λpX=>absurd (by decide +kernel) pX);exact qa<|wpAny_typeOf hT<|qb h
theorem zpy{Q:Qb Qc->Qd->Prop}(hh:A.handled=none)(k0:qH s.heap it d i es.size ep)(r:kl s.heap d es ep)(hx:es.size<=i)
  (q:∀ h':Heap,Heap.ExtBut it s.heap h'->Q none {s with heap:=h'}):wpAny (model prog w) A (pyNext<|.ref it) Q E s:=by
 have(x0,x1,ok,ov,R6,k):=k0;have kT:s.TypeIs (.ref it) "dict_itemiterator":=⟨_,k,rfl⟩;have(o,e,_,dat):=r;unfold pyNext;refine qa<|wpAny_attempt (wpAny_callSpecial?_slot (name:=Str.ofString "__next__") kT Ã
  (wpAny_call_entry Ã kT à ?_<|Þ _))
 refine qa<|qb<|qa<|qa ?_;refine qa<|wpAny_typeNameOfWhole_itemiter kT<|qb<|qa<|wpAny_fieldsOf k rfl ?_;simp only[show Builtin.Dict_items.ownsTuple "dict_itemiterator"=true by decide,if_true];show wpAny _ _ (if(Value.ref d==Value.none)=true then _ else _) _ _ s;rw[if_neg (show ¬((Value.ref d==Value.none)=true) from qf)];refine qa<|qb<|qa<|wpAny_dictEntries e dat ?_;rw[if_neg (by simp)];refine qa<|qb<|qa<|wpAny_dictEpoch e dat ?_;rw[if_neg (by simp)];refine qb ?_;simp only[show ¬((i:Int) < 0) from by omega,if_false,Int.toNat_natCast,Array.getElem?_eq_none hx];refine qa<|qa<|wpAny_typeNameOfWhole_itemiter kT<|qb ?_;show wpAny _ _ (setField (.ref it) 2 .none >>= _) _ _ s;refine qa<|wpAny_setField k rfl (by simp) ?_;show wpAny _ _ (newExc (.type "StopIteration") [] >>= _) _ _ _;refine qa ?_;simp only[newExc,newTuple];refine qa<|qA ?_ (by show(0:Nat)<=sizeLine; exact Å _);refine qa (m:=firstArgMember _ _)<|wpAny_of_eq (a:=Value.none) (by first|rfl | (simp only[firstArgMember]; rfl)) ?_;refine qA ?_ (by first|trivial|size_fits);simp only[raiseNew];refine qa<|wpAny_handled ?_;rw[show A.in1.handled=none from hh];refine qa<|qb<|wpAny_throw ?_;refine qa<|wpAny_isInstance (T := "StopIteration") (b:=true) ⟨_,qg _ rfl,rfl⟩ isSubtype_stop ?_;exact qb<|q _<|((Ë ..).extBut.push _).push _
end
def lQ(K:qc)(H:Hp):Qa (Qa Key×V)->Qa V->Prop:=Paired λp y=>∃ T b,y=V.ref T/\H T=some (.tup [.ref b,p.2])/\aK K H b (p.1.map kV)
theorem lQ.same(h:lQ K H kvs ys)(s:cz H H'):lQ K H' kvs ys :=
 Paired.gL h λ_ _ ⟨T,b,e,h1,h2⟩=>⟨T,b,e,s _ _ h1,aK.kp s.kp h2⟩
theorem bM.same{X:Cx}{b:Qg}(f:bM X pins H b)(h:H' b=none):bM X pins H' b:=⟨h,f.2⟩
theorem lQ.snoc:∀ {kvs:Qa (Qa Key×V)} {ys:Qa V} {p:Qa Key×V} {y:V},lQ K H kvs ys->(∃ T b,y=V.ref T/\H T=some (.tup [.ref b,p.2])/\aK K H b (p.1.map kV))->lQ K H (kvs++[p]) (ys++[y])
 | _,_,_,_,.nil,h=>.cons h .nil
 | _,_,_,_,.cons a t,h=>.cons a<|lQ.snoc t h
abbrev yr(acc:Qa Qc)(c:Nat):Obj:={cls:=.type "list",dict:=none,data:=.seq acc.toArray c,slots:=#[]}
section
variable{X:Cx}{H0:Hp}{res:Qc}{S:Qg}{o:Obj}
theorem zmD(hh:A.handled=none)(nS:S≠it)(dS:d≠S)(dI:d≠it)(hsz:es.size=kvs.length)(hz:kvs.length<=sizeLine)(xd:o.ExactDict)(dat:o.data=.dict es ep)
  (ent:∀ (i:Nat) (k:Qa Key) (v:V),kvs[i]?=some (k,v)->∃ (b:Qg) (x:DictEntry),es[i]?=some x/\x.key=.ref b/\aK X.K H0 b (k.map kV)/\zA v x.val)
  (hR:∀ (s':Qd) (H':Hp) (acc:Qa Qc) (ys:Qa V) (c:Nat),Inv X pins σ H' s'->cz H0 H'->bM X pins H' S->s'.heap.get? S=some (yr acc c)->zC ys acc->lQ X.K H' kvs ys->R (.ok<|.ret res) s'):
  ∀ (k i:Nat) (s:Qd) (Hc:Hp) (acc:Qa Qc) (ys:Qa V) (c:Nat),kvs.length - i=k->i<=kvs.length->Inv X pins σ Hc s->cz H0 Hc->bM X pins Hc it->bM X pins Hc S->qH s.heap it d i es.size ep->s.heap.get? d=some o->s.heap.get? S=some (yr acc c)->zC ys acc->lQ X.K Hc (kvs.take i) ys->
   codeAny (model X.prog X.w) A (.builtin "list.extend.loop" ⟨[.ref S,.ref it,res],[]⟩) R s:=by
 intro k
 induction k with
 | zero=>
  intro i s Hc acc ys c hk hi I sm f1 f2 st hd hS va pr;have ei:i=kvs.length:=by omega
  subst ei;refine codeAny_builtin F.entry_extend_loop ?_;rw[Around.under_plainId F.plain_extend_loop _];show wpAny _ A.in1 (pyNext (.ref it) >>= _) _ _ s;refine qa<|zpy hh st ⟨o,hd,xd,dat⟩ (by omega) λh' eb=>?_;have(g0,g1,g2,g3,g4,g5):=f1;refine qb<|hR {s with heap:=h'} Hc acc ys c (I.turned (t':=s.toks) (λb o hb e=>eb b o hb e) g0 g1 g3 g4 g5) sm f2 (eb _ _ nS hS) va ?_;rw[List.take_length]at pr;exact pr
 | succ k ih=>
  intro i s Hc acc ys c hk hi I sm f1 f2 st hd hS va pr;have dD:i < kvs.length:=by omega
  refine codeAny_builtin F.entry_extend_loop ?_;rw[Around.under_plainId F.plain_extend_loop _];show wpAny _ A.in1 (pyNext (.ref it) >>= _) _ _ s;have(b,x,ex,kx,hb,rv):=ent i kvs[i].1 kvs[i].2 (qm dD);refine qa<|zmB st ⟨o,hd,xd,dat⟩ ex λh1 pw gQ kk=>?_;have itl:it < s.heap.objs.size:=by
   have(_,_,_,_,_,e):=st;exact qh e
  have Sl:S < s.heap.objs.size:=qh hS;have I1:Inv X pins σ Hc {s with heap:=h1}:=I.aS (t':=s.toks) (wr:=[it]) (λb o hb q=>kk b o (by simpa using hb) q) λb hb=>by rw[qq.mp hb]; exact f1
  have fr:=I.aq.fresh (qe s.heap.objs.size);have fT:bM X pins Hc s.heap.objs.size:=I.bJ (qe _) fr;rw[kx]at gQ;have I2:Inv X pins σ (upd Hc s.heap.objs.size<|.tup [.ref b,kvs[i].2]) {s with heap:=h1}:=I1.eT fT I.sz ⟨by show 2<=sizeLine; decide,[.ref b,x.val],.cons rfl<|.cons rv .nil,_,gQ,rfl,⟨_,rfl⟩,.inl rfl⟩;have ID:=zB fr (.tup [.ref b,kvs[i].2]);have Su:h1.get? S=some (yr acc c):=kk _ _ nS hS;have f1':bM X pins (upd Hc s.heap.objs.size<|.tup [.ref b,kvs[i].2]) it:=f1.same (by rw[zq<|qj itl]; exact f1.1);have SG:bM X pins (upd Hc s.heap.objs.size<|.tup [.ref b,kvs[i].2]) S:=f2.same (by rw[zq<|qj Sl]; exact f2.1);have la:acc.length=i:=by
   have e1:=va.length;have e2:=Paired.length pr;rw[List.length_take]at e2;omega
  show wpAny _ A.in1 (updateSeq S (·.push (.ref s.heap.objs.size)) >>= _) _ _ {s with heap:=h1};refine qa<|wpAny_updateSeq (s:={s with heap:=h1}) Su rfl (qb ⟨plainId_quiet F.plain_extend_loop _,?_⟩) (by rw[List.size_toArray]; omega) (by show(acc.toArray.push _).size<=sizeLine+1; rw[Array.size_push,List.size_toArray]; omega);have JQ:=Ð (Obj.mapSeq (·.push (Value.ref s.heap.objs.size))) Su rfl;have mU:∀ b o,b≠S->h1.get? b=some o->(h1.update S<|Obj.mapSeq (·.push (Value.ref s.heap.objs.size))).get? b=some o:=λb o hb e=>(Ê _ _<|Ne.symm hb).trans e;have I3:Inv X pins σ (upd Hc s.heap.objs.size<|.tup [.ref b,kvs[i].2]) {s with heap:=h1.update S (Obj.mapSeq (·.push (Value.ref s.heap.objs.size)))}:=Inv.aS (s:={s with heap:=h1}) (t':=s.toks) (wr:=[S]) I2 (λb o hb q=>mU b o (by simpa using hb) q) λb hb=>by rw[qq.mp hb]; exact SG
  refine ih (i+1) {s with heap:=h1.update S (Obj.mapSeq (·.push (Value.ref s.heap.objs.size)))} (upd Hc s.heap.objs.size<|.tup [.ref b,kvs[i].2]) (acc++[.ref s.heap.objs.size]) (ys++[.ref s.heap.objs.size]) (c+1) (by omega) dD I3 (λc o h=>ID _ _<|sm _ _ h) f1' SG ?_ (mU _ _ dS<|kk _ _ dI hd) ?_ (va.append<|.cons (show zA (.ref s.heap.objs.size) (.ref s.heap.objs.size) from rfl) .nil) ?_
  .have(y0,y1,y2,y3,y4,y5):=pw
   exact⟨y0,y1,y2,y3,y4,mU _ _ (Ne.symm nS) y5⟩
  .refine JQ.trans ?_
   simp[Obj.mapSeq]
  .rw[List.take_succ,qm dD]
   exact(lQ.same pr ID).snoc ⟨_,b,rfl,zp,aK.kp ID.kp<|aK.kp sm.kp hb⟩
end
section
variable{X:Cx}
noncomputable def Rt(K:qc)(td:TE):TE:=λσ H Q=>td σ H λx H1=>∃ a kvs,x=.ref a/\Rd H1 a (.dT kvs)/\∀ v,H1 v=none->Q (.ref v) (upd H1 v<|yc v a)
theorem LO(I:Inv X pins σ H s)(e:Rd H a (.dT kvs)):
  (a==sysModules)=false/\kvs.length<=sizeLine/\∃ (o:Obj) (es:Array DictEntry) (ep:Nat),s.heap.get? a=some o/\o.ExactDict/\o.data=.dict es ep/\es.size=kvs.length/\∀ (i:Nat) (k:Qa Key) (v:V),kvs[i]?=some (k,v)->∃ (b:Qg) (x:DictEntry),es[i]?=some x/\x.key=.ref b/\aK X.K H b (k.map kV)/\zA v x.val:=by
 have(z,y,xs,r,o',es,ep,h1,h2,h3,h4,h5):=(show zI X.prog X.w X.K H s.heap a (.dT kvs) from BD I.aq e);refine⟨y,z,o',es,ep,h1,h2,h3,?_,λi k v hi=>?_⟩
 .have:=congrArg List.length h4
  rw[Array.length_toList,List.length_map,<-xM r]at this;exact this
 .have(q,hq,r1,r2,r3):=CO r i (k,v) hi
  refine⟨q.2.1,entryOfKey (tupleKind<|zD X.prog X.w) q,?_,rfl,r2,r3⟩;have:es.toList[i]?=some (entryOfKey (tupleKind<|zD X.prog X.w) q):=by rw[h4,List.getElem?_map,hq]; rfl
  simpa using this
theorem zA7{d:Expr}(hd:Wr (PE X d td))(cW:attributeBase d "items" X.env (eval d X.env)=eval d X.env:=by rfl)(cS:(apos.endLine==aM.line)=true:=by rfl):Wr (PE X (.Call (.Attribute d "items" apos) [] [] aM)<|Rt X.K td):=by
 refine⟨?_⟩;intro pins s σ H R I h;refine wpAny_Call_method0_late cW cS<|aw (hd.run pins s σ H _ I h) λv s1 hZ=>?_;have(x,H1,I1,r1,q1):=hZ;have(a,kvs,rfl,e,q):=q1;cases r1;have(kR,_,o,es,ep,ea,xd,dat,hsz,_):=LO I1 e;have yb:kl s1.heap a es ep:=⟨o,ea,xd,dat⟩;refine⟨"dict", "dict.items",F.plainAttrs_dict,F.slot_dict_items,F.type_dict_items,yb.typeIs,λb hb=>?_,Ü rfl<|PySem.evalArgs_none<|OG kR yb ?_⟩
 .cases hb
  exact⟨o,ea,xd.2.1⟩
 have vw:(s1.heap.push {cls:=.type "dict_items",data:=.fields #[.ref a]}).IsItemsView s1.heap.objs.size a:=⟨_,qg _ rfl,rfl,rfl⟩;exact⟨.ref s1.heap.objs.size,_,I1.laid (t':=s1.toks) (o:=yc s1.heap.objs.size a) (λb o z=>qd _ z) (qe _) ⟨vw,⟨_,qg _ rfl⟩,λh1 h2 x k=>let ⟨o,e1,e2⟩:=x; ⟨o,k o e1,e2⟩⟩,rfl,q _<|I1.aq.fresh<|qe _⟩
def Rr(K:qc):Qa V->Hp->VK->Prop:=λxs H Q=>∃ v a kvs,xs=[.ref v]/\H v=some (yc v a)/\Rd H a (.dT kvs)/\∀ H' ys l,cz H H'->H l=none->lQ K H' kvs ys->H' l=none->Q (.ref l) (upd H' l<|.lst ys)
theorem zpz(hK:X.K=K:=by rfl)(hc:X.calm=true:=by rfl):fO X (.type "list") (Rr K):=by
 subst hK;intro pins s σ H xs us Q I r h;have(v,a,kvs,rfl,hv,ha,q):=h;have(u,rfl,ru):=l6 r;cases ru;have(kR,hz,o,es,ep,ea,xd,dat,hsz,ent):=LO I ha;obtain⟨vw,⟨ov,hov⟩,_⟩:=I.aq v _ hv;have vl:v < s.heap.objs.size:=qh hov;have al:a < s.heap.objs.size:=qh ea;refine callType_codes (Q₁:=λobj aB=>obj=.ref s.heap.objs.size/\aB={s with heap:=s.heap.push {cls:=.type "list",data:=.seq #[]}}) F.called_list (F.typeCall_list_1 _) F.entry_list_init
  (code_list_new _ ⟨rfl,rfl⟩) λobj aB t4=>?_
 have(rfl,rfl):=t4;have hS:(s.heap.push {cls:=.type "list",data:=.seq #[]}).get? s.heap.objs.size=some {cls:=.type "list",data:=.seq #[]}:=qg _ rfl;refine⟨⟨_,hS,rfl⟩,F.args_list_init_2 _ _,?_⟩;show wpAny _ _ (do let old <-Builtin.List.listItems (.ref s.heap.objs.size); Builtin.List.listUpdate (.ref s.heap.objs.size) (λ_=>#[]); letGo old.toList.reverse; Builtin.List.listExtendWith (.ref s.heap.objs.size) (.ref v) .none) _ _ _;refine qa ?_;unfold Builtin.List.listItems;refine qa<|wpAny_seqItems (s:={s with heap:=s.heap.push {cls:=.type "list",data:=.seq #[]}}) hS rfl<|qb ?_;show wpAny _ _ (updateSeq s.heap.objs.size (λ_=>#[]) >>= λ_=>letGo (#[]:Array Qc).toList.reverse >>= λ_=>Builtin.List.listExtendWith (.ref s.heap.objs.size) (.ref v) .none) _ _ _;refine qa<|wpAny_updateSeq (s:={s with heap:=s.heap.push {cls:=.type "list",data:=.seq #[]}}) hS rfl ?_;have so:=Ð (Obj.mapSeq λ_=>(#[]:Array Qc)) hS rfl;have pG:∀ b o,s.heap.get? b=some o->((s.heap.push {cls:=.type "list",data:=.seq #[]}).update s.heap.objs.size<|Obj.mapSeq λ_=>(#[]:Array Qc)).get? b=some o :=
  λb o e=>(Ê _ _<|Ne.symm<|qj<|qh e).trans<|qd _ e
 have zz:((s.heap.push {cls:=.type "list",data:=.seq #[]}).update s.heap.objs.size<|Obj.mapSeq λ_=>(#[]:Array Qc)).objs.size=s.heap.objs.size+1:=by rw[Heap.size_update,Heap.size_push]
 refine qa<|wpAny_letGo ?_;show wpAny _ _ _ _ _ {s with heap:=(s.heap.push {cls:=.type "list",data:=.seq #[]}).update s.heap.objs.size (Obj.mapSeq λ_=>(#[]:Array Qc))};generalize (s.heap.push {cls:=.type "list",data:=.seq #[]}).update s.heap.objs.size (Obj.mapSeq λ_=>(#[]:Array Qc))=h2 at so pG zz ⊢;have JQ:h2.get? s.heap.objs.size=some (yr [] _):=so;have vT:Shared.TypeIs {s with heap:=h2} (.ref v) "dict_items":=by
  have(ow,e1,e2,_):=vw;exact⟨ow,pG _ _ e1,e2⟩
 unfold Builtin.List.listExtendWith;refine qa<|wpAny_typeOf vT ?_;have n1:Builtin.List.listSameRef (.ref s.heap.objs.size) (.ref v)=false:=by simp[Builtin.List.listSameRef,Ne.symm<|qj vl]
 have n2:(Value.type "dict_items"==Value.type "list")=false:=by decide
 have n3:(Value.type "dict_items"==Value.type "tuple")=false:=by decide
 simp only[n1,n2,n3,Bool.or_false,Bool.false_eq_true,if_false];have vw2:h2.IsItemsView v a:=by
  have(ow,e1,e2,e3):=vw;exact⟨ow,pG _ _ e1,e2,e3⟩
 refine qa<|OF (s:={s with heap:=h2}) vw2 ⟨o,pG _ _ ea,xd,dat⟩ λh3 hit kk=>?_;have vT3:Shared.TypeIs {s with heap:=h3} (.ref v) "dict_items":=by
  have(ow,e1,e2):=vT;exact⟨ow,kk _ _ e1,e2⟩
 have I3:Inv X pins σ H {s with heap:=h3}:=I.kept (t':=s.toks) λb o z=>kk _ _<|pG _ _ z;have fr:=I.aq.fresh (qe s.heap.objs.size);have fS:bM X pins H s.heap.objs.size:=I.bJ (qe _) fr;have fI:bM X pins H h2.objs.size:=I.bJ (by show s.heap.objs.size<=h2.objs.size; omega) (I.aq.fresh (by show s.heap.objs.size<=h2.objs.size; omega));have nS:s.heap.objs.size≠h2.objs.size:=by omega
 have fin:∀ (h4:Heap) (c:Nat),qH h4 h2.objs.size a 0 es.size ep->(∀ b o,s.heap.get? b=some o->h4.get? b=some o)->h4.get? s.heap.objs.size=some (yr [] c)->codeAny (model X.prog X.w) X.A.in1 (.builtin "list.extend.loop" ⟨[.ref s.heap.objs.size,.ref h2.objs.size,.none],[]⟩) (wants (λr f9=>r=Value.none/\EP X pins σ Q (Value.ref s.heap.objs.size) f9) X.xe) {s with heap:=h4}:=λh4 c st4 k4 hS4=>by
  refine zmD (A:=X.A.in1) (show X.A.in1.handled=none from I.ok.hd hc) nS (qj al) (qj<|ù al (by omega)) hsz hz xd dat ent (λs' H' acc ys c' I' sm' SF hS' va pr=>?_) kvs.length 0 {s with heap:=h4} H [] [] c (by omega) (Å _) (I.kept (t':=s.toks) k4) (λ_ _ z=>z) fI fS st4 (k4 _ _ ea) hS4 .nil .nil;exact⟨rfl,.ref s.heap.objs.size,_,I'.eT (o:=.lst ys) SF I.sz ⟨by rw[<-Paired.length pr]; exact hz,acc,c',va,hS'⟩,rfl,q H' ys _ sm' fr pr SF.1⟩
 have it0:qH h3 h2.objs.size a 0 es.size ep:=⟨_,_,_,_,.inl rfl,hit⟩;refine qa<|wpAny_holding<|zmC vT3 ?_;have JP:=kk _ _ JQ;refine wpAny_ite_split (λ_=>?_) λ_=>qb ⟨plainId_quiet F.plain_extend_loop _,fin h3 _ it0 (λb o z=>kk _ _<|pG _ _ z) JP⟩;refine qa<|wpAny_rule ?_;refine qa ?_;show wpAny _ _ (updateSeq s.heap.objs.size (·.push .none) >>= λ_=>updateSeq s.heap.objs.size (·.pop)) _ _ _;refine qa<|wpAny_updateSeq JP rfl ?_;have si:=Ð (Obj.mapSeq (·.push Value.none)) JP rfl;refine wpAny_updateSeq (hz:=by seq_fits) si rfl ?_;have Ah:=Ð (Obj.mapSeq (·.pop)) si rfl;refine qb ⟨plainId_quiet F.plain_extend_loop _,fin ((h3.update s.heap.objs.size<|Obj.mapSeq λx=>x.push Value.none).update s.heap.objs.size<|Obj.mapSeq λx=>x.pop) _ ?_ (λb o e=>?_) Ah⟩
 .exact⟨_,_,_,_,.inl rfl,(Ê _ _ nS).trans<|(Ê _ _ nS).trans hit⟩
 .have hb:s.heap.objs.size≠b:=Ne.symm (qj<|qh e)
  exact(Ê _ _ hb).trans<|(Ê _ _ hb).trans<|kk _ _<|pG _ _ e
end
section
noncomputable def Fo(u:U):Qb U:=(Kc u).map λkvs=>.l<|kvs.map λp=>.tuple [ic p.1,p.2]
theorem Mz(kp:Kp H H'):∀ {ws:Qa (Qa Key×V)} {kvs:Qa (Qa Key×D)} {ys:Qa V},b7 K H ws kvs->lQ K H' ws ys->aI K H' ys (kvs.map λp=>.tuple [ic p.1,p.2])
 | [],_,_,.nil,.nil=>.nil
 | _::_,_,_,.cons h t,.cons ⟨T,b,e,h1,h2⟩ u=>by
  subst e;rw[h.1]at h2;exact .cons (.tup (.inl h1)<|.cons (.tup h2 xo)<|.cons (DF.kp kp h.2) .nil)<|Mz kp t u
theorem T7{me:ME}(h:VE K te me):VE K (mE (Rr K)<|jO (Rt K te) ip) (gM Fo me):=by
 intro ρ σ H a ah Q r e q;obtain⟨⟨a1,ρ1⟩,e1,e⟩:=zb e;have(u,eu,e):=zb e;have(x,ex,e):=zb e;cases e;have(kvs,ek,rfl):=qr.mp ex;refine h ρ σ H a1 _ _ r e1 λv H1 g1 k1=>?_;have(b,ws,rfl,h1,h2):=U4 (k1.now r g1 eu) ek;refine⟨b,ws,rfl,h1,λpp hp=>?_⟩;have s1:cz H1 (upd H1 pp<|yc pp b):=zB hp _;have jy:Rd (upd H1 pp<|yc pp b) b (.dT ws):=h1.imp (s1 _ _) λ⟨o,z⟩=>⟨o,s1 _ _ z⟩;refine⟨pp,b,ws,rfl,zp,jy,λH2 ys l sm hl pr i8=>?_⟩;have s2:=zB i8 (.lst ys);have II:cz H1 H2:=λc o z=>sm _ _<|s1 _ _ z;have sg:cz H1 (upd H2 l<|.lst ys):=λc o z=>s2 _ _<|II _ _ z;refine q _ _ (g1.trans<|Go.grow g1.rs sg) ⟨⟨l,ys,rfl,zp,(Mz II.kp h2 pr).kp s2.kp⟩,Nw.mono (H':=H1) (λ_=>⟨l,rfl,?_⟩) g1.dm⟩;exact II.dm l i8
end
def Eo(K:qc)(J:It)(fU:St)(g:TG)(tk tv:TE)(D:Qg)(Z:Hp->Prop)(H1:Hp):Prop :=
 ∃ W:Nat->Nat->Hp->Prop,(∃ m,W 0 m H1)/\∀ i m H,W i m H->
  (J.stop i H/\Z H)\/(J.go i H/\∃ N:Hp->Prop,(∀ H',N H'->∃ m',m' < m/\W (i+1) m' H')/\
   ∀ x H',J.tK i H x H'->g x fU H' λdR H3=>tk dR H3 λy H4=>tv dR H4 λv H5=>∃ kvs k p,y=.ref p/\H5 D=some (.dT kvs)/\aK K H5 p (k.map kV)/\kvs.length < sizeLine/\N (upd H5 D<|.dT<|cN kvs k v))
def Fn(K:qc)(J:It)(fU:St)(g:TG)(wi:TI)(j:Nat)(tk tv:TE)(D:Qg)(Z:Hp->Prop)(H1:Hp):Prop :=
 ∃ W:Nat->Nat->Hp->Prop,(∃ m,W 0 m H1)/\∀ i m H,W i m H->
  (J.stop i H/\Z H)\/(J.go i H/\∃ N:Hp->Prop,(∀ H',N H'->∃ m',m' < m/\W (i+1) m' H')/\
   ∀ x H',J.tK i H x H'->g x fU H' λdR H3=>wi dR H3 λJ2 H4=>Eo K J2 (dR.set j none) (hE j) tk tv D N H4)
section
variable{X:Cx}{t1 i1:Expr}{D:Qg}
theorem Zh{J:It}{fp:Qa Qg}(hx:X.xe=λ_ _=>False)(hu:X.A.units+1 < cLine)(hc:X.calm=true)(I:Inv X pins σ H s)(T:Turn X.prog X.w X.K t2 J fp it tn)(st:tn 0 s.heap)(hf:∀ b∈fp,bM X pins H b)
  (hg:PG X t2 g) (hk:PE X kx tk) (hv:PE X vx tv) (gw:GW σ g) (h:Eo X.K J σ g tk tv D Z H) (hR:∀ s' H',Inv X pins σ H' s'->Z H'->R (.ok .next) s'):
  codeAny (model X.prog X.w) X.A (.compStart (gA kx vx t1 i1 t2 i2 scope pos) 1 (.ref it) (.ref D) X.env) R s:=by
 obtain⟨W,⟨m0,w0⟩,turn⟩:=h;have m8:∀ {H':Hp},(∀ b∈fp,H' b=none)->∀ b∈fp,bM X pins H' b:=λ{H'} hn b hb=>(hf b hb).same<|hn b hb;have loop:codeAny (model X.prog X.w) X.A (.compLoop (gA kx vx t1 i1 t2 i2 scope pos) 1 (.ref it) (.ref D) X.env) R s:=by
  refine Zk (λn s'=>∃ i H',Inv X pins σ H' s'/\tn i s'.heap/\(∀ b∈fp,H' b=none)/\W i n H') ?_ m0 ⟨0,H,I,st,λb hb=>(hf b hb).1,w0⟩;rintro n s3 ⟨i,H3,I3,mG,m7,w3⟩ E';rcases turn i n H3 w3 with⟨stop,qz⟩|⟨go,N,hN,step⟩
  .refine aw (T.done X rfl rfl rfl hc i _ s3 _ H3 E' I3 (m8 m7) mG stop) λr s4 hZ=>?_
   have(hr,I4):=hZ;subst hr;exact hR _ _ I4 qz
  .refine aw (T.item X rfl rfl rfl hc i _ s3 _ H3 E' I3 (m8 m7) mG go) λr s4 hZ=>?_
   have(u,hr,h4):=hZ;subst hr;refine aw h4 λ_ s5 hZ=>?_;have(x,H5,I5,r5,y5,jg,ur):=hZ;have uJ:=I5.pinned (m8 ur) (T.obj _ _ jg);have fx:∀ {α:Type} {t:Sem α} {Q Q':α->Qd->Prop} {E:Qc->Qd->Prop} {s:Qd},wpAny (model X.prog X.w) X.A t Q X.xe s->(∀ a s,Q a s->Q' a s)->wpAny (model X.prog X.w) X.A t Q' E s:=λh hQ=>wpAny_mono h hQ λ_ _ z=>by rw[hx]at z; exact z.elim
   refine fx (hg _ s5 _ H5 x u _ uJ r5<|gw _ _ _<|step x H5 y5) λ_ s6 hZ=>?_;have(jI,H6,I6,pe,q6):=hZ;refine fx (hk _ s6 jI H6 _ I6 q6) λkv s8 hZ=>?_;have(y,H8,I8,ry,q8):=hZ;refine fx (hv _ s8 jI H8 _ I8 q8) λvv s9 hZ=>?_;have(v,H9,I9,rv,q9):=hZ;have(kvs,k,p,ey,eD,ep,hz,RM):=q9;subst ey;cases(show kv=Value.ref p from ry);refine zpo hu I9 eD ep hz rv λs10 Ed=>?_;have(m',hm,Ij):=hN _ RM;refine⟨m',hm,i+1,_,?_,T.keep _ _ _ jg λb hb o e=>(Ed.pin (b,o)<|qw _<|qw _<|rH hb e).1,λb hb=>?_,Ij⟩
   .exact(Ed.weak pe.1 pe.2).bT λp hp=>by
     have:=Ed.pin p (qw _<|Í _ hp);exact this
   .have(o,e,d):=T.obj _ _ jg b hb
    exact(Ed.pin (b,o)<|qw _<|qw _<|rH hb e).2.1
 exact Zj loop<|T.self _ _ _ _ _ st loop
end
section
variable{X:Cx}{xs:Qa Str}{ts:Qa Str}{fp:Qa Qg}
theorem Zg{J:It}{D:Qg}{kC:TI}{h1:Heap}{m1:Str->Qb Qc}{t1:Nat}
  (hu:X.A.units+1 < cLine) (hc:X.calm=true) (I:Inv X pins σ H s) (S:qD scope xs) (f:aL X cl xs js) (i7:ts.length=nt) (T:Turn X.prog X.w X.K tg J fp it tn) (st:tn 0 s.heap) (hf:∀ b∈fp,bM X pins H b)
  (hg:∀ C s H ex,PG (zF X scope cl (ts++xs) C s H ex) tg g) (jl:j < nt) (r6:∀ C s H ex,PI (zF X scope cl (ts++xs) C s H ex) t2 i2 kC) (y9:∀ C s H ex,PG (zF X scope cl (ts++xs) C s H ex) t2<|hE j) (lL:∀ env x,foldedSetIterable i2 env x=pure x) (hk:∀ C s H ex,PE (zF X scope cl (ts++xs) C s H ex) kx tk) (hv:∀ C s H ex,PE (zF X scope cl (ts++xs) C s H ex) vx tv)
  (gw:GW (c0 nt js σ) g) (h:Fn X.K J (c0 nt js σ) g kC j tk tv D Z H) (rZ:h1.Ns s.heap.objs.size m1) (old:∀ b o,s.heap.get? b=some o->h1.get? b=some o) (ck:CellsOk h1 (s.heap.objs.size+1) (cellsFrom (s.heap.objs.size+1) scope.names []))
  (hR:∀ (m:Str->Qb Qc) (s':Qd) (H':Hp),Z H'->Inv X pins σ H' s'->s'.heap.Ns s.heap.objs.size m->H' s.heap.objs.size=none->s.heap.objs.size≠X.env.locals->
   (∀ x c,X.env.cells.lookup x=some c->c≠s.heap.objs.size)->X.aX.heap.objs.size<=s.heap.objs.size->(∀ p∈X.pn++pins,p.1≠s.heap.objs.size)->R (.ok .next) s'):
  codeAny (model X.prog X.w) X.A (.compStart (gA kx vx tg iter t2 i2 scope pos) 0 (.ref it) (.ref D)<|compEnvC scope (cellsFrom (s.heap.objs.size+1) scope.names cl) s.heap.objs.size X.env) R {s with heap:=h1,toks:=t1}:=by
 have hl:∀ b∈fp,b < s.heap.objs.size:=λb hb=>by
  have(o,e,_):=T.obj _ _ st b hb;exact qh e
 have J0:Inv (zF X scope cl (ts++xs) s.heap.objs.size s H fp) [] (c0 nt js σ) H {s with heap:=h1,toks:=t1}:=NZ I S f i7 (qe _) hf hl old rZ ck;obtain⟨W,⟨m0,w0⟩,turn⟩:=h;have pw:tn 0 h1:=T.keep _ _ _ st λb hb o e=>old b o e;have m8:∀ {H':Hp},(∀ b∈fp,H' b=none)->∀ b∈fp,bM (zF X scope cl (ts++xs) s.heap.objs.size s H fp) [] H' b:=λ{H'} hn b hb=>by
  refine⟨hn b hb,qj<|hl b hb,λz=>?_,.inl hb,λx c e=>((GA I S f ck (qe _) hf hl (ts:=ts)).Am b hb).2 x c e,λp JC=>by cases JC⟩;rcases qv.mp (I.eV b z)with q|q
  .exact(hf b hb).2.1 q
  .exact(hf b hb).2.2.1 q
 have loop:codeAny (model X.prog X.w) X.A (.compLoop (gA kx vx tg iter t2 i2 scope pos) 0 (.ref it) (.ref D)<|compEnvC scope (cellsFrom (s.heap.objs.size+1) scope.names cl) s.heap.objs.size X.env) R {s with heap:=h1,toks:=t1}:=by
  refine Zi (lL _) (λn s'=>∃ i H',Inv (zF X scope cl (ts++xs) s.heap.objs.size s H fp) [] (c0 nt js σ) H' s'/\tn i s'.heap/\(∀ b∈fp,H' b=none)/\W i n H') ?_ m0 ⟨0,H,J0,pw,λb hb=>(hf b hb).1,w0⟩;rintro n s3 ⟨i,H3,I3,mG,m7,w3⟩ E';rcases turn i n H3 w3 with⟨stop,qz⟩|⟨go,N,hN,step⟩
  .refine aw (T.done (zF X scope cl (ts++xs) s.heap.objs.size s H fp) rfl rfl rfl hc i _ s3 _ H3 E' I3 (m8 m7) mG stop) λr s4 hZ=>?_
   have(hr,I4):=hZ;subst hr;have(m4,n4,_):=I4.loc;refine hR m4 s4 H3 qz (I.sE I4.os I4.base I4.aq I4.bare λb hb=>⟨(hf b hb).2.2.2.1,(hf b hb).2.1,(hf b hb).2.2.2.2.1,λp hp=>(hf b hb).2.2.2.2.2 p hp⟩) n4 I4.free ?_ ?_ I.sz ?_
   .exact λz=>absurd I.lt (by rw[<-z]; exact Ç _)
   .intro x c e z
    have(v,ob,q,_):=I.cell x c e;exact absurd (qh q) (by rw[z]; exact Ç _)
   .intro p hp z
    have q:=(I.pin p hp).1;exact absurd (qh q) (by rw[z]; exact Ç _)
  .refine aw (T.item (zF X scope cl (ts++xs) s.heap.objs.size s H fp) rfl rfl rfl hc i _ s3 _ H3 E' I3 (m8 m7) mG go) λr s4 hZ=>?_
   have(u,hr,h4):=hZ;subst hr;refine aw h4 λ_ s5 hZ=>?_;have(x,H5,I5,r5,y5,jg,ur):=hZ;have uJ:=I5.pinned (m8 ur) (T.obj _ _ jg);refine uV (hg _ _ _ _ _ s5 _ H5 x u _ uJ r5<|gw _ _ _<|step x H5 y5) λ_ s6 hZ=>?_;have(jI,H6,I6,pe,q6):=hZ;have lj:j < jI.length:=by
    rw[<-pe.1];unfold c0;rw[qt,List.length_replicate];omega
   refine uV (r6 _ _ _ _ _ s6 jI H6 _ I6 q6) λx2 s7 hZ=>uV hZ λJk s8 hZ=>?_;have(DM,fp2,tn2,J2,H8,rfl,I8,T2,IB,f8,q8):=hZ;have wj:Wk (jI.set j none) jI:=⟨by simp,λi v e=>by
    by_cases z:j=i
    .subst z
     rw[List.getElem?_set_self lj]at e;cases e
    .rw[qC z]at e
     exact e⟩
   have wc:Wk (c0 nt js σ) (jI.set j none):=⟨by rw[List.length_set]; exact pe.1,λi v e=>by
    have z:j≠i:=by rintro rfl; rw[Ct jl]at e; cases e
    rw[qC z];exact pe.2 i v e⟩
   refine Zh (X:=zF X scope cl (ts++xs) s.heap.objs.size s H fp) rfl hu hc (I8.weak wj.1 wj.2) T2 IB f8 (y9 _ _ _ _) (hk _ _ _ _) (hv _ _ _ _) (λx H Q q=>⟨L9<|ã (by simpa using lj),q⟩) q8 λs9 H9 I9 q9=>⟨rfl,?_⟩;have(m',hm,Ij):=hN _ q9;refine⟨m',hm,i+1,H9,?_,T.keep _ _ _ jg λb hb o e=>(I9.pin (b,o)<|qw _<|qw _<|rH hb e).1,λb hb=>?_,Ij⟩
   .exact(I9.weak wc.1 wc.2).bT λp hp=>by cases hp
   .have(o,e,d):=T.obj _ _ jg b hb
    exact(I9.pin (b,o)<|qw _<|qw _<|rH hb e).2.1
 exact codeAny_compStart_dict loop<|T.self _ _ _ _ _ pw loop
theorem zpA{J:It}{kC:TI}{Z:Qg->Hp->Prop}
  (hu:X.A.units+1 < cLine) (hc:X.calm=true) (I:Inv X pins σ H s) (S:qD scope xs) (f:aL X cl xs js) (i7:ts.length=nt) (T:Turn X.prog X.w X.K tg J fp it tn) (st:tn 0 s.heap) (hf:∀ b∈fp,bM X pins H b)
  (hg:∀ C s H ex,PG (zF X scope cl (ts++xs) C s H ex) tg g) (jl:j < nt) (r6:∀ C s H ex,PI (zF X scope cl (ts++xs) C s H ex) t2 i2 kC) (y9:∀ C s H ex,PG (zF X scope cl (ts++xs) C s H ex) t2<|hE j) (lL:∀ env x,foldedSetIterable i2 env x=pure x) (hk:∀ C s H ex,PE (zF X scope cl (ts++xs) C s H ex) kx tk) (hv:∀ C s H ex,PE (zF X scope cl (ts++xs) C s H ex) vx tv)
  (gw:GW (c0 nt js σ) g) (h:∀ D,H D=none->Fn X.K J (c0 nt js σ) g kC j tk tv D (Z D) (upd H D<|.dT []))
  (JR:∀ (D C:Qg) (m:Str->Qb Qc) (s':Qd) (H':Hp),Z D H'->Inv X pins σ H' s'->s'.heap.Ns C m->H' C=none->C≠X.env.locals->
   (∀ x c,X.env.cells.lookup x=some c->c≠C)->X.aX.heap.objs.size<=C->(∀ p∈X.pn++pins,p.1≠C)->RR (.ref D) C (.ok .next) s'):
  wpAny (model X.prog X.w) X.A newDict (λacc s3=>wpAny (model X.prog X.w) X.A (newFunctionEnv scope X.env.globals cl [] X.env.qual none .none<|some X.env) (λnh s4=>
   codeAny (model X.prog X.w) X.A (.compStart (gA kx vx tg iter t2 i2 scope pos) 0 (.ref it) acc {nh with scope:=relabel scope X.env}) (RR acc nh.locals) s4) E s3) E s:=by
 refine qA<|N1 λh1 rZ jw ck=>?_;dsimp only at rZ jw ck ⊢;have JT:H s.heap.objs.size=none:=I.aq.fresh (qe _);have I1:=I.laid (a:=s.heap.objs.size) (o:=.dT []) (h':=s.heap.push {cls:=.type "dict",data:=.dict #[]}) (t':=s.toks) (λ_ _ q=>qd _ q) (qe _) (Hd s.heap I.D1);have h2:=h _ JT;have ue:∀ b∈fp,b < s.heap.objs.size:=λb hb=>by
  have(o,e,_):=T.obj _ _ st b hb;exact qh e
 have st0:tn 0 (s.heap.push {cls:=.type "dict",data:=.dict #[]}):=T.keep _ _ _ st λb hb o e=>qd _ e;have hf0:∀ b∈fp,bM X pins (upd H s.heap.objs.size<|.dT []) b:=λb hb=>⟨by rw[zq<|qj<|ue b hb]; exact(hf b hb).1,(hf b hb).2⟩;have hp:s.heap.objs.size < (s.heap.push {cls:=.type "dict",data:=.dict #[]}).objs.size:=by rw[Heap.size_push]; exact Ý _
 refine Zg (s:={s with heap:=s.heap.push {cls:=.type "dict",data:=.dict #[]},toks:=s.toks}) hu hc I1 S f i7 T st0 hf0 hg jl r6 y9 lL hk hv gw h2 rZ jw ck λm s' H' z I' hn uq pZ pY om uo=>JR _ _ m s' H' z I' hn uq pZ pY om uo
noncomputable def Rq(K:qc)(wi:TI)(nt:Nat)(js:Qa Nat)(g:TG)(kC:TI)(j:Nat)(tk tv:TE):TE:=λσ H Q=>wi σ H λJ H1=>
 ∀ D,H1 D=none->Fn K J (c0 nt js σ) g kC j tk tv D (λH2=>Q (.ref D) H2) (upd H1 D<|.dT [])
theorem T6{y:Str}{py mJ:Pos}{kC:TI}(hr:aA n X.A)(hi:Wr (PI X tg iter wi))(hg:∀ {C s H ex},Wr<|PG (zF X scope (ik X js) ((fZ tg++fZ t2)++gY X js) C s H ex) tg g)(r6:∀ {C s H ex},Wr<|PI (zF X scope (ik X js) ((fZ tg++fZ t2)++gY X js) C s H ex) t2 i2 kC)(y9:∀ {C s H ex},Wr<|PG (zF X scope (ik X js) ((fZ tg++fZ t2)++gY X js) C s H ex) t2<|hE j)
  (hk:∀ {C s H ex},Wr<|PE (zF X scope (ik X js) ((fZ tg++fZ t2)++gY X js) C s H ex) kx tk) (hv:∀ {C s H ex},Wr<|PE (zF X scope (ik X js) ((fZ tg++fZ t2)++gY X js) C s H ex) vx tv)
  (hN:X.N.Nodup:=by first|assumption|exact xt rfl) (cU:X.N[i]?=some y:=by rfl) (hy:Loc X.env.scope y:=by first|exact Or.inl rfl|exact Or.inr rfl)
  (f:aL X (ik X js) (gY X js) js:=by repeat (first|exact aL.nil|refine aL.cons rfl (by first|exact Or.inl rfl|exact Or.inr rfl) rfl ?_)) (e9:closureFor scope X.env=pure (ik X js):=by rfl) (S:qD scope (gY X js):=by exact⟨rfl,of_decide_eq_true rfl,of_decide_eq_true rfl,of_decide_eq_true rfl,of_decide_eq_true rfl⟩) (i7:(fZ tg++fZ t2).length=nt:=by rfl) (jl:j < nt:=by decide) (lL:∀ env x,foldedSetIterable i2 env x=pure x:=by intro _ _; rfl) (hc:X.calm=true:=by rfl) (gw:∀ σ:St,GW (c0 nt js σ) g:=by first|exact Gz (by decide) | exact FC<|Gy (by repeat (first|exact Hb|refine Hz (by decide) ?_))) (hs:∀ x,foldedSetIterable iter X.env x=pure x:=by intro _; rfl)
  (JA:swapsWith (gA kx vx tg iter t2 i2 scope pos) (some<|.Name y py) mJ.line X.env=pure true:=by rfl)
  (hf:X.fn y=true\/X.env.scope.names.lookup y=some .local:=by first|exact .inl rfl|exact .inr rfl|assumption):
  Wr (PS X (.Assign [.Name y py] (gA kx vx tg iter t2 i2 scope pos) mJ)<|qN (Rq X.K wi nt js g kC j tk tv)<|hE i):=by
 refine⟨?_⟩;intro pins s σ H D I h;rw[exec_Assign_Name_used _ _ _ _ JA];refine qa<|wpAny_standAt<|qa ?_;show wpAny _ X.A (do let _ <-comprehension (gA kx vx tg iter t2 i2 scope pos) scope X.env _ newDict false (eval iter X.env) (some<|assign (.Name y py) X.env)) _ _ s;refine qa<|wpAny_mono (wpAny_comprehension_free (use:=some (assign (.Name y py) X.env)) (Q:=λ_ s'=>SP X pins D .next s') rfl hs e9 S.kind S.names
  (aw (hi.run pins s σ H _ I h) λv s1 h1=>aw h1 λyx s2 h2=>?_)) (λ_ s' hq=>qb<|qb hq) λ_ _ e=>e
 have(it,fp,tn,J,H2,e,I2,T,jh,f2,q):=h2;subst e;refine zpA (RR:=λacc C=>compPost (model X.prog X.w) X.A X.xe (some<|assign (.Name y py) X.env) (λ_ s'=>SP X pins D .next s') acc C) (sL hr) hc I2 S f i7 T jh f2 (λC s H ex=>hg.run) jl (λC s H ex=>r6.run) (λC s H ex=>y9.run) lL (λC s H ex=>hk.run) (λC s H ex=>hv.run) (gw σ) q ?_;intro D' C m s' H' z I' hn uq pZ pY om uo;show wpAny _ _ (assign (.Name y py) X.env<|.ref D') _ _ _;refine wpAny_assign_Name<|HD (v:=.ref D') I' hN cU hy rfl (λya Kg hZ=>?_) hf;have(a,sb,ha):=hZ;have ne:C≠a:=by
  rcases ha with rfl|ha
  .exact pZ
  .exact(pY _ _ ha).symm
 exact⟨m,hn.sameBut sb ne,λh' lM=>⟨_,_,Kg.turned (it:=C) (λb o hb e=>lM.extBut b o hb e) uq pZ (.inr om) pY uo,z⟩⟩
end
noncomputable def rS(j:Nat)(mk mv:ME):Qa D->En->Qa (Qa Key×D)->Qb (Qa (Qa Key×D)×En)
 | [],ρ,ys=>some (ys,ρ)
 | d::ds,ρ,ys=>if ys.length < sizeLine then(mk<|ρ.set j<|some<|.d d).bind λp=>(mv p.2).bind λq=>(p.1.get q.2).bind λuk=>(q.1.get q.2).bind λuv=>uk.da.bind λdk=>uv.da.bind λdv=>(cn dk).bind λk=>
   rS j mk mv ds (q.2.set j none) (dN ys k dv)else none
noncomputable def qG(nt j:Nat)(mg:MG)(mi:MI)(mk mv:ME):Qa D->En->Qa (Qa Key×D)->Qb (Qa (Qa Key×D)×En)
 | [],ρ,ys=>some (ys,ρ)
 | d::ds,ρ,ys=>(mg d ρ).bind λρ1=>(mi ρ1).bind λp=>(rS j mk mv p.1 (p.2.set j none) ys).bind λq=>qG nt j mg mi mk mv ds (reset nt q.2) q.1
noncomputable def Em(mi:MI)(nt:Nat)(js:Qa Nat)(mg:MG)(v8:MI)(j:Nat)(mk mv:ME):ME:=λρ=>(mi ρ).bind λp=>(qG nt j mg v8 mk mv p.1 (dM nt js p.2) []).bind λq=>some (.u<|.t q.1,back js (q.2.drop nt) p.2)
structure iO (nt:Nat) (ρ ah:En):Prop where
 len:ah.length=ρ.length
 own:∀ (i:Nat) (u:U),nt<=i->ah[i]?=some (some u)->u.own=true->∃ w,ρ[i]?=some (some w)/\w.own=true
 live:∀ (i:Nat) (u:U),nt<=i->ρ[i]?=some (some u)->∃ w,ah[i]?=some (some w)
section
variable{ρ ah cc ρb:En}{fU:St}{A:Qg->Prop}{D:Qg}
theorem c9.IF(s:c9 ρ ah):iO nt ρ ah:=⟨s.len,λi u _ e o=>s.own i u e o,λi u _ e=>s.live i u e⟩
theorem iO.trans(a:iO nt ρ ah)(b:iO nt ah cc):iO nt ρ cc:=⟨b.len.trans a.len,λi u h e o=>let ⟨w,e',o'⟩:=b.own i u h e o; a.own i w h e' o',λi u h e=>let ⟨w,e'⟩:=a.live i u h e; b.live i w h e'⟩
theorem iO.set(a:iO nt ρ ah)(h:j < nt)(x:Qb U):iO nt ρ (ah.set j x):=
 ⟨by rw[List.length_set]; exact a.len,λi u hi e o=>a.own i u hi (by rw[qC (by omega)]at e; exact e) o,λi u hi e=>by rw[qC (by omega)]; exact a.live i u hi e⟩
theorem Sn.unset(s:Sn K pn ai A H₀ ao ρ σ H)(hj:j∉pn):Sn K pn ai A H₀ ao (ρ.set j none) (σ.set j none) H:=by
 have inv:∀ (i:Nat) (w:U),(ρ.set j none)[i]?=some (some w)->j≠i/\ρ[i]?=some (some w):=λi w e=>by
  by_cases z:j=i
  .subst z
   have hl:=(qk.mp e).1;rw[List.length_set]at hl;rw[List.getElem?_set_self hl]at e;cases e
  .rw[qC z]at e
   exact⟨z,e⟩
 refine⟨⟨by rw[List.length_set,List.length_set]; exact s.rs.len,λi w e=>?_,λi k x y ei ek ox oy es=>?_⟩,s.fr,λi w a e o es=>?_,λi hi=>?_,s.dm,s.kp⟩
 .have(z,e):=inv i w e
  rw[qC z];exact s.rs.rep i w e
 .have(z1,ei):=inv i x ei
  have(z2,ek):=inv k y ek;rw[qC z1,qC z2]at es;exact s.rs.apart i k x y ei ek ox oy es
 .have(z,e):=inv i w e
  rw[qC z]at es;exact s.ow i w a e o es
 .rw[qC (by rintro rfl; exact hj hi)]
  exact s.pin i hi
theorem T5{J:It}{ds:Qa L2.D}{j7 jb:En}{c7:St}{H3:Hp}{mk mv:ME}{ws:Qa (Qa Key×V)}{kd zs:Qa (Qa Key×L2.D)}(hk:VE K tk mk)(hv:VE K tv mv)(jl:j < nt)(hA:A D)
  (yg:∀ {ρ:En} {σ:St} {H:Hp},Sn K (d9 nt n) fU A H₀ ao ρ σ H->iO nt ρb ρ->¬Ow ρ σ D) (run:Gd K J H3 ds) (s3:Sn K (d9 nt n) fU A H₀ ao jb c7 H3) (IG:iO nt ρb jb) (hw:H3 D=some (.dT ws)) (dy:b7 K H3 ws kd)
  (el:rS j mk mv ds (jb.set j none) kd=some (zs,j7)) (hZ:∀ H' tL,Sn K (d9 nt n) fU A H₀ ao j7 (c7.set j none) H'->iO nt ρb j7->H' D=some (.dT tL)->b7 K H' tL zs->Z H'):Eo K J (c7.set j none) (hE j) tk tv D Z H3:=by
 have hj:j∉d9 nt n:=λz=>by have:=(rC.mp z).1; omega
 refine⟨λi m H'=>m=ds.length - i/\i<=ds.length/\∃ b9 kd ws,Sn K (d9 nt n) fU A H₀ ao b9 (c7.set j none) H'/\iO nt ρb b9/\Kp H3 H'/\H' D=some (.dT ws)/\b7 K H' ws kd/\rS j mk mv (ds.drop i) b9 kd=some (zs,j7),
  ⟨ds.length,by simp,Å _,_,kd,ws,s3.unset hj,IG.set jl none,Kp.refl _,hw,dy,el⟩,?_⟩
 rintro i m H' ⟨rfl,cU,b9,kd,ws,s',sh,yt,hw,dy,el⟩
 by_cases dD:i < ds.length
 .rw[List.drop_eq_getElem_cons dD]at el
  unfold rS at el;split at el
  .rename_i hz
   obtain⟨⟨a4,cM⟩,e5,el⟩:=zb el;obtain⟨⟨a5,TM⟩,e6,el⟩:=zb el;have(uk,ek,el):=zb el;have(uv,ev,el):=zb el;have(dk,J6,uB):=zb el;have(dv,J5,J1):=zb uB;have(ks,J3,el4):=zb J1;cases mf J6;cases mf J5;have(go,yl):=(run H' yt i).1 ds[i] (qm dD);refine .inr ⟨go,λH2=>∃ b9 kd ws,Sn K (d9 nt n) fU A H₀ ao b9 (c7.set j none) H2/\iO nt ρb b9/\Kp H3 H2/\H2 D=some (.dT ws)/\b7 K H2 ws kd/\rS j mk mv (ds.drop<|i+1) b9 kd=some (zs,j7),
    λH2 z=>⟨ds.length - (i+1),by omega,rfl,dD,z⟩,λx H2 y=>?_⟩
   have(sm,dx):=yl x H2 y;have s2:=s'.go (Go.grow s'.rs sm);have s4:=s2.set (i:=j) (v:=x) (u:=.d ds[i]) hj dx (λo=>by cases o);have vW:=sh.set jl (some<|.d ds[i]);show tk _ H2 _;refine hk _ _ H2 a4 cM _ s4.rs e5 λkx H4 g4 k4=>hv cM _ H4 a5 TM _ g4.rs e6 λvx H5 g5 k5=>?_;have pk:=k4.later s4.rs g4 g5 ek;have pv:=k5.now g4.rs g5 ev;have(p,rfl,hp):=tj pk J3;have Aj:=g4.trans g5;have Jw:H5 D=some (.dT ws):=Aj.fr D _ (sm _ _ hw) (yg s4 vW);have s6:=(s4.go Aj).unset hj;rw[List.set_set,List.set_set]at s6;have RF:=(vW.trans Aj.shr.IF).set jl none;have SN:b7 K H5 ws kd:=(dy.kp sm.kp).kp (Aj.kp s4.rs);have kp:=iz Jw trivial (.dT<|cN ws ks vx);exact⟨ws,ks,p,rfl,Jw,hp,by rw[SN.len]; exact hz,_,_,_,s6.free Jw trivial (yg s6 RF) hA,RF,((yt.trans sm.kp).trans<|Aj.kp s4.rs).trans kp,zp,(SN.kp kp).put ks<|DF.kp kp pv,el4⟩
  .cases el
 .have ei:i=ds.length:=by omega
  subst ei;rw[List.drop_length]at el;cases el;exact .inl ⟨(run H' yt _).2 rfl,hZ _ _ s' sh hw dy⟩
end
section
variable{ρ ah ρ1:En}{H1:Hp}
theorem zBa{kC:TI}{mi v8:MI}{mg:MG}{mk mv:ME}(hi:VI K wi mi)(hg:uH K (d9 nt js.length) g mg)(r6:VI K kC v8)(hk:VE K tk mk)(hv:VE K tv mv)(jl:j < nt:=by decide)(nd:js.Nodup:=by decide):
  VE K (Rq K wi nt js g kC j tk tv) (Em mi nt js mg v8 j mk mv):=by
 intro ρ σ H a ah Q r e q;obtain⟨⟨ds,ρ1⟩,e1,e⟩:=zb e;obtain⟨⟨zs,j7⟩,e2,e⟩:=zb e;cases e;refine hi ρ σ H ds ρ1 _ r e1 λJ H1 g1 run=>λD hD=>?_;have sm0:=zB hD (.dT []);have s0:=MW (nt:=nt) (js:=js) g1.rs nd;have s1:Sn K (d9 nt js.length) (c0 nt js σ) (λa=>ki ρ1 σ js a\/a=D) (upd H1 D<|.dT []) H1 (dM nt js ρ1) (c0 nt js σ) (upd H1 D<|.dT []):=by
  have s2:=s0.go (Go.grow s0.rs sm0);refine⟨s2.rs,λa o h n=>h,λi u a e o es=>?_,s2.pin,λa h=>h,s2.kp⟩;rcases s2.ow i u a e o es with z|z
  .exact .inl ⟨z.1,.inl z.2⟩
  .exact absurd z (by
    have(v,ev,p):=s0.rs.rep i u e;rw[es]at ev;cases ev;have(b,c,eb,hb,_):=p.own o;cases eb;rw[hb];exact λz=>nomatch z)
 have yg:∀ {oB:En} {wB:St} {Hx:Hp},Sn K (d9 nt js.length) (c0 nt js σ) (λa=>ki ρ1 σ js a\/a=D) (upd H1 D<|.dT []) H1 oB wB Hx->iO nt (dM nt js ρ1) oB->¬Ow oB wB D:=λs sh=>KC g1.rs hD s sh.own;refine⟨λi m H'=>m=ds.length - i/\i<=ds.length/\∃ b9 kd ws,Sn K (d9 nt js.length) (c0 nt js σ) (λa=>ki ρ1 σ js a\/a=D) (upd H1 D<|.dT []) H1 b9 (c0 nt js σ) H'/\c9 (dM nt js ρ1) b9/\(∀ k,k < nt->b9[k]?=some none)/\H' D=some (.dT ws)/\b7 K H' ws kd/\qG nt j mg v8 mk mv (ds.drop i) b9 kd=some (zs,j7),
  ⟨ds.length,by simp,Å _,_,[],[],s1,c9.refl _,λk hk=>Gb hk,zp,.nil,e2⟩,?_⟩
 rintro i m H' ⟨rfl,cU,b9,kd,ws,s',sh,lo,hw,dy,el⟩;have lc:b9.length=nt+js.length:=by rw[sh.len,xr]
 by_cases dD:i < ds.length
 .rw[List.drop_eq_getElem_cons dD]at el
  unfold qG at el;have(au,e3,el):=zb el;obtain⟨⟨uE,jb⟩,e4,el⟩:=zb el;obtain⟨⟨ys,cM⟩,e5,el⟩:=zb el;have(l2,p2):=hg.ok _ _ _ e3;have(go,yl):=(run H' s'.kp i).1 ds[i] (qm dD);refine .inr ⟨go,λH2=>∃ de DJ tL,Sn K (d9 nt js.length) (c0 nt js σ) (λa=>ki ρ1 σ js a\/a=D) (upd H1 D<|.dT []) H1 de (c0 nt js σ) H2/\c9 (dM nt js ρ1) de/\(∀ k,k < nt->de[k]?=some none)/\H2 D=some (.dT tL)/\b7 K H2 tL DJ/\qG nt j mg v8 mk mv (ds.drop<|i+1) de DJ=some (zs,j7),
   λH2 ⟨de,DJ,tL,z⟩=>⟨ds.length - (i+1),by omega,rfl,dD,de,DJ,tL,z⟩,λx H2 y=>?_⟩
  have(sm,dx):=yl x H2 y;have s2:=s'.go (Go.grow s'.rs sm);refine hg.run _ _ _ _ b9 _ H2 x ds[i] au _ s2 dx e3 λc7 s3=>?_;have IE:iO nt b9 au:=⟨l2,λk u hk ek ou=>by
    have lk:k < nt+js.length:=by rw[<-l2.trans lc]; exact(qk.mp ek).1
    rw[p2 k<|rC.mpr ⟨hk,lk⟩]at ek;exact⟨u,ek,ou⟩,λk u hk ek=>by
    have lk:k < nt+js.length:=by rw[<-lc]; exact(qk.mp ek).1
    rw[<-p2 k (rC.mpr ⟨hk,lk⟩)]at ek;exact⟨u,ek⟩⟩
  have RG:iO nt (dM nt js ρ1) au:=sh.IF.trans IE;have R7:H2 D=some (.dT ws):=sm _ _ hw;refine r6 au c7 H2 uE jb _ s3.rs e4 λJ2 H3 g3 IJ=>?_;have IG:=RG.trans g3.shr.IF;refine T5 (ρb:=dM nt js ρ1) hk hv jl (.inr rfl) yg IJ (s3.go g3) IG (g3.fr D _ R7<|yg s3 RG) ((dy.kp sm.kp).kp<|g3.kp s3.rs) e5 λH4 ws4 s4 vW hw4 dy4=>?_;have l4:cM.length=nt+js.length:=by rw[vW.len,xr]
  have shx:iO nt b9 cM->c9 b9 (L2.reset nt cM):=λz=>c9.jj lc lo l4 (λk u hk ek ou=>z.own k u hk ek ou) λk u hk ek=>z.live k u hk ek;have sh5:c9 (dM nt js ρ1) (L2.reset nt cM):=c9.jj (by rw[xr]) (λk hk=>Gb hk) l4 (λk u hk ek ou=>vW.own k u hk ek ou) λk u hk ek=>vW.live k u hk ek;exact⟨_,_,ws4,s4.reset l4 Gc,sh5,λk hk=>Hl hk,hw4,dy4,el⟩
 .have ei:i=ds.length:=by omega
  subst ei;rw[List.drop_length]at el;cases el;refine .inl ⟨(run H' s'.kp _).2 rfl,?_⟩;have nE:¬Ow j7 (c0 nt js σ) D:=KC g1.rs hD s' λk u _ ek ou=>sh.own k u ek ou;have s4:Sn K (d9 nt js.length) (c0 nt js σ) (ki ρ1 σ js) H1 H1 j7 (c0 nt js σ) H':=by
   refine⟨s'.rs,λa o h n=>?_,λi u a e o es=>?_,s'.pin,λa h=>?_,s'.kp⟩
   .have ne:a≠D:=by rintro rfl; rw[hD]at h; cases h
    exact s'.fr a o (by rw[zq ne]; exact h) λz=>z.elim n ne
   .rcases s'.ow i u a e o es with⟨z1,z2|z2⟩|z
    .exact .inl ⟨z1,z2⟩
    .subst z2; exact absurd ⟨i,u,e,o,es⟩ nE
    .by_cases ea:a=D
     .subst ea; exact .inr hD
     .rw[zq ea]at z; exact .inr z
   .have z:=s'.dm a h
    by_cases ea:a=D
    .subst ea; exact hD
    .rw[zq ea]at z; exact z
  have gb:=Sn.comp_back g1.rs s4 lc sh;exact q _ _ (g1.trans gb) ⟨⟨D,ws,rfl,hw,dy⟩,λ_=>⟨D,rfl,g1.dm _ hD⟩⟩
end
section
variable{z TI TO i1 i2 t1 t2:Qg}{k:Nat}{xs ys:Array Qc}{x y a b:Qc}
end
section
end
section
variable{X:Cx}{k:Nat}
end
section
variable{X:Cx}{k:Nat}
end
noncomputable def lsN:U->Qb (Qa D)
 | .l xs=>some xs
 | .d (.list xs)=>some xs
 | _=>none
section
variable{ρ:En}
theorem LN{u:U}{xs:Qa D}(r:Rs K ρ σ H)(hi:i∉js)(e:ρ[i]?=some (some u))(h:lsN u=some xs):∃ a us,σ[i]?=some (some<|.ref a)/\(∀ H2,Kp H H2->wA (ki ρ σ js) H H2->aO K H2 a us)/\aO K H a us/\aI K H us xs:=by
 have(v,ev,p):=r.rep i _ e;unfold lsN at h;split at h
 .cases h
  have(a,us,rfl,h1,h2):=p;exact⟨a,us,ev,λH2 _ f=>aO.of<|f a _ h1<|Zc r hi e rfl ev,aO.of h1,h2⟩
 .cases h
  have(b,vy,rfl,h2,d2):=DF.lst_inv p;exact⟨b,vy,ev,λH2 k _=>(PL.kp k h2).sq,PL.sq h2,d2⟩
 .cases h
end
theorem zpB(l:Qg)(items:Array Qc)(n:Nat)(sl:Array (Qb Qc))(b:Qg)(aQ:Array Qc)(n2:Nat)(nY:Array (Qb Qc))(hc0:items.size+aQ.size<=sizeLine):
  Meets (Builtin.«list.__add__» ⟨[.ref l,.ref b],[]⟩) (λ_ R s=>s.heap.get? l=some {cls:=.type "list",dict:=none,data:=.seq items n,slots:=sl}/\s.heap.get? b=some {cls:=.type "list",dict:=none,data:=.seq aQ n2,slots:=nY}/\R (.ok<|.ret<|.ref s.heap.objs.size) {s with heap:=s.heap.push {cls:=.type "list",data:=.seq (items++aQ)},toks:=s.toks}):=
 .of_wp λprog w A R s h=>by
  have(hp,g,d,tk,os):=s;have(hl,hb,h):=h;have f1:=PySem.AutoSeq1.idx_int;have f2:=PySem.AutoSeq1.sub_tuple_tuple;have f3:=PySem.AutoSeq1.sub_list_list;have f4:=PySem.AutoSeq1.sub_tuple_list;have f5:=PySem.AutoSeq1.sub_list_tuple
  wp_walk using PySem.AutoSeq1.wpAny_loadPart' hl,PySem.AutoSeq1.wpAny_loadPart' hb
  exact⟨_,rfl,h⟩
section
variable{X:Cx}
noncomputable def KQ(K:qc):R2:=λx y H Q=>∃ l b xs zs,x=.ref l/\y=.ref b/\aO K H l xs/\aO K H b zs/\xs.length+zs.length<=sizeLine/\∀ p,H p=none->Q (.ref p) (upd H p<|.lst<|xs++zs)
theorem My(hK:X.K=K:=by rfl):bQ X (binaryOp .Add) (KQ K):=by
 subst hK;intro pins s σ H x y v u Q I rx ry h;have(l,b,xs,zs,rfl,rfl,hH,hB,hz,q):=h;cases rx;cases ry;obtain⟨af,r,⟨o,n,e,c1,d1,t1⟩,_⟩:=I.list hH;obtain⟨bP,r2,⟨o2,n2,e2,c2,d2,t2⟩,_⟩:=I.list hB;have(cls,dd,data,sl):=o;have(Aw,uF,data2,nY):=o2;simp only at c1 d1 t1 c2 d2 t2;subst c1 d1 t1 c2 d2 t2;have l1:=r.length;have l2:=r2.length;have ea:af.toArray++bP.toArray=(af++bP).toArray:=by simp
 refine concat_meets ⟨_,e,rfl⟩ ⟨_,e2,rfl⟩ noFill_list_add seq_list_add F.slot_list_add F.entry_list_add (F.args_list_add_2 _ _) (zpB l af.toArray n sl b bP.toArray n2 nY (by rw[List.size_toArray,List.size_toArray]; omega)) ⟨e,e2,?_⟩;rw[ea];exact⟨.ref _,_,I.yq (t':=s.toks) (r.append r2) (by rw[qt]; omega),rfl,q _ I.fresh⟩
end
noncomputable def Bk(u w:U):Qb U:=(lsN u).bind λxs=>(lsN w).bind λys=>if xs.length+ys.length<=sizeLine then some (.l<|xs++ys)else none
theorem LM{v:V}{u:U}{xs:Qa D}(p:Rp K H v u)(h:lsN u=some xs):∃ a us,v=.ref a/\aO K H a us/\aI K H us xs:=by
 unfold lsN at h;split at h
 .cases h
  have(a,us,rfl,h1,h2):=p;exact⟨a,us,rfl,aO.of h1,h2⟩
 .cases h
  have(b,vy,rfl,h2,d2):=DF.lst_inv p;exact⟨b,vy,rfl,PL.sq h2,d2⟩
 .cases h
theorem Mx:VO K (KQ K) Bk:=by
 intro x y a b u H Q ha hb e q;have(xs,ex,e):=zb e;have(ys,ey,e):=zb e;split at e
 .rename_i hz
  cases e;have(p,us,rfl,h1,h2):=LM ha ex;have(p',fP,rfl,jy,ie):=LM hb ey;refine⟨p,p',us,fP,rfl,rfl,h1,jy,by rw[h2.len,ie.len]; exact hz,λr hr=>?_⟩;have s:=zB hr (.lst<|us++fP);exact q _ _ s ⟨r,_,rfl,zp,(h2.app ie).kp s.kp⟩ λ_=>⟨r,rfl,hr⟩
 .cases e
section
variable{ρ:En}{mi me mk mv:ME}{QE:Ar×En->Prop}{QS:Fl->Prop}{QI:Qa D×En->Prop}
theorem Zf:Wo (Ep i mi me ρ) QS=Wo (ρ[i]?).join (Co (λ_=>(mi ρ).bind λp=>(p.1.get p.2).bind λy=>y.da.bind λy=>(qI y).bind λn=>(p.2[i]?).join.bind λw=>w.lK.bind λxs=>if 0<=n then(br xs n).bind λx=>(qI x).bind λa=>
 (me p.2).bind λq=>(q.1.get q.2).bind λz=>z.da.bind λz=>(qI z).bind λb=>(q.2[i]?).join.bind λw=>w.lK.bind λys=>(eI ys.length n).bind λj=>some (.nx<|q.2.set i<|some<|.l<|ys.set j<|.int<|a+b)else none) ⟨0⟩ QS):=by
 show Wo (Option.bind _ _) QS=_;rw[zo]
theorem Ze:Wo (AM i me ρ) QE=Wo (ρ[i]?).join (Co (λw=>w.lK.bind λ_=>(me ρ).bind λp=>(p.1.get p.2).bind λu=>u.lK.bind λzs=>(p.2[i]?).join.bind λw=>w.lK.bind λxs=>if xs.length+zs.length<=sizeLine then some (.u<|.d .none,p.2.set i<|some<|.l<|xs++zs)else none) ⟨0⟩ QE):=by
 show Wo (Option.bind _ _) QE=_;rw[zo]
theorem ZA{xs:Qa D}:U.lK (.l xs)=some xs:=rfl
theorem zor{n:Int}:qI (.int n)=some n:=rfl
noncomputable def Jg(kvs:Qa (Qa Key×D))(k:Qa Key)(x:D)(i:Nat)(ρ:En):Ar×En:=match gg kvs k with
 | some v=>(.u<|.d v,ρ)
 | none=>(.u<|.d x,ρ.set i<|some<|.t<|dN kvs k x)
noncomputable def RI(w:U):Qb (Qa<|Qa Key×D):=match w with
 | .t kvs=>some kvs
 | _=>none
theorem Zz{kvs:Qa (Qa Key×D)}:RI (.t kvs)=some kvs:=rfl
theorem zos:Wo (Bm i mk mv ρ) QE=Wo (ρ[i]?).join (Co (λw0=>if qX w0=true then(mk ρ).bind λp=>(mv p.2).bind λq=>(p.1.get q.2).bind λy=>y.da.bind λy=>(q.1.get q.2).bind λx=>x.da.bind λx=>(cn y).bind λk=>(q.2[i]?).join.bind λw=>(RI w).bind λkvs=>if kvs.length < sizeLine then some (Jg kvs k x i q.2)else none else none) ⟨0⟩ QE):=by
 rw[<-zo];congr 1;unfold Bm;congr 1
 funext w0
 congr 1;congr 1
 funext p
 congr 1
 funext q
 congr 1
 funext y
 congr 1
 funext y
 congr 1
 funext x
 congr 1
 funext x
 congr 1
 funext k
 congr 1
 funext w
 cases w<;>rfl
theorem zot{m1:MI}{mg:MG}{m2:MI}:Wo (Em m1 nt js mg m2 j mk mv ρ) QE=Wo (m1 ρ) (Co (λp=>(qG nt j mg m2 mk mv p.1 (dM nt js p.2) []).bind λq=>some (.u<|.t q.1,back js (q.2.drop nt) p.2)) ⟨0⟩ QE):=by
 show Wo (Option.bind _ _) QE=_;rw[zo]
theorem zou{kvs:Qa (Qa Key×D)}:Fo (.t kvs)=some (.l<|kvs.map λp=>.tuple [ic p.1,p.2]):=rfl
end
noncomputable def hW(rs ps:Qa D)(pl ml:Qa (Qa K3×D)):U:=.o "NewRows" [("rows",.l rs),("paper",.l ps),("places",.x pl),("mark_places",.x ml)]
section
variable{rs ps xs:Qa D}{pl ml kv:Qa (Qa K3×D)}
theorem Zy:U.o "NewRows" [("rows",.l rs),("paper",.l ps),("places",.x pl),("mark_places",.x ml)]=hW rs ps pl ml:=rfl
theorem Zx:U.tW "NewRows" "add_new" (hW rs ps pl ml)=true:=rfl
theorem Zw:U.tW "NewRows" "shared" (hW rs ps pl ml)=true:=rfl
theorem Zv:U.tW "NewRows" "sum_row" (hW rs ps pl ml)=true:=rfl
theorem Zu:U.fl "NewRows" "rows" (hW rs ps pl ml)=some rs:=rfl
theorem Zt:U.fl "NewRows" "paper" (hW rs ps pl ml)=some ps:=rfl
theorem Zr:U.fp "NewRows" "rows" (hW rs ps pl ml)=some (.l rs):=rfl
theorem Yz:U.fp "NewRows" "places" (hW rs ps pl ml)=some (.x pl):=rfl
theorem Yy:U.aP "rows" (.l xs) (hW rs ps pl ml)=hW xs ps pl ml:=rfl
theorem Yx:U.aP "paper" (.l xs) (hW rs ps pl ml)=hW rs xs pl ml:=rfl
theorem Yw:U.aP "places" (.x kv) (hW rs ps pl ml)=hW rs ps kv ml:=rfl
theorem Yv:PU.ls (.l xs)=some xs:=rfl
theorem Yu:PU.xs (.x kv)=some kv:=rfl
end
noncomputable def Fc(i j:Nat):MI:=λρ=>(ρ[i]?).join.bind λu=>(ρ[j]?).join.bind λw=>(lsN u).bind λxs=>(lsN w).bind λys=>if xs.length=ys.length then some (lh xs ys,ρ)else none
section
variable{ρ:En}{QI:Qa D×En->Prop}
theorem WY(hi:i∉js:=by decide)(hj:j∉js:=by decide):Ti K js (Fm K<|jO (dW i)<|jO (dW j) ip) (Fc i j):=by
 intro ρ σ H ds ah R r e q;have(u,eu,e):=zb e;have(w,ew,e):=zb e;have(xs,ex,e):=zb e;have(ys,ey,e):=zb e;split at e
 rotate_left
 .cases e
 rename_i hl;cases e;have(b,vy,eb,kb,sb,db):=LN r hj (NN ew) ey;have(a,vx,ea,ka,sa,da):=LN r hi (NN eu) ex;refine⟨_,ea,_,eb,a,b,rfl,⟨_,sa⟩,⟨_,sb⟩,q _ _ (Go.refl r) λH2 kk f i=>⟨λd ed=>?_,λei=>⟨vx,vy,ka _ kk f,kb _ kk f,by rw[CI _ _ hl]at ei; rw[da.len]; exact ei.symm⟩⟩⟩;have(x,y,ex,ey,rfl):=Cn ed;have(v,ev,dv):=(da.kp kk).get ex;have(w,ew,dw):=(db.kp kk).get ey;refine⟨⟨vx,vy,v,w,ka _ kk f,kb _ kk f,ev,ew⟩,λz H' y=>?_⟩;have(T,nT,rfl,y):=y;cases y vx vy v w (ka _ kk f) (kb _ kk f) ev ew;have sm:=zB nT (.tup [v,w]);exact⟨sm,.tup (.inl zp)<|.cons (dv.kp sm.kp)<|.cons (dw.kp sm.kp) .nil⟩
theorem zov:Wo (Fc i j ρ) QI=Wo (ρ[i]?).join (Co (λu=>(ρ[j]?).join.bind λw=>(lsN u).bind λxs=>(lsN w).bind λys=>if xs.length=ys.length then some (lh xs ys,ρ)else none) ⟨0⟩ QI):=by
 show Wo (Option.bind _ _) QI=_;rw[zo]
end
end L2
namespace K57
open PySem L2
noncomputable def top(i:Nat):Stmt:=PySem.Challenge.pw_undivide_k57_whole_none_cheaper.main.body.getD i (.Pass ⟨0,0,0,0⟩)
noncomputable def Bj(j:Nat):Stmt->Stmt
 | .ClassDef _ _ _ b _ _ _ _ _ _ _=>b.getD j default
 | s=>s
abbrev Q4:Stmt:=Bj 1 (top 4)
abbrev Ql:Stmt:=Bj 2 (top 4)
abbrev Q3:Stmt:=Bj 5 (top 4)
abbrev Qv:Stmt:=top 10
abbrev PK:Stmt:=top 11
abbrev Qu:Stmt:=top 12
abbrev Mw:Stmt:=top 13
abbrev P4:Stmt:=top 14
abbrev Pf:Stmt:=top 15
abbrev OD:Stmt:=top 16
abbrev Q2:Stmt:=top 17
abbrev OW:Stmt:=top 18
abbrev OV:Stmt:=top 19
abbrev Pe:Stmt:=top 21
abbrev Pn:Stmt:=top 22
abbrev Qk:Stmt:=top 23
abbrev Pl:Stmt:=top 24
abbrev P2:Stmt:=top 25
abbrev Qj:Stmt:=top 26
abbrev Q1:Stmt:=top 27
abbrev QH:Stmt:=top 28
abbrev QD:Stmt:=top 29
abbrev Q0:Stmt:=top 30
abbrev Q7:Stmt:=top 31
abbrev Pd:Stmt:=top 32
abbrev P1:Stmt:=top 33
abbrev QZ:Stmt:=top 34
abbrev Qt:Stmt:=top 35
abbrev PJ:Stmt:=top 36
abbrev PH:Stmt:=top 37
abbrev PF:Stmt:=top 38
abbrev Qx:Stmt:=top 39
abbrev P0:Stmt:=top 40
abbrev KP:Stmt:=top 41
noncomputable def Rb:Qa (Str×Qa Str):=[]
abbrev Rz:Qa Str:=[]
abbrev CS:Stmt:=Bj 0 (top 4)
section
variable{base:Heap}{f:Qg}
end
section
def Bs(Z:Zs):Prop:=Bl Z.mg ["len", "tuple", "zip", "enumerate", "range", "list", "int", "abs", "dict", "sorted", "sum", "isinstance", "max", "min"]/\XT Z.K Rb Rz/\(∃ T,Z.mg "POWERS"=some (.int 5 T))/\(∃ G,Z.mg "NOUGHT"=some (.ref G)/\nu Z.K G [0,1])/\(∃ G,Z.mg "ONE"=some (.ref G)/\nu Z.K G [1,1])/\(∃ G,Z.mg "NUMBER"=some (.ref G)/\nu Z.K G [1,0,0,0,0])/\(∃ G,Z.mg "LETTER"=some (.ref G)/\nu Z.K G [0,1,0,0,0])/\(∃ G,Z.mg "SIGNS"=some (.ref G)/\nu Z.K G [0,1,-1])/\OB Z.K "NewRows" ["rows", "paper", "places", "mark_places"]/\qE Z.P Z.w Z.K Z.mg Z.base "NewRows" [("rows",.l []),("paper",.l []),("places",.x []),("mark_places",.x [])]
variable{Z:Zs}
noncomputable def QY:MS:=(zG (iV<|Bn "NewRows" 0 "rows"<|zj 1)
  (zG (iV<|Bn "NewRows" 0 "paper"<|mC .none)
  (bg<|aj nG (Ft "NewRows" 0 "rows")<|mC<|.int 1)))
noncomputable def zT:FD:=bF 2 [0,1] QY
abbrev Dk(Z:Zs):Prop:=Z.M "NewRows" "add_new" 1 ["self", "row"] 2 zT
theorem zfS(B:Bs Z)(A:sG Z.K "NewRows" "add_new" "NewRows.add_new" Q4):Dk Z :=
 by have(hB,_,_,_,_,_,_,_,aC,_):=B; exact Er A ["self", "row"] λnd hr=>⟨_,(zx (lC<|LI aC.at Gg)
 (zx (lC<|LI aC.at<|zBK λ_=>.aF)
 (zW<|zr rm (Vj aC.at) zk))),
 (aG (lG<|K4 È Î Ï (K5 rE) (sR aa)<|ae aa zi)
 (aG (lG<|K4 È Î Ï (K5 rE) (sR aa)<|ae lZ zi)
 (zE<|zO<|zU rn (fW (MC ko) Ñ<|ae (sR aa) zi) zm)))⟩
noncomputable def Qs:MS:=(zG (aV 1<|aj nB (dU<|zf (mC<|.int 0) zt)<|mC<|.int 5)
  (zG (cO (bU nF<|zj 0) (fJ 2<|zQ (zy 2)<|zQ (zy 3) gq) (zG (cv (pJ (mB<|aj DW (aj bo (zj 2)<|mC<|.int 0)<|mC<|.int 5)<|mB<|aj (cu true) (aj bo (zj 3)<|mC<|.int 1)<|mC<|.int 1) (bg<|mC .none) du)
  (oR 1 (aj bo (zj 3)<|mC<|.int 0)<|aj bo (zj 2)<|mC<|.int 0)))
  (bg<|cF (f1 rl)<|zf (zj 1) zt)))
noncomputable def CZ:FD:=bF 4 [0] Qs
abbrev Qr(Z:Zs):Prop:=Z.C "whole_numbers" 1 ["poly"] 1 CZ
theorem zg0(B:Bs Z)(A:cx Z "whole_numbers" Qv):Qr Z :=
 by obtain⟨hB,_,⟨eK,aT⟩,_⟩:=B; exact cJ A ["poly", "told", "powers", "f"] λnd hr=>⟨_,(zx (zP<|zr BZ (fN<|zd zk zn) zk)
 (zx (dP (sX ze) (ix<|zH zw<|zH zw iy) (zx (dr (u6 (zL<|zr Lf (zr zJ ze zk) zk)<|zL<|zr oP (zr zJ ze zk) zk) (zW nL) fL)
 (xp (zr zJ ze zk)<|zr zJ ze zk)))
 (zW<|dg vJ<|zd ze zn))),
 (aG (zV<|zU BX (eF<|ae zm zi)<|nP (v:=.int 5) rfl aT ⟨_,rfl⟩)
 (aG (dQ (sY aa) (iA<|bR zu<|bR zu iB) (aG (dh (uT<|u9 (zY Lq (zZ bz aa zm)<|nP (v:=.int 5) rfl aT ⟨_,rfl⟩)<|xg<|zY oK (zZ bz aa zm) zm) (zE<|zO lZ) fM)
 (zE<|wQ (zZ bz aa zm)<|xf aa (zZ bz aa zm) vN)))
 (zE<|zO<|lU tI Ì<|ae aa zi)))⟩
noncomputable def PD:MS:=(bg<|cF (f1 rl)<|zf (hX (AY<|zf (zj 0)<|zf (zj 1) zt) 2 [2] (fJ 2<|zQ (zy 0)<|zQ (zy 1) gq) lr<|aj gX (zj 0)<|aj g9 (zj 2)<|zj 1) zt)
noncomputable def xV:FD:=bF 3 [0,1,2] PD
abbrev HQ(Z:Zs):Prop:=Z.C "numbers_plus" 1 ["one", "other", "sign"] 3 xV
theorem zhV(B:Bs Z)(A:cx Z "numbers_plus" PK):HQ Z :=
 have hB:=B.1; cJ A ["one", "other", "sign"] λnd hr=>⟨_,(zW<|dg vJ<|zd (kf (LY<|zd ze<|zd ze zn) (ix<|zH zw<|zH zw iy) oQ<|zr iZ ze<|zr jT ze ze) zn),
 (zE<|zO<|lU tI Ì<|ae (lz (LZ<|ae aa<|ae aa zi) (iA<|bR zu<|bR zu iB) oU<|zU i0 aa<|zU jR aa aa) zi)⟩
noncomputable def Qq:MS:=(zG (aV 2<|aj nB (dU<|zf (mC<|.int 0) zt)<|mC<|.int 5)
  (zG (cO (wZ<|zf (zj 0) zt) (fJ 2<|zQ (zy 3)<|zQ (zy 4) gq)<|cO (nK<|zf (aj nG (mC<|.int 5)<|zj 3) zt) (zy 5)<|Ep 2 (aj gX (zj 3)<|zj 5)<|aj g9 (zj 4)<|aj bo (zj 1)<|zj 5)
  (bg<|cF (f1 rl)<|zf (zj 2) zt)))
noncomputable def CY:FD:=bF 6 [0,1] Qq
abbrev Qp(Z:Zs):Prop:=Z.C "numbers_times" 1 ["one", "other"] 2 CY
theorem zg1(B:Bs Z)(A:cx Z "numbers_times" Qu):Qp Z :=
 by obtain⟨hB,_,⟨eK,aT⟩,_⟩:=B; exact cJ A ["one", "other", "told", "power", "many", "more"] λnd hr=>⟨_,(zx (zP<|zr BZ (fN<|zd zk zn) zk)
 (zx (dP (MY<|zd ze zn) (ix<|zH zw<|zH zw iy)<|dP (tu<|zd (zr rm zk ze) zn) zw<|zA5 (zr iZ ze ze)<|zr jT ze<|zr zJ ze ze)
 (zW<|dg vJ<|zd ze zn))),
 (aG (zV<|zU BX (eF<|ae zm zi)<|nP (v:=.int 5) rfl aT ⟨_,rfl⟩)
 (aG (dQ (NC<|ae aa zi) (iA<|bR zu<|bR zu iB)<|zE<|dQ (tH<|ae (zU rn (nP (v:=.int 5) rfl aT ⟨_,rfl⟩) aa) zi) zu<|zE<|T8 aa (zU i0 aa aa)<|zU jR aa<|zZ bz aa aa)
 (zE<|zO<|lU tI Ì<|ae aa zi)))⟩
noncomputable def Pc:MS:=(zG (aV 2<|aj gX (aj g9 (mC<|.int 7919)<|zj 1)<|mC<|.int 11)
  (zG (cv (mB<|aj DU (zj 1)<|cF (f1 iT)<|zf (zj 0) zt) (aV 2<|aj cy (zj 0)<|zj 1)<|cv (mB<|aj Al (cF (f1 iT)<|zf (zj 0) zt)<|mC<|.int 0) (aV 2<|aj gX (zj 2)<|aj g9 (aj lx (aj cy (zj 0)<|aj lx (zj 1)<|cF (f1 iT)<|zf (zj 0) zt)<|mC<|.int 2147483629)<|mC<|.int 69623) du)
  (zG (aV 3<|aj gX (aj lx (aj gX (aj g9 (aj lx (zj 2)<|mC<|.int 2147483629)<|mC<|.int 48271)<|aj g9 (mC<|.int 40692)<|zj 1)<|mC<|.int 2147483629)<|mC<|.int 1)
  (bg<|dU<|zf (aj g9 (zj 2)<|cF (f1 w5)<|zf (aj DW (zj 2)<|aj AU (mC<|.int 10)<|mC<|.int 18) zt)<|zf (zj 3) zt))))
noncomputable def CU:FD:=bF 4 [0,1] Pc
abbrev Pb(Z:Zs):Prop:=Z.C "_law_box" 1 ["_law_script", "_law_k"] 2 CU
theorem zls(B:Bs Z)(A:cx Z "_law_box" Pe):Pb Z :=
 have hB:=B.1; cJ A ["_law_script", "_law_k", "_law_cell", "_law_seed"] λnd hr=>⟨_,(zx (zP<|zr iZ (zr jT zk ze) zk)
 (zx (BN<|dr (zL<|zr Lg ze<|dg lE<|zd ze zn) (zP<|zr eA ze ze)<|dr (zL<|zr FK (dg lE<|zd ze zn) zk) (zP<|zr iZ ze<|zr jT (zr oS (zr eA ze<|zr oS ze<|dg lE<|zd ze zn) zk) zk) fL)
 (zx (zP<|zr iZ (zr oS (zr iZ (zr jT (zr oS ze zk) zk)<|zr jT zk ze) zk) zk)
 (zW<|fN<|zd (zr jT ze<|dg Ny<|zd (zr Lf ze<|zr Wa zk zk) zn)<|zd ze zn)))),
 (aG (zV<|zU i0 (zU jR zm aa) zm)
 (aG (BU<|dh (zY Lr aa<|fW ko Ñ<|ae aa zi) (zE<|zV<|zZ eE aa aa)<|zE<|dh (zY FL (fW ko Ñ<|ae aa zi) zm) (zE<|zV<|zU i0 aa<|zU jR (zU oW (zZ eE aa<|zU oW aa<|fW ko Ñ<|ae aa zi) zm) zm) fM)
 (aG (zV<|zU i0 (zU oW (zU i0 (zU jR (zU oW aa zm) zm)<|zU jR zm aa) zm) zm)
 (zE<|zO<|eF<|ae (zU jR aa<|lU OC PyProof.Rows.boot_int<|ae (oJ Lq aa<|zU V4 zm zm) zi)<|ae aa zi))))⟩
noncomputable def Pk:MS:=(zG (cv (mB<|aj Al (aj cy (zj 0)<|mC<|.int 0)<|mC<|.int 0) (zG (aV 2<|aj lx (aj cy (zj 0)<|mC<|.int 0)<|zj 1)
  (zG (oR 0 (aj w6 (aj cy (zj 0)<|mC<|.int 0)<|zj 1)<|mC<|.int 0)
  (bg<|zj 2))) du)
  (zG (aV 3<|aj lx (aj g9 (aj cy (zj 0)<|mC<|.int 1)<|mC<|.int 69623)<|mC<|.int 2147483647)
  (zG (oR 0 (aj gX (aj lx (aj gX (aj g9 (zj 3)<|mC<|.int 48271)<|mC<|.int 30103)<|mC<|.int 2147483629)<|mC<|.int 1)<|mC<|.int 1)
  (bg<|aj lx (aj w6 (aj gX (aj g9 (zj 3)<|mC<|.int 2147483647)<|aj cy (zj 0)<|mC<|.int 1)<|mC<|.int 8191)<|zj 1))))
noncomputable def rG:FD:=bF 4 [0,1] Pk
abbrev HN(Z:Zs):Prop:=Z.C "_law_take" 1 ["_law_box_here", "_law_wide"] 2 rG
theorem zj0(B:Bs Z)(A:cx Z "_law_take" Pn):HN Z :=
 have hB:=B.1; cJ A ["_law_box_here", "_law_wide", "_law_digit", "_law_one"] λnd hr=>⟨_,(zx (dr (zL<|zr FK (zr eA ze zk) zk) (zx (zP<|zr oS (zr eA ze zk) ze)
 (zx (xp (zr NA (zr eA ze zk) ze) zk)
 (zW ze))) fL)
 (zx (zP<|zr oS (zr jT (zr eA ze zk) zk) zk)
 (zx (xp (zr iZ (zr oS (zr iZ (zr jT ze zk) zk) zk) zk) zk)
 (zW<|zr oS (zr NA (zr iZ (zr jT ze zk)<|zr eA ze zk) zk) ze)))),
 (aG (dh (zY FL (zZ eE aa zm) zm) (aG (zV<|zU oW (zZ eE aa zm) aa)
 (aG (wQ (zU NX (zZ eE aa zm) aa)<|xf aa zm vN)
 (zE<|zO aa))) fM)
 (aG (zV<|zU oW (zU jR (zZ eE aa zm) zm) zm)
 (aG (wQ (zU i0 (zU oW (zU i0 (zU jR aa zm) zm) zm) zm)<|xf aa zm vN)
 (zE<|zO<|zU oW (zU NX (zU i0 (zU jR aa zm)<|zZ eE aa zm) zm) aa))))⟩
noncomputable def Qi:MS:=(zG (aV 2<|cF (f1 wH)<|zf (zj 0) zt)
  (zG (aV 3<|cF (f1 wH)<|zf (zj 1) zt)
  (zG (vp (mB<|aj (cu true) (zj 3)<|mC<|.int 0)<|AR 2 3<|zf (zj 3)<|zf (aj lx (zj 2)<|zj 3) zt)
  (zG (cv (mB<|aj DU (zj 1)<|mC<|.int 0) (aV 2<|aj nG (mC<|.int 0)<|zj 2) du)
  (bg<|bq<|zf (aj BH (zj 0)<|zj 2)<|zf (aj BH (zj 1)<|zj 2) zt)))))
noncomputable def xT:FD:=bF 4 [0,1] Qi
abbrev HU(Z:Zs):Prop:=Z.C "_law_fraction" 1 ["_law_n", "_law_d"] 2 xT
theorem zgo(B:Bs Z)(A:cx Z "_law_fraction" Qk):HU Z :=
 have hB:=B.1; cJ A ["_law_n", "_law_d", "_law_one", "_law_two"] λnd hr=>⟨_,(zx (zP<|dg Mj<|zd ze zn)
 (zx (zP<|dg Mj<|zd ze zn)
 (zx (XA (zL<|zr oP ze zk)<|UA<|zd ze<|zd (zr oS ze ze) zn)
 (zx (BN<|dr (zL<|zr Lg ze zk) (zP<|zr rm zk ze) fL)
 (zW<|bG<|zd (zr Nz ze ze)<|zd (zr Nz ze ze) zn))))),
 (aG (zV<|fW N5 PyProof.Rows.boot_abs<|ae aa zi)
 (aG (zV<|fW N5 PyProof.Rows.boot_abs<|ae aa zi)
 (aG (XG (zY oK aa zm)<|zE<|Ug<|ae aa<|ae (zU oW aa aa) zi)
 (aG (BU<|dh (zY Lr aa zm) (zE<|zV<|zU rn zm aa) fM)
 (zE<|zO<|bH<|ae (zU NW aa aa)<|ae (zU NW aa aa) zi)))))⟩
noncomputable def QC:MS:=(zG (cv (mB<|aj (cu false) (aj bo (zj 1)<|mC<|.int 0)<|mC<|.int 0) (bg rh) du)
  (bg<|xj (aj qW (bq<|zf (mC<|.int 0) zt)<|zj 0)<|zj 1))
noncomputable def vR:FD:=bF 2 [0,1] QC
abbrev QB(Z:Zs):Prop:=Z.C "_law_poly_number" 1 ["_law_many", "_law_f"] 2 vR
theorem zeI(B:Bs Z)(A:cx Z "_law_poly_number" QH):QB Z :=
 have hB:=B.1; cJ A ["_law_many", "_law_f"] λnd hr=>⟨_,(zx (dr (zL<|zr jS (zr zJ ze zk) zk) (zW xE) fL)
 (zW<|GG (zr Cj (bG<|zd zk zn) ze) ze)),
 (aG (dh (zY jP (zZ bz aa zm) zm) (zE<|zO vI) fM)
 (zE<|zO<|GH hr (zU (Ck _ rfl) (bH<|ae zm zi) aa) aa))⟩
noncomputable def Qz:MS:=(bg<|xj (aj oY (aj oY (aj qW (bq<|zf (mC<|.int 0) zt)<|zj 1)<|bq<|zf (mC<|.int 1) zt)<|aj qW (bq<|zf (mC<|.int 0) zt)<|aj nG (aj nG (zj 0)<|zj 1)<|mC<|.int 1)<|bq<|zf (mC<|.int 1)<|zf (mC<|.int 1) zt)
noncomputable def xR:FD:=bF 2 [0,1] Qz
abbrev Qy(Z:Zs):Prop:=Z.C "_law_poly_letter" 1 ["_law_many", "_law_k"] 2 xR
theorem zeJ(B:Bs Z)(A:cx Z "_law_poly_letter" QD):Qy Z :=
 have hB:=B.1; cJ A ["_law_many", "_law_k"] λnd hr=>⟨_,(zW<|GG (zr CK (zr CK (zr Cj (bG<|zd zk zn) ze)<|bG<|zd zk zn)<|zr Cj (bG<|zd zk zn)<|zr rm (zr rm ze ze) zk)<|bG<|zd zk<|zd zk zn),
 (zE<|zO<|GH hr (zU CL (zU CL (zU (Ck _ rfl) (bH<|ae zm zi) aa)<|bH<|ae zm zi)<|zU (Ck _ rfl) (bH<|ae zm zi)<|zU rn (zU rn aa aa) zm)<|bH<|ae zm<|ae zm zi)⟩
noncomputable def QW:MS:=(bg<|cF (f1 rl)<|zf (cF (f1 F8)<|zf (hX (bU oN<|bL<|zj 0) 1 [0] (zy 0) lr<|bq<|zf (zj 0)<|zf (iq (zj 1)<|zj 0) zt) zt) zt)
noncomputable def Dj:FD:=bF 1 [0] QW
abbrev QV(Z:Zs):Prop:=Z.C "_law_poly_told" 1 ["_law_sums"] 1 Dj
theorem zfU(B:Bs Z)(A:cx Z "_law_poly_told" Q0):QV Z :=
 have hB:=B.1; cJ A ["_law_sums"] λnd hr=>⟨_,(zW<|dg vJ<|zd (dg zqS<|zd (kf (vH<|cf ze) zw oQ<|bG<|zd ze<|zd (lB ze ze) zn) zn) zn),
 (zE<|zO<|lU tI Ì<|ae (fW (zl5 _ rfl hr) PyProof.Rows.boot_sorted<|ae (lz (vK<|cj aa) zu oU<|bH<|ae aa<|ae (lF hr aa aa) zi) zi) zi)⟩
noncomputable def Q6:MS:=(zG (aV 2<|aj nB (dU<|zf (mC<|.int 0) zt)<|mC<|.int 5)
  (zG (cO (nK<|zf (mC<|.int 5) zt) (zy 3)<|cO (nK<|zf (aj nG (mC<|.int 5)<|zj 3) zt) (zy 4)<|oR 2 (aj gX (aj cy (zj 2)<|aj gX (zj 3)<|zj 4)<|aj g9 (aj cy (zj 0)<|zj 3)<|aj cy (zj 1)<|zj 4)<|aj gX (zj 3)<|zj 4)
  (lY [0,1] 2)))
noncomputable def xS:FD:=bF 5 [0,1] Q6
abbrev HX(Z:Zs):Prop:=Z.C "_law_list_product" 1 ["_law_one", "_law_other"] 2 xS
theorem zen(B:Bs Z)(A:cx Z "_law_list_product" Q7):HX Z :=
 have hB:=B.1; cJ A ["_law_one", "_law_other", "_law_found", "_law_k", "_law_j"] λnd hr=>⟨_,(zx (zP<|zr BZ (fN<|zd zk zn) zk)
 (zx (dP (tu<|zd zk zn) zw<|dP (tu<|zd (zr rm zk ze) zn) zw<|xp (zr iZ (zr eA ze<|zr iZ ze ze)<|zr jT (zr eA ze ze)<|zr eA ze ze)<|zr iZ ze ze)
 vq)),
 (aG (zV<|zU BX (eF<|ae zm zi) zm)
 (aG (dQ (tH<|ae zm zi) zu<|zE<|dQ (tH<|ae (zU rn zm aa) zi) zu<|zE<|wQ (zU i0 (zZ eE aa<|zU i0 aa aa)<|zU jR (zZ eE aa aa)<|zZ eE aa aa)<|xf aa (zU i0 aa aa) vN)
 (zE<|zO aa)))⟩
noncomputable def Pa:MS:=(bg<|hX (nK<|zf (mC<|.int 5) zt) 1 [1,0] (zy 0) lr<|cF (f1 E4)<|zf (hX (Fc 2 1) 2 [0] (fJ 2<|zQ (zy 0)<|zQ (zy 1) gq) lr<|aj g9 (zj 0)<|aj cy (zj 1)<|zj 2) zt)
noncomputable def vO:FD:=bF 2 [0,1] Pa
abbrev O9(Z:Zs):Prop:=Z.C "_law_mix" 1 ["_law_signs_here", "_law_things"] 2 vO
theorem zlt(B:Bs Z)(A:cx Z "_law_mix" Pd):O9 Z :=
 have hB:=B.1; cJ A ["_law_signs_here", "_law_things"] λnd hr=>⟨_,(zW<|kf (tu<|zd zk zn) zw oQ<|dg V7<|zd (Lb WY (ix<|zH zw<|zH zw iy) oQ<|zr jT ze<|zr eA ze ze) zn),
 (zE<|zO<|lz (tH<|ae zm zi) zu oU<|fW (Ue _ rfl rfl) PyProof.Rows.boot_sum<|ae (lz (Nh<|ae aa<|ae aa zi) (iA<|bR zu<|bR zu iB) oU<|zU jR aa<|zZ eE aa aa) zi)⟩
noncomputable def Qo:MS:=(bg<|cF (f1 rl)<|zf (hX (F1<|zf (bL<|zj 0) zt) 2 [] (fJ 2<|zQ (zy 0)<|zQ (zy 1) gq) (mB<|aj (cu true) (zj 1)<|mC<|.int 0)<|bq<|zf (bq<|zf (zj 0) zt)<|zf (bq<|zf (zj 1)<|zf (mC<|.int 1) zt) zt) zt)
noncomputable def CW:FD:=bF 1 [0] Qo
abbrev Qn(Z:Zs):Prop:=Z.C "_law_poly_of" 1 ["_law_numbers"] 1 CW
theorem zg2(B:Bs Z)(A:cx Z "_law_poly_of" Qt):Qn Z :=
 have hB:=B.1; cJ A ["_law_numbers"] λnd hr=>⟨_,(zW<|dg vJ<|zd (kf (zr8<|zd (cf ze) zn) (ix<|zH zw<|zH zw iy) (zL<|zr oP ze zk)<|bG<|zd (bG<|zd ze zn)<|zd (bG<|zd ze<|zd zk zn) zn) zn),
 (zE<|zO<|lU tI Ì<|ae (lz (zr7<|ae (cj aa) zi) (iA<|bR zu<|bR zu iB) (xb<|zY oK aa zm)<|bH<|ae (bH<|ae aa zi)<|ae (bH<|ae aa<|ae zm zi) zi) zi)⟩
noncomputable def Pz:MS:=(bg<|sP (aj (lO false) (aj cy (zj 0)<|mC<|.int 0)<|bq<|zf (gM kj<|mC<|.int 1)<|zf (mC<|.int 0)<|zf (mC<|.int 1) zt)<|sP (aj (lO false) (aj cy (zj 0)<|mC<|.int 1)<|bq<|zf (gM kj<|mC<|.int 1)<|zf (mC<|.int 0)<|zf (mC<|.int 1) zt)<|aj (jL false) (yk uL (zj 0) (wY<|mC<|.int 2) xC)<|aj nB (dU<|zf (mC<|.int 0) zt)<|mC<|.int 3)
noncomputable def tJ:FD:=bF 1 [0] Pz
abbrev HP(Z:Zs):Prop:=Z.C "_law_is_mix" 1 ["_law_left"] 1 tJ
theorem zhW(B:Bs Z)(A:cx Z "_law_is_mix" PJ):HP Z :=
 have hB:=B.1; cJ A ["_law_left"] λnd hr=>⟨_,(zW<|BP (zr (Bt false) (zr eA ze zk)<|bG<|zd (nH nO zk)<|zd zk<|zd zk zn)<|BP (zr (Bt false) (zr eA ze zk)<|bG<|zd (nH nO zk)<|zd zk<|zd zk zn)<|zr (BQ false) (Kw MR ze (MU zk) MV)<|zr BZ (fN<|zd zk zn) zk),
 (zE<|zO<|BA (oJ Ko (zZ eE aa zm) (bH<|ae (nI nR zm)<|ae zm<|ae zm zi) rfl)<|BA (oJ Ko (zZ eE aa zm) (bH<|ae (nI nR zm)<|ae zm<|ae zm zi) rfl)<|FA<|oJ (Mn _ rfl hr) (NF Lj aa (NG zm) Nl)<|zU BX (eF<|ae zm zi) zm)⟩
noncomputable def P9:MS:=(zG (cv (mB<|EF true (zj 1) "NewRows" 0 "places") (Ff "NewRows" 0 "places" (zj 1)<|lg "NewRows" 0 "add_new" zT<|zf (zj 1) zt) du)
  (bg<|Fg "NewRows" 0 "places"<|zj 1))
noncomputable def vP:FD:=bF 2 [0,1] P9
abbrev HS(Z:Zs):Prop:=Z.M "NewRows" "shared" 2 ["self", "row"] 2 vP
theorem zgp(B:Bs Z)(A:sG Z.K "NewRows" "shared" "NewRows.shared" Ql)(c0:Dk Z):HS Z :=
 by have(hB,_,_,_,_,_,_,_,aC,_):=B; exact Er A ["self", "row"] λnd hr=>⟨_,(zx (BN<|dr (jK<|Zq aC.at ze) (Vl aC.at Gg<|qU 2<|zd ze zn) fL)
 (zW<|Vm aC.at Gg)),
 (aG (BU<|dh (zpu hr aa<|sR aa) (zE<|U0 hr (sR aa) aa<|rg c0 aa<|ae aa zi) fM)
 (zE<|zO<|U1 hr (sR aa) aa))⟩
noncomputable def Mv:MS:=(zG (aV 1<|xj (aj qW (bq<|zf (mC<|.int 0) zt)<|mC<|.int 5)<|bq zt)
  (zG (cO (bU jJ<|bL<|zj 0) (zy 2)<|aV 1<|Em (bU sW<|bL<|zj 1) 3 [2] (fJ 2<|zQ (zy 0)<|zQ (zy 1) gq) (bU nF<|mC<|.tuple [.int 0,.int 1,.int (-1)]) 2 (aR xV<|zf (zj 0)<|zf (zj 3)<|zf (zj 2) zt)<|aj oY (zj 1)<|bq<|zf (zj 2) zt)
  (lY [0] 1)))
noncomputable def tD:FD:=bF 3 [0] Mv
abbrev Cg(Z:Zs):Prop:=Z.C "mixes" 2 ["things"] 1 tD
theorem WX(B:Bs Z)(A:cx Z "mixes" Mw)(c0:HQ Z):Cg Z :=
 by obtain⟨hB,_,⟨eK,aT⟩,_,_,_,_,⟨fF,gS,fe⟩,_⟩:=B; exact cJ A ["things", "told", "thing"] λnd hr=>⟨_,(zx (zP<|GG (zr Cj (bG<|zd zk zn) zk)<|bG zn)
 (zx (dP (mm<|cf ze) zw<|zP<|zBa (CJ<|cf ze) (ix<|zH zw<|zH zw iy) (sX<|xi fe) (zK 3<|zd ze<|zd ze<|zd ze zn)<|zr CK ze<|bG<|zd ze zn)
 vq)),
 (aG (zV<|GH hr (zU (Ck _ rfl) (bH<|ae zm zi)<|nP (v:=.int 5) rfl aT ⟨_,rfl⟩)<|bH zi)
 (aG (dQ (l7<|cj aa) zu<|zE<|T6 hr (Cp<|cj aa) (iA<|bR zu<|bR zu iB) (sY<|nP (v:=.ref fF) rfl gS rfl) zu (zN<|ae aa<|ae aa<|ae aa zi)<|zU CL aa<|bH<|ae aa zi)
 (zE<|zO aa)))⟩
noncomputable def Pj:MS:=(bg<|aR xT<|zf (aj gX (aj sO (aj bo (zj 0)<|mC<|.int 0)<|aj bo (zj 1)<|mC<|.int 1)<|aj sO (aj bo (zj 1)<|mC<|.int 0)<|aj bo (zj 0)<|mC<|.int 1)<|zf (aj sO (aj bo (zj 0)<|mC<|.int 1)<|aj bo (zj 1)<|mC<|.int 1) zt)
noncomputable def xP:FD:=bF 2 [0,1] Pj
abbrev HM(Z:Zs):Prop:=Z.C "_law_plus" 2 ["_law_one", "_law_other"] 2 xP
theorem zj1(B:Bs Z)(A:cx Z "_law_plus" Pl)(c0:HU Z):HM Z :=
 have hB:=B.1; cJ A ["_law_one", "_law_other"] λnd hr=>⟨_,(zW<|zK 2<|zd (zr iZ (zr xx (zr zJ ze zk)<|zr zJ ze zk)<|zr xx (zr zJ ze zk)<|zr zJ ze zk)<|zd (zr xx (zr zJ ze zk)<|zr zJ ze zk) zn),
 (zE<|zO<|zN<|ae (zU i0 (zU xA (zZ bz aa zm)<|zZ bz aa zm)<|zU xA (zZ bz aa zm)<|zZ bz aa zm)<|ae (zU xA (zZ bz aa zm)<|zZ bz aa zm) zi)⟩
noncomputable def PZ:MS:=(bg<|aR xT<|zf (aj sO (aj bo (zj 0)<|mC<|.int 0)<|aj bo (zj 1)<|mC<|.int 0)<|zf (aj sO (aj bo (zj 0)<|mC<|.int 1)<|aj bo (zj 1)<|mC<|.int 1) zt)
noncomputable def Dd:FD:=bF 2 [0,1] PZ
abbrev PY(Z:Zs):Prop:=Z.C "_law_times" 2 ["_law_one", "_law_other"] 2 Dd
theorem zio(B:Bs Z)(A:cx Z "_law_times" P2)(c0:HU Z):PY Z :=
 have hB:=B.1; cJ A ["_law_one", "_law_other"] λnd hr=>⟨_,(zW<|zK 2<|zd (zr xx (zr zJ ze zk)<|zr zJ ze zk)<|zd (zr xx (zr zJ ze zk)<|zr zJ ze zk) zn),
 (zE<|zO<|zN<|ae (zU xA (zZ bz aa zm)<|zZ bz aa zm)<|ae (zU xA (zZ bz aa zm)<|zZ bz aa zm) zi)⟩
noncomputable def PV:MS:=(bg<|hX (nK<|zf (zj 1) zt) 1 [0] (zy 0) lr<|aj cy (dU<|zf (mC<|.int 0)<|zf (mC<|.int 1)<|zf (mC<|.int 1)<|zf (gM kj<|mC<|.int 1) zt)<|aR rG<|zf (zj 1)<|zf (mC<|.int 4) zt)
noncomputable def vS:FD:=bF 2 [0,1] PV
abbrev PR(Z:Zs):Prop:=Z.C "_law_signs" 2 ["_law_box_here", "_law_many"] 2 vS
theorem ziq(B:Bs Z)(A:cx Z "_law_signs" P1)(c0:HN Z):PR Z :=
 have hB:=B.1; cJ A ["_law_box_here", "_law_many"] λnd hr=>⟨_,(zW<|kf (tu<|zd ze zn) zw oQ<|zr eA (fN<|zd zk<|zd zk<|zd zk<|zd (nH nO zk) zn)<|zK 2<|zd ze<|zd zk zn),
 (zE<|zO<|lz (tH<|ae aa zi) zu oU<|zZ eE (eF<|ae zm<|ae zm<|ae zm<|ae (nI nR zm) zi)<|zN<|ae aa<|ae zm zi)⟩
noncomputable def Py:MS:=(zG (aV 0<|dU zt)
  (zG (cO (bU nF<|bq<|zf (gM kj<|mC<|.int 1)<|zf (mC<|.int 0)<|zf (mC<|.int 1) zt) (zy 1)<|iV<|AM 0<|hX (bU nF<|bq<|zf (gM kj<|mC<|.int 1)<|zf (mC<|.int 0)<|zf (mC<|.int 1) zt) 1 [1] (zy 0) lr<|bL<|dU<|zf (zj 1)<|zf (zj 0)<|zf (mC<|.int 0)<|zf (mC<|.int 0)<|zf (mC<|.int 0) zt)
  (zG (aV 2<|dU zt)
  (zG (cO (bU jJ<|bL<|zj 0) (zy 3)<|iV<|AM 2<|hX (bU jJ<|bL<|zj 0) 1 [3] (zy 0) lr<|bL<|aR xS<|zf (zj 1)<|zf (zj 0) zt)
  (lY [] 2)))))
noncomputable def De:FD:=bF 4 [] Py
abbrev Px(Z:Zs):Prop:=Z.C "_law_firsts" 2 [] 0 De
theorem zhX(B:Bs Z)(A:cx Z "_law_firsts" PH)(c0:HX Z):Px Z :=
 have hB:=B.1; cJ A ["_law_some", "_law_a", "_law_found", "_law_one"] λnd hr=>⟨_,(zx (zP<|fN zn)
 (zx (dP (sX<|bG<|zd (nH nO zk)<|zd zk<|zd zk zn) zw<|lC<|KS<|kf (sX<|bG<|zd (nH nO zk)<|zd zk<|zd zk zn) zw oQ<|cf<|fN<|zd ze<|zd ze<|zd zk<|zd zk<|zd zk zn)
 (zx (zP<|fN zn)
 (zx (dP (mm<|cf ze) zw<|lC<|KS<|kf (mm<|cf ze) zw oQ<|cf<|zK 2<|zd ze<|zd ze zn)
 vq)))),
 (aG (zV<|eF zi)
 (aG (dQ (sY<|bH<|ae (nI nR zm)<|ae zm<|ae zm zi) zu<|zE<|lG<|qJ _ rfl È PySem.F.slot_list_extend PySem.F.type_list_extend Ov aa<|ae (lz (sY<|bH<|ae (nI nR zm)<|ae zm<|ae zm zi) zu oU<|cj<|eF<|ae aa<|ae aa<|ae zm<|ae zm<|ae zm zi) zi)
 (aG (zV<|eF zi)
 (aG (dQ (l7<|cj aa) zu<|zE<|lG<|qJ _ rfl È PySem.F.slot_list_extend PySem.F.type_list_extend Ov aa<|ae (lz (l7<|cj aa) zu oU<|cj<|zN<|ae aa<|ae aa zi) zi)
 (zE<|zO aa)))))⟩
noncomputable def QU:MS:=(zG (aV 2<|hX (bU jJ<|bL<|zj 1) 2 [] (fJ 2<|zQ (zy 0)<|zQ (zy 1) gq) (mB<|zj 0)<|zj 1)
  (zG (aV 3<|hX (bU jJ<|bL<|zj 1) 2 [] (fJ 2<|zQ (zy 0)<|zQ (zy 1) gq) (uN<|mB<|zj 0)<|zj 1)
  (zG (aV 4<|ym (AS<|zj 2) (aj cy (zj 2)<|mC<|.int 0)<|lg "NewRows" 0 "shared" vP<|zf (bq<|zf (mC<|.str "number")<|zf (mC<|.tuple [.int 0,.int 1]) zt) zt)
  (zG (cO (bU jJ<|bL<|yk uL (zj 2) (wY<|mC<|.int 1) xC) (zy 5)<|aV 4<|lg "NewRows" 0 "add_new" zT<|zf (bq<|zf (mC<|.str "plus")<|zf (zj 4)<|zf (zj 5) zt) zt)
  (zG (cO (bU jJ<|bL<|zj 3) (zy 5)<|aV 4<|lg "NewRows" 0 "add_new" zT<|zf (bq<|zf (mC<|.str "less")<|zf (zj 4)<|zf (zj 5) zt) zt)
  (bg<|zj 4))))))
noncomputable def Di:FD:=bF 6 [0,1] QU
abbrev QQ(Z:Zs):Prop:=Z.M "NewRows" "sum_row" 3 ["self", "signed"] 2 Di
theorem zfW(B:Bs Z)(A:sG Z.K "NewRows" "sum_row" "NewRows.sum_row" Q3)(c0:Dk Z)(c1:HS Z):QQ Z :=
 by obtain⟨hB,_,_,⟨cZ,fm,dF⟩,_⟩:=B; exact Er A ["self", "signed", "added", "taken", "told", "row"] λnd hr=>⟨_,(zx (zP<|kf (mm<|cf ze) (ix<|zH zw<|zH zw iy) (jK ze) ze)
 (zx (zP<|kf (mm<|cf ze) (ix<|zH zw<|zH zw iy) (Gq<|jK ze) ze)
 (zx (zP<|Ky (V6 ze) (zr eA ze zk)<|qU 2<|zd (bG<|zd iW<|zd (xi dF) zn) zn)
 (zx (dP (mm<|cf<|Kw MR ze (MU zk) MV) zw<|zP<|qU 2<|zd (bG<|zd iW<|zd ze<|zd ze zn) zn)
 (zx (dP (mm<|cf ze) zw<|zP<|qU 2<|zd (bG<|zd iW<|zd ze<|zd ze zn) zn)
 (zW ze)))))),
 (aG (Li (l7<|cj aa) (iA<|bR zu<|bR zu iB) (xb<|sZ aa) aa)
 (aG (Li (l7<|cj aa) (iA<|bR zu<|bR zu iB) (xb<|Gh<|sZ aa) aa)
 (aG (zV<|Ll (Uh aa) (zZ eE aa zm)<|rg c1 aa<|ae (bH<|ae iX<|ae (nP (v:=.ref cZ) rfl fm rfl) zi) zi)
 (aG (dQ (l7<|cj<|NF Lj aa (NG zm) Nl) zu<|zE<|zV<|rg c0 aa<|ae (bH<|ae iX<|ae aa<|ae aa zi) zi)
 (aG (dQ (l7<|cj aa) zu<|zE<|zV<|rg c0 aa<|ae (bH<|ae iX<|ae aa<|ae aa zi) zi)
 (zE<|zO aa))))))⟩
noncomputable def PQ:MS:=(zG (aV 1<|gM Fo<|aR tD<|zf (zj 0) zt)
  (zG (aV 2 rh)
  (zG (cO (bU jJ<|bL<|zj 1) (fJ 2<|zQ (zy 3)<|zQ (zy 4) gq)<|cO (bU jJ<|bL<|zj 1) (fJ 2<|zQ (zy 5)<|zQ (zy 6) gq)<|iV<|Bm 2 (aR CY<|zf (zj 3)<|zf (zj 5) zt)<|bq<|zf (zj 4)<|zf (zj 6) zt)
  (lY [0] 2))))
noncomputable def xN:FD:=bF 7 [0] PQ
abbrev HR(Z:Zs):Prop:=Z.C "products_of" 3 ["things"] 1 xN
theorem zir(B:Bs Z)(A:cx Z "products_of" P4)(c0:Qp Z)(c1:Cg Z):HR Z :=
 have hB:=B.1; cJ A ["things", "pairs", "told", "one", "signs", "other", "others"] λnd hr=>⟨_,(zx (zP<|T7<|zK 1<|zd ze zn)
 (zx (zP xE)
 (zx (dP (mm<|cf ze) (ix<|zH zw<|zH zw iy)<|dP (mm<|cf ze) (ix<|zH zw<|zH zw iy)<|lC<|T9 (zK 2<|zd ze<|zd ze zn)<|bG<|zd ze<|zd ze zn)
 vq))),
 (aG (zV<|lU zpz PyProof.Rows.boot_list<|ae (zA7<|zN<|ae aa zi) zi)
 (aG (zV vI)
 (aG (dQ (l7<|cj aa) (iA<|bR zu<|bR zu iB)<|zE<|dQ (l7<|cj aa) (iA<|bR zu<|bR zu iB)<|zE<|lG<|Ua hr aa (zN<|ae aa<|ae aa zi)<|bH<|ae aa<|ae aa zi)
 (zE<|zO aa))))⟩
noncomputable def O8:MS:=(zG (cv (mB<|aj (cu false) (zj 1)<|mC<|.int 0) (bg<|lg "NewRows" 0 "shared" vP<|zf (bq<|zf (mC<|.str "number")<|zf (mC<|.tuple [.int 1,.int 1]) zt) zt) du)
  (bg<|ym (mB<|aj (cu false) (zj 1)<|mC<|.int 1) (lg "NewRows" 0 "shared" vP<|zf (bq<|zf (mC<|.str "letter")<|zf (mC<|.int 0) zt) zt)<|aj cy (zj 2)<|aj nG (zj 1)<|mC<|.int 2))
noncomputable def CT:FD:=bF 3 [0,1,2] O8
abbrev O7(Z:Zs):Prop:=Z.C "thing_row" 3 ["made", "at", "rows"] 3 CT
theorem zlu(B:Bs Z)(A:cx Z "thing_row" Pf)(c0:HS Z):O7 Z :=
 by obtain⟨hB,_,_,_,⟨nv,m6,jz⟩,_⟩:=B; exact cJ A ["made", "at", "rows"] λnd hr=>⟨_,(zx (dr (zL<|zr jS ze zk) (zW<|qU 2<|zd (bG<|zd iW<|zd (xi jz) zn) zn) fL)
 (zW<|Ky (zL<|zr jS ze zk) (qU 2<|zd (bG<|zd iW<|zd zk zn) zn)<|zr eA ze<|zr rm ze zk)),
 (aG (dh (zY jP aa zm) (zE<|zO<|rg c0 aa<|ae (bH<|ae iX<|ae (nP (v:=.ref nv) rfl m6 rfl) zi) zi) fM)
 (zE<|zO<|Ll (zY jP aa zm) (rg c0 aa<|ae (bH<|ae iX<|ae zm zi) zi)<|zZ eE aa<|zU rn aa zm))⟩
noncomputable def P8:MS:=(zG (aV 3<|cF (f1 xB)<|zf (zj 0) zt)
  (zG (cO (bU oN<|bL<|zj 1) (zy 4) (zG (aV 5<|bq<|zf (aj g9 (zj 2)<|aj bo (iq (zj 1)<|zj 4)<|mC<|.int 0)<|zf (aj bo (iq (zj 1)<|zj 4)<|mC<|.int 1) zt)
  (oO 3 (zj 4)<|aR xP<|zf (vn (zj 3) (zj 4)<|bq<|zf (mC<|.int 0)<|zf (mC<|.int 1) zt)<|zf (zj 5) zt)))
  (zG (aV 6 rh)
  (zG (cO (bU oN<|bL<|zj 3) (zy 4)<|cv (mB<|aj (cu true) (aj bo (iq (zj 3)<|zj 4)<|mC<|.int 0)<|mC<|.int 0) (oO 6 (zj 4)<|iq (zj 3)<|zj 4) du)
  (lY [0,1,2] 6)))))
noncomputable def Dm:FD:=bF 7 [0,1,2] P8
abbrev P7(Z:Zs):Prop:=Z.C "_law_poly_add" 3 ["_law_one", "_law_other", "_law_sign"] 3 Dm
theorem zgq(B:Bs Z)(A:cx Z "_law_poly_add" Qj)(c0:HM Z):P7 Z :=
 have hB:=B.1; cJ A ["_law_one", "_law_other", "_law_sign", "_law_found", "_law_powers", "_law_more", "_law_kept"] λnd hr=>⟨_,(zx (zP<|dg zpk<|zd ze zn)
 (zx (dP (vH<|cf ze) zw (zx (zP<|bG<|zd (zr jT ze<|zr zJ (lB ze ze) zk)<|zd (zr zJ (lB ze ze) zk) zn)
 (BM ze<|zK 2<|zd (M8 ze ze<|bG<|zd zk<|zd zk zn)<|zd ze zn)))
 (zx (zP xE)
 (zx (dP (vH<|cf ze) zw<|dr (zL<|zr oP (zr zJ (lB ze ze) zk) zk) (BM ze<|lB ze ze) fL)
 vq)))),
 (aG (zV<|lU zmn PyProof.Rows.boot_dict<|ae aa zi)
 (aG (dQ (vK<|cj aa) zu (aG (zV<|bH<|ae (zU jR aa<|zZ bz (lF hr aa aa) zm)<|ae (zZ bz (lF hr aa aa) zm) zi)
 (zE<|BS hr aa aa<|zN<|ae (M9 hr aa aa (bH<|ae zm<|ae zm zi) ⟨rfl,rfl,rfl,rfl⟩)<|ae aa zi)))
 (aG (zV vI)
 (aG (dQ (vK<|cj aa) zu<|zE<|dh (zY oK (zZ bz (lF hr aa aa) zm) zm) (zE<|BS hr aa aa<|lF hr aa aa) fM)
 (zE<|zO aa)))))⟩
noncomputable def QP:MS:=(zG (aV 2 rh)
  (zG (cO (bU oN<|bL<|zj 0) (zy 3)<|cO (bU oN<|bL<|zj 1) (zy 4) (zG (aV 5<|cF (f1 rl)<|zf (hX (AY<|zf (zj 3)<|zf (zj 4) zt) 2 [] (fJ 2<|zQ (zy 0)<|zQ (zy 1) gq) lr<|aj gX (zj 0)<|zj 1) zt)
  (zG (aV 6<|aR Dd<|zf (iq (zj 0)<|zj 3)<|zf (iq (zj 1)<|zj 4) zt)
  (oO 2 (zj 5)<|aR xP<|zf (vn (zj 2) (zj 5)<|bq<|zf (mC<|.int 0)<|zf (mC<|.int 1) zt)<|zf (zj 6) zt))))
  (zG (aV 7 rh)
  (zG (cO (bU oN<|bL<|zj 2) (zy 5)<|cv (mB<|aj (cu true) (aj bo (iq (zj 2)<|zj 5)<|mC<|.int 0)<|mC<|.int 0) (oO 7 (zj 5)<|iq (zj 2)<|zj 5) du)
  (lY [0,1] 7)))))
noncomputable def Dh:FD:=bF 8 [0,1] QP
abbrev QN(Z:Zs):Prop:=Z.C "_law_poly_mult" 3 ["_law_one", "_law_other"] 2 Dh
theorem zfX(B:Bs Z)(A:cx Z "_law_poly_mult" Q1)(c0:HM Z)(c1:PY Z):QN Z :=
 have hB:=B.1; cJ A ["_law_one", "_law_other", "_law_found", "_law_left", "_law_right_here", "_law_powers", "_law_more", "_law_kept"] λnd hr=>⟨_,(zx (zP xE)
 (zx (dP (vH<|cf ze) zw<|dP (vH<|cf ze) zw (zx (zP<|dg vJ<|zd (kf (LY<|zd ze<|zd ze zn) (ix<|zH zw<|zH zw iy) oQ<|zr iZ ze ze) zn)
 (zx (zP<|zK 2<|zd (lB ze ze)<|zd (lB ze ze) zn)
 (BM ze<|zK 2<|zd (M8 ze ze<|bG<|zd zk<|zd zk zn)<|zd ze zn))))
 (zx (zP xE)
 (zx (dP (vH<|cf ze) zw<|dr (zL<|zr oP (zr zJ (lB ze ze) zk) zk) (BM ze<|lB ze ze) fL)
 vq)))),
 (aG (zV vI)
 (aG (dQ (vK<|cj aa) zu<|zE<|dQ (vK<|cj aa) zu (aG (zV<|lU tI Ì<|ae (lz (LZ<|ae aa<|ae aa zi) (iA<|bR zu<|bR zu iB) oU<|zU i0 aa aa) zi)
 (aG (zV<|zN<|ae (lF hr aa aa)<|ae (lF hr aa aa) zi)
 (zE<|BS hr aa aa<|zN<|ae (M9 hr aa aa (bH<|ae zm<|ae zm zi) ⟨rfl,rfl,rfl,rfl⟩)<|ae aa zi))))
 (aG (zV vI)
 (aG (dQ (vK<|cj aa) zu<|zE<|dh (zY oK (zZ bz (lF hr aa aa) zm) zm) (zE<|BS hr aa aa<|lF hr aa aa) fM)
 (zE<|zO aa)))))⟩
noncomputable def QM:MS:=(zG (aV 2<|dU<|zf (bL<|dU<|zf (mC<|.int 1)<|zf (mC<|.int 0)<|zf (mC<|.int 0)<|zf (mC<|.int 0)<|zf (mC<|.int 0) zt)<|zf (bL<|dU<|zf (mC<|.int 0)<|zf (mC<|.int 1)<|zf (mC<|.int 0)<|zf (mC<|.int 0)<|zf (mC<|.int 0) zt) zt)
  (zG (cO (nK<|zf (zj 1) zt) (zy 3) (zG (aV 4<|aR vO<|zf (aR vS<|zf (zj 0)<|zf (cF (f1 iT)<|zf (zj 2) zt) zt)<|zf (zj 2) zt)
  (iV<|lW 2<|bL<|aR xS<|zf (zj 4)<|zf (aR vO<|zf (aR vS<|zf (zj 0)<|zf (cF (f1 iT)<|zf (zj 2) zt) zt)<|zf (zj 2) zt) zt)))
  (bg<|aR vO<|zf (aR vS<|zf (zj 0)<|zf (cF (f1 iT)<|zf (zj 2) zt) zt)<|zf (zj 2) zt)))
noncomputable def Df:FD:=bF 5 [0,1] QM
abbrev QL(Z:Zs):Prop:=Z.C "_law_small_one" 3 ["_law_box_here", "_law_many"] 2 Df
theorem zfY(B:Bs Z)(A:cx Z "_law_small_one" QZ)(c0:HX Z)(c1:O9 Z)(c2:PR Z):QL Z :=
 have hB:=B.1; cJ A ["_law_box_here", "_law_many", "_law_things", "_law_k", "_law_one"] λnd hr=>⟨_,(zx (zP<|fN<|zd (cf<|fN<|zd zk<|zd zk<|zd zk<|zd zk<|zd zk zn)<|zd (cf<|fN<|zd zk<|zd zk<|zd zk<|zd zk<|zd zk zn) zn)
 (zx (dP (tu<|zd ze zn) zw (zx (zP<|zK 2<|zd (zK 2<|zd ze<|zd (dg lE<|zd ze zn) zn)<|zd ze zn)
 (lC<|u5<|cf<|zK 2<|zd ze<|zd (zK 2<|zd (zK 2<|zd ze<|zd (dg lE<|zd ze zn) zn)<|zd ze zn) zn)))
 (zW<|zK 2<|zd (zK 2<|zd ze<|zd (dg lE<|zd ze zn) zn)<|zd ze zn))),
 (aG (zV<|eF<|ae (cj<|eF<|ae zm<|ae zm<|ae zm<|ae zm<|ae zm zi)<|ae (cj<|eF<|ae zm<|ae zm<|ae zm<|ae zm<|ae zm zi) zi)
 (aG (dQ (tH<|ae aa zi) zu (aG (zV<|zN<|ae (zN<|ae aa<|ae (fW ko Ñ<|ae aa zi) zi)<|ae aa zi)
 (zE<|lG<|qJ _ rfl È Î Ï rE aa<|ae (cj<|zN<|ae aa<|ae (zN<|ae (zN<|ae aa<|ae (fW ko Ñ<|ae aa zi) zi)<|ae aa zi) zi) zi)))
 (zE<|zO<|zN<|ae (zN<|ae aa<|ae (fW ko Ñ<|ae aa zi) zi)<|ae aa zi)))⟩
noncomputable def Pw:MS:=(zG (cO (bU jJ<|bL<|aR De zt) (zy 1)<|cO (bU nF<|bq<|zf (gM kj<|mC<|.int 1)<|zf (mC<|.int 0)<|zf (mC<|.int 1) zt) (zy 2)<|cv (mB<|aR tJ<|zf (hX (Fk<|zf (bL<|zj 0)<|zf (bL<|zj 1) zt) 2 [2] (fJ 2<|zQ (zy 0)<|zQ (zy 1) gq) lr<|aj nG (zj 0)<|aj g9 (zj 2)<|zj 1) zt) (bg<|mC<|.bool true) du)
  (bg<|mC<|.bool false))
noncomputable def xU:FD:=bF 3 [0] Pw
abbrev Pu(Z:Zs):Prop:=Z.C "_law_by_one" 3 ["_law_wanted"] 1 xU
theorem zhY(B:Bs Z)(A:cx Z "_law_by_one" PF)(c0:HP Z)(c1:Px Z):Pu Z :=
 have hB:=B.1; cJ A ["_law_wanted", "_law_made", "_law_sign"] λnd hr=>⟨_,(zx (dP (mm<|cf<|zK 0 zn) zw<|dP (sX<|bG<|zd (nH nO zk)<|zd zk<|zd zk zn) zw<|dr (jK<|zK 1<|zd (kf (Xc<|zd (cf ze)<|zd (cf ze) zn) (ix<|zH zw<|zH zw iy) oQ<|zr rm ze<|zr jT ze ze) zn) (zW wJ) fL)
 (zW wJ)),
 (aG (dQ (l7<|cj VM) zu<|zE<|dQ (sY<|bH<|ae (nI nR zm)<|ae zm<|ae zm zi) zu<|zE<|dh (sZ<|zN<|ae (lz (Nh<|ae (cj aa)<|ae (cj aa) zi) (iA<|bR zu<|bR zu iB) oU<|zU rn aa<|zU jR aa aa) zi) (zE<|zO wF) fM)
 (zE<|zO wF))⟩
noncomputable def OQ:MS:=(bg<|lg "NewRows" 0 "sum_row" Di<|zf (hX (wZ<|zf (zj 1) zt) 2 [2,0] (fJ 2<|zQ (zy 0)<|zQ (zy 1) gq) (mB<|aj (cu true) (zj 1)<|mC<|.int 0)<|bq<|zf (aj Al (zj 1)<|mC<|.int 0)<|zf (aR CT<|zf (zj 3)<|zf (zj 0)<|zf (zj 2) zt) zt) zt)
noncomputable def vL:FD:=bF 3 [0,1,2] OQ
abbrev OP(Z:Zs):Prop:=Z.C "mix_row" 4 ["made", "signs", "rows"] 3 vL
theorem zpC(B:Bs Z)(A:cx Z "mix_row" OD)(c0:O7 Z)(c1:QQ Z):OP Z :=
 have hB:=B.1; cJ A ["made", "signs", "rows"] λnd hr=>⟨_,(zW<|qU 2<|zd (kf (MY<|zd ze zn) (ix<|zH zw<|zH zw iy) (zL<|zr oP ze zk)<|bG<|zd (zr FK ze zk)<|zd (zK 3<|zd ze<|zd ze<|zd ze zn) zn) zn),
 (zE<|zO<|rg c1 aa<|ae (lz (NC<|ae aa zi) (iA<|bR zu<|bR zu iB) (xb<|zY oK aa zm)<|bH<|ae (oJ FL aa zm)<|ae (zN<|ae aa<|ae aa<|ae aa zi) zi) zi)⟩
noncomputable def Qw:MS:=(zG (cv (pJ (uN<|mB<|gM (wC "tuple")<|zj 0)<|pJ (mB<|aj (cu true) (cF (f1 iT)<|zf (zj 0) zt)<|mC<|.int 2)<|mB<|aj (jL true) (aj bo (zj 0)<|mC<|.int 0)<|bq<|zf (mC<|.str "x") zt) (bg<|mC .none) du)
  (zG (aV 2<|dU zt)
  (zG (cO (bU nF<|aj bo (zj 0)<|mC<|.int 1) (zy 3)<|cv (uO (mB<|aj (cu false) (aj bo (zj 3)<|mC<|.int 0)<|mC<|.str "number")<|uO (mB<|aj (cu false) (cF (f1 iT)<|zf (zj 3) zt)<|mC<|.int 2)<|uO (mB<|gM (wC "tuple")<|aj bo (zj 3)<|mC<|.int 1)<|mB<|aj (cu false) (cF (f1 iT)<|zf (aj bo (zj 3)<|mC<|.int 1) zt)<|mC<|.int 2) (iV<|lW 2<|bL<|aR vR<|zf (mC<|.int 1)<|zf (aj bo (zj 3)<|mC<|.int 1) zt)<|cv (mB<|aj (jL false) (zj 3)<|bq<|zf (mC<|.str "letter")<|zf (mC<|.int 0) zt) (iV<|lW 2<|bL<|aR xR<|zf (mC<|.int 1)<|zf (mC<|.int 0) zt)<|cv (pJ (mB<|aj (cu true) (cF (f1 iT)<|zf (zj 3) zt)<|mC<|.int 3)<|mB<|aj (lO true) (aj bo (zj 3)<|mC<|.int 0)<|bq<|zf (mC<|.str "plus")<|zf (mC<|.str "less")<|zf (mC<|.str "times") zt) (bg<|mC .none)<|cv (mB<|aj (cu false) (aj bo (zj 3)<|mC<|.int 0)<|mC<|.str "times") (iV<|lW 2<|bL<|aR Dh<|zf (aj cy (zj 2)<|aj bo (zj 3)<|mC<|.int 1)<|zf (aj cy (zj 2)<|aj bo (zj 3)<|mC<|.int 2) zt) (zG (aV 4<|aj cy (dU<|zf (mC<|.int 1)<|zf (gM kj<|mC<|.int 1) zt)<|cF (f1 w5)<|zf (aj (cu false) (aj bo (zj 3)<|mC<|.int 0)<|mC<|.str "less") zt)
  (iV<|lW 2<|bL<|aR Dm<|zf (aj cy (zj 2)<|aj bo (zj 3)<|mC<|.int 1)<|zf (aj cy (zj 2)<|aj bo (zj 3)<|mC<|.int 2)<|zf (zj 4) zt)))
  (zG (cv (mB<|aj (jL true) (aR Dj<|zf (aj cy (zj 2)<|gM kj<|mC<|.int 1) zt)<|zj 1) (bg<|mC .none) du)
  (bg<|cF (f1 iT)<|zf (hX (bU nF<|aj bo (zj 0)<|mC<|.int 1) 1 [] (zy 0) (mB<|aj (cu false) (aj bo (zj 0)<|mC<|.int 0)<|mC<|.str "times")<|zj 0) zt)))))
noncomputable def Dl:FD:=bF 5 [0,1] Qw
abbrev Q5(Z:Zs):Prop:=Z.C "_law_rows_right" 4 ["_law_reckoning", "_law_wanted"] 2 Dl
theorem zfg(B:Bs Z)(A:cx Z "_law_rows_right" Qx)(c0:P7 Z)(c1:QN Z)(c2:QB Z)(c3:Qy Z)(c4:QV Z):Q5 Z :=
 have hB:=B.1; cJ A ["_law_reckoning", "_law_wanted", "_law_found", "_law_row", "_law_sign"] λnd hr=>⟨_,(zx (dr (u6 (Gq<|jK<|KI (T := "tuple") ze)<|u6 (zL<|zr oP (dg lE<|zd ze zn) zk)<|zL<|zr (BQ true) (zr zJ ze zk)<|bG<|zd iW zn) (zW nL) fL)
 (zx (zP<|fN zn)
 (zx (dP (sX<|zr zJ ze zk) zw<|dr (Gr (zL<|zr jS (zr zJ ze zk) iW)<|Gr (zL<|zr jS (dg lE<|zd ze zn) zk)<|Gr (jK<|KI (T := "tuple")<|zr zJ ze zk)<|zL<|zr jS (dg lE<|zd (zr zJ ze zk) zn) zk) (lC<|u5<|cf<|zK 2<|zd zk<|zd (zr zJ ze zk) zn)<|dr (zL<|zr (BQ false) ze<|bG<|zd iW<|zd zk zn) (lC<|u5<|cf<|zK 2<|zd zk<|zd zk zn)<|dr (u6 (zL<|zr oP (dg lE<|zd ze zn) zk)<|zL<|zr (Bt true) (zr zJ ze zk)<|bG<|zd iW<|zd iW<|zd iW zn) (zW nL)<|dr (zL<|zr jS (zr zJ ze zk) iW) (lC<|u5<|cf<|zK 2<|zd (zr eA ze<|zr zJ ze zk)<|zd (zr eA ze<|zr zJ ze zk) zn) (zx (zP<|zr eA (fN<|zd zk<|zd (nH nO zk) zn)<|dg Ny<|zd (zr jS (zr zJ ze zk) iW) zn)
 (lC<|u5<|cf<|zK 3<|zd (zr eA ze<|zr zJ ze zk)<|zd (zr eA ze<|zr zJ ze zk)<|zd ze zn)))
 (zx (dr (zL<|zr (BQ true) (zK 1<|zd (zr eA ze<|nH nO zk) zn) ze) (zW nL) fL)
 (zW<|dg lE<|zd (kf (sX<|zr zJ ze zk) zw (zL<|zr jS (zr zJ ze zk) iW) ze) zn))))),
 (aG (dh (uT<|u9 (Gh<|sZ<|fW Lk PyProof.Rows.boot_isinstance<|ae aa<|ae (L8 (v:=.ty "tuple") Ì rfl) zi)<|u9 (zY oK (fW ko Ñ<|ae aa zi) zm)<|xg<|zY (Mm _ rfl hr) (zZ bz aa zm)<|bH<|ae iX zi) (zE<|zO lZ) fM)
 (aG (zV<|eF zi)
 (aG (dQ (sY<|zZ bz aa zm) zu<|zE<|dh (uT<|Gi (zY jP (zZ bz aa zm) iX)<|Gi (zY jP (fW ko Ñ<|ae aa zi) zm)<|Gi (sZ<|fW Lk PyProof.Rows.boot_isinstance<|ae (zZ bz aa zm)<|ae (L8 (v:=.ty "tuple") Ì rfl) zi)<|XH<|zY jP (fW ko Ñ<|ae (zZ bz aa zm) zi) zm) (zE<|lG<|qJ _ rfl È Î Ï rE aa<|ae (cj<|zN<|ae zm<|ae (zZ bz aa zm) zi) zi)<|zE<|dh (zY (Mn _ rfl hr) aa<|bH<|ae iX<|ae zm zi) (zE<|lG<|qJ _ rfl È Î Ï rE aa<|ae (cj<|zN<|ae zm<|ae zm zi) zi)<|zE<|dh (uT<|u9 (zY oK (fW ko Ñ<|ae aa zi) zm)<|xg<|zY ND (zZ bz aa zm) (bH<|ae iX<|ae iX<|ae iX zi) rfl) (zE<|zO lZ)<|zE<|dh (zY jP (zZ bz aa zm) iX) (zE<|lG<|qJ _ rfl È Î Ï rE aa<|ae (cj<|zN<|ae (zZ eE aa<|zZ bz aa zm)<|ae (zZ eE aa<|zZ bz aa zm) zi) zi) (aG (zV<|zZ eE (eF<|ae zm<|ae (nI nR zm) zi)<|lU OC PyProof.Rows.boot_int<|ae (oJ jP (zZ bz aa zm) iX) zi)
 (zE<|lG<|qJ _ rfl È Î Ï rE aa<|ae (cj<|zN<|ae (zZ eE aa<|zZ bz aa zm)<|ae (zZ eE aa<|zZ bz aa zm)<|ae aa zi) zi)))
 (aG (dh (zY (Mm _ rfl hr) (zN<|ae (zZ eE aa<|nI nR zm) zi) aa) (zE<|zO lZ) fM)
 (zE<|zO<|fW ko Ñ<|ae (lz (sY<|zZ bz aa zm) zu (xb<|zY jP (zZ bz aa zm) iX) aa) zi)))))⟩
noncomputable def QK:MS:=(zG (aV 2<|ED "NewRows" [("rows",.l []),("paper",.l []),("places",.x []),("mark_places",.x [])])
  (zG (aV 3<|dU zt)
  (zG (cO (bU jJ<|bL<|zj 0) (fJ 2<|zQ (zy 4)<|zQ (zy 5) gq) (zG (aV 6<|aR vL<|zf (zj 2)<|zf (zj 4)<|zf (zj 3) zt)
  (iV<|lW 3<|lg "NewRows" 2 "add_new" zT<|zf (bq<|zf (mC<|.str "times")<|zf (zj 6)<|zf (aR vL<|zf (zj 2)<|zf (zj 5)<|zf (zj 3) zt) zt) zt)))
  (zG (iV<|aR vL<|zf (zj 2)<|zf (zj 1)<|zf (zj 3) zt)
  (bg<|bq<|zf (bq<|zf (mC<|.str "x") zt)<|zf (Fq "NewRows" 2 "rows") zt)))))
noncomputable def vQ:FD:=bF 7 [0,1] QK
abbrev HW(Z:Zs):Prop:=Z.C "small_reckoning" 5 ["factors", "signs"] 2 vQ
theorem zfZ(B:Bs Z)(A:cx Z "small_reckoning" Q2)(c0:OP Z)(c1:Dk Z):HW Z :=
 by have(hB,_,_,_,_,_,_,_,aC,cE):=B; exact cJ A ["factors", "signs", "made", "rows", "one", "other", "first"] λnd hr=>⟨_,(zx (zP (zA4 (λz=>nomatch z) (by decide)))
 (zx (zP<|fN zn)
 (zx (dP (mm<|cf ze) (ix<|zH zw<|zH zw iy) (zx (zP<|zK 3<|zd ze<|zd ze<|zd ze zn)
 (lC<|u5<|qU 2<|zd (bG<|zd iW<|zd ze<|zd (zK 3<|zd ze<|zd ze<|zd ze zn) zn) zn)))
 (zx (lC<|zK 3<|zd ze<|zd ze<|zd ze zn)
 (zW<|bG<|zd (bG<|zd iW zn)<|zd (Vi aC.at) zn))))),
 (aG (zV<|zA3 cE)
 (aG (zV<|eF zi)
 (aG (dQ (l7<|cj aa) (iA<|bR zu<|bR zu iB) (aG (zV<|zN<|ae aa<|ae aa<|ae aa zi)
 (zE<|lG<|qJ _ rfl È Î Ï rE aa<|ae (rg c1 aa<|ae (bH<|ae iX<|ae aa<|ae (zN<|ae aa<|ae aa<|ae aa zi) zi) zi) zi)))
 (aG (lG<|zN<|ae aa<|ae aa<|ae aa zi)
 (zE<|zO<|bH<|ae (bH<|ae iX zi)<|ae (lU (MC tI) Ì<|ae (sR aa) zi) zi)))))⟩
noncomputable def OU:MS:=(zG (aV 3<|aR xN<|zf (zj 1) zt)
  (zG (cO (bU sW<|bL<|aR tD<|zf (zj 1) zt) (fJ 2<|zQ (zy 4)<|zQ (zy 5) gq) (zG (aV 6<|aR xV<|zf (zj 0)<|zf (zj 4)<|zf (gM kj<|mC<|.int 1) zt)
  (cv (mB<|uM false (zj 6)<|zj 3) (bg<|aR vQ<|zf (dU<|zf (zj 2)<|zf (iq (zj 3)<|zj 6) zt)<|zf (aj oY (zj 5)<|bq<|zf (mC<|.int 1) zt) zt) du)))
  (bg<|mC .none)))
noncomputable def CQ:FD:=bF 7 [0,1,2] OU
abbrev O0(Z:Zs):Prop:=Z.C "with_two" 6 ["target", "things", "factors"] 3 CQ
theorem zmE(B:Bs Z)(A:cx Z "with_two" OW)(c0:HQ Z)(c1:Cg Z)(c2:HR Z)(c3:HW Z):O0 Z :=
 have hB:=B.1; cJ A ["target", "things", "factors", "seconds", "rest", "signs", "left"] λnd hr=>⟨_,(zx (zP<|zK 1<|zd ze zn)
 (zx (dP (CJ<|cf<|zK 1<|zd ze zn) (ix<|zH zw<|zH zw iy) (zx (zP<|zK 3<|zd ze<|zd ze<|zd (nH nO zk) zn)
 (dr (jK<|FI ze ze) (zW<|zK 2<|zd (fN<|zd ze<|zd (lB ze ze) zn)<|zd (zr CK ze<|bG<|zd zk zn) zn) fL)))
 (zW nL))),
 (aG (zV<|zN<|ae aa zi)
 (aG (dQ (Cp<|cj<|zN<|ae aa zi) (iA<|bR zu<|bR zu iB) (aG (zV<|zN<|ae aa<|ae aa<|ae (nI nR zm) zi)
 (zE<|dh (Gs hr aa aa) (zE<|zO<|zN<|ae (eF<|ae aa<|ae (lF hr aa aa) zi)<|ae (zU CL aa<|bH<|ae zm zi) zi) fM)))
 (zE<|zO lZ)))⟩
noncomputable def OZ:MS:=(zG (aV 1<|aR CZ<|zf (zj 0) zt)
  (zG (cv (mB<|aj (jd false) (zj 1)<|mC .none) (bg<|mC .none) du)
  (zG (aV 2<|dU<|zf (mC<|.tuple [.int 1,.int 0,.int 0,.int 0,.int 0])<|zf (mC<|.tuple [.int 0,.int 1,.int 0,.int 0,.int 0]) zt)
  (zG (aV 3<|aR tD<|zf (zj 2) zt)
  (zG (cv (mB<|uM false (zj 1)<|zj 3) (bg<|bq<|zf (mC<|.int 0)<|zf (aR vQ<|zf (dU zt)<|zf (iq (zj 3)<|zj 1) zt) zt) du)
  (zG (aV 4<|aR xN<|zf (zj 2) zt)
  (zG (cO (bU sW<|bL<|zj 4) (fJ 2<|zQ (zy 5)<|zQ (zy 6) gq) (zG (aV 3<|aR tD<|zf (aj Bk (zj 2)<|dU<|zf (zj 5) zt) zt)
  (cv (mB<|uM false (zj 1)<|zj 3) (bg<|bq<|zf (mC<|.int 1)<|zf (aR vQ<|zf (dU<|zf (zj 6) zt)<|zf (iq (zj 3)<|zj 1) zt) zt) du)))
  (zG (cO (bU sW<|bL<|zj 4) (fJ 2<|zQ (zy 5)<|zQ (zy 6) gq) (zG (aV 7<|aR CQ<|zf (zj 1)<|zf (aj Bk (zj 2)<|dU<|zf (zj 5) zt)<|zf (zj 6) zt)
  (cv (mB<|aj (jd true) (zj 7)<|mC .none) (bg<|bq<|zf (mC<|.int 2)<|zf (zj 7) zt) du)))
  (bg<|mC .none)))))))))
noncomputable def CP:FD:=bF 8 [0] OZ
abbrev OY(Z:Zs):Prop:=Z.C "cheapest" 7 ["poly"] 1 CP
theorem zmF(B:Bs Z)(A:cx Z "cheapest" OV)(c0:Qr Z)(c1:Cg Z)(c2:HR Z)(c3:HW Z)(c4:O0 Z):OY Z :=
 by obtain⟨hB,_,_,_,_,⟨cY,fj,dE⟩,⟨c6,fq,dG⟩,_⟩:=B; exact cJ A ["poly", "target", "things", "known", "firsts", "first", "factors", "told"] λnd hr=>⟨_,(zx (zP<|zK 1<|zd ze zn)
 (zx (dr (zL<|zr Me ze nL) (zW nL) fL)
 (zx (zP<|fN<|zd (xi dE)<|zd (xi dG) zn)
 (zx (zP<|zK 1<|zd ze zn)
 (zx (dr (jK<|FI ze ze) (zW<|bG<|zd zk<|zd (zK 2<|zd (fN zn)<|zd (lB ze ze) zn) zn) fL)
 (zx (zP<|zK 1<|zd ze zn)
 (zx (dP (CJ<|cf ze) (ix<|zH zw<|zH zw iy) (zx (zP<|zK 1<|zd (zr Mx ze<|fN<|zd ze zn) zn)
 (dr (jK<|FI ze ze) (zW<|bG<|zd zk<|zd (zK 2<|zd (fN<|zd ze zn)<|zd (lB ze ze) zn) zn) fL)))
 (zx (dP (CJ<|cf ze) (ix<|zH zw<|zH zw iy) (zx (zP<|zK 3<|zd ze<|zd (zr Mx ze<|fN<|zd ze zn)<|zd ze zn)
 (dr (zL<|zr Xy ze nL) (zW<|bG<|zd zk<|zd ze zn) fL)))
 (zW nL))))))))),
 (aG (zV<|zN<|ae aa zi)
 (aG (dh (zY Ms aa lZ) (zE<|zO lZ) fM)
 (aG (zV<|eF<|ae (nP (v:=.ref cY) rfl fj rfl)<|ae (nP (v:=.ref c6) rfl fq rfl) zi)
 (aG (zV<|zN<|ae aa zi)
 (aG (dh (Gs hr aa aa) (zE<|zO<|bH<|ae zm<|ae (zN<|ae (eF zi)<|ae (lF hr aa aa) zi) zi) fM)
 (aG (zV<|zN<|ae aa zi)
 (aG (dQ (Cp<|cj aa) (iA<|bR zu<|bR zu iB) (aG (zV<|zN<|ae (zU My aa<|eF<|ae aa zi) zi)
 (zE<|dh (Gs hr aa aa) (zE<|zO<|bH<|ae zm<|ae (zN<|ae (eF<|ae aa zi)<|ae (lF hr aa aa) zi) zi) fM)))
 (aG (dQ (Cp<|cj aa) (iA<|bR zu<|bR zu iB) (aG (zV<|zN<|ae aa<|ae (zU My aa<|eF<|ae aa zi)<|ae aa zi)
 (zE<|dh (zY YB aa lZ) (zE<|zO<|bH<|ae zm<|ae aa zi) fM)))
 (zE<|zO lZ)))))))))⟩
noncomputable def PN:MS:=(zG (aV 1<|aR CW<|zf (zj 0) zt)
  (zG (aV 2<|aR CP<|zf (zj 1) zt)
  (zG (cv (mB<|aj (jd false) (zj 2)<|mC .none) (bg<|sP (w4<|aR tJ<|zf (zj 0) zt)<|w4<|aR xU<|zf (zj 0) zt) du)
  (zG (cv (pJ (mB<|aj (cu true) (aR Dl<|zf (aj bo (zj 2)<|mC<|.int 1)<|zf (zj 1) zt)<|aj bo (zj 2)<|mC<|.int 0)<|mB<|aj (lO true) (aj bo (zj 2)<|mC<|.int 0)<|bq<|zf (mC<|.int 0)<|zf (mC<|.int 1)<|zf (mC<|.int 2) zt) (bg<|mC<|.bool false) du)
  (zG (cv (pJ (mB<|aj (cu false) (aj bo (zj 2)<|mC<|.int 0)<|mC<|.int 0)<|mB<|aR tJ<|zf (zj 0) zt) (bg<|sP (aj (cu false) (aj bo (zj 2)<|mC<|.int 0)<|mC<|.int 0)<|aR tJ<|zf (zj 0) zt) du)
  (bg<|aj (cu false) (aj (cu false) (aj bo (zj 2)<|mC<|.int 0)<|mC<|.int 1)<|aR xU<|zf (zj 0) zt))))))
noncomputable def Dc:FD:=bF 3 [0] PN
abbrev PM(Z:Zs):Prop:=Z.C "_law_right" 8 ["_law_wanted"] 1 Dc
theorem zis(B:Bs Z)(A:cx Z "_law_right" P0)(c0:OY Z)(c1:Qn Z)(c2:HP Z)(c3:Pu Z)(c4:Q5 Z):PM Z :=
 have hB:=B.1; cJ A ["_law_wanted", "_law_terms", "_law_found"] λnd hr=>⟨_,(zx (zP<|zK 1<|zd ze zn)
 (zx (zP<|zK 1<|zd ze zn)
 (zx (dr (zL<|zr Me ze nL) (zW<|BP (Mi<|zK 1<|zd ze zn)<|Mi<|zK 1<|zd ze zn) fL)
 (zx (dr (u6 (zL<|zr oP (zK 2<|zd (zr zJ ze zk)<|zd ze zn)<|zr zJ ze zk)<|zL<|zr (Bt true) (zr zJ ze zk)<|bG<|zd zk<|zd zk<|zd zk zn) (zW wJ) fL)
 (zx (dr (u6 (zL<|zr jS (zr zJ ze zk) zk)<|jK<|zK 1<|zd ze zn) (zW<|BP (zr jS (zr zJ ze zk) zk)<|zK 1<|zd ze zn) fL)
 (zW<|zr jS (zr jS (zr zJ ze zk) zk)<|zK 1<|zd ze zn)))))),
 (aG (zV<|zN<|ae aa zi)
 (aG (zV<|zN<|ae aa zi)
 (aG (dh (zY Ms aa lZ) (zE<|zO<|BA (w_not<|zN<|ae aa zi)<|FA<|w_not<|zN<|ae aa zi) fM)
 (aG (dh (uT<|u9 (zY oK (zN<|ae (zZ bz aa zm)<|ae aa zi)<|zZ bz aa zm)<|xg<|zY ND (zZ bz aa zm) (bH<|ae zm<|ae zm<|ae zm zi) rfl) (zE<|zO wF) fM)
 (aG (dh (uT<|u9 (zY jP (zZ bz aa zm) zm)<|xg<|sZ<|zN<|ae aa zi) (zE<|zO<|BA (oJ jP (zZ bz aa zm) zm)<|FA<|zN<|ae aa zi) fM)
 (zE<|zO<|oJ jP (oJ jP (zZ bz aa zm) zm)<|zN<|ae aa zi))))))⟩
noncomputable def KO:MS:=(zG (cO (nK<|zf (cF BG<|zf (mC<|.int 1)<|zf (cF Bw<|zf (mC<|.int 2)<|zf (cF (f1 iT)<|zf (zj 0) zt) zt) zt) zt) (zy 1) (zG (aV 2<|aR CU<|zf (zj 0)<|zf (zj 1) zt)
  (zG (aV 3<|aR Df<|zf (zj 2)<|zf (aj gX (mC<|.int 1)<|aR rG<|zf (zj 2)<|zf (mC<|.int 2) zt) zt)
  (zG (cv (mB<|aj (cu false) (aR rG<|zf (zj 2)<|zf (mC<|.int 3) zt)<|mC<|.int 0) (zG (aV 4<|aR rG<|zf (zj 2)<|zf (mC<|.int 4) zt)
  (oR 3 (aj gX (aj cy (zj 3)<|zj 4)<|aj cy (dU<|zf (mC<|.int 1)<|zf (gM kj<|mC<|.int 1) zt)<|aR rG<|zf (zj 2)<|zf (mC<|.int 2) zt)<|zj 4)) du)
  (cv (uN<|mB<|aR Dc<|zf (zj 3) zt) (bg<|mC<|.bool false) du)))))
  (bg<|mC<|.bool true))
noncomputable def vh:FD:=bF 5 [0] KO
theorem T4{f:Qg}(B:Bs Z)(F:jG Z.K "law" "law" KP f fd)(c0:Pb Z)(c1:HN Z)(c2:QL Z)(c3:PM Z):bK Z.P Z.w Z.K Z.mg Z.base iR 9 f fd ["_law_script"] (nX Z.K 1 vh):=
 have hB:=B.1; RN F ["_law_script", "_law_k", "_law_box_here", "_law_wanted", "_law_at"] λnd hr=>⟨_,(zx (dP (tu<|zd (dg XB<|zd zk<|zd (dg XZ<|zd zk<|zd (dg lE<|zd ze zn) zn) zn) zn) zw (zx (zP<|zK 2<|zd ze<|zd ze zn)
 (zx (zP<|zK 2<|zd ze<|zd (zr iZ zk<|zK 2<|zd ze<|zd zk zn) zn)
 (zx (BN<|dr (zL<|zr jS (zK 2<|zd ze<|zd zk zn) zk) (zx (zP<|zK 2<|zd ze<|zd zk zn)
 (xp (zr iZ (zr eA ze ze)<|zr eA (fN<|zd zk<|zd (nH nO zk) zn)<|zK 2<|zd ze<|zd zk zn) ze)) fL)
 (dr (Gq<|jK<|zK 1<|zd ze zn) (zW wJ) fL)))))
 (zW wJ)),
 (aG (dQ (tH<|ae (fW (zoO rfl) PyProof.Rows.boot_max<|ae zm<|ae (fW (zoP rfl) PyProof.Rows.boot_min<|ae zm<|ae (fW ko Ñ<|ae aa zi) zi) zi) zi) zu (aG (zV<|zN<|ae aa<|ae aa zi)
 (aG (zV<|zN<|ae aa<|ae (zU i0 zm<|zN<|ae aa<|ae zm zi) zi)
 (aG (BU<|dh (zY jP (zN<|ae aa<|ae zm zi) zm) (aG (zV<|zN<|ae aa<|ae zm zi)
 (zE<|wQ (zU i0 (zZ eE aa aa)<|zZ eE (eF<|ae zm<|ae (nI nR zm) zi)<|zN<|ae aa<|ae zm zi)<|xf aa aa vN)) fM)
 (zE<|dh (Gh<|sZ<|zN<|ae aa zi) (zE<|zO wF) fM)))))
 (zE<|zO wF))⟩
end
end K57
set_option exponentiation.threshold 10000
open PySem L2
open Lean in
local macro_rules|`(tactic|simp![$ls,*])=>do
 let u<-("↓Zb ↓zAV ↓zn4 ↓WE ↓Za ↓zn5 ↓zlk ↓ziX ↓Y9 ↓WD ↓Y8 ↓Y7 ↓zn6 ↓Y6 ↓zn7 ↓zAW ↓WB ↓Y5 ↓Y4 ↓Y3 ↓zn8 ↓zll ↓zn9 ↓WG ↓WC ~WH ~zoa ~zob ~WA ~Y2 ~zlm zAP zAQ zAR zAS zAT zAU ↓WK ↓WJ eC ↓zo ↓jN Nk KA ↓Wn ↓ZW Nj ↓ZV ↓ZU ↓ZT ↓ZS ↓znz Ou ↓ZR ↓ZQ ↓Wm ↓ZP ↓znA ↓znB ↓ZO ↓ZN ↓ZM ↓zkU ↓znC ↓znD ↓ZL ↓zkV ↓Wl ↓Wj ↓znE ↓znG ↓ZK ↓ZJ ↓Wh ↓ziS ↓znH ↓ZI ↓zkW ↓znI ↓zkX ↓znJ ↓ZH ↓zk7 ↓Z9 ↓zlg ↓zlh ↓Zd ↓Zp ↓Zo ↓Wz ↓Zn ↓zoh ↓Zm ↓zoi ↓zoj ↓zok ↓zol ↓Zf ↓Ze ↓zos ↓zot ↓zov bd Xj zqU znl zkR O4 ziP zhG zkS zAa zAb zqV ~znm ~znn Xi Xh Xg Xf zAe zAf Xe Xd Xv zAh zAi zAj zqY zqZ zno zq0 Xu Xt zAp zAq zAr Xs Xr zq3 zq4 zAs Xq Xp Xo znp Xn Wy Wx Ww Wv Wu Wt ~znq zkT ziR Ws Wq zq5 znr zAt zAu zAv Kz zAw zAx zAy zAz zAA zAB znt znu zq6 zq7 Mq Wi znF ~zkY ~zkZ ~Wg ~Wf wL ZF Ot We ZE znT Z8 Z2 znY znZ Z0 ZZ zle ziW Wd Wc Oq Hy zr0 Oo zr9 ZA zor Zz zou Zy Zx Zw Zv Zu Zt Zr Yz Yy Yx Yw Yv Yu !List.getElem?_cons_zero !List.getElem?_cons_succ !List.set_cons_zero !List.set_cons_succ !List.cons_append !List.nil_append !List.length_cons !List.length_nil !List.replicate !Option.map_some !decide_eq_true_eq !List.mem_cons !List.not_mem_nil !true_or !or_true !or_false !false_or !if_true !if_false !ite_true !ite_false !true_and !and_true !and_false !false_and !Bool.not_true !Bool.not_false !Bool.false_eq_true !not_true !not_false_iff !Nat.zero_add !Nat.reduceAdd !Nat.reduceLeDiff !Nat.reduceEqDiff !Nat.reduceSub !Nat.reduceLT !List.map_cons !List.map_nil !List.getD_cons_zero !List.getD_cons_succ !List.drop_succ_cons !List.drop_zero !decide_true !decide_false !Bool.true_and !Bool.and_true !Bool.true_or !Bool.or_true !Bool.false_or !Bool.or_false !Bool.false_and !Bool.and_false !reduceCtorEq !List.length_map !List.length_append Wp zns !String.reduceEq ↓!reduceIte !Int.reduceEq !Int.reduceNe !Int.reduceLT !Int.reduceLE !Int.reduceAdd !Int.reduceSub !Int.reduceNeg !Int.reduceToNat !Int.cast_ofNat_Int !implies_true !forall_const !Option.map_none".splitOn " ").toArray.mapM λx=>do
  let n:=(((x.replace "↓" "").replace "~" "").replace "!" "").toName
  let y:=mkIdent (if x.contains '!' then n else `L2++n)
  if x.startsWith "↓" then `(Parser.Tactic.simpLemma|↓$y:term) else if x.startsWith "~" then `(Parser.Tactic.simpLemma|nr $y) else `(Parser.Tactic.simpLemma|$y:term)
 `(tactic|simp (disch:=first|with_unfolding_all exact WI rfl|omega | (simp only[List.length_cons,List.length_nil,List.length_map,List.length_append,List.length_take,List.length_drop,Nat.zero_add,Nat.reduceAdd]<;>omega) | fail) only[$ls,*,$u,*])
local macro_rules | `(tactic| simp!)=>`(tactic| simp![Option.map_none])
namespace K57
open PySem L2
abbrev bx(x y:Int):U:=.l [.int x,.int y]
theorem xl{x y w:Int}{Q:U×Qa U->Prop}(hw:0 < w)(R7:w<=18446744073709551616)(k:∀ r x' y',0<=r->r < w->Q (.d<|.int r,[bx x' y',.d<|.int w])):Wo (rG [bx x y,.d<|.int w]) Q:=by
 simp![rG,Pk];refine oM (λhx=>?_) λhx=>?_
 .simp![hx]
  exact k _ _ _ (ø _ (by omega))<|ú _ hw
 .simp![hx]
  exact k _ _ _ (ø _ (by omega))<|ú _ hw
theorem LD{k:Int}(h0:0<=k)(h:k < (ns.length:Int)):∃ v:Int,br (ns.map PyData.int) k=some (.int v):=by
 have hk:k.toNat < ns.length:=by omega
 refine⟨ns[k.toNat],?_⟩;unfold br eI;rw[if_pos h0,if_pos (by rw[List.length_map]; exact h),bd,List.getElem?_map,qm hk];rfl
theorem zBc{k:Int}{Q:U×Qa U->Prop}(h0:0<=k)(q:∀ x y,Q (bx x y,[.d<|.list<|ns.map .int,.d<|.int k])):Wo (CU [.d<|.list<|ns.map .int,.d<|.int k]) Q:=by
 simp![CU,Pc,List.length_map];refine oM (λh1=>?_) λh1=>?_
 .have(v,hv):=LD h0 h1
  simp![hv];exact q _ _
 .simp![List.length_map]
  refine oM (λh2=>?_) λh2=>?_
  .have hm:=ú k h2
   have hm0:=ø k (show(ns.length:Int)≠0 by omega);have(v,hv):=LD hm0 hm;simp![hv];exact q _ _
  .simp!
   exact q _ _
noncomputable def pl(s:Int)(a b:Qa Int):Qa Int:=(a.zip b).map λt=>t.1+s * t.2
theorem sQ{s:Int}{a:Qa Int}(h:a.length=b.length):(pl s a b).length=a.length:=by
 unfold pl;rw[List.length_map,List.length_zip,h,Nat.min_self]
theorem Pr{a:Qa Int}{s:Int}{Q:U×Qa U->Prop}(h:a.length=b.length)(hl:a.length=5)(hs:-1<=s/\s<=1)(q:Q (.d<|az<|pl s a b,[.d<|az a,.d<|az b,.d<|.int s])):Wo (xV [.d<|az a,.d<|az b,.d<|.int s]) Q:=by
 simp![xV,PD,Hy h];refine sT (e:=λt=>.int<|t.1+s * t.2) (by rw[List.length_zip]; omega) (λt ht ys=>?_) ?_
 .simp!
 .have hz:((a.zip b).map λt:Int×Int=>PyData.int<|t.1+s * t.2).length<=sizeLine:=by
   rw[List.length_map,List.length_zip,sizeLine_eq];omega
  simp![hz];have e:PyData.tuple ((a.zip b).map λt:Int×Int=>PyData.int<|t.1+s * t.2)=az (pl s a b):=by
   unfold az pl;rw[List.map_map];rfl
  rw[e];exact q
noncomputable def x8(x:Int)(b:Qa Int)(k:Nat)(l:Qa Int)(j:Nat):Qa Int:=l.set (k+j) (l.getD (k+j) 0+x * b.getD j 0)
noncomputable def jv(x:Int)(b:Qa Int)(k n:Nat)(l:Qa Int):Qa Int:=(List.range n).foldl (x8 x b k) l
noncomputable def i5(a b:Qa Int)(n:Nat):Qa Int:=(List.range n).foldl (λl k=>jv (a.getD k 0) b k (5 - k) l) (List.replicate 5 0)
noncomputable def tm(a b:Qa Int):Qa Int:=i5 a b 5
theorem Fb{x:Int}{k:Nat}:jv x b k (n+1) l=x8 x b k (jv x b k n l) n:=by
 unfold jv;rw[List.range_succ,List.foldl_append];rfl
theorem E9{a:Qa Int}:i5 a b (n+1)=jv (a.getD n 0) b n (5 - n) (i5 a b n):=by
 unfold i5;rw[List.range_succ,List.foldl_append];rfl
theorem WW{x:Int}{k:Nat}:(x8 x b k l j).length=l.length:=by
 unfold x8;rw[List.length_set]
theorem Cf{x:Int}{k:Nat}:∀ n:Nat,(jv x b k n l).length=l.length
 | 0=>rfl
 | n+1=>by rw[Fb,WW,Cf n]
theorem vE{a:Qa Int}:∀ n:Nat,(i5 a b n).length=5
 | 0=>rfl
 | n+1=>by rw[E9,Cf,vE n]
theorem uQ(h:i < l.length):br (l.map PyData.int) (i:Int)=some (.int<|l.getD i 0):=by
 unfold br eI;rw[if_pos (by omega),if_pos (by rw[List.length_map]; omega),bd,List.getElem?_map,Int.toNat_natCast,qm h,qB,qm h];rfl
theorem AL(h:i < l.length):eI l.length (i:Int)=some i:=by
 unfold eI;rw[if_pos (by omega),if_pos (by omega),Int.toNat_natCast]
theorem Bi{x:Int}:(l.map PyData.int).set i (.int x)=(l.set i x).map PyData.int:=by
 rw[List.map_set]
theorem qF(h:l.length=5):∃ a b c d e,l=[a,b,c,d,e]:=oG h
def Sm(a:Qa Int):Prop:=∀ x∈a,-1000000<=x/\x<=1000000
theorem fK{a:Qa Int}(h:Sm a):-1000000<=a.getD n 0/\a.getD n 0<=1000000:=by
 rw[qB];cases e:a[n]? with
 | none=>exact⟨by show(-1000000:Int)<=0; omega,by show(0:Int)<=1000000; omega⟩
 | some x=>exact h x<|Â e
theorem IP:nB (.l [.int 0]) (.d<|.int 5)=some (.l<|(List.replicate 5 (0:Int)).map .int):=by
 have hz:sizeLine=16777216:=sizeLine_eq;have c:-1000000 < (5:Int)/\(5:Int) < 1000000/\[PyData.int 0].length * (5:Int).toNat<=sizeLine:=⟨by omega,by omega,by
  rw[hz];decide⟩
 unfold nB;dsimp only;rw[if_pos c];rfl
theorem zg3{a:Qa Int}{Q:U×Qa U->Prop}(ha:a.length=5)(hb:b.length=5)(sa:Sm a)(q:Q (.d<|az<|tm a b,[.d<|az a,.d<|az b])):Wo (CY [.d<|az a,.d<|az b]) Q:=by
 simp![CY,Qq,IP];unfold az;simp!;refine GO (λi ρ=>i<=5/\∃ v3 v4 v5,ρ=[some<|.d<|az a,some<|.d<|az b,some<|.l<|(i5 a b i).map .int,v3,v4,v5]) ⟨by omega,_,_,_,rfl⟩ ?_ ?_
 .rintro i d ρ hd ⟨hi,v3,v4,v5,rfl⟩
  have(x,hx,rfl):=xQ hd;rw[List.getElem?_map]at hx;have(y,hy,rfl):=qr.mp hx;have hi5:i < 5:=by rw[<-ha]; exact(qk.mp hy).1
  have ey:a.getD i 0=y:=by rw[qB,hy]; rfl
  have kR:=fK (n:=i) sa;rw[ey]at kR;simp!;refine w9 (λj ρ=>j<=5 - i/\∃ v5,ρ=[some<|.d<|az a,some<|.d<|az b,some<|.l<|(jv y b i j<|i5 a b i).map .int,some<|.d<|.int (i:Int),some<|.d<|.int y,v5]) ⟨by omega,_,rfl⟩ ?_ ?_
  .rintro j ρ hj ⟨_,v5,rfl⟩
   have l1:(jv y b i j<|i5 a b i).length=5:=by rw[Cf,vE]
   have e1:=uQ (l:=jv y b i j (i5 a b i)) (i:=i+j) (by omega);have e2:=uQ (l:=b) (i:=j) (by omega);have e3:=AL (l:=jv y b i j (i5 a b i)) (i:=i+j) (by omega);have c1:(i:Int)+(j:Int)=((i+j:Nat):Int):=by omega
   unfold az;have h0:(0:Int)<=((i+j:Nat):Int):=by omega
   simp![Int.zero_add,c1,h0,e1,e2,e3,Bi];refine⟨by omega,?_⟩;rw[Fb];exact⟨_,rfl⟩
  .rintro ρ ⟨_,v5,rfl⟩
   simp!;rw[E9,ey,show(5 - (i:Int)).toNat=5 - i by omega];exact⟨by omega,_,_,_,rfl⟩
 .rintro ρ ⟨_,v3,v4,v5,rfl⟩
  rw[vU,List.length_map,ha];simp!;exact q
noncomputable def h9(o:Bool)(l:Qa Int):U:=if o=true then .l (l.map .int)else .d (.list<|l.map .int)
theorem AK{o:Bool}(h:i < l.length):cy (h9 o l) (.d<|.int (i:Int))=some (.d<|.int<|l.getD i 0):=by
 have e:=uQ h;cases o
 .show(br (l.map PyData.int) (i:Int)).map _=_
  rw[e];rfl
 .show(br (l.map PyData.int) (i:Int)).map _=_
  rw[e];rfl
theorem wN{u:U}{x y:α}:(if u.own=true/\u.own=false then x else y)=y:=if_neg λz=>by rw[z.1]at z; cases z.2
theorem Pp{a:Qa Int}{o:Bool}{Q:U×Qa U->Prop}(ha:a.length=5)(hb:b.length=5)(sa:Sm a)(q:Q (.l<|(tm a b).map .int,[h9 o a,h9 o b])):Wo (xS [h9 o a,h9 o b]) Q:=by
 simp![xS,Q6,IP];refine w9 (λi ρ=>∃ v3 v4,ρ=[some<|h9 o a,some<|h9 o b,some<|.l<|(i5 a b i).map .int,v3,v4]) ⟨_,_,rfl⟩ ?_ ?_
 .rintro i ρ hi ⟨v3,v4,rfl⟩
  have hi5:i < 5:=hi;have kR:=fK (n:=i) sa;simp!;refine w9 (λj ρ=>∃ v4,ρ=[some<|h9 o a,some<|h9 o b,some<|.l<|(jv (a.getD i 0) b i j<|i5 a b i).map .int,some<|.d<|.int<|0+(i:Int),v4]) ⟨_,rfl⟩ ?_ ?_
  .rintro j ρ hj ⟨v4,rfl⟩
   have l1:(jv (a.getD i 0) b i j<|i5 a b i).length=5:=by rw[Cf,vE]
   have e1:=uQ (l:=jv (a.getD i 0) b i j (i5 a b i)) (i:=i+j) (by omega);have e2:=AK (o:=o) (l:=b) (i:=j) (by omega);have e4:=AK (o:=o) (l:=a) (i:=i) (by omega);have e3:=AL (l:=jv (a.getD i 0) b i j (i5 a b i)) (i:=i+j) (by omega);have c1:(i:Int)+(j:Int)=((i+j:Nat):Int):=by omega
   simp![Int.zero_add,c1,e1,e2,e3,e4,Bi];rw[Fb];exact⟨_,rfl⟩
  .rintro ρ ⟨v4,rfl⟩
   simp!;rw[E9,show(5 - (0+(i:Int))).toNat=5 - i by omega];exact⟨_,_,rfl⟩
 .rintro ρ ⟨v3,v4,rfl⟩
  simp![wN];exact q
end K57
open PySem L2
namespace K57
open PySem L2
noncomputable def aU(mv:ME)(p:Ar×En):Qb (Ar×Ar×En):=(mv p.2).bind λq=>some (p.1,q)
def rL(j:Nat)(ρ:En)(x y:D)(p:Ar×Ar×En):Prop:=p.1.get p.2.2=some (.d x)/\p.2.1.get p.2.2=some (.d y)/\p.2.2.set j none=ρ
theorem LC{mv:ME}{p:Ar×En}{Q:Ar×Ar×En->Prop}:Wo (aU mv p) Q=Wo (mv p.2) (Co (λq=>some (p.1,q)) ⟨0⟩ Q):=by
 unfold aU;rw[zo]
theorem LB{c:β->D}{mk mv:ME}{ρ:En}{k:Int->Qa Int}{v:Int->β}{Q:Qa (Qa Key×D)×En->Prop}:∀ {ss:Qa Int} {ys:Pq β},ys.length+ss.length<=1000->
  (∀ s∈ss,Wo (mk<|ρ.set j<|some<|.d<|.int s)<|Co (aU mv) ⟨0⟩<|rL j ρ (az<|k s)<|c<|v s)->
  Q (aZ c<|(ss.map λs=>(k s,v s)).foldl (λys t=>bI ys t.1 t.2) ys,ρ)->Wo (rS j mk mv (ss.map .int) ρ<|aZ c ys) Q
 | [],ys,_,_,q=>⟨_,rfl,q⟩
 | s::ss,ys,hl,st,q=>by
  rw[qu]at hl;have(p,e1,z,e0,hh):=st s qp;have(y,e2,e3):=zb e0;cases e3;have(h1,h2,h3):=hh;dsimp only at h1 h2 h3;have hz:sizeLine=16777216:=sizeLine_eq;have hk:cn (az<|k s)=some (kL<|k s):=pb _;have pl:=vF ys (k s) (v s);rw[List.map_cons];unfold rS;rw[if_pos (by rw[B6]; omega),e1,bd,e2,bd,h1,bd,h2,bd];show Wo ((cn<|az<|k s).bind _) Q;rw[hk,bd,h3,F3];exact LB (by omega) (λs hs=>st s<|qo _ hs) q
theorem MK{c:β->D}{g:α->D}{mg:MG}{mi:MI}{mk mv:ME}{ρ:En}{ss:Qa Int}{k:α->Int->Qa Int}{v:α->Int->β}{ρ1:α->En}{Q:Qa (Qa Key×D)×En->Prop}:∀ {as:Qa α} {ys:Pq β},ys.length+as.length * ss.length<=1000->
  (∀ a∈as,mg (g a) ρ=some (ρ1 a)/\mi (ρ1 a)=some (ss.map .int,ρ1 a)/\reset nt ((ρ1 a).set j none)=ρ/\∀ s∈ss,Wo (mk<|((ρ1 a).set j none).set j<|some<|.d<|.int s)<|Co (aU mv) ⟨0⟩<|rL j ((ρ1 a).set j none) (az<|k a s)<|c<|v a s)->
  Q (aZ c<|(as.flatMap λa=>ss.map λs=>(k a s,v a s)).foldl (λys t=>bI ys t.1 t.2) ys,ρ)->Wo (qG nt j mg mi mk mv (as.map g) ρ<|aZ c ys) Q
 | [],ys,_,_,q=>⟨_,rfl,q⟩
 | a::as,ys,hl,st,q=>by
  have(e1,e2,e3,e4):=st a qp;rw[qu,Nat.add_mul,Nat.one_mul]at hl;rw[List.map_cons];unfold qG;rw[e1,bd,e2,bd,zo];refine LB (by omega) e4 ?_;rw[jN];dsimp only;rw[e3];have fl:∀ (l:Pq β) (acc:Pq β),(l.foldl (λys t=>bI ys t.1 t.2) acc).length<=acc.length+l.length:=by
   intro l
   induction l with
   | nil=>intro acc; simp
   | cons t l ih=>
    intro acc;have h1:=ih (bI acc t.1 t.2);have h2:=vF acc t.1 t.2;simp only[List.foldl_cons,qu];omega
  have:=fl (ss.map λs=>(k a s,v a s)) ys;rw[List.length_map]at this;refine MK (by omega) (λb hb=>st b<|qo _ hb) ?_;rw[List.flatMap_cons,List.foldl_append]at q;exact q
noncomputable def fV:Qa Int:=[0,0,0,0,0]
noncomputable def mx(sg:Qa Int)(ts:Qa (Qa Int)):Qa Int:=(sg.zip ts).foldl (λacc p=>pl p.1 acc p.2) fV
theorem tz{ts:Qa (Qa Int)}{s:Int}{t:Qa Int}(h:sg.length=ts.length):mx (sg++[s]) (ts++[t])=pl s (mx sg ts) t:=by
 unfold mx;rw[List.zip_append h,List.foldl_append];rfl
def Sg(n:Nat)(sg:Qa Int):Prop:=sg.length=n/\∀ s∈sg,s=0\/s=1\/s=-1
def L5(ts:Qa (Qa Int)):Prop:=∀ t∈ts,t.length=5
theorem LA:∀ {ps:Qa (Int×Qa Int)} {acc:Qa Int},acc.length=5->(∀ p∈ps,p.2.length=5)->(ps.foldl (λacc p=>pl p.1 acc p.2) acc).length=5
 | [],acc,h,_=>h
 | p::ps,acc,h,hp=>by
  have:=hp p qp;exact LA (ps:=ps) (acc:=pl p.1 acc p.2) (by rw[sQ (by omega)]; exact h) λq hq=>hp q<|qo _ hq
theorem lI{ts:Qa (Qa Int)}(h:L5 ts):(mx sg ts).length=5:=LA rfl λp hp=>h _ (Û hp).2
structure MX (ts:Qa (Qa Int)) (p:Pq (Qa Int)):Prop where
 sg:∀ e∈p,Sg ts.length e.2/\e.1=mx e.2 ts
 all:∀ sg,Sg ts.length sg->∃ v,look p (mx sg ts)=some v
 len:p.length<=3^ts.length
theorem NK{P:Qa Int×β->Prop}:∀ {l acc:Pq β},(∀ t∈acc,P t)->(∀ t∈l,P t)->∀ t∈l.foldl (λys t=>bI ys t.1 t.2) acc,P t
 | [],_,h,_=>h
 | u::l,acc,h,hl=>NK (l:=l) (acc:=bI acc u.1 u.2) (λt ht=>by
   rcases GL ht with⟨z,_⟩|rfl
   .exact h t z
   .exact hl u qp) λt ht=>hl t<|qo _ ht
theorem GU{p:Pq β}{k k':Qa Int}{x:β}(h:k'=k\/∃ v,look p k'=some v):∃ v,look (bI p k x) k'=some v:=by
 have e:(look (bI p k x) k').isSome=true:=by
  rw[Hi,List.any_eq_true];have hk:k'∈(bI p k x).map (·.1):=by
   rw[Og];have m:∀ {v:β},look p k'=some v->k'∈p.map (·.1):=λhv=>À.mpr ⟨_,mw hv,rfl⟩;split
   .rename_i hc
    rcases h with rfl|⟨v,hv⟩
    .rw[<-Hi,Option.isSome_iff_exists]at hc
     have(v,hv):=hc;exact m hv
    .exact m hv
   .rcases h with rfl|⟨v,hv⟩
    .simp
    .exact Í _ (m hv)
  have(t,ht,rfl):=À.mp hk;exact⟨t,ht,by simp⟩
 exact è.mp e
theorem NJ{k':Qa Int}:∀ {l acc:Pq β},((∃ t∈l,t.1=k')\/∃ v,look acc k'=some v)->∃ v,look (l.foldl (λys t=>bI ys t.1 t.2) acc) k'=some v
 | [],acc,h=>h.elim (λ⟨t,ht,_⟩=>(by cases ht)) id
 | u::l,acc,h=>by
  refine NJ (l:=l) (acc:=bI acc u.1 u.2) ?_;rcases h with⟨t,ht,e⟩|h
  .rcases qv.mp ht with rfl|ht
   .exact .inr (GU<|.inl e.symm)
   .exact .inl ⟨t,ht,e⟩
  .exact .inr (GU<|.inr h)
theorem NH:∀ (l acc:Pq β),(l.foldl (λys t=>bI ys t.1 t.2) acc).length<=acc.length+l.length
 | [],acc=>by simp
 | t::l,acc=>by
  have h1:=NH l (bI acc t.1 t.2);have h2:=vF acc t.1 t.2;simp only[List.foldl_cons,qu];omega
noncomputable def rJ:Qa Int:=[0,1,-1]
theorem MX.step{ts:Qa (Qa Int)}{p:Pq (Qa Int)}(m:MX ts p)(t:Qa Int):MX (ts++[t]) ((p.flatMap λa=>rJ.map λs=>(pl s a.1 t,a.2++[s])).foldl (λys t=>bI ys t.1 t.2) []):=by
 have ms:∀ s∈rJ,s=0\/s=1\/s=-1:=λs hs=>by simpa [rJ] using hs
 refine⟨NK (λt ht=>by cases ht) λu hu=>?_,λsg hs=>NJ<|.inl ?_,?_⟩
 .have(a,ha,hu):=â.mp hu
  have(s,hs,rfl):=À.mp hu;obtain⟨⟨l1,a1⟩,e1⟩:=m.sg a ha;refine⟨⟨by simp[l1],λx hx=>?_⟩,?_⟩
  .rcases Á.mp hx with hx|hx
   .exact a1 x hx
   .rw[qq.mp hx]
    exact ms s hs
  .show pl s a.1 t=mx (a.2++[s]) (ts++[t])
   rw[tz l1,<-e1]
 .have(l1,a1):=hs
  rw[qt,List.length_singleton]at l1;have rY:sg≠[]:=λz=>by rw[z]at l1; simp at l1
  obtain⟨tO,s,rfl⟩:∃ tO s,sg=tO++[s]:=⟨sg.dropLast,sg.getLast rY,(List.dropLast_concat_getLast rY).symm⟩;have l2:tO.length=ts.length:=by simpa using l1
  have(v,hv):=m.all tO ⟨l2,λx hx=>a1 x<|Í _ hx⟩;refine⟨(pl s (mx tO ts) t,v++[s]),â.mpr ⟨(mx tO ts,v),mw hv,À.mpr ⟨s,?_,rfl⟩⟩,?_⟩
  .have:=a1 s (qw _ qp)
   simp only[rJ,qv,List.not_mem_nil,or_false];exact this
  .show pl s (mx tO ts) t=_
   rw[tz l2]
 .refine qy (NH _ _) ?_
  rw[List.length_nil,Nat.zero_add,List.length_flatMap,qt,List.length_singleton,Nat.pow_succ];have e:(p.map λa=>(rJ.map λs=>(pl s a.1 t,a.2++[s])).length)=p.map λ_=>3:=É λa _=>by simp[rJ]
  have:(p.map λ_=>(3:Nat)).sum=p.length * 3:=by
   rw[List.map_const',List.sum_replicate_nat]
  rw[e,this];exact Ø _ m.len
theorem MX.nil:MX [] [(fV,[])]:=by
 refine⟨λe he=>?_,λsg hs=>?_,qe _⟩
 .cases qq.mp he
  exact⟨⟨rfl,λs hs=>by cases hs⟩,rfl⟩
 .have:sg=[]:=ñ hs.1
  subst this;exact⟨[],rfl⟩
noncomputable def pM(o:Bool)(ts:Qa (Qa Int)):U:=if o=true then .l (ts.map az)else .d (.list<|ts.map az)
theorem ke5:cn (PyData.tuple [[PyData.int 0],[PyData.int 0],[PyData.int 0],[PyData.int 0],[PyData.int 0]].flatten)=some (kL fV):=pb fV
theorem zBM{o:Bool}{ts:Qa (Qa Int)}:(pM o ts).fz=some (.list<|ts.map az):=by cases o<;>rfl
theorem Ra{s:Int}(h:l.length<=100):oY (.d<|az l) (.d<|.tuple [.int s])=some (.d<|az<|l++[s]):=by
 have hz:sizeLine=16777216:=sizeLine_eq;cases l with
 | nil=>rfl
 | cons x l=>
  rw[qu]at h;show(if _/\_ then _ else _)=_;rw[if_pos ⟨λz=>by simp at z,by simp; omega⟩];unfold az;rw[List.map_append];rfl
theorem Ce{o:Bool}{ts:Qa (Qa Int)}{Q:U×Qa U->Prop}(h5:L5 ts)(hn:ts.length<=3)(k:∀ p,MX ts p->Q (.t<|aZ az p,[.d<|.list<|ts.map az])):Wo (tD [pM o ts]) Q:=by
 simp![tD,Mv,ke5,zBM];refine hG (λbs cs ρ=>∃ p v2,MX bs p/\ρ=[some<|.d<|.list<|ts.map az,some<|.t<|aZ az p,v2]) ⟨_,_,MX.nil,rfl⟩ ?_ ?_
 .rintro bs t cs ρ et ⟨p,v2,m,rfl⟩
  simp!;have hl:bs.length<=2:=by
   have:=congrArg List.length et;simp at this;omega
  have t5:t.length=5:=h5 t (by rw[et]; simp);have b5:L5 bs:=λx hx=>h5 x (by rw[et]; exact Í _ hx);unfold gH;refine MK (c:=az) (ss:=rJ) (k:=λa s=>pl s a.1 t) (v:=λa s=>a.2++[s]) (ρ1:=λa=>[some<|.d<|az a.1,some<|.d<|az a.2,none,some<|.d<|az t]) (ys:=[]) ?_ (λa ha=>⟨rfl,rfl,rfl,λs hs=>?_⟩) ?_
  .have:=m.len
   have:(3:Nat)^bs.length<=3^2:=Ä (by omega) hl;show 0+p.length * 3<=1000;omega
  .obtain⟨⟨l1,_⟩,e1⟩:=m.sg a ha
   have a5:a.1.length=5:=by rw[e1]; exact lI b5
   have lM:-1<=s/\s<=1:=by
    simp only[rJ,qv,List.not_mem_nil,or_false]at hs;omega
   have ec:=Ra (l:=a.2) (s:=s) (by omega);simp![LC];refine Pr (by omega) a5 lM ?_;simp![ec,LC];exact⟨rfl,rfl,rfl⟩
  .simp!
   exact⟨_,_,m.step t,rfl⟩
 .rintro ρ ⟨p,v2,m,rfl⟩
  simp!;exact k p m
end K57
open PySem L2
namespace K57
open PySem L2
def BL(B:Int)(l:Qa Int):Prop:=∀ x∈l,-B<=x/\x<=B
theorem zBe{A B:Int}{s:Int}{a:Qa Int}(ha:BL A a)(hb:BL B b)(hs:s=0\/s=1\/s=-1)(hB:0<=B):BL (A+B) (pl s a b):=λx hx=>by
 unfold pl at hx;have(t,ht,rfl):=À.mp hx;have h1:=ha _ (Û ht).1;have h2:=hb _ (Û ht).2;rcases hs with rfl|rfl|rfl<;>omega
theorem KN{B:Int}(hB:0<=B):∀ {ps:Qa (Int×Qa Int)} {acc:Qa Int} {A:Int},BL A acc->(∀ p∈ps,BL B p.2)->(∀ p∈ps,p.1=0\/p.1=1\/p.1=-1)->BL (A+ps.length * B) (ps.foldl (λacc p=>pl p.1 acc p.2) acc)
 | [],acc,A,h,_,_=>λx hx=>by
  have:=h x hx;simp only[List.length_nil];omega
 | p::ps,acc,A,h,hp,hs=>λx hx=>by
  have:=KN hB (ps:=ps) (zBe h (hp p qp) (hs p qp) hB) (λq hq=>hp q<|qo _ hq) (λq hq=>hs q<|qo _ hq) x hx;have e:(((p::ps).length:Nat):Int) * B=B+(ps.length:Int) * B:=by
   rw[qu,Int.natCast_add,Int.add_mul];omega
  rw[e];omega
theorem E8{ts:Qa (Qa Int)}{B:Int}(hB:0<=B)(hs:Sg ts.length sg)(ht:∀ t∈ts,BL B t):BL (ts.length * B) (mx sg ts):=λx hx=>by
 have:=KN hB (ps:=sg.zip ts) (acc:=fV) (A:=0) (λy hy=>by simp[fV]at hy; omega) (λp hp=>ht _ (Û hp).2) (λp hp=>hs.2 _ (Û hp).1) x hx;rw[List.length_zip,hs.1,Nat.min_self]at this;omega
noncomputable def c2(x:Qa Int×Qa Int):D:=.tuple [az x.1,az x.2]
noncomputable def pC(r:Pq β)(k:Qa Int)(x:β):Pq β:=match look r k with
 | some _=>r
 | none=>bI r k x
theorem sdG{c:β->D}{r:Pq β}{k:Qa Int}{x:β}{ρ:En}(h:ρ[i]?=some (some<|.t<|aZ c r)):Jg (aZ c r) (kL k) (c x) i ρ=(.u<|.d<|c<|(look r k).getD x,ρ.set i<|some<|.t<|aZ c<|pC r k x):=by
 unfold Jg pC;rw[M1];cases e:look r k with
 | some v=>
  show(Ar.u<|.d<|c v,ρ)=(.u<|.d<|c v,ρ.set i<|some<|.t<|aZ c r);congr 1;have(hl,he):=qk.mp h;rw[<-he,List.set_getElem_self]
 | none=>
  show(Ar.u<|.d<|c x,ρ.set i<|some<|.t<|dN (aZ c r) (kL k)<|c x)=_;rw[F3];rfl
theorem zBf{p:Pq (Qa Int)}:(aZ az p).map (λp=>PyData.tuple [ic p.1,p.2])=p.map λt=>.tuple [az t.1,az t.2]:=by
 unfold aZ;rw[List.map_map];refine É λt _=>?_;show PyData.tuple [ic<|kL t.1,az t.2]=_;rw[F4]
structure PX (ts:Qa (Qa Int)) (r:Pq (Qa Int×Qa Int)):Prop where
 sg:∀ e∈r,Sg ts.length e.2.1/\Sg ts.length e.2.2/\e.1=tm (mx e.2.1 ts) (mx e.2.2 ts)
 all:∀ a b,Sg ts.length a->Sg ts.length b->∃ v,look r (tm (mx a ts)<|mx b ts)=some v
 len:r.length<=1000
theorem WV{r:Pq β}{k:Qa Int}{x:β}{t:Qa Int×β}(h:t∈pC r k x):t∈r\/t=(k,x):=by
 unfold pC at h;split at h
 .exact .inl h
 .rcases GL h with⟨z,_⟩|z
  .exact .inl z
  .exact .inr z
theorem GS{r:Pq β}{k k':Qa Int}{x:β}(h:k'=k\/∃ v,look r k'=some v):∃ v,look (pC r k x) k'=some v:=by
 unfold pC;split
 .rename_i v hv
  rcases h with rfl|h
  .exact⟨v,hv⟩
  .exact h
 .exact GU h
theorem WU{r:Pq β}{k:Qa Int}{x:β}:(pC r k x).length<=r.length+1:=by
 unfold pC;split
 .omega
 .exact vF r k x
theorem P6{o:Bool}{ts:Qa (Qa Int)}{Q:U×Qa U->Prop}(h5:L5 ts)(hB:∀ t∈ts,BL 1000 t)(hn:ts.length<=3)(k:∀ r,PX ts r->Q (.t<|aZ c2 r,[.d<|.list<|ts.map az])):Wo (xN [pM o ts]) Q:=by
 simp![xN,PQ];refine Ce h5 hn λp m=>?_;simp!;have pn:p.length<=27:=qy m.len (show 3^ts.length<=3^3 from Ä (by omega) hn);have p5:∀ e∈p,e.1.length=5/\Sm e.1:=λe he=>by
  have(s1,e1):=m.sg e he;rw[e1];refine⟨lI h5,λx hx=>?_⟩;have:=E8 (by omega) s1 hB x hx;omega
 rw[zBf];refine hG (λbs cs ρ=>∃ r v3 v4 v5 v6,(∀ e∈r,Sg ts.length e.2.1/\Sg ts.length e.2.2/\e.1=tm (mx e.2.1 ts) (mx e.2.2 ts))/\(∀ a∈bs,∀ b∈p,∃ v,look r (tm a.1 b.1)=some v)/\r.length<=bs.length * p.length/\ρ=[some<|.d<|.list<|ts.map az,some<|.d<|.list<|p.map λt=>.tuple [az t.1,az t.2],some<|.t<|aZ c2 r,v3,v4,v5,v6]) ⟨[],_,_,_,_,λe he=>(by cases he),λa ha=>(by cases ha),by simp,rfl⟩ ?_ ?_
 .rintro bs a cs ρ ep ⟨r,v3,v4,v5,v6,r1,r2,r3,rfl⟩
  have ha:a∈p:=by rw[ep]; simp
  have lb:bs.length+1<=p.length:=by rw[ep]; simp
  simp!;refine hG (λD0 cs2 ρ=>∃ r v5 v6,(∀ e∈r,Sg ts.length e.2.1/\Sg ts.length e.2.2/\e.1=tm (mx e.2.1 ts) (mx e.2.2 ts))/\(∀ a∈bs,∀ b∈p,∃ v,look r (tm a.1 b.1)=some v)/\(∀ b∈D0,∃ v,look r (tm a.1 b.1)=some v)/\r.length<=bs.length * p.length+D0.length/\ρ=[some<|.d<|.list<|ts.map az,some<|.d<|.list<|p.map λt=>.tuple [az t.1,az t.2],some<|.t<|aZ c2 r,some<|.d<|az a.1,some<|.d<|az a.2,v5,v6]) ⟨r,_,_,r1,r2,λb hb=>(by cases hb),by simpa using r3,rfl⟩ ?_ ?_
  .rintro D0 b cs2 ρ sC ⟨r,v5,v6,r1,r2,r4,r3,rfl⟩
   have hb:b∈p:=by rw[sC]; simp
   have lb2:D0.length+1<=p.length:=by rw[sC]; simp
   have hr:r.length < 16777216:=by
    have:bs.length * p.length<=27 * 27:=Õ (by omega) pn;omega
   simp!;refine zg3 (p5 a ha).1 (p5 b hb).1 (p5 a ha).2 ?_;have hc:PyData.tuple [az a.2,az b.2]=c2 (a.2,b.2):=rfl;simp![hc,B6,hr];rw[sdG (c:=c2) (r:=r) rfl];refine⟨pC r (tm a.1 b.1) (a.2,b.2),_,_,λe he=>?_,λx hx y hy=>GS<|.inr<|r2 x hx y hy,λy hy=>?_,?_,rfl⟩
   .rcases WV he with he|rfl
    .exact r1 e he
    .have(s1,e1):=m.sg a ha
     have(s2,e2):=m.sg b hb;exact⟨s1,s2,by rw[e1,e2]⟩
   .rcases Á.mp hy with hy|hy
    .exact GS (.inr<|r4 y hy)
    .rw[qq.mp hy]
     exact GS<|.inl rfl
   .have:=WU (r:=r) (k:=tm a.1 b.1) (x:=(a.2,b.2))
    omega
  .rintro ρ ⟨r,v5,v6,r1,r2,r4,r3,rfl⟩
   simp!;refine⟨r,_,_,_,_,r1,λx hx y hy=>?_,?_,rfl⟩
   .rcases Á.mp hx with hx|hx
    .exact r2 x hx y hy
    .rw[qq.mp hx]
     exact r4 y hy
   .rw[Nat.add_mul,Nat.one_mul]
    exact r3
 .rintro ρ ⟨r,v3,v4,v5,v6,r1,r2,r3,rfl⟩
  simp!;refine k r ⟨r1,λa b ha hb=>?_,?_⟩
  .have(va,ea):=m.all a ha
   have(vb,eb):=m.all b hb;have:=r2 (mx a ts,va) (mw ea) (mx b ts,vb) (mw eb);exact this
  .have h2:p.length * p.length<=27 * 27:=Õ pn pn
   exact qy r3<|qy h2 (by decide)
end K57
open PySem L2
namespace K57
open PySem L2
noncomputable def nD(n:Int):D:=.tuple [.str "number",.tuple [.int n,.int 1]]
noncomputable def lD:D:=.tuple [.str "letter",.int 0]
noncomputable def r3(w:Str)(a b:Nat):D:=.tuple [.str w,.int (a:Int),.int (b:Int)]
noncomputable def AJ:Qa Int:=[1,0,0,0,0]
noncomputable def x5:Qa Int:=[0,1,0,0,0]
def Dg(n:Nat)(v:Qa Int):Prop:=∀ i,n < i->v.getD i 0=0
inductive Rw (vs:Qa (Qa Int)) (i:Nat):D->Qa Int->Prop
 | pI:Rw vs i (nD 0) fV
 | pH:Rw vs i (nD 1) AJ
 | gN:Rw vs i lD x5
 | plus {a b:Nat} {va vb:Qa Int} (ha:a < i) (hb:b < i) (ea:vs[a]?=some va) (eb:vs[b]?=some vb):Rw vs i (r3 "plus" a b) (pl 1 va vb)
 | less {a b:Nat} {va vb:Qa Int} (ha:a < i) (hb:b < i) (ea:vs[a]?=some va) (eb:vs[b]?=some vb):Rw vs i (r3 "less" a b) (pl (-1) va vb)
 | times {a b m n:Nat} {va vb:Qa Int} (ha:a < i) (hb:b < i) (ea:vs[a]?=some va) (eb:vs[b]?=some vb) (hm:Dg m va) (hn:Dg n vb) (h:m+n<=4):Rw vs i (r3 "times" a b) (tm va vb)
theorem l8{vs ws:Qa α}{a:Nat}{v:α}(h:vs[a]?=some v):(vs++ws)[a]?=some v:=by
 rw[List.getElem?_append_left (qk.mp h).1];exact h
theorem Rw.app{r:D}(h:Rw vs i r v):Rw (vs++ws) i r v:=by
 cases h with
 | pI=>exact .pI
 | pH=>exact .pH
 | gN=>exact .gN
 | plus ha hb ea eb=>exact .plus ha hb (l8 ea)<|l8 eb
 | less ha hb ea eb=>exact .less ha hb (l8 ea)<|l8 eb
 | times ha hb ea eb hm hn h=>exact .times ha hb (l8 ea) (l8 eb) hm hn h
def RV(rs:Qa D)(vs:Qa (Qa Int)):Prop:=rs.length=vs.length/\L5 vs/\∀ (i:Nat) (r:D) (v:Qa Int),rs[i]?=some r->vs[i]?=some v->Rw vs i r v
theorem RV.snoc{rs:Qa D}{r:D}(h:RV rs vs)(hr:Rw vs vs.length r v)(h5:v.length=5):RV (rs++[r]) (vs++[v]):=by
 have(h1,h2,h3):=h;refine⟨by simp[h1],λt ht=>?_,λi r' v' e1 e2=>?_⟩
 .rcases Á.mp ht with ht|ht
  .exact h2 t ht
  .rw[qq.mp ht]
   exact h5
 .by_cases hi:i < rs.length
  .rw[List.getElem?_append_left hi]at e1
   rw[List.getElem?_append_left (by omega)]at e2;exact(h3 i r' v' e1 e2).app
  .have cU:=(qk.mp e1).1
   rw[qt,List.length_singleton]at cU;have ei:i=rs.length:=by omega
   subst ei;rw[List.getElem?_append_right<|qe _,Nat.sub_self]at e1;rw[h1,List.getElem?_append_right<|qe _,Nat.sub_self]at e2;cases e1;cases e2;rw[h1];exact hr.app
noncomputable def iS:D->Bool
 | .tuple (.str w::_)=>decide<|w = "times"
 | _=>false
noncomputable def kN(n:Int):Qa K3:=[.inl<|.inr "number",.inr [.inl<|.inl n,.inl<|.inl 1]]
noncomputable def kX:Qa K3:=[.inl<|.inr "letter",.inl<|.inl 0]
inductive Sh:D->Qa K3->Qa Int->Prop
 | z:Sh (nD 0) (kN 0) fV
 | o:Sh (nD 1) (kN 1) AJ
 | x:Sh lD kX x5
theorem Sh.nk{r:D}{k:Qa K3}(h:Sh r k v):DE r=some k:=by cases h<;>rfl
theorem Sh.tm{r:D}{k:Qa K3}(h:Sh r k v):iS r=false:=by cases h<;>rfl
theorem Sh.l5{r:D}{k:Qa K3}(h:Sh r k v):v.length=5:=by cases h<;>rfl
theorem Sh.rw{r:D}{k:Qa K3}(h:Sh r k v):Rw vs i r v:=by
 cases h
 .exact .pI
 .exact .pH
 .exact .gN
theorem Sh.one{r r':D}{k:Qa K3}{v':Qa Int}(h:Sh r k v)(h':Sh r' k v'):v=v':=by
 have n1:kN 0≠kN 1:=by decide
 have n2:kN 0≠kX:=by decide
 have n3:kN 1≠kX:=by decide
 generalize e:k=k' at h';cases h<;>cases h'<;>first|rfl|exact absurd e n1|exact absurd e n2|exact absurd e n3|exact absurd e.symm n1|exact absurd e.symm n2|exact absurd e.symm n3
def Pls(pl:Qa (Qa K3×D))(vs:Qa (Qa Int)):Prop:=∀ e∈pl,∃ (i:Nat) (r:D) (v:Qa Int),e.2=.int (i:Int)/\vs[i]?=some v/\Sh r e.1 v
structure Md (n:Nat) (vs:Qa (Qa Int)) (c:Nat) (u:U):Prop where
 ex:∃ rs ps pl,u=hW rs ps pl []/\rs.length<=n/\ps.length<=n/\pl.length<=n/\RV rs vs/\(rs.filter iS).length=c/\Pls pl vs
theorem Md.up{c:Nat}{u:U}(h:Md n vs c u)(l:n<=m):Md m vs c u:=by
 have(rs,ps,pl,e,h1,h2,h3,h4):=h.ex;exact⟨rs,ps,pl,e,by omega,by omega,by omega,h4⟩
theorem qT{rs ps RJ rM:Qa D}{pl ml Dz ml':Qa (Qa K3×D)}{x y:α}:(if(hW rs ps pl ml).own=true/\(hW RJ rM Dz ml').own=false then x else y)=y:=if_neg λz=>by cases z.2
theorem IS{u:U}{row:D}{r:En}:oF (Ar.s 1,some u::some (.d row)::r)=DE row:=rfl
theorem Ht{c:Nat}{u:U}{row:D}{Q:U×Qa U->Prop}(h:Md n vs c u)(hn:n<=1000)(hr:Rw vs vs.length row v)(h5:v.length=5)(k:∀ u',Md (n+1) (vs++[v]) (c+if iS row=true then 1 else 0) u'->Q (.d<|.int (vs.length:Int),[u',.d row])):Wo (zT [u,.d row]) Q:=by
 have(rs,ps,pl,rfl,h1,h2,h3,h4,h6,h7):=h.ex;simp![zT,QY,qT];have e:(((rs.length+1:Nat):Int) - 1)=(vs.length:Int):=by
  have:=h4.1;omega
 rw[e];refine k _ ⟨_,_,_,rfl,by simp; omega,by simp; omega,by omega,h4.snoc hr h5,?_,λe he=>?_⟩
 .rw[List.filter_append,qt,h6]
  congr 1;rw[List.filter_cons];split<;>simp
 .have(i,r,v,e1,e2,e3):=h7 e he
  exact⟨i,r,v,e1,l8 e2,e3⟩
theorem Yt{pl:Qa (Qa K3×D)}{x:D}:gg (dN pl key x) key=some x:=by
 unfold gg dN;split
 .rename_i h
  induction pl with
  | nil=>simp at h
  | cons t pl ih=>
   rw[List.map_cons,List.find?_cons]
   by_cases c:t.1=key
   .rw[if_pos c,decide_eq_true c]
    rfl
   .rw[if_neg c,decide_eq_false c]
    refine ih ?_;rw[List.any_cons,decide_eq_false c,Bool.false_or]at h;exact h
 .rename_i h
  rw[List.find?_append];have e:pl.find? (λkv=>decide<|kv.1=key)=none:=by
   rw[List.find?_eq_none];intro t ht z;exact h<|ê.mpr ⟨t,ht,z⟩
  rw[e];simp
theorem Ys{pl:Qa (Qa K3×D)}{x:D}:(dN pl key x).length<=pl.length+1:=by
 unfold dN;split
 .rw[List.length_map]; omega
 .simp
theorem Yr{pl:Qa (Qa K3×D)}{x:D}{e:Qa K3×D}(h:e∈dN pl key x):e∈pl\/e=(key,x):=by
 unfold dN at h;split at h
 .have(t,ht,rfl):=À.mp h
  by_cases c:t.1=key
  .rw[if_pos c,c]
   exact .inr rfl
  .rw[if_neg c]
   exact .inl ht
 .rcases Á.mp h with h|h
  .exact .inl h
  .exact .inr (qq.mp h)
theorem Yq{pl:Qa (Qa K3×D)}{x:D}(h:gg pl key=some x):(key,x)∈pl:=by
 unfold gg at h;have(t,ht,rfl):=qr.mp h;have h1:=List.mem_of_find?_eq_some ht;have h2:t.1=key:=by simpa using List.find?_some ht
 rw[<-h2];exact h1
theorem Hn{c:Nat}{u:U}{row:D}{Q:U×Qa U->Prop}(hs:Sh row key v)(h:Md n vs c u)(hn:n<=1000)
  (k:∀ u' (i:Nat) ws,Md (n+2) (vs++ws) c u'->(vs++ws)[i]?=some v->(ws=[]\/(ws=[v]/\i=vs.length))->Q (.d<|.int (i:Int),[u',.d row])):Wo (vP [u,.d row]) Q:=by
 have(rs,ps,pl,rfl,h1,h2,h3,h4,h6,h7):=id h.ex;have hk:=hs.nk;simp![vP,P9,IS,hk];cases e:gg pl key with
 | some d=>
  have(i,r,v',e1,e2,e3):=h7 _ (Yq e);cases e3.one hs;dsimp only at e1;subst e1;simp![Option.isSome_some,Bool.not_true,Bool.false_eq_true,IS,hk,e,qT];exact k _ i [] (by rw[List.append_nil]; exact h.up (by omega)) (by rw[List.append_nil]; exact e2)<|.inl rfl
 | none=>
  simp![Option.isSome_none,Bool.not_false];refine Ht h hn hs.rw hs.l5 λu' h'=>?_;have(RJ,rM,Dz,rfl,g1,g2,g3,g4,g6,g7):=h'.ex;simp![IS,hk,Yt,qT];have:=Ys (pl:=Dz) (key:=key) (x:=.int (vs.length:Int));refine k _ vs.length [v] ⟨_,_,_,rfl,by omega,by omega,by omega,g4,?_,λe he=>?_⟩ (by simp)<|.inr ⟨rfl,rfl⟩
  .rw[g6,hs.tm]
   simp
  .rcases Yr he with he|rfl
   .exact g7 e he
   .exact⟨vs.length,row,v,rfl,by simp,hs⟩
noncomputable def vl(vs:Qa (Qa Int))(i:Nat):Qa Int:=vs.getD i fV
noncomputable def sm(vs:Qa (Qa Int))(is:Qa Nat)(k:Nat):Int:=(is.map λi=>(vl vs i).getD k 0).sum
theorem Br(h:vs[i]?=some v):vl vs i=v:=by
 unfold vl;rw[qB,h];rfl
theorem jQ{s:Int}:∀ {a b:Qa Int} {k:Nat},a.length=b.length->(pl s a b).getD k 0=a.getD k 0+s * b.getD k 0
 | [],[],k,_=>by simp[pl]
 | x::a,y::b,0,_=>by simp[pl]
 | x::a,y::b,k+1,h=>by
  have:=jQ (s:=s) (a:=a) (b:=b) (k:=k) (by simpa using h);simpa [pl] using this
 | [],y::b,_,h=>by simp at h
 | x::a,[],_,h=>by simp at h
theorem Hs{c:Nat}{u:U}{w:Str}{s:Int}{t:Nat}{r:Qa Int}{a b d:Qb U}{is:Qa Nat}{Q:Fl->Prop}
  (hw:(w = "plus"/\s=1)\/(w = "less"/\s=-1)) (h:Md n vs c u) (hn:n+is.length<=1000) (h5:L5 vs) (ht:vs[t]?=some r) (hi:∀ i∈is,i < vs.length)
  (k:∀ u' ws (t':Nat) r' v,Md (n+is.length) (vs++ws) c u'->(vs++ws)[t']?=some r'->(∀ k,r'.getD k 0=r.getD k 0+s * sm vs is k)->(is=[]/\ws=[]/\t'=t\/is≠[]/\t'+1=(vs++ws).length)->Q (.nx [some u',a,b,d,some<|.d<|.int (t':Int),v])) {v:Qb U}:
  Wo (gD (zy 5) (aV 4<|lg "NewRows" 0 "add_new" zT<|zf (bq<|zf (mC<|.str w)<|zf (zj 4)<|zf (zj 5) zt) zt) (is.map λ(i:Nat)=>PyData.int (i:Int)) [some u,a,b,d,some<|.d<|.int (t:Int),v]) Q:=by
 refine hG (λbs cs ρ=>∃ u' ws t' r' v,Md (n+bs.length) (vs++ws) c u'/\(vs++ws)[t']?=some r'/\(∀ k,r'.getD k 0=r.getD k 0+s * sm vs bs k)/\(bs=[]/\ws=[]/\t'=t\/bs≠[]/\t'+1=(vs++ws).length)/\ρ=[some u',a,b,d,some<|.d<|.int (t':Int),v]) ⟨u,[],t,r,v,by rw[List.append_nil]; exact h,by rw[List.append_nil]; exact ht,λk=>by simp[sm],.inl ⟨rfl,rfl,rfl⟩,rfl⟩ ?_ ?_
 .rintro bs i cs ρ ei ⟨u',ws,t',r',v,hu,we,rW,hl,rfl⟩
  have Sk:=hi i (by rw[ei]; simp);have hbl:bs.length+1<=is.length:=by rw[ei]; simp
  have Jx:vs[i]?=some (vl vs i):=by rw[Br<|qm Sk]; exact qm Sk
  have(rs,ps,Dz,e,g1,g2,g3,g4,g5):=id hu.ex;subst e;have l1:r'.length=5:=g4.2.1 r' (Â we);have l2:(vl vs i).length=5:=h5 _ (Â Jx);have tl:=(qk.mp we).1;have il:i < (vs++ws).length:=by rw[qt]; omega
  have hrw:Rw (vs++ws) (vs++ws).length (r3 w t' i) (K57.pl s r'<|vl vs i):=by
   rcases hw with⟨rfl,rfl⟩|⟨rfl,rfl⟩
   .exact .plus tl il we (l8 Jx)
   .exact .less tl il we (l8 Jx)
  have hnt:iS (r3 w t' i)=false:=by
   rcases hw with⟨rfl,rfl⟩|⟨rfl,rfl⟩<;>rfl
  have er:PyData.tuple [.str w,.int (t':Int),.int (i:Int)]=r3 w t' i:=rfl;simp![er];refine Ht hu (by omega) hrw (by rw[sQ (by omega)]; exact l1) λu2 h2=>?_;rw[hnt]at h2;simp!;refine⟨u2,ws++[K57.pl s r'<|vl vs i],(vs++ws).length,K57.pl s r'<|vl vs i,⟨some<|.d<|.int (i:Int),?_,by rw[<-List.append_assoc]; simp,λk=>?_,.inr ⟨by simp,by simp; omega⟩,by simp⟩⟩
  .rw[<-List.append_assoc]
   have h3:=h2.up (m:=n+(bs.length+1)) (by omega);simpa using h3
  .rw[jQ (by omega),rW]
   unfold sm;rw[List.map_append,List.sum_append];simp;grind
 .rintro ρ ⟨u',ws,t',r',v,hu,we,rW,hl,rfl⟩
  exact k u' ws t' r' v hu we rW hl
end K57
open PySem L2
namespace K57
open PySem L2
theorem Bq{k:Nat}:fV.getD k 0=0:=by
 match k with
 | 0|1|2|3|4=>rfl
 | k+5=>rfl
theorem Cc(h:i < vs.length):vl (vs++ws) i=vl vs i:=by
 unfold vl;rw[qB,qB,List.getElem?_append_left h]
theorem E7(h:i < vs.length):vs[i]?=some (vl vs i):=by
 rw[Br<|qm h];exact qm h
theorem T1{k:Nat}{is:Qa Nat}(h:∀ i∈is,i < vs.length):sm (vs++ws) is k=sm vs is k:=by
 induction is with
 | nil=>rfl
 | cons i is ih=>
  have:=ih λj hj=>h j<|qo _ hj;unfold sm at this ⊢;rw[List.map_cons,List.map_cons,List.sum_cons,List.sum_cons,this,Cc<|h i qp]
noncomputable def xD(t:Bool×Nat):D:=.tuple [.bool t.1,.int (t.2:Int)]
noncomputable def sx(vs:Qa (Qa Int))(xs:Qa (Bool×Nat))(k:Nat):Int:=(xs.map λt=>if t.1=true then(vl vs t.2).getD k 0 else - (vl vs t.2).getD k 0).sum
theorem zBg{k:Nat}{xs:Qa (Bool×Nat)}:sx vs xs k=sm vs ((xs.filter λt=>t.1).map λt=>t.2) k - sm vs ((xs.filter λt=>!t.1).map λt=>t.2) k:=by
 induction xs with
 | nil=>rfl
 | cons t xs ih=>
  have(b,i):=t;unfold sx sm at ih ⊢;cases b
  .simp at ih ⊢
   omega
  .simp at ih ⊢
   omega
theorem TZ{k:Nat}{xs:Qa (Bool×Nat)}(h:∀ t∈xs,t.2 < vs.length):sx (vs++ws) xs k=sx vs xs k:=by
 induction xs with
 | nil=>rfl
 | cons t xs ih=>
  have:=ih λj hj=>h j<|qo _ hj;unfold sx at this ⊢;rw[List.map_cons,List.map_cons,List.sum_cons,List.sum_cons,this,Cc<|h t qp]
theorem WT{k:Nat}{xs:Qa (Bool×Nat)}{b:Bool}{t:Nat}:sx vs (xs++[(b,t)]) k=sx vs xs k+if b=true then(vl vs t).getD k 0 else - (vl vs t).getD k 0:=by
 unfold sx;rw[List.map_append,List.sum_append];simp
theorem KL{xs:Qa α}{a b:α}(h:xs++[a]=[b]):xs=[]/\a=b:=by
 rcases xs with _|⟨x,xs⟩
 .simp at h
  exact⟨rfl,h⟩
 .simp at h
theorem zpE{c:Nat}{u:U}{xs:Qa (Bool×Nat)}{Q:U×Qa U->Prop}(h:Md n vs c u)(hn:n<=900)(hl:xs.length<=4)(hx:∀ t∈xs,t.2 < vs.length)
  (k:∀ u' ws (t:Nat) r,Md (n+10) (vs++ws) c u'->(vs++ws)[t]?=some r->(∀ k,r.getD k 0=sx vs xs k)->(t+1=(vs++ws).length\/(∃ j,xs=[(true,j)]/\ws=[]/\t=j)\/(xs=[]/\vs≠[]))->Q (.d<|.int (t:Int),[u',.d<|.list<|xs.map xD])):Wo (Di [u,.l<|xs.map xD]) Q:=by
 have hz:sizeLine=16777216:=sizeLine_eq;unfold xD at k ⊢;simp![Di,QU];refine Ca (b:=λt=>t.1) (e:=λt=>.int (t.2:Int)) (by omega) (λt ht ys=>?_) ?_
 .have(b,d):=t
  cases b<;>simp!
 .simp!
  refine Ca (b:=λt=>!t.1) (e:=λt=>.int (t.2:Int)) (by omega) (λt ht ys=>?_) ?_
  .have(b,d):=t
   cases b<;>simp!
  .have e1:((xs.filter λt=>t.1).map λt=>PyData.int (t.2:Int))=((xs.filter λt=>t.1).map λt=>t.2).map λ(i:Nat)=>PyData.int (i:Int):=by simp
   have e2:((xs.filter λt=>!t.1).map λt=>PyData.int (t.2:Int))=((xs.filter λt=>!t.1).map λt=>t.2).map λ(i:Nat)=>PyData.int (i:Int):=by simp
   rw[e1,e2];have l1:((xs.filter λt=>t.1).map λt=>t.2).length<=4:=by
    rw[List.length_map];exact qy (Ô _ _) hl
   have l2:((xs.filter λt=>!t.1).map λt=>t.2).length<=4:=by
    rw[List.length_map];exact qy (Ô _ _) hl
   have m1:∀ i∈(xs.filter λt=>t.1).map λt=>t.2,i < vs.length:=λi hi=>by
    have(t,ht,rfl):=À.mp hi;exact hx t (ß.mp ht).1
   have m2:∀ i∈(xs.filter λt=>!t.1).map λt=>t.2,i < vs.length:=λi hi=>by
    have(t,ht,rfl):=À.mp hi;exact hx t (ß.mp ht).1
   have ev:∀ k,sx vs xs k=sm vs ((xs.filter λt=>t.1).map λt=>t.2) k - sm vs ((xs.filter λt=>!t.1).map λt=>t.2) k:=λk=>zBg;have en:((xs.filter λt=>t.1).map λt=>t.2)=[]->((xs.filter λt=>!t.1).map λt=>t.2)=[]->xs=[]:=by
    rcases xs with _|⟨⟨_|_,i⟩,xs⟩<;>simp
   have eo:∀ j,((xs.filter λt=>t.1).map λt=>t.2)=[j]->((xs.filter λt=>!t.1).map λt=>t.2)=[]->xs=[(true,j)]:=by
    rcases xs with _|⟨⟨_|_,i⟩,xs⟩<;>simp;intro e1 e2;rcases xs with _|⟨⟨_|_,i⟩,xs⟩
    .rfl
    .exact absurd qp (e2 i)
    .exact absurd qp (e1 i)
   generalize ((xs.filter λt=>t.1).map λt=>t.2)=as at l1 m1 ev en eo;generalize ((xs.filter λt=>!t.1).map λt=>t.2)=bs at l2 m2 ev en eo;have fin:∀ {u':U} {m t:Nat} {ws:Qa (Qa Int)} {r:Qa Int} {ds:Qa D} {v:Qb U},Md (n+m) (vs++ws) c u'->m<=6->(vs++ws)[t]?=some r->(∀ k,r.getD k 0=sm vs as k)->(bs=[]->t+1=(vs++ws).length\/(∃ j,xs=[(true,j)]/\ws=[]/\t=j)\/(xs=[]/\vs≠[]))->Wo (gD (zy 5) (aV 4<|lg "NewRows" 0 "add_new" zT<|zf (bq<|zf (mC<|.str "less")<|zf (zj 4)<|zf (zj 5) zt) zt) (bs.map λ(i:Nat)=>PyData.int (i:Int)) [some u',some<|.d<|.list<|xs.map λt=>.tuple [.bool t.1,.int (t.2:Int)],some<|.l ds,some<|.d<|.list<|bs.map λ(i:Nat)=>PyData.int (i:Int),some<|.d<|.int (t:Int),v])
     (Co (lV<|bg<|zj 4) ⟨0⟩<|Co (A6 [0,1] [u,.l<|xs.map λt=>.tuple [.bool t.1,.int (t.2:Int)]]) ⟨0⟩ Q):=λ{u' m t ws r ds v} hu hm ht hr cT=>by
    have(_,_,_,_,_,_,_,g4,_):=hu.ex;refine Hs (.inr ⟨rfl,rfl⟩) hu (by omega) g4.2.1 ht (λi hi=>by rw[qt]; have:=m2 i hi; omega) λu2 w2 t2 r2 v h2 c8 t8 i8=>?_;have(r0,q0,l0,rfl,_):=id h.ex;have(r1,q1,l1,rfl,_):=id h2.ex;simp![qT];rw[List.append_assoc]at h2 c8;refine k _ _ _ _ (h2.up (by omega)) c8 (λk=>?_) ?_
    .rw[t8,hr,ev,T1 m2]
     omega
    .rcases i8 with⟨a1,a2,a3⟩|⟨_,a2⟩
     .rw[a2,a3,List.append_nil]
      exact cT a1
     .rw[<-List.append_assoc]
      exact .inl a2
   cases as with
   | nil=>
    have ht:(U.l ([]:Qa D)).vV=some false:=rfl;have(r0,q0,l0,eu,g):=id h.ex;subst eu;simp![ht];have es:PyData.tuple [.str "number",.tuple [.int 0,.int 1]]=nD 0:=rfl;rw[es];refine Hn .z h (by omega) λu' i ws h' hi hd=>?_;have ec:j8 ([]:Qa D) (some 1) none=([]:Qa Nat).map λ(i:Nat)=>PyData.int (i:Int):=rfl;simp!;rw[ec];have(_,_,_,_,_,_,_,g4,_):=h'.ex;refine Hs (.inl ⟨rfl,rfl⟩) h' (by simp; omega) g4.2.1 hi (by simp) λu2 w2 t2 r2 v2 h2 c8 t8 i8=>?_;simp!;rw[List.append_assoc]at h2 c8;refine fin (m:=2) (h2.up (by simp)) (by omega) c8 (λk=>?_) λhb=>?_
    .rw[t8,Bq]
     simp[sm]
    .obtain⟨_,a2,a3⟩:_/\w2=[]/\t2=i:=i8.resolve_right λz=>z.1 rfl
     subst a2 a3;rcases hd with rfl|⟨rfl,rfl⟩
     .refine .inr (.inr ⟨en rfl hb,λz=>?_⟩)
      rw[z]at hi;simp at hi
     .exact .inl (by simp)
   | cons a as=>
    have ht:(U.l<|PyData.int (a:Int)::as.map λ(i:Nat)=>PyData.int (i:Int)).vV=some true:=rfl;have ea:br (PyData.int (a:Int)::as.map λ(i:Nat)=>PyData.int (i:Int)) 0=some (.int (a:Int)):=by
     unfold br;rw[qu,Kz,bd];rfl
    rw[qu]at l1;have(r0,q0,l0,eu,g):=id h.ex;subst eu;simp![ht,ea];have ec:j8 (PyData.int (a:Int)::as.map λ(i:Nat)=>PyData.int (i:Int)) (some 1) none=as.map λ(i:Nat)=>PyData.int (i:Int):=(Om (by simp)).trans rfl;rw[ec];have(_,_,_,_,_,_,_,g4,_):=h.ex;have ha:=m1 a qp;refine Hs (.inl ⟨rfl,rfl⟩) h (by omega) g4.2.1 (E7 ha) (λi hi=>m1 i<|qo _ hi) λu2 w2 t2 r2 v2 h2 c8 t8 i8=>?_;simp!;refine fin (m:=as.length) h2 (by omega) c8 (λk=>?_) λhb=>?_
    .rw[t8]
     simp[sm]
    .rcases i8 with⟨a1,a2,a3⟩|⟨_,a2⟩
     .exact .inr (.inl ⟨a,eo a (by rw[a1]) hb,a2,a3⟩)
     .exact .inl a2
noncomputable def T2:Qa (Qa Int):=[[1,0,0,0,0],[0,1,0,0,0]]
noncomputable def hJ(vs:Qa (Qa Int))(rows:Qa Nat):Qa (Qa Int):=T2++rows.map (vl vs)
theorem GR:(hJ vs rows).length=2+rows.length:=by
 simp[hJ,T2]; omega
noncomputable def iD(i:Nat):D:=.int (i:Int)
theorem zlA{c:Nat}{u:U}{Q:U×Qa U->Prop}(h:Md n vs c u)(hn:n<=900)(hi:i < 2+rows.length)(hr:∀ j∈rows,j < vs.length)
  (k:∀ u' ws (t:Nat) v,Md (n+2) (vs++ws) c u'->(vs++ws)[t]?=some v->(hJ vs rows)[i]?=some v->(ws=[]\/(ws=[v]/\t=vs.length))->(2<=i->ws=[]/\rows[i - 2]?=some t)->Q (.d<|.int (t:Int),[u',.d<|.int (i:Int),.l<|rows.map iD])):Wo (CT [u,.d<|.int (i:Int),.l<|rows.map iD]) Q:=by
 have(r0,q0,l0,eu,g):=id h.ex;subst eu;simp![CT,O8];refine oM (λh0=>?_) λh0=>?_
 .have h0':i=0:=by first|omega | (simp at h0; omega)
  subst h0';have es:PyData.tuple [.str "number",.tuple [.int 1,.int 1]]=nD 1:=rfl;simp![es];refine Hn .o h (by omega) λu' t ws h' ht hd=>?_;have(r1,q1,l1,rfl,_):=id h'.ex;simp![qT];exact k _ ws t _ h' ht rfl hd λz=>by omega
 .simp!
  refine oM (λh1=>?_) λh1=>?_
  .have jy:i=1:=by first|omega | (simp at h1; omega)
   subst jy;have es:PyData.tuple [.str "letter",.int 0]=lD:=rfl;simp![es];refine Hn .x h (by omega) λu' t ws h' ht hd=>?_;have(r1,q1,l1,rfl,_):=id h'.ex;simp![qT];exact k _ ws t _ h' ht rfl hd λz=>by omega
  .simp at h0 h1
   have hj:i - 2 < rows.length:=by omega
   have ex:br (rows.map iD) ((i:Int) - 2)=some (.int (rows[i - 2]:Int)):=by
    unfold br eI;rw[List.length_map,if_pos (by omega),if_pos (by omega),bd,show((i:Int) - 2).toNat=i - 2 by omega,List.getElem?_map,qm hj];rfl
   simp![ex,qT];have hm:=hr rows[i - 2] (List.getElem_mem hj);refine k _ [] rows[i - 2] (vl vs rows[i - 2]) (by rw[List.append_nil]; exact h.up (by omega)) (by rw[List.append_nil]; exact E7 hm) ?_ (.inl rfl) λ_=>⟨rfl,qm hj⟩;unfold hJ;rw[List.getElem?_append_right (by show 2<=i; omega)];show(rows.map<|vl vs)[i - 2]?=_;rw[List.getElem?_map,qm hj];rfl
theorem MH(hr:∀ j∈rows,j < vs.length):hJ (vs++ws) rows=hJ vs rows:=by
 unfold hJ;congr 1;exact É λj hj=>Cc<|hr j hj
theorem E6(h5:L5 vs)(hr:∀ j∈rows,j < vs.length):L5 (hJ vs rows):=λt ht=>by
 rcases Á.mp ht with ht|ht
 .simp only[T2,qv,List.not_mem_nil,or_false]at ht
  rcases ht with rfl|rfl<;>rfl
 .have(j,hj,rfl):=À.mp ht
  exact h5 _<|Â<|E7<|hr j hj
theorem El{a:Qa Int}(ha:a.length=5)(hb:b.length=5)(h:∀ k,a.getD k 0=b.getD k 0):a=b:=by
 refine List.ext_getElem (by omega) λk h1 h2=>?_;have:=h k;rw[qB,qB,qm h1,qm h2]at this;exact this
def Lc(vs:Qa (Qa Int))(sg:Qa Int)(rows:Qa Nat):Prop:=vs=[]\/∃ p,rows≠[]/\rows[rows.length - 1]?=some p/\p+1=vs.length/\sg.length=2+rows.length/\sg[sg.length - 1]?≠some 0
theorem Hr{c:Nat}{u:U}{Q:U×Qa U->Prop}(h:Md n vs c u)(hn:n<=800)(hs:∀ s∈sg,s=0\/s=1\/s=-1)(hl:sg.length<=4)(hg:sg.length<=2+rows.length)(hr:∀ j∈rows,j < vs.length)
  (k:∀ u' ws (t:Nat),Md (n+20) (vs++ws) c u'->(vs++ws)[t]?=some (mx sg<|(hJ vs rows).take sg.length)->(Lc vs sg rows->t+1=(vs++ws).length)->Q (.d<|.int (t:Int),[u',.d<|az sg,.l<|rows.map iD])):Wo (vL [u,.d<|az sg,.l<|rows.map iD]) Q:=by
 have(r0,q0,l0,eu,_,_,_,g4,_):=id h.ex;have h5:=g4.2.1;subst eu;unfold az;have hz:sizeLine=16777216:=sizeLine_eq;simp![vL,OQ];refine By (λi ρ ys=>∃ (xs:Qa (Bool×Nat)) (u':U) (ws:Qa (Qa Int)),i<=sg.length/\Md (n+2 * i) (vs++ws) c u'/\xs.length<=i/\(∀ t∈xs,t.2 < vs.length+ws.length)/\(∀ k,sx (vs++ws) xs k=(mx (sg.take i)<|(hJ vs rows).take i).getD k 0)/\(xs=[]->ws=[])/\(vs=[]->∀ b j,xs=[(b,j)]->j+1=vs.length+ws.length)/\(i=sg.length->Lc vs sg rows->(xs=[]->vs=[])/\∀ b j,xs=[(b,j)]->j+1=vs.length+ws.length)/\ys=xs.map xD/\ρ=[none,none,some<|.l<|rows.map iD,some u']) (by rw[vU,List.length_map]; omega) ?_ ⟨[],_,[],by omega,by rw[List.append_nil]; exact h,by simp,by simp,λk=>by show(0:Int)=fV.getD k 0; rw[Bq],λ_=>rfl,by simp,?_,rfl,rfl⟩ ?_ ?_
 .rintro i ρ ys ⟨xs,u',ws,_,_,hx,_,_,_,_,_,rfl,_⟩
  rw[List.length_map];exact hx
 .intro e lc
  rcases lc with lc|⟨p,_,_,_,a,_⟩
  .exact⟨λ_=>lc,by simp⟩
  .omega
 .rintro i d ρ ys hd ⟨xs,u',ws,hi,hu,hx,yB,yG,yA,Jt,Js,rfl,rfl⟩
  have(x,n8,rfl):=xQ hd;rw[List.getElem?_map]at n8;have(y,hy,rfl):=qr.mp n8;have cU:=(qk.mp hy).1;have it:i < (hJ vs rows).length:=by rw[GR]; omega
  have hm:∀ k,(mx (sg.take<|i+1)<|(hJ vs rows).take<|i+1).getD k 0=(mx (sg.take i)<|(hJ vs rows).take i).getD k 0+y * ((hJ vs rows)[i]).getD k 0:=λk=>by
   rw[List.take_succ_eq_append_getElem cU,List.take_succ_eq_append_getElem it,tz (by simp; omega),(qk.mp hy).2];rw[jQ];rw[lI λt ht=>E6 h5 hr t<|List.mem_of_mem_take ht];exact(E6 h5 hr _<|List.getElem_mem it).symm
  have(r1,q1,l1,eu,_):=id hu.ex;subst eu;simp!
  by_cases h0:y=0
  .rw[decide_eq_true h0]
   simp![Bool.not_true];refine⟨xs,_,ws,cU,hu.up (by omega),by omega,yB,λk=>?_,yA,Jt,λe lc=>?_,rfl,rfl⟩
   .rw[hm,yG,h0]
    omega
   .rcases lc with lc|⟨p,_,_,_,_,b⟩
    .exact⟨λ_=>lc,Jt lc⟩
    .rw[<-e,Nat.add_sub_cancel,hy,h0]at b
     exact absurd rfl b
  .rw[decide_eq_false h0]
   simp![Bool.not_false];refine zlA hu (by omega) (by omega) (λj hj=>by rw[qt]; have:=hr j hj; omega) λu' w2 t v h' ht hv hd h2i=>?_;rw[MH hr,qm it]at hv;cases hv;have(r2,q2,l2,rfl,_):=id h'.ex;have tl:=(qk.mp ht).1;have etv:=Br ht;have one:vs=[]->∀ b j,xs++[(decide<|0 < y,t)]=[(b,j)]->j+1=vs.length+(ws++w2).length:=λev b j e=>by
    have(rfl,ej):=KL e;cases ej;rcases hd with rfl|⟨rfl,rfl⟩
    .rw[ev,yA rfl]at tl
     simp at tl
    .simp
     omega
   simp!;rw[List.append_assoc]at h' ht;refine⟨xs++[(decide<|0 < y,t)],_,ws++w2,cU,h'.up (by omega),by simp; omega,?_,λk=>?_,by simp,?_,?_,?_,rfl⟩
   .intro q hq
    rcases Á.mp hq with hq|hq
    .have:=yB q hq
     simp;omega
    .rw[qq.mp hq]
     simp at tl ⊢;omega
   .rw[<-List.append_assoc,WT,TZ (by rw[qt]; exact yB),yG,hm,etv]
    rcases hs y (Â hy)with rfl|rfl|rfl
    .exact absurd rfl h0
    .simp
    .simp
   .intro ev b j e
    exact one ev b j e
   .intro e lc
    refine⟨by simp,λb j ej=>?_⟩;rcases lc with lc|⟨p,p1,p2,p3,p4,p5⟩
    .exact one lc b j ej
    .have(rfl,ej):=KL ej
     cases ej;have pl:0 < rows.length:=List.length_pos_iff.mpr p1;have(w1,w3):=h2i (by omega);rw[show i - 2=rows.length - 1 by omega,p2]at w3;cases w3;rw[w1,yA rfl];simp
     try omega
   .rw[List.map_append]
    rfl
 .rintro ρ ys ⟨xs,u',ws,_,hu,hx,yB,yG,yA,Jt,Js,rfl,rfl⟩
  have(r1,q1,l1,eu,_,_,_,g4',_):=id hu.ex;subst eu;rw[vU,List.length_map]at hx hu yG Js;simp!;refine zpE hu (by omega) (by omega) (by rw[qt]; exact yB) λu2 w2 t r h2 ht t8 cT=>?_;have(r2,q2,l2,rfl,_,_,_,g5,_):=id h2.ex;simp![qT];rw[List.append_assoc]at h2 ht;refine k _ _ t (h2.up (by omega)) ?_ λlc=>?_
  .rw[ht]
   congr 1;refine El (g5.2.1 r<|Â (by rw[List.append_assoc]; exact ht)) (lI λq hq=>E6 h5 hr q<|List.mem_of_mem_take hq) λk=>?_;rw[t8,yG,List.take_length]
  .have(c1,c2):=Js rfl lc
   rw[<-List.append_assoc];rcases cT with cT|⟨j,rfl,rfl,rfl⟩|⟨rfl,e⟩
   .exact cT
   .have:=c2 _ _ rfl
    simp;omega
   .rw[c1 rfl,yA rfl]at e
    exact absurd rfl e
theorem Dg.up(h:Dg m v)(l:m<=n):Dg n v:=λi hi=>h i (by omega)
theorem zBh{s:Int}{a:Qa Int}(h:a.length=b.length)(ha:Dg n a)(hb:Dg n b):Dg n (pl s a b):=λi hi=>by
 rw[jQ h,ha i hi,hb i hi];simp
theorem Lz:∀ {ps:Qa (Int×Qa Int)} {acc:Qa Int},acc.length=5->Dg n acc->(∀ p∈ps,p.2.length=5/\Dg n p.2)->Dg n (ps.foldl (λacc p=>pl p.1 acc p.2) acc)
 | [],acc,_,h,_=>h
 | p::ps,acc,h5,h,hp=>by
  have(q1,q2):=hp p qp;rw[List.foldl_cons];exact Lz (by rw[sQ<|h5.trans q1.symm]; exact h5) (zBh (h5.trans q1.symm) h q2) λq hq=>hp q<|qo _ hq
theorem Bp{ts:Qa (Qa Int)}(h:∀ t∈ts,t.length=5/\Dg n t):Dg n (mx sg ts):=Lz rfl (λi _=>Bq) λp hp=>h _ (Û hp).2
noncomputable def i6:Qa (Qa Int×Qa Int)->Qa (Qa Int)->Qa (Qa Int)
 | [],ts=>ts
 | f::fs,ts=>i6 fs<|ts++[tm (mx f.1 ts)<|mx f.2 ts]
theorem GX{f:Qa Int×Qa Int}:∀ {fs:Qa (Qa Int×Qa Int)} {ts:Qa (Qa Int)},i6 (fs++[f]) ts=i6 fs ts++[tm (mx f.1<|i6 fs ts)<|mx f.2<|i6 fs ts]
 | [],ts=>rfl
 | g::fs,ts=>GX (fs:=fs) (ts:=_)
structure Rk (m:Nat) (v:Qa Int) (x:D):Prop where
 ex:∃ rs vs,x=.tuple [.tuple [.str "x"],.tuple rs]/\RV rs vs/\rs.length<=120/\(rs.filter iS).length=m/\vs.getLast?=some v
theorem md0:Md 0 [] 0 (hW [] [] [] []):=⟨[],[],[],rfl,by simp,by simp,by simp,⟨rfl,λt ht=>(by cases ht),λi r v e=>by simp at e⟩,rfl,λe he=>(by cases he)⟩
theorem Dt{a0 a1 a2 a3 a4 b0 b1 b2 b3 b4:Int}:tm [a0,a1,a2,a3,a4] [b0,b1,b2,b3,b4]=[a0 * b0,a0 * b1+a1 * b0,a0 * b2+a1 * b1+a2 * b0,a0 * b3+a1 * b2+a2 * b1+a3 * b0,a0 * b4+a1 * b3+a2 * b2+a3 * b1+a4 * b0]:=by
 simp[tm,i5,jv,x8,List.range,List.range.loop,List.replicate]
theorem oG{a:Qa Int}(h:a.length=5):∃ a0 a1 a2 a3 a4,a=[a0,a1,a2,a3,a4]:=by
 rcases a with _|⟨a0,_|⟨a1,_|⟨a2,_|⟨a3,_|⟨a4,_|⟨a5,a⟩⟩⟩⟩⟩⟩<;>simp at h;exact⟨_,_,_,_,_,rfl⟩
theorem zBi{b:Nat}{a c:Qa Int}(hb:b<=1)(la:a.length=5)(lc:c.length=5)(ha:Dg (2^b) a)(hc:Dg (2^b) c):Dg (2^(b+1)) (tm a c):=by
 have(a0,a1,a2,a3,a4,rfl):=oG la;have(c0,c1,c2,c3,c4,rfl):=oG lc;rw[Dt];rcases b with _|_|b
 .have e1:a2=0:=ha 2 (by decide)
  have e2:a3=0:=ha 3 (by decide);have e3:a4=0:=ha 4 (by decide);have f1:c2=0:=hc 2 (by decide);have f2:c3=0:=hc 3 (by decide);have f3:c4=0:=hc 4 (by decide);subst e1 e2 e3 f1 f2 f3;intro i hi;have hi:2 < i:=hi
  match i,hi with
  | 3,_=>simp
  | 4,_=>simp
  | i+5,_=>rfl
 .intro i hi
  have hi:4 < i:=hi
  match i,hi with
  | i+5,_=>rfl
 .omega
theorem zBN{b:Nat}(h:b<=1):2^b+2^b<=4:=by
 rcases b with _|_|b
 .decide
 .decide
 .omega
theorem HV{fs:Qa (Qa Int×Qa Int)}{Q:U×Qa U->Prop}(hf:fs.length<=2)(h1:∀ i e,fs[i]?=some e->Sg (2+i) e.1/\Sg (2+i) e.2)(hs:Sg (2+fs.length) sg)(h0:fs≠[]->sg[sg.length - 1]?≠some 0)(k:∀ x,Rk fs.length (mx sg<|i6 fs T2) x->Q (.d x,[.d<|.list<|fs.map c2,.d<|az sg])):Wo (vQ [.l<|fs.map c2,.d<|az sg]) Q:=by
 simp![vQ,QK];refine hG (λbs cs ρ=>∃ u rows vs v4 v5 v6,Md (50 * bs.length) vs bs.length u/\List.length rows=bs.length/\(∀ j∈rows,j < vs.length)/\hJ vs rows=i6 bs T2/\(∀ t∈i6 bs T2,t.length=5/\Dg (2^bs.length) t)/\(bs=[]/\vs=[]\/∃ p,rows[rows.length - 1]?=some p/\p+1=vs.length)/\ρ=[some<|.d<|.list<|fs.map c2,some<|.d<|az sg,some u,some<|.l<|rows.map iD,v4,v5,v6]) ⟨_,[],[],_,_,_,md0,rfl,by simp,rfl,?_,.inl ⟨rfl,rfl⟩,rfl⟩ ?_ ?_
 .intro t ht
  simp only[i6,T2,qv,List.not_mem_nil,or_false]at ht;rcases ht with rfl|rfl
  .refine⟨rfl,λi hi=>?_⟩
   have hi:1 < i:=hi
   match i,hi with
   | 2,_|3,_|4,_=>rfl
   | i+5,_=>rfl
  .refine⟨rfl,λi hi=>?_⟩
   have hi:1 < i:=hi
   match i,hi with
   | 2,_|3,_|4,_=>rfl
   | i+5,_=>rfl
 .rintro bs e cs ρ ep ⟨u,rows,vs,v4,v5,v6,hu,hr,t7,wd,r9,DR,rfl⟩
  have he:fs[bs.length]?=some e:=by rw[ep]; simp
  have(s1,s2):=h1 _ e he;have cU:=(qk.mp he).1;have(r1,q1,p1,eu,_,_,_,g4,_):=id hu.ex;subst eu;have l1:=s1.1;have l2:=s2.1;unfold c2;simp!;refine Hr hu (by omega) s1.2 (by omega) (by omega) t7 λu2 w2 t2 h2 c8 _=>?_;have(r2,q2,p2,eu,_):=id h2.ex;subst eu;simp!;refine Hr h2 (by omega) s2.2 (by omega) (by omega) (λj hj=>by rw[qt]; have:=t7 j hj; omega) λu3 w3 t3 h3 DO _=>?_;have(r3,q3,p3,eu,_):=id h3.ex;subst eu;simp!;rw[MH t7]at DO;have er:PyData.tuple [.str "times",.int (t2:Int),.int (t3:Int)]=K57.r3 "times" t2 t3:=rfl;rw[er];refine Ht h3 (by omega) (v:=tm (mx e.1<|i6 bs T2) (mx e.2<|i6 bs T2)) ?_ ?_ λu4 h4=>?_
  .have hk:iS (K57.r3 "times" t2 t3)=true:=rfl
   have d1:Dg (2^bs.length) (mx e.1<|i6 bs T2):=Bp r9;have d2:Dg (2^bs.length) (mx e.2<|i6 bs T2):=Bp r9;rw[wd,List.take_of_length_le (by rw[<-wd,GR]; omega)]at c8 DO;exact .times (qk.mp<|l8 c8).1 (qk.mp DO).1 (l8 c8) DO d1 d2<|zBN (by omega)
  .exact vE 5
  have(r4,q4,p4,eu,_):=id h4.ex;subst eu;rw[show(if iS (K57.r3 "times" t2 t3)=true then 1 else 0)=1 from rfl]at h4;generalize hN:(vs++w2++w3).length=N;have em:rows.map iD++[PyData.int (N:Int)]=(rows++[N]).map iD:=by simp[iD]
  simp!;rw[em];have v4N:∀ z:Qa Int,(vs++w2++w3++[z])[N]?=some z:=λz=>by
   rw[<-hN,List.getElem?_append_right<|qe _,Nat.sub_self];rfl
  have eth:∀ z,hJ (vs++w2++w3++[z]) (rows++[N])=hJ vs rows++[z]:=λz=>by
   unfold hJ;rw[List.map_append,<-List.append_assoc];congr 1
   .congr 1
    refine É λj hj=>?_;rw[List.append_assoc,List.append_assoc];exact Cc<|t7 j hj
   .rw[List.map_singleton,Br<|v4N z]
  rw[qt,qt]at hN;have h5':bs.length<=1:=by omega
  refine⟨_,rows++[N],_,_,_,_,h4.up (by omega),by simp[hr],?_,(eth _).trans (by rw[wd,GX]),?_,.inr ⟨N,by simp,by simp; omega⟩,rfl⟩
  .intro j hj
   rcases Á.mp hj with hj|hj
   .have:=t7 j hj
    simp;omega
   .rw[qq.mp hj]
    simp;omega
  .intro t ht
   rw[GX]at ht;rcases Á.mp ht with ht|ht
   .have(a1,a2):=r9 t ht
    exact⟨a1,a2.up<|Ä (by omega) (by omega)⟩
   .rw[qq.mp ht]
    exact⟨vE 5,zBi h5' (lI λt ht=>(r9 t ht).1) (lI λt ht=>(r9 t ht).1) (Bp r9)<|Bp r9⟩
 .rintro ρ ⟨u,rows,vs,v4,v5,v6,hu,hr,t7,wd,r9,DR,rfl⟩
  have(r1,q1,p1,eu,_):=id hu.ex;subst eu;have ls:=hs.1;simp!;refine Hr hu (by omega) hs.2 (by omega) (by omega) t7 λu2 w2 t2 h2 c8 i8=>?_;have(r2,q2,p2,eu,g1,g2,g3,g4,g5,_):=id h2.ex;subst eu;simp!;refine k _ ⟨r2,_,rfl,g4,by omega,g5,?_⟩;rw[wd,List.take_of_length_le (by rw[<-wd,GR]; omega)]at c8;rw[List.getLast?_eq_getElem?,<-c8,<-i8 ?_]
  .rfl
  .rcases DR with⟨_,DR⟩|⟨p,e1,e2⟩
   .exact .inl DR
   .have hp:=(qk.mp e1).1
    have n1:rows≠[]:=λz=>by rw[z]at hp; simp at hp
    have n2:fs≠[]:=λz=>by rw[z]at hr; exact n1<|î.mp hr
    exact .inr ⟨p,n1,e1,e2,by omega,h0 n2⟩
end K57
open PySem L2
namespace K57
open PySem L2
theorem lJ{a b:Int}:mx [a,b] T2=[a,b,0,0,0]:=by
 simp[mx,pl,fV,T2]
theorem Dx{s:Qa Int}(h:Sg 2 s):∃ a b,s=[a,b]/\(a=0\/a=1\/a=-1)/\(b=0\/b=1\/b=-1):=by
 have(a,b,rfl):=EA h.1;exact⟨a,b,rfl,h.2 a (by simp),h.2 b (by simp)⟩
theorem Dw{x y:Int}(hx:x=0\/x=1\/x=-1)(hy:y=0\/y=1\/y=-1):x * y=0\/x * y=1\/x * y=-1:=by
 rcases hx with rfl|rfl|rfl<;>rcases hy with rfl|rfl|rfl<;>decide
theorem TY{s1 s2:Qa Int}(h1:Sg 2 s1)(h2:Sg 2 s2):∃ x y z,tm (mx s1 T2) (mx s2 T2)=[x,y,z,0,0]/\(-1<=x/\x<=1)/\(-2<=y/\y<=2)/\-1<=z/\z<=1:=by
 have(a,b,rfl,ha,hb):=Dx h1;have(c,d,rfl,hc,hd):=Dx h2;rw[lJ,lJ,Dt];have e1:=Dw ha hc;have e2:=Dw ha hd;have e3:=Dw hb hc;have e4:=Dw hb hd;refine⟨a * c,a * d+b * c,b * d,?_,by omega,by omega,by omega⟩;simp
noncomputable def T3(f:Qa Int):Qa (Qa Int):=T2++[f]
theorem AI{f:Qa Int}(h:f.length=5):L5 (T3 f):=λt ht=>by
 simp only[T3,T2,List.mem_append,qv,List.not_mem_nil,or_false]at ht;rcases ht with (rfl|rfl) | rfl
 .rfl
 .rfl
 .exact h
theorem AH:L5 T2:=λt ht=>by
 simp only[T2,qv,List.not_mem_nil,or_false]at ht;rcases ht with rfl|rfl<;>rfl
theorem AG:∀ t∈T2,BL 1000 t:=λt ht x hx=>by
 simp only[T2,qv,List.not_mem_nil,or_false]at ht;rcases ht with rfl|rfl<;>(simp at hx; omega)
theorem NU{s1 s2:Qa Int}(h1:Sg 2 s1)(h2:Sg 2 s2):(tm (mx s1 T2)<|mx s2 T2).length=5/\BL 1000 (tm (mx s1 T2)<|mx s2 T2):=by
 have(x,y,z,e,b1,b2,b3):=TY h1 h2;rw[e];refine⟨rfl,λw hw=>?_⟩;simp only[qv,List.not_mem_nil,or_false]at hw;rcases hw with rfl|rfl|rfl|rfl|rfl<;>omega
theorem zBO{f:Qa Int}(h:BL 1000 f):∀ t∈T3 f,BL 1000 t:=λt ht=>by
 rcases Á.mp ht with ht|ht
 .exact AG t ht
 .rw[qq.mp ht]
  exact h
def lR(f:Qa Int):Prop:=∃ s1 s2,Sg 2 s1/\Sg 2 s2/\f=tm (mx s1 T2) (mx s2 T2)
def W0(t:Qa Int):Prop:=∃ a,Sg 2 a/\t=mx a T2
def W1(t f:Qa Int):Prop:=∃ b,Sg 3 b/\t=mx b (T3 f)
def W2(t f:Qa Int):Prop:=∃ b u v,Sg 3 b/\Sg 3 u/\Sg 3 v/\pl (-1) t (mx b<|T3 f)=tm (mx u<|T3 f) (mx v<|T3 f)
def Way(t:Qa Int):Prop:=W0 t\/(∃ f,lR f/\W1 t f)\/∃ f,lR f/\W2 t f
theorem zBj{f:Qa Int}(hf:f.length=5)(hv:Sg 3 v)(z:v[v.length - 1]?=some 0)(e:l=mx v (T3 f)):W0 l:=by
 have(h1,h2):=hv;rcases v with _|⟨a,_|⟨b,_|⟨c,_|⟨d,v⟩⟩⟩⟩<;>simp at h1;simp at z;subst z;refine⟨[a,b],⟨rfl,λs hs=>h2 s (by simp at hs ⊢; rcases hs with hs|hs<;>simp[hs])⟩,?_⟩;rw[e,show [a,b,(0:Int)]=[a,b]++[0] from rfl];unfold T3;rw[tz rfl];refine El (by rw[sQ (by rw[lJ,hf]; rfl),lJ]; rfl) (by rw[lJ]; rfl) λk=>?_;rw[jQ (by rw[lJ,hf]; rfl)];omega
theorem zmG{t f:Qa Int}{iI:Qa Int×Qa Int}{Q:U×Qa U->Prop}(h5:t.length=5)(hf:f.length=5)(fb:BL 1000 f)(h1:Sg 2 iI.1)(h2:Sg 2 iI.2)(hff:f=tm (mx iI.1 T2) (mx iI.2 T2))(k:∀ x,(x=PyData.none/\¬W2 t f\/Rk 2 t x/\W2 t f)->Q (.d x,[.d<|az t,.d<|.list<|(T3 f).map az,.d<|c2 iI])):Wo (CQ [.d<|az t,.l<|(T3 f).map az,.d<|c2 iI]) Q:=by
 have el:U.l ((T3 f).map az)=pM true (T3 f):=rfl;have uB:U.d (.list<|(T3 f).map az)=pM false (T3 f):=rfl;simp![CQ,OU];rw[el];refine P6 (AI hf) (zBO fb) (by simp[T3,T2]) λr hr=>?_;simp!;rw[uB];refine Ce (AI hf) (by simp[T3,T2]) λp m=>?_;simp!;unfold gH;refine hG (λbs cs ρ=>(∀ e∈bs,look r (pl (-1) t e.1)=none)/\∃ v4 v5 v6,ρ=[some<|.d<|az t,some<|.d<|.list<|(T3 f).map az,some<|.d<|c2 iI,some<|.t<|aZ c2 r,v4,v5,v6]) ⟨λe he=>(by cases he),_,_,_,rfl⟩ ?_ ?_
 .rintro bs e cs ρ ep ⟨hb,v4,v5,v6,rfl⟩
  have he:e∈p:=by rw[ep]; simp
  have(se,ee):=m.sg e he;have e5:e.1.length=5:=by rw[ee]; exact lI<|AI hf
  have RH:e.2.length=3:=se.1;simp!;refine Pr (by omega) h5 (by omega) ?_;cases lk:look r (pl (-1) t e.1)with
  | some v=>
   have(s1,s2,ev):=hr.sg _ (mw lk);have ec:=Ra (l:=e.2) (s:=1) (by omega);simp![lk,Option.map_some,Option.isSome_some,ec];have em:U.l [c2 iI,c2 v]=.l ([iI,v].map c2):=rfl;rw[em];have ept:mx (e.2++[1]) (i6 [iI,v] T2)=t:=by
    have e3:i6 [iI,v] T2=T3 f++[tm (mx v.1<|T3 f)<|mx v.2<|T3 f]:=by
     show T2++[tm (mx iI.1 T2)<|mx iI.2 T2]++[tm (mx v.1<|T2++[tm (mx iI.1 T2)<|mx iI.2 T2])<|mx v.2<|T2++[tm (mx iI.1 T2)<|mx iI.2 T2]]=_;rw[<-hff];rfl
    rw[e3,tz (by rw[RH]; rfl),<-ee,<-ev];have q5:(pl (-1) t e.1).length=5:=by rw[sQ (by omega)]; exact h5
    refine El (by rw[sQ<|e5.trans q5.symm]; exact e5) h5 λk=>?_;rw[jQ<|e5.trans q5.symm,jQ<|h5.trans e5.symm];omega
   refine HV (by simp) ?_ ?_ (λ_=>by simp) λxs t6=>?_
   .intro i x hx
    rcases i with _|_|i
    .cases hx
     exact⟨h1,h2⟩
    .cases hx
     exact⟨s1,s2⟩
    .simp at hx
   .refine⟨by simp[RH],λs hs=>?_⟩
    rcases Á.mp hs with hs|hs
    .exact se.2 s hs
    .rw[qq.mp hs]
     exact .inr<|.inl rfl
   .have eo:(pM true<|T3 f).own=true:=rfl
    simp![eo];rw[ept]at t6;exact k _<|.inr ⟨t6,e.2,v.1,v.2,se,s1,s2,by rw[<-ee]; exact ev⟩
  | none=>
   simp![lk,Option.map_none,Option.isSome_none,Bool.false_eq_true];refine⟨λx hx=>?_,_,_,_,rfl⟩;rcases Á.mp hx with hx|hx
   .exact hb x hx
   .rw[qq.mp hx]
    exact lk
 .rintro ρ ⟨hb,v4,v5,v6,rfl⟩
  simp!;refine k _<|.inl ⟨rfl,?_⟩;rintro⟨b,u,v,sb,su,sv,e⟩;have(vb,hv):=m.all b sb;have h1:=hb _ (mw hv);have(w,hw):=hr.all u v su sv;dsimp only at h1;rw[e,hw]at h1;cases h1
abbrev Tr:=Int×Int×Int
noncomputable def eU(t:Tr):D:=.tuple [.tuple [.int t.1],.tuple [.int t.2.1,.int t.2.2]]
noncomputable def wn:Qa Tr->Qa Int->Qb (Qa Int)
 | [],l=>some l
 | t::r,l=>if t.1>=5\/t.2.2≠1 then none else wn r (l.set t.1.toNat t.2.1)
theorem zg4{ts:Qa Tr}{Q:U×Qa U->Prop}(h0:∀ t∈ts,0<=t.1)(k1:wn ts fV=none->Q (.d .none,[.d<|.tuple<|ts.map eU]))(k2:∀ l,l.length=5->wn ts fV=some l->Q (.d<|az l,[.d<|.tuple<|ts.map eU])):Wo (CZ [.d<|.tuple<|ts.map eU]) Q:=by
 simp![CZ,Qs,IP];refine hG (λbs cs ρ=>∃ l v2 v3,l.length=5/\wn ts fV=wn cs l/\ρ=[some<|.d<|.tuple<|ts.map eU,some<|.l<|l.map .int,v2,v3]) ⟨fV,_,_,rfl,rfl,rfl⟩ ?_ ?_
 .rintro bs t cs ρ et ⟨l,v2,v3,hl,hw,rfl⟩
  have ht:=h0 t (by rw[et]; simp);have ee:eU t=.tuple [.tuple [.int t.1],.tuple [.int t.2.1,.int t.2.2]]:=rfl;simp![ee];refine oM (λc1=>?_) λc1=>?_
  .simp!
   refine k1 ?_;rw[hw];unfold wn;rw[if_pos<|.inl c1]
  .simp!
   refine oM (λc2=>?_) λc2=>?_
   .simp!
    refine k1 ?_;rw[hw];unfold wn;rw[if_pos<|.inr (by simpa using c2)]
   .have hi:t.1.toNat < l.length:=by omega
    have en:t.1=((t.1.toNat:Nat):Int):=by omega
    have e3:=AL (l:=l) hi;rw[<-en]at e3;simp![e3,Bi];refine⟨l.set t.1.toNat t.2.1,_,_,?_,?_,rfl⟩
    .rw[List.length_set,hl]
    .rw[hw]
     show(if _ then _ else _)=_;rw[if_neg (by simp at c2; omega)]
 .rintro ρ ⟨l,v2,v3,hl,hw,rfl⟩
  simp!;exact k2 l hl hw
def zBP(l:Qa Int)(x:D):Prop:=x=.none/\¬Way l\/(∃ y,x=.tuple [.int 0,y]/\Rk 0 l y/\W0 l)\/(∃ y,x=.tuple [.int 1,y]/\Rk 1 l y/\¬W0 l/\∃ f,lR f/\W1 l f)\/∃ y,x=.tuple [.int 2,y]/\Rk 2 l y/\¬W0 l/\∀ f,lR f->¬W1 l f
theorem zmH{ts:Qa Tr}{Q:U×Qa U->Prop}(h0:∀ t∈ts,0<=t.1)(k1:wn ts fV=none->Q (.d .none,[.d<|.tuple<|ts.map eU]))(k2:∀ l x,l.length=5->wn ts fV=some l->zBP l x->Q (.d x,[.d<|.tuple<|ts.map eU])):Wo (CP [.d<|.tuple<|ts.map eU]) Q:=by
 simp![CP,OZ];refine zg4 h0 (λe=>?_) λl hl e=>?_
 .have iN:jd false (.d .none) (.d .none)=some (.d<|.bool true):=rfl
  simp![iN];exact k1 e
 .have el:U.l [PyData.tuple [.int 1,.int 0,.int 0,.int 0,.int 0],.tuple [.int 0,.int 1,.int 0,.int 0,.int 0]]=pM true T2:=rfl
  have uB:U.d (.list<|T2.map az)=pM false T2:=rfl;have ep:az l=.tuple (l.map .int):=rfl;have iN:jd false (.d<|az l) (.d .none)=some (.d<|.bool false):=rfl;simp![iN];rw[el];refine Ce AH (by decide) λp m=>?_;cases lk:look p l with
  | some v=>
   have hv:=m.sg _ (mw lk);have v2:v.length=2:=hv.1.1;simp![lk,Option.map_some,Option.isSome_some];have em:U.l []=.l (([]:Qa (Qa Int×Qa Int)).map c2):=rfl;rw[em];refine HV (by simp) (λi e he=>by simp at he) hv.1 (λz=>absurd rfl z) λxs t6=>?_;simp!;have hx:Rk 0 l xs:=by rw[show l=mx v T2 from hv.2]; exact t6
   exact k2 l _ hl e<|.inr<|.inl ⟨_,rfl,hx,v,hv.1,hv.2⟩
  | none=>
   have n0:¬W0 l:=by
    rintro⟨a,sa,ea⟩;have(v,hv):=m.all a sa;rw[<-ea,lk]at hv;cases hv
   simp![lk,Option.map_none,Option.isSome_none,Bool.false_eq_true];rw[uB];refine P6 AH AG (by decide) λr hr=>?_;simp!;unfold gH;have fst:∀ e∈r,lR e.1/\e.1.length=5/\BL 1000 e.1/\Sg 2 e.2.1/\Sg 2 e.2.2/\e.1=tm (mx e.2.1 T2) (mx e.2.2 T2):=λe he=>by
    have(s1,s2,ee):=hr.sg e he;rw[ee];have(h1,h2):=NU s1 s2;exact⟨⟨_,_,s1,s2,rfl⟩,h1,h2,s1,s2,rfl⟩
   have Ak:∀ {f:Qa Int},Bk (.d<|.list<|T2.map az) (.l [az f])=some (.l<|(T3 f).map az):=λ{f}=>by
    show(if(T2.map az).length+[az f].length<=sizeLine then some (U.l<|T2.map az++[az f])else none)=_;rw[if_pos (by rw[sizeLine_eq]; show 2+1<=16777216; omega)];rfl
   refine hG (λbs cs ρ=>(∀ e∈bs,¬W1 l e.1)/\∃ v3 v5 v6 v7,ρ=[some<|.d<|.tuple<|ts.map eU,some<|.d<|az l,some<|.d<|.list<|T2.map az,v3,some<|.d<|.dict<|cw c2 r,v5,v6,v7]) ⟨λe he=>(by cases he),_,_,_,_,rfl⟩ ?_ ?_
   .rintro bs a cs ρ ep ⟨hb,v3,v5,v6,v7,rfl⟩
    have ha:a∈r:=by rw[ep]; simp
    have(f1,f5,fb,s1,s2,ea):=fst a ha;simp![Ak];have J1:U.l ((T3 a.1).map az)=pM true (T3 a.1):=rfl;rw[J1];refine Ce (AI f5) (by simp[T3,T2]) λq mq=>?_;cases lq:look q l with
    | some v=>
     have hv:=mq.sg _ (mw lq);have v3:v.length=3:=hv.1.1;simp![lq,Option.map_some,Option.isSome_some];have em:U.l [c2 a.2]=.l ([a.2].map c2):=rfl;rw[em];have ea3:i6 [a.2] T2=T3 a.1:=by
      show T2++[tm (mx a.2.1 T2)<|mx a.2.2 T2]=_;rw[<-ea];rfl
     refine HV (by simp) ?_ hv.1 (λ_ z=>?_) λxs t6=>?_
     .intro i x hx
      rcases i with _|i
      .cases hx
       exact⟨s1,s2⟩
      .simp at hx
     .refine n0 (zBj f5 hv.1 z ?_)
      exact hv.2
     .simp!
      rw[ea3,<-show l=mx v (T3 a.1) from hv.2]at t6;exact k2 l _ hl e<|.inr<|.inr<|.inl ⟨_,rfl,t6,n0,a.1,f1,v,hv.1,hv.2⟩
    | none=>
     simp![lq,Option.map_none,Option.isSome_none,Bool.false_eq_true];refine⟨λx hx=>?_,_,_,_,_,rfl⟩;rcases Á.mp hx with hx|hx
     .exact hb x hx
     .rw[qq.mp hx]
      rintro⟨b,sb,eb⟩;have(v,hv):=mq.all b sb;rw[<-eb,lq]at hv;cases hv
   .rintro ρ ⟨Ag,v3,v5,v6,v7,rfl⟩
    simp!;unfold gH;refine hG (λbs cs ρ=>(∀ e∈bs,¬W2 l e.1)/\∃ v3 v5 v6 v7,ρ=[some<|.d<|.tuple<|ts.map eU,some<|.d<|az l,some<|.d<|.list<|T2.map az,v3,some<|.d<|.dict<|cw c2 r,v5,v6,v7]) ⟨λe he=>(by cases he),_,_,_,_,rfl⟩ ?_ ?_
    .rintro bs a cs ρ ep ⟨hb,v3,v5,v6,v7,rfl⟩
     have ha:a∈r:=by rw[ep]; simp
     have(f1,f5,fb,s1,s2,ea):=fst a ha;simp![Ak];refine zmG hl f5 fb s1 s2 ea λx hx=>?_;have un:∀ {f},lR f->∃ e∈r,e.1=f:=λ{f} hf=>by
      have(s1,s2,h1,h2,rfl):=hf;have(v,hv):=hr.all s1 s2 h1 h2;exact⟨_,mw hv,rfl⟩
     rcases hx with⟨rfl,hx⟩|⟨hx,_⟩
     .have Jo:jd true (.d .none) (.d .none)=some (.d<|.bool false):=rfl
      simp![Jo];refine⟨λy hy=>?_,_,_,_,_,rfl⟩;rcases Á.mp hy with hy|hy
      .exact hb y hy
      .rw[qq.mp hy]
       exact hx
     .have(rs,vs,rfl,_):=id hx.ex
      have Jo:jd true (.d<|PyData.tuple [.tuple [.str "x"],.tuple rs]) (.d .none)=some (.d<|.bool true):=rfl;simp![Jo];refine k2 l _ hl e<|.inr<|.inr<|.inr ⟨_,rfl,hx,n0,λf hf h=>?_⟩;have(e,he,rfl):=un hf;exact Ag e he h
    .rintro ρ ⟨oh,v3,v5,v6,v7,rfl⟩
     simp!;refine k2 l _ hl e<|.inl ⟨rfl,?_⟩;have un:∀ {f},lR f->∃ e∈r,e.1=f:=λ{f} hf=>by
      have(s1,s2,h1,h2,rfl):=hf;have(v,hv):=hr.all s1 s2 h1 h2;exact⟨_,mw hv,rfl⟩
     rintro(h|⟨f,hf,h⟩|⟨f,hf,h⟩)
     .exact n0 h
     .have(e,he,rfl):=un hf
      exact Ag e he h
     .have(e,he,rfl):=un hf
      exact oh e he h
end K57
open PySem L2
namespace K57
open PySem L2
noncomputable def yj(sg:Qa Int)(ts:Qa (Qa Int))(k:Nat):Int:=((sg.zip ts).map λp=>p.1 * p.2.getD k 0).sum
noncomputable def DH(sg:Qa Int)(ts:Qa (Qa Int)):Qa Int:=(List.range 5).map (yj sg ts)
theorem KJ{k:Nat}:∀ {ps:Qa (Int×Qa Int)} {acc:Qa Int},acc.length=5->(∀ p∈ps,p.2.length=5)->(ps.foldl (λacc p=>pl p.1 acc p.2) acc).getD k 0=acc.getD k 0+(ps.map λp=>p.1 * p.2.getD k 0).sum
 | [],acc,_,_=>by simp
 | p::ps,acc,h,hp=>by
  have h5:=hp p qp;rw[List.foldl_cons,KJ (by rw[sQ (by omega)]; exact h) λq hq=>hp q<|qo _ hq,jQ (by omega),List.map_cons,List.sum_cons];omega
theorem TX{ts:Qa (Qa Int)}(h:L5 ts):DH sg ts=mx sg ts:=by
 have l5:=lI (sg:=sg) h;have Ay:∀ k,(mx sg ts).getD k 0=yj sg ts k:=λk=>by
  unfold mx yj;rw[KJ rfl λp hp=>h _ (List.of_mem_zip hp).2];have:fV.getD k 0=0:=by
   rcases k with _|_|_|_|_|k<;>rfl
  omega
 unfold DH;have(a,b,c,d,e,hx):=qF l5;have h0:=Ay 0;have h1:=Ay 1;have h2:=Ay 2;have h3:=Ay 3;have h4:=Ay 4;rw[hx]at h0 h1 h2 h3 h4 ⊢;simp only[List.getD_cons_zero,List.getD_cons_succ]at h0 h1 h2 h3 h4;rw[show List.range 5=[0,1,2,3,4] from rfl];simp only[List.map_cons,List.map_nil];rw[<-h0,<-h1,<-h2,<-h3,<-h4]
noncomputable def DI(o:Bool)(l:Qa Int):U:=if o=true then .l (l.map .int)else .d (.list<|l.map .int)
noncomputable def cK(ts:Qa (Qa Int)):Qa D:=ts.map λt=>.list<|t.map .int
noncomputable def mR(o:Bool)(ts:Qa (Qa Int)):U:=if o=true then .l (cK ts)else .d (.list<|cK ts)
theorem Hq{o o2:Bool}{ts:Qa (Qa Int)}{Q:U×Qa U->Prop}(h5:L5 ts)(hl:sg.length=ts.length)(hn:ts.length<=100)(hs:∀ s∈sg,-1<=s/\s<=1)(q:Q (.l<|(mx sg ts).map .int,[DI o sg,mR o2 ts])):Wo (vO [DI o sg,mR o2 ts]) Q:=by
 have e1:lsN (DI o sg)=some (sg.map .int):=by cases o<;>rfl
 have e2:lsN (mR o2 ts)=some (cK ts):=by cases o2<;>rfl
 have e3:sg.length=(cK ts).length:=by rw[cK,List.length_map,hl]
 have e4:lh (sg.map PyData.int) (cK ts)=(sg.zip ts).map λt=>.tuple [.int t.1,.list<|t.2.map .int]:=CH ..;have hz:sizeLine=16777216:=sizeLine_eq;simp![vO,Pa];refine Nd (λi ρ ys=>ρ=[none,some<|mR o2 ts,some<|DI o sg]/\ys=(List.range i).map λk=>.int<|yj sg ts k) (by omega) ⟨rfl,rfl⟩ ?_ ?_ ?_
 .rintro i ρ ys ⟨rfl,rfl⟩
  simp
 .rintro i ρ ys hi ⟨rfl,rfl⟩
  simp![e1,e2];rw[if_pos e3,e4];simp!;refine sT (e:=λp=>.int<|p.1 * p.2.getD i 0) (by rw[List.length_zip]; omega) (λp hp ys=>?_) ?_
  .have b1:=hs _ (Û hp).1
   have b2:=h5 _ (Û hp).2;have e5:=uQ (l:=p.2) (i:=i) (by omega);simp![Int.zero_add,e5]
  .have e6:((sg.zip ts).map λp=>PyData.int<|p.1 * p.2.getD i 0)=(((sg.zip ts).map λp=>p.1 * p.2.getD i 0)).map .int:=by
    rw[List.map_map];rfl
   rw[e6];have e7:=Mq (ks:=(sg.zip ts).map λp=>p.1 * p.2.getD i 0);simp![e7];rw[List.range_succ,List.map_append];rfl
 .rintro ρ ys ⟨rfl,rfl⟩
  simp![wN];have e8:((List.range 5).map λk=>PyData.int<|yj sg ts k)=(DH sg ts).map .int:=by
   unfold DH;rw[List.map_map];rfl
  rw[e8,TX h5];exact q
theorem atK{xs:Qa D}{r:Int}{d:D}(hr:r=(i:Int))(h:xs[i]?=some d):br xs r=some d:=by
 have hi:=(qk.mp h).1;subst hr;unfold br eI;rw[if_pos (by omega),if_pos (by omega),bd,Int.toNat_natCast,h]
theorem pk4{r:Int}(h0:0<=r)(h:r < 4):∃ s:Int,(s=0\/s=1\/s=-1)/\br [PyData.int 0,.int 1,.int 1,.int (-1)] r=some (.int s):=by
 rcases(show r=0\/r=1\/r=2\/r=3 by omega)with e|e|e|e
 .exact⟨0,by simp,atK (i:=0) e rfl⟩
 .exact⟨1,by simp,atK (i:=1) e rfl⟩
 .exact⟨1,by simp,atK (i:=2) e rfl⟩
 .exact⟨-1,by simp,atK (i:=3) e rfl⟩
theorem zev{x y:Int}{Q:U×Qa U->Prop}(hn:n<=100)(k:∀ sg x' y',Sg n sg->Q (.l<|sg.map .int,[bx x' y',.d<|.int (n:Int)])):Wo (vS [bx x y,.d<|.int (n:Int)]) Q:=by
 have hz:sizeLine=16777216:=sizeLine_eq;simp![vS,PV];refine Nd (λi ρ ys=>∃ sg x' y',Sg i sg/\ρ=[none,some<|bx x' y']/\ys=sg.map .int) (by omega) ⟨[],x,y,⟨rfl,λs hs=>(by cases hs)⟩,rfl,rfl⟩ ?_ ?_ ?_
 .rintro i ρ ys ⟨sg,x',y',hs,rfl,rfl⟩
  rw[List.length_map,hs.1];exact qe _
 .rintro i ρ ys hi ⟨sg,x',y',hs,rfl,rfl⟩
  simp!;refine xl (by omega) (by omega) λr x2 y2 h0 h4=>?_;have(s,h1,h2):=pk4 h0 h4;simp![h2];refine⟨sg++[s],_,_,⟨by simp[hs.1],λz hm=>?_⟩,rfl,by simp⟩;rcases Á.mp hm with hm|hm
  .exact hs.2 z hm
  .rw[qq.mp hm]
   exact h1
 .rintro ρ ys ⟨sg,x',y',hs,rfl,rfl⟩
  rw[Int.toNat_natCast]at hs;simp!;exact k sg _ _ hs
theorem B8{a:Qa Int}:(tm a b).length=5:=vE 5
theorem Ek(h:Sg n sg):∀ s∈sg,-1<=s/\s<=1:=λs hs=>by
 have:=h.2 s hs;omega
theorem zlC{x y m:Int}{Q:U×Qa U->Prop}(hm:1<=m/\m<=2)(k:∀ (l:Qa Int) (x' y':Int),l.length=5->Q (.l<|l.map .int,[bx x' y',.d<|.int m])):Wo (Df [bx x y,.d<|.int m]) Q:=by
 have e0:U.l [PyData.list [.int 1,.int 0,.int 0,.int 0,.int 0],.list [.int 0,.int 1,.int 0,.int 0,.int 0]]=.l (cK T2):=rfl;have el:∀ {ts},mR true ts=.l (cK ts):=λ{ts}=>rfl;have ll:∀ {ts:Qa (Qa Int)},(cK ts).length=ts.length:=λ{ts}=>by rw[cK,List.length_map]
 simp![Df,QM];rw[e0];refine w9 (λi ρ=>i<=2/\i<=m.toNat/\∃ (ts:Qa (Qa Int)) (x' y':Int) (v3 v4:Qb U),L5 ts/\ts.length=2+i/\(i=0->ts=T2)/\(i=1->∀ t∈ts,BL 1000 t)/\ρ=[some<|bx x' y',some<|.d<|.int m,some<|.l<|cK ts,v3,v4]) ⟨by omega,by omega,T2,x,y,_,_,AH,rfl,λ_=>rfl,λz=>(by cases z),rfl⟩ ?_ ?_
 .rintro i ρ hi ⟨_,_,ts,x',y',v3,v4,h5,hl,h0,h1,rfl⟩
  have r6:i < 2:=by omega
  have hb:∀ t∈ts,BL 1000 t:=by
   rcases(show i=0\/i=1 by omega)with z|z
   .rw[h0 z]
    exact AG
   .exact h1 z
  simp!;refine zev (by rw[ll]; omega) λs1 x1 y1 g1=>?_;rw[ll]at g1;simp!;refine Hq (o:=true) (o2:=true) h5 g1.1 (by omega) (Ek g1) ?_;simp![el];refine zev (by rw[ll]; omega) λs2 x2 y2 g2=>?_;rw[ll]at g2;simp!;refine Hq (o:=true) (o2:=true) h5 g2.1 (by omega) (Ek g2) ?_;have sm:Sm (mx s1 ts):=λz hz=>by
   have:=E8 (by omega) g1 hb z hz;rw[hl]at this;omega
  simp![el];refine Pp (o:=true) (lI h5) (lI h5) sm ?_;have uB:h9 true (mx s1 ts)=.l ((mx s1 ts).map .int):=rfl;have hz:(cK ts).length < 16777216:=by
   rw[ll];omega
  simp![el,uB,hz];have et:cK ts++[PyData.list<|(tm (mx s1 ts)<|mx s2 ts).map .int]=cK (ts++[tm (mx s1 ts)<|mx s2 ts]):=by
   unfold cK;rw[List.map_append];rfl
  rw[et];refine⟨by omega,by omega,ts++[tm (mx s1 ts)<|mx s2 ts],_,_,_,_,λt ht=>?_,by simp; omega,λz=>z.elim,λz t ht=>?_,rfl⟩
  .rcases Á.mp ht with ht|ht
   .exact h5 t ht
   .rw[qq.mp ht]
    exact B8
  .have z0:i=0:=by omega
   rcases Á.mp ht with ht|ht
   .exact hb t ht
   .rw[qq.mp ht]
    have e2:=h0 z0;subst e2;exact(NU g1 g2).2
 .rintro ρ ⟨_,_,ts,x',y',v3,v4,h5,hl,h0,h1,rfl⟩
  have hl4:ts.length<=4:=by omega
  simp!;refine zev (by rw[ll]; omega) λs1 x1 y1 g1=>?_;rw[ll]at g1;simp!;refine Hq (o:=true) (o2:=true) h5 g1.1 (by omega) (Ek g1) ?_;simp!;exact k _ _ _<|lI h5
end K57
open PySem L2
namespace K57
open PySem L2
noncomputable def nb(l:Qa Int):Qa (Nat×Int):=[(0,l.getD 0 0),(1,l.getD 1 0),(2,l.getD 2 0),(3,l.getD 3 0),(4,l.getD 4 0)]
noncomputable def i4(l:Qa Int):Qa Tr:=((nb l).filter λp=>!decide (p.2=0)).map λp=>((p.1:Int),p.2,1)
theorem zBk(h:l.length=5):nU 0 (l.map PyData.int)=(nb l).map λp=>.tuple [.int (p.1:Int),.int p.2]:=by
 have(a,b,c,d,e,rfl):=qF h;rfl
theorem zpF{Q:U×Qa U->Prop}(h:l.length=5)(q:Q (.d<|.tuple<|(i4 l).map eU,[.d<|.list<|l.map .int])):Wo (CW [.l<|l.map .int]) Q:=by
 have hz:sizeLine=16777216:=sizeLine_eq;simp![CW,Qo];rw[zBk h];refine Ca (b:=λp=>!decide (p.2=0)) (e:=λp=>eU ((p.1:Int),p.2,1)) (by show 5<=sizeLine; omega) (λp hp ys=>?_) ?_
 .by_cases c:p.2=0
  .simp![c,decide_true,Bool.not_true,Bool.false_eq_true]
  .simp![c,decide_false,Bool.not_false]
   rfl
 .simp!
  have e:((nb l).filter λp=>!decide (p.2=0)).map (λp=>eU ((p.1:Int),p.2,1))=(i4 l).map eU:=by
   unfold i4;rw[List.map_map];rfl
  rw[e];exact q
theorem xa{n:Int}{k:Nat}{r:Qa Tr}(hk:k < 5)(hl:l[k]?=some 0):wn ((if n=0 then []else [((k:Int),n,1)])++r) l=wn r (l.set k n):=by
 by_cases c:n=0
 .rw[if_pos c,List.nil_append,c]
  congr 1;have(h1,h2):=qk.mp hl;rw[<-h2,List.set_getElem_self]
 .rw[if_neg c,List.cons_append,List.nil_append]
  show(if _ then _ else _)=_;rw[if_neg (by simp; omega)];rfl
theorem Ly(h:l.length=5):wn (i4 l) fV=some l:=by
 have(a,b,c,d,e,rfl):=qF h;have step:∀ (p:Nat×Int) (as:Qa (Nat×Int)),((p::as).filter λp=>!decide (p.2=0)).map (λp=>((p.1:Int),p.2,(1:Int)))=(if p.2=0 then []else [((p.1:Int),p.2,(1:Int))])++(as.filter λp=>!decide (p.2=0)).map λp=>((p.1:Int),p.2,(1:Int)):=λp as=>by
  by_cases z:p.2=0
  .rw[if_pos z,List.filter_cons_of_neg (by simp[z])]
   rfl
  .rw[if_neg z,List.filter_cons_of_pos (by simp[z])]
   rfl
 unfold i4 nb;rw[step,xa (by simp) rfl,step,xa (by simp) rfl,step,xa (by simp) rfl,step,xa (by simp) rfl,step,xa (by simp) rfl];rfl
theorem TV:∀ t∈i4 l,0<=t.1:=λt ht=>by
 have(p,_,rfl):=À.mp ht;exact Int.natCast_nonneg _
def wa(l:Qa Int):Prop:=∃ a b,(a=0\/a=1\/a=-1)/\(b=0\/b=1\/b=-1)/\l=[a,b,0,0,0]
theorem R3{x:Int}:∃ b:Bool,(b=true↔x=0\/x=1\/x=-1)/\lO false (.d<|.int x) (.d<|.tuple [.int (-1),.int 0,.int 1])=some (.d<|.bool b):=by
 refine⟨yy (.int x) [.int (-1),.int 0,.int 1],?_,rfl⟩;simp[yy,p8];omega
theorem rp3:nB (.l [.int 0]) (.d<|.int 3)=some (.l [.int 0,.int 0,.int 0]):=by
 have hz:sizeLine=16777216:=sizeLine_eq;have c:-1000000 < (3:Int)/\(3:Int) < 1000000/\[PyData.int 0].length * (3:Int).toNat<=sizeLine:=⟨by omega,by omega,by
  rw[hz];decide⟩
 unfold nB;dsimp only;rw[if_pos c];rfl
theorem eq3{a b c:Int}:∃ r:Bool,(r=true↔a=0/\b=0/\c=0)/\jL false (.l [.int a,.int b,.int c]) (.l [.int 0,.int 0,.int 0])=some (.d<|.bool r):=by
 have sh:∀ a b c:Int,SeqAt.shaped (PyData.list [.int a,.int b,.int c])=true:=λa b c=>by
  unfold SeqAt.shaped;simp[PyData.canLay0,PyData.canLayAll0,PyData.depth,PyData.depthAll]
 refine⟨PyData.eqv (.list [.int a,.int b,.int c])<|.list [.int 0,.int 0,.int 0],?_,?_⟩
 .simp[PyData.eqv,PyData.eqvAll]
 .show(some<|PyData.list [.int a,.int b,.int c]).bind _=_
  rw[bd];show(some<|PyData.list [.int 0,.int 0,.int 0]).bind _=_;rw[bd,if_pos ⟨sh _ _ _,sh _ _ _⟩];rfl
theorem xF{o:Bool}{Q:U×Qa U->Prop}(h:l.length=5)(k:∀ b:Bool,(b=true↔wa l)->Q (.d<|.bool b,[h9 o l])):Wo (tJ [h9 o l]) Q:=by
 have e0:cy (h9 o l) (.d<|.int 0)=some (.d<|.int<|l.getD 0 0):=AK (o:=o) (l:=l) (i:=0) (by omega);have e1:cy (h9 o l) (.d<|.int 1)=some (.d<|.int<|l.getD 1 0):=AK (o:=o) (l:=l) (i:=1) (by omega);have e2:uL (h9 o l) (some 2) none=some (.l<|(l.drop 2).map .int):=by
  have z:(l.map PyData.int).drop 2=j8 (l.map PyData.int) (some 2) none:=(Om (xs:=l.map PyData.int) (k:=2) (by omega)).symm;rw[List.map_drop,z];cases o<;>rfl
 have(b0,h0,f0):=R3 (x:=l.getD 0 0);have(b1,h1,f1):=R3 (x:=l.getD 1 0);have(b2,h2,f2):=eq3 (a:=l.getD 2 0) (b:=l.getD 3 0) (c:=l.getD 4 0);have e3:(l.drop 2).map PyData.int=[.int<|l.getD 2 0,.int<|l.getD 3 0,.int<|l.getD 4 0]:=by
  have(a,b,c,d,e,rfl):=qF h;rfl
 have iff:wa l↔(b0=true/\b1=true/\b2=true):=by
  rw[h0,h1,h2];have(a,b,c,d,e,rfl):=qF h;simp only[List.getD_cons_zero,List.getD_cons_succ];constructor
  .rintro⟨x,y,hx,hy,e⟩
   simp only[List.cons.injEq,and_true]at e;have(rfl,rfl,rfl,rfl,rfl):=e;exact⟨hx,hy,rfl,rfl,rfl⟩
  .rintro⟨hx,hy,rfl,rfl,rfl⟩
   exact⟨a,b,hx,hy,rfl⟩
 simp![tJ,Pz,e0,f0];cases b0
 .simp![Bool.false_eq_true,wN]
  exact k false (by rw[iff]; simp)
 .simp![e1,f1]
  cases b1
  .simp![Bool.false_eq_true,wN]
   exact k false (by rw[iff]; simp)
  .simp![e2,e3,rp3,f2,wN]
   exact k b2 (by rw[iff]; simp)
end K57
open PySem L2
namespace K57
open PySem L2
theorem WS{mA:MA}{ρ:En}{QI:Qa D×En->Prop}:Wo (Fk mA ρ) QI=Wo (mA ρ) (Co (λp=>(bt p.2 p.1).bind λus=>(Bz us).bind λds=>some (ds,p.2)) ⟨0⟩ QI):=by
 show Wo (Option.bind _ _) QI=_;rw[zo]
theorem Xm{a:Qa Int}(h:a.length=b.length):Bz [.d<|.list<|a.map .int,.d<|.list<|b.map .int]=some ((a.zip b).map λt=>.tuple [.int t.1,.int t.2]):=by
 show(if(a.map PyData.int).length=(b.map PyData.int).length then some (lh _ _)else none)=_;rw[if_pos (by rw[List.length_map,List.length_map,h]),CH]
noncomputable def mn(s:Int)(a b:Qa Int):Qa Int:=(a.zip b).map λt=>t.1 - s * t.2
theorem TU{s:Int}{a:Qa Int}(h:a.length=b.length):(mn s a b).length=a.length:=by
 unfold mn;rw[List.length_map,List.length_zip,h,Nat.min_self]
noncomputable def dY:Qa Int:=[-1,0,1]
noncomputable def s9:Qa Int->Qa (Qa Int):=λas=>as.flatMap λa=>dY.map λb=>[a,b,0,0,0]
noncomputable def tR(os ts:Qa (Qa Int)):Qa (Qa Int):=os.flatMap λo=>ts.map λt=>tm o t
theorem Lx:∀ as:Qa Int,(s9 as).length=3 * as.length
 | []=>rfl
 | a::as=>by
  have:=Lx as;unfold s9 at this ⊢;rw[List.flatMap_cons,qt,this,List.length_map];show 3+_=_;rw[qu];omega
theorem GQ{ts:Qa (Qa Int)}:∀ os:Qa (Qa Int),(tR os ts).length=ts.length * os.length
 | []=>rfl
 | a::as=>by
  have:=GQ (ts:=ts) as;unfold tR at this ⊢;rw[List.flatMap_cons,qt,this,List.length_map,qu,Nat.mul_succ];omega
theorem Ej{t:Qa Int}(h:t∈s9 dY):∃ s,Sg 2 s/\t=mx s T2:=by
 have(a,ha,h):=â.mp h;have(b,hb,rfl):=À.mp h;refine⟨[a,b],⟨rfl,λs hs=>?_⟩,lJ.symm⟩;simp only[dY,qv,List.not_mem_nil,or_false]at ha hb hs;omega
theorem Lw{s:Qa Int}(h:Sg 2 s):mx s T2∈s9 dY:=by
 have(a,b,rfl,ha,hb):=Dx h;rw[lJ];refine â.mpr ⟨a,?_,À.mpr ⟨b,?_,rfl⟩⟩<;>simp only[dY,qv,List.not_mem_nil,or_false]<;>omega
theorem Yp{Q:U×Qa U->Prop}(k:∀ hs,(∀ h,h∈hs↔lR h)->hs.length<=81->Q (.l<|cK hs,[])):Wo (De []) Q:=by
 have e3:[PyData.int (-1),.int 0,.int 1]=dY.map .int:=rfl;have l3:dY.length=3:=rfl;have ll:∀ {ts:Qa (Qa Int)},(cK ts).length=ts.length:=λ{ts}=>by rw[cK,List.length_map]
 simp![De,Py];rw[e3];refine hG (λbs cs ρ=>∃ v1,ρ=[some<|.l<|cK<|s9 bs,v1,none,none]) ⟨_,rfl⟩ ?_ ?_
 .rintro bs a cs ρ eb ⟨v1,rfl⟩
  have hb:bs.length<=3:=by
   have:dY.length=(bs++a::cs).length:=by rw[eb]
   simp at this;omega
  simp!;rw[e3];refine sT (e:=λb=>.list [.int a,.int b,.int 0,.int 0,.int 0]) (by decide) (λs hs ys=>?_) ?_
  .simp!
  .have l1:(cK<|s9 bs).length+(dY.map λb=>PyData.list [.int a,.int b,.int 0,.int 0,.int 0]).length<=16777216:=by
    rw[ll,Lx,List.length_map];omega
   rw[List.length_map]at l1;simp![l1];have e5:cK (s9 bs)++(dY.map λb=>PyData.list [.int a,.int b,.int 0,.int 0,.int 0])=cK (s9<|bs++[a]):=by
    unfold s9 cK;rw[List.flatMap_append,List.map_append];simp
   rw[e5];exact⟨_,rfl⟩
 .rintro ρ ⟨v1,rfl⟩
  simp!;have l9:(s9 dY).length=9:=rfl;unfold cK;refine hG (λbs cs ρ=>∃ v3,ρ=[some<|.d<|.list<|(s9 dY).map λt=>.list<|t.map .int,v1,some<|.l<|cK<|tR bs<|s9 dY,v3]) ⟨_,rfl⟩ ?_ ?_
  .rintro bs a cs ρ eb ⟨v3,rfl⟩
   have hb:bs.length<=9:=by
    have:(s9 dY).length=(bs++a::cs).length:=by rw[eb]
    simp at this;omega
   have q5:∀ h∈s9 dY,h.length=5/\Sm h:=λh hh=>by
    have(s,g1,rfl):=Ej hh;refine⟨lI AH,λx hx=>?_⟩;have:=E8 (ts:=T2) (by omega) g1 AG x hx;have:T2.length=2:=rfl;omega
   have ha:a∈s9 dY:=by rw[eb]; simp
   simp!;refine sT (e:=λt=>.list<|(tm a t).map .int) (by rw[l9]; omega) (λs hs ys=>?_) ?_
   .simp!
    refine Pp (o:=false) (q5 a ha).1 (q5 s hs).1 (q5 a ha).2 ?_;have eB:∀ {l},h9 false l=.d (.list<|l.map .int):=λ{l}=>rfl;simp![eB]
   .have l1:(cK<|tR bs<|s9 dY).length+((s9 dY).map λt=>PyData.list<|(tm a t).map .int).length<=16777216:=by
     rw[ll,GQ,List.length_map,l9];omega
    rw[List.length_map]at l1;simp![l1];have e5:cK (tR bs<|s9 dY)++((s9 dY).map λt=>PyData.list<|(tm a t).map .int)=cK (tR (bs++[a])<|s9 dY):=by
     unfold tR cK;rw[List.flatMap_append,List.map_append];simp
    rw[e5];exact⟨_,rfl⟩
  .rintro ρ ⟨v3,rfl⟩
   simp!;refine k _ (λh=>⟨λhh=>?_,?_⟩) (by rw[GQ,l9]; omega)
   .have(a,ha,hh):=â.mp hh
    have(b,hb,rfl):=À.mp hh;have(s,g1,rfl):=Ej ha;have(s',g1',rfl):=Ej hb;exact⟨s,s',g1,g1',rfl⟩
   .rintro⟨s1,s2,g1,g2,rfl⟩
    exact â.mpr ⟨_,Lw g1,À.mpr ⟨_,Lw g2,rfl⟩⟩
def TK(w:Qa Int):Prop:=∃ f m,lR f/\(m=-1\/m=0\/m=1)/\wa (mn m w f)
theorem GP{f:Qa Int}(h:lR f):f.length=5:=by
 have(s1,s2,_,_,rfl):=h;exact B8
theorem GV{w:Qa Int}{Q:U×Qa U->Prop}(hw:w.length=5)(k:∀ b:Bool,(b=true↔TK w)->Q (.d<|.bool b,[.d<|.list<|w.map .int])):Wo (xU [.d<|.list<|w.map .int]) Q:=by
 have e3:[PyData.int (-1),.int 0,.int 1]=dY.map .int:=rfl;simp![xU,Pw];refine Yp λhs hf _=>?_;simp!;unfold cK;refine hG (λbs cs ρ=>(∀ f∈bs,∀ m,(m=-1\/m=0\/m=1)->¬wa (mn m w f))/\∃ v1 v2,ρ=[some<|.d<|.list<|w.map .int,v1,v2]) ⟨λf hf=>(by cases hf),_,_,rfl⟩ ?_ ?_
 .rintro bs f cs ρ eb ⟨hb,v1,v2,rfl⟩
  have ff:lR f:=(hf f).mp (by rw[eb]; simp);have f5:=GP ff;simp!;rw[e3];refine hG (λms cs ρ=>(∀ m∈ms,¬wa (mn m w f))/\∃ v2,ρ=[some<|.d<|.list<|w.map .int,some<|.d<|.list<|f.map .int,v2]) ⟨λm hm=>(by cases hm),_,rfl⟩ ?_ ?_
  .rintro ms m ns ρ en ⟨hm,v2,rfl⟩
   have m1:m=-1\/m=0\/m=1:=by
    have:m∈dY:=by rw[en]; simp
    simpa [dY] using this
   have mb:-1<=m/\m<=1:=by omega
   have Jq:=Xm (a:=w) (b:=f) (by omega);simp![↓WS,Jq];refine sT (e:=λt=>.int<|t.1 - m * t.2) (by rw[List.length_zip]; omega) (λt ht ys=>?_) ?_
   .simp!
   .have em:((w.zip f).map λt=>PyData.int<|t.1 - m * t.2)=(mn m w f).map .int:=by
     unfold mn;rw[List.map_map];rfl
    rw[em];simp!;refine xF (o:=true) (by rw[TU (by omega),hw]) λb oh=>?_;cases b
    .simp![Bool.false_eq_true]
     refine⟨λx hx=>?_,_,rfl⟩;rcases Á.mp hx with hx|hx
     .exact hm x hx
     .rw[qq.mp hx]
      exact λz=>by cases oh.mpr z
    .simp!
     exact k true ⟨λ_=>⟨f,m,ff,m1,oh.mp rfl⟩,λ_=>rfl⟩
  .rintro ρ ⟨hm,v2,rfl⟩
   simp!;refine⟨λx hx=>?_,_,_,rfl⟩;rcases Á.mp hx with hx|hx
   .exact hb x hx
   .rw[qq.mp hx]
    exact λm hm1=>hm m (by simpa [dY] using hm1)
 .rintro ρ ⟨hb,v1,v2,rfl⟩
  simp!;refine k false ⟨λz=>(by cases z),?_⟩;rintro⟨f,m,h1,h2,h3⟩;exact absurd h3<|hb f ((hf f).mpr h1) m h2
end K57
open PySem L2
namespace K57
open PySem L2
theorem TR{a b:Nat}(h:a<=b)(hb:b.log2 < 9000):a.log2 < 9000:=by
 by_cases z:a=0
 .rw[z]; decide
 .exact Ó ((Nat.le_log2 (by omega)).mpr<|qy (Nat.log2_self_le z) h) hb
theorem Qm{n d:Int}(hd:d≠0)(hb:d.natAbs.log2 < 9000):xT [.d<|.int n,.d<|.int d]=some (.d<|fR<|Rat.divInt n d,[.d<|.int n,.d<|.int d]):=by
 have gl:Int.gcd n d<=d.natAbs:=Int.gcd_le_natAbs_right n hd;have gp:0 < Int.gcd n d:=Int.gcd_pos_of_ne_zero_right n hd;have Ai:=TR gl hb;refine tG ?_;rw[<-Vc hd];unfold oH nC;rw[<-Oh n d (show(0:Int) < (Int.gcd n d:Nat) by omega),<-Oh d d (show(0:Int) < (Int.gcd n d:Nat) by omega)];simp![xT,Qi];refine ZG (λk ρ=>∃ a b:Int,ρ=[some<|.d<|.int n,some<|.d<|.int d,some<|.d<|.int a,some<|.d<|.int b]/\0<=a/\0<=b/\b.toNat=k/\Int.gcd a b=Int.gcd n d) _ ⟨_,_,rfl,by split<;>omega,by split<;>omega,rfl,Z6 n d⟩ ?_;rintro k _ ⟨a,b,rfl,ha,hb0,hk,hg⟩;simp!
 by_cases hz:b=0
 .subst hz
  have e:a=((Int.gcd n d:Nat):Int):=by rw[<-hg,Int.gcd_zero_right]; omega
  subst e;have c1:ve n ((Int.gcd n d:Nat):Int):=⟨by omega,by rw[Int.natAbs_natCast]; exact Ai⟩;have c2:ve n (0 - ((Int.gcd n d:Nat):Int)):=⟨by omega,by rw[Int.zero_sub,Int.natAbs_neg,Int.natAbs_natCast]; exact Ai⟩;simp!;refine oM (λh=>?_) λh=>?_
  .simp![h,BJ (a:=n) c2,BJ (a:=d) c2]
  .simp![h,BJ (a:=n) c1,BJ (a:=d) c1]
 .simp![hz]
  refine⟨(a % b).toNat,?_,_,_,rfl,by omega,ø _ hz,rfl,?_⟩
  .have:=ú a (show 0 < b by omega)
   have:=ø a hz;omega
  .rw[zqr a b ha (by omega)]
   exact hg
structure Sz (r:Rat):Prop where
 n:r.num.natAbs < 2^4000
 d:r.den < 2^4000
theorem Sz.di{r:Rat}(h:Sz r):(r.den:Int).natAbs < 2^4000:=by rw[Int.natAbs_natCast]; exact h.d
theorem lgd(h:n < 2^4000):n.log2 < 4000:=HJ (by decide) h
theorem n6(h:n < 2^4000):n.log2 < 1000000:=ù (lgd h) (by decide)
theorem Lv{a b:Nat}(h:a < 2^4000)(h':b < 2^4000):(a * b).log2 < 9000:=by
 refine ù (HJ (k:=4000+4000) (by decide) ?_) (by decide);rw[Nat.pow_add];exact Nat.mul_lt_mul'' h h'
section
variable{a b:Rat}
theorem O6(ha:Sz a)(hb:Sz b):xP [.d<|fR a,.d<|fR b]=some (.d<|fR<|a+b,[.d<|fR a,.d<|fR b]):=by
 refine tG ?_;have da:=AX a;have db:=AX b;have Ka:((a.den:Int) * (b.den:Int))≠0:=Int.mul_ne_zero (by omega) (by omega);have lf:=Qm (n:=a.num * (b.den:Int)+b.num * (a.den:Int)) Ka (by rw[Int.natAbs_mul,Int.natAbs_natCast,Int.natAbs_natCast]; exact Lv ha.d hb.d);rw[XX]at lf;simp![xP,Pj,xk (n6 ha.n)<|n6 hb.di,xk (n6 hb.n)<|n6 ha.di,xk (n6 ha.di)<|n6 hb.di,lf]
theorem zj8(ha:Sz a)(hb:Sz b):Dd [.d<|fR a,.d<|fR b]=some (.d<|fR<|a * b,[.d<|fR a,.d<|fR b]):=by
 refine tG ?_;have da:=AX a;have db:=AX b;have Ka:((a.den:Int) * (b.den:Int))≠0:=Int.mul_ne_zero (by omega) (by omega);have lf:=Qm (n:=a.num * b.num) Ka (by rw[Int.natAbs_mul,Int.natAbs_natCast,Int.natAbs_natCast]; exact Lv ha.d hb.d);rw[Yo]at lf;simp![Dd,PZ,xk (n6 ha.n)<|n6 hb.n,xk (n6 ha.di)<|n6 hb.di,lf]
end
theorem vg{M:Nat}{r:Rat}(h:Bd M B r)(hM:0 < M)(h1:M < 2^4000)(h2:B < 2^4000):Sz r:=by
 have(a,b):=h.size hM;exact⟨Ó b h2,Ó a h1⟩
abbrev Fd(p:Pq Rat):U:=.d (.tuple<|gH fR p)
abbrev dT(p:Pq Rat):U:=.d (.dict<|cw fR p)
theorem LH{u:U}{a b:Qb α}:(if u.own=true/\u.own=false then a else b)=b:=if_neg λ⟨h,h'⟩=>by rw[h]at h'; cases h'
def Ln(n:Nat)(p:Pq α):Prop:=∀ t∈p,t.1.length=n
theorem Xl{p:Pq Rat}{u:U}(hu:u.fz=some (.dict<|cw fR p))(nd:cq p)(hl:p.length < 64):Dj [u]=some (Fd<|mH p,[dT p]):=by
 refine tG ?_;simp![Dj,QW,hu];refine sT (e:=λt=>.tuple [az t.1,fR t.2]) (by omega) (λt ht ys=>?_) ?_
 .simp![rB nd ht]
 .rw[show(p.map λt=>PyData.tuple [az t.1,fR t.2])=gH fR p from rfl]
  simp![Va (c:=fR) nd hl]
theorem O5{M:Nat}{p q:Pq Rat}{u1 u2:U}{s:Int}(Jz:xB u1=some (.t<|aZ fR p))(yC:u2.fz=some (.dict<|cw fR q))(hs:s=1\/s=-1)(np:cq p)(nq:cq q)(hp:PB M B p)(hq:PB M B q)(hM:0 < M)(h1:M < 2^4000)(h2:B+q.length * B < 2^4000)(l1:p.length < 64)(l2:q.length < 64):
  Dm [u1,u2,.d<|.int s]=some (.t<|aZ fR<|nz<|gf p<|fQ s q,[u1,dT q,.d<|.int s]):=by
 refine tG ?_;have sp:fQ s q=q.map λt=>(t.1,(s:Rat) * t.2):=rfl;simp![Dm,P8,Jz,yC];refine hG (λbs cs ρ=>∃ o4 o5,ρ=[some u1,some<|dT q,some<|.d<|.int s,some<|.t<|aZ fR<|gf p<|fQ s bs,o4,o5,none]) ⟨_,_,rfl⟩ ?_ ?_
 .rintro bs t cs _ e ⟨o4,o5,rfl⟩
  have tq:t∈q:=by rw[e]; simp
  have lb:bs.length+1<=q.length:=by rw[e,qt,qu]; omega
  have gl:=Cm (fQ s bs) p;rw[show(fQ s bs).length=bs.length from List.length_map ..]at gl;have gb:PB M (B+q.length * B) (gf p<|fQ s bs):=λv hv=>(LX (fQ s bs) hp (L6 hs λw hw=>hq w (by rw[e]; exact Í _ hw)) v hv).le (by
   rw[show(fQ s bs).length=bs.length from List.length_map ..];have:=Ø B (show bs.length<=q.length by omega);omega)
  have s1:=vg (GJ gb t.1) hM h1 h2;have s2:Sz ((s:Rat) * t.2):=vg (L6 hs hq (t.1,(s:Rat) * t.2)<|À.mpr ⟨t,tq,rfl⟩) hM h1 (by omega);simp![rB nq tq,U6 hs,O6 s1 s2];rw[A8 (by omega)];simp!;rw[show fQ s (bs++[t])=fQ s bs++[(t.1,(s:Rat) * t.2)] by unfold fQ; rw[List.map_append]; rfl,NT];exact⟨_,_,rfl⟩
 .rintro _ ⟨o4,o5,rfl⟩
  have gn:cq (gf p<|fQ s q):=B9 _ np;have gl:=Cm (fQ s q) p;rw[show(fQ s q).length=q.length from List.length_map ..]at gl;generalize gf p (fQ s q)=r at gn gl;simp!;refine hG (λbs cs ρ=>∃ o4,ρ=[some u1,some<|dT q,some<|.d<|.int s,some<|dT r,o4,o5,some<|.t<|aZ fR<|nz bs]) ⟨_,rfl⟩ ?_ ?_
  .rintro bs t cs _ e ⟨o4,rfl⟩
   have tr:t∈r:=by rw[e]; simp
   have ln:(nz bs).length<=bs.length:=Ô _ _;have lb:bs.length+1<=r.length:=by rw[e,qt,qu]; omega
   simp![rB gn tr,LV];rw[Ni]
   by_cases z:t.2=0
   .simp![z,ne_eq]
    exact⟨_,rfl⟩
   .simp![z,ne_eq,rB gn tr,A8 (c:=fR) (p:=nz bs) (k:=t.1) (x:=t.2) (by omega)]
    rw[L4 (cs:=cs) (by rw[<-e]; exact gn)];exact⟨_,rfl⟩
  .rintro _ ⟨o4,rfl⟩
   simp![LH]
theorem zlD{M N C:Nat}{p q:Pq Rat}{u1 u2:U}{Q:U×Qa U->Prop}(Jz:u1.fz=some (.dict<|cw fR p))(yC:u2.fz=some (.dict<|cw fR q))(np:cq p)(nq:cq q)(hp:PB M B p)(hq:PB N C q)(lp:Ln n p)(lq:Ln n q)(ln:n < 64)(hM:0 < M)(hN:0 < N)(h1:M * N < 2^4000)(h2:M < 2^4000)(h3:N < 2^4000)(h4:B < 2^4000)(h5:C < 2^4000)(h6:p.length * q.length * (B * C) < 2^4000)(hBC:0 < B * C)
  (l1:p.length * q.length < 64) (lp6:p.length < 64) (lq6:q.length < 64) (kq:∀ Im,Im.fz=some (.dict<|cw fR q)->Q (.t<|aZ fR<|nz<|gf []<|gB p q,[dT p,Im])):Wo (Dh [u1,u2]) Q:=by
 have fin:∀ (o1 o3 o4 o5 o6:Qb U) (r:Pq Rat),cq r->r.length < 64->∀ (Q:Fl->Prop),(∀ o5,Q<|.nx [some<|dT p,o1,some<|dT r,o3,o4,o5,o6,some<|.t<|aZ fR<|nz r])->Wo (gD (zy 5) (cv (mB<|aj (cu true) (aj bo (iq (zj 2)<|zj 5)<|mC<|.int 0)<|mC<|.int 0) (oO 7 (zj 5)<|iq (zj 2)<|zj 5) du) (r.map λt=>az t.1) [some<|dT p,o1,some<|dT r,o3,o4,o5,o6,some<|.t []]) Q:=by
  intro o1 o3 o4 o5 o6 r gn gl Q hQ;refine hG (λbs cs ρ=>∃ o5,ρ=[some<|dT p,o1,some<|dT r,o3,o4,o5,o6,some<|.t<|aZ fR<|nz bs]) ⟨_,rfl⟩ ?_ ?_
  .rintro bs t cs _ e ⟨o5,rfl⟩
   have tr:t∈r:=by rw[e]; simp
   have ln:(nz bs).length<=bs.length:=Ô _ _;have lb:bs.length+1<=r.length:=by rw[e,qt,qu]; omega
   simp![rB gn tr,LV];rw[Ni]
   by_cases z:t.2=0
   .simp![z,ne_eq]
    exact⟨_,rfl⟩
   .simp![z,ne_eq,rB gn tr,A8 (c:=fR) (p:=nz bs) (k:=t.1) (x:=t.2) (by omega)]
    rw[L4 (cs:=cs) (by rw[<-e]; exact gn)];exact⟨_,rfl⟩
  .rintro _ ⟨o5,rfl⟩
   exact hQ o5
 simp![Dh,QP,Jz];refine hG (λbs cs ρ=>∃ (x:U) (o3 o4 o5 o6:Qb U),ρ=[some<|dT p,some x,some<|.t<|aZ fR<|gf []<|gB bs q,o3,o4,o5,o6,none]/\(x=u2\/x=dT q)) ⟨u2,_,_,_,_,rfl,.inl rfl⟩ ?_ ?_
 .rintro bs s cs _ e ⟨x,o3,o4,o5,o6,rfl,n8⟩
  have hx:x.fz=some (.dict<|cw fR q):=by
   rcases n8 with rfl|rfl
   .exact yC
   .rfl
  have sp:s∈p:=by rw[e]; simp
  have lbs:bs.length+1<=p.length:=by rw[e,qt,qu]; omega
  have lpm:(gB bs q).length+q.length<=p.length * q.length:=by
   rw[NQ];have:=Ø q.length lbs;rw[Nat.add_mul,Nat.one_mul]at this;exact this
  simp![hx];refine hG (λds fs ρ=>∃ (o4 o5 o6:Qb U),ρ=[some<|dT p,some<|dT q,some<|.t<|aZ fR<|gf []<|gB bs q++ds.map λt=>(gC s.1 t.1,s.2 * t.2),some<|.d<|az s.1,o4,o5,o6,none]) ⟨_,_,_,by rw[List.map_nil,List.append_nil]⟩ ?_ ?_
  .rintro ds t fs _ e2 ⟨o4,o5,o6,rfl⟩
   have tq:t∈q:=by rw[e2]; simp
   have lds:ds.length+1<=q.length:=by rw[e2,qt,qu]; omega
   have hle:s.1.length=t.1.length:=by rw[lp s sp,lq t tq]
   have s1:=vg (hp s sp) hM h2 h4;have s2:=vg (hq t tq) hN h3 h5;have hb:PB (M * N) (B * C) (gB bs q++ds.map λt=>(gC s.1 t.1,s.2 * t.2)):=λv hv=>by
    rcases Á.mp hv with z|z
    .have(a,ha,b,hb,rfl):=Yj z
     exact(hp a (by rw[e]; exact Í _ ha)).mul<|hq b hb
    .have(b,hb,rfl):=À.mp z
     exact(hp s sp).mul<|hq b (by rw[e2]; exact Í _ hb)
   have ll:(gB bs q++ds.map λt=>(gC s.1 t.1,s.2 * t.2)).length<=p.length * q.length:=by
    rw[qt,List.length_map];omega
   have gl:=Cm (gB bs q++ds.map λt=>(gC s.1 t.1,s.2 * t.2)) [];rw[List.length_nil,Nat.zero_add]at gl;have gb:PB (M * N) (p.length * q.length * (B * C)) (gf []<|gB bs q++ds.map λt=>(gC s.1 t.1,s.2 * t.2)):=λv hv=>(LX _ (C:=0) pb0 hb v hv).le (by
    have:=Ø (B * C) ll;omega)
   have s3:=vg (GJ gb<|gC s.1 t.1) (Nat.mul_pos hM hN) h1 h6;have s4:Sz (s.2 * t.2):=vg ((hp s sp).mul<|hq t tq) (Nat.mul_pos hM hN) h1 (by
    have h7:1 * (B * C)<=p.length * q.length * (B * C):=Ø _ (by
     have:1 * 1<=p.length * q.length:=Õ (by omega) (by omega);omega)
    omega)
   simp![Hy hle];refine sT (e:=λt=>.int<|t.1+t.2) (by rw[List.length_zip,lp s sp]; omega) (λt ht ys=>?_) ?_
   .simp!
   .rw[show((s.1.zip t.1).map λt=>PyData.int<|t.1+t.2)=(gC s.1 t.1).map PyData.int by unfold gC; rw[List.map_zipWith,List.zip,List.map_zipWith]]
    simp![show PyData.tuple ((gC s.1 t.1).map PyData.int)=az (gC s.1 t.1) from rfl,rB np sp,rB nq tq,zj8 s1 s2,O6 s3 s4];rw[A8 (by omega)];simp!;rw[List.map_append,<-List.append_assoc,List.map_cons,List.map_nil,NT];exact⟨_,_,_,rfl⟩
  .rintro _ ⟨o4,o5,o6,rfl⟩
   simp!;rw[zpm];exact⟨dT q,_,_,_,_,rfl,.inr rfl⟩
 .rintro _ ⟨x,o3,o4,o5,o6,rfl,hx⟩
  have gl:=Cm (gB p q) [];rw[List.length_nil,NQ]at gl;simp!;refine fin _ _ _ _ _ _ (B9 _ Jc) (by omega) _ λo5=>?_;rcases hx with rfl|rfl
  .simp![LH]
   exact kq x yC
  .simp!
   exact kq (dT q) rfl
noncomputable def zs(n:Nat):Qa Int:=List.replicate n 0
noncomputable def Ei(n k:Nat):Qa Int:=List.replicate k 0++[1]++List.replicate (n - k - 1) 0
noncomputable def uP(n:Nat)(f:Rat):Pq Rat:=if f=0 then []else [(zs n,f)]
theorem Gf(k:Nat):PyData.tuple (List.replicate k [PyData.int 0]).flatten=az (List.replicate k 0):=by
 unfold az;congr 1
 induction k with
 | zero=>rfl
 | succ k ih=>rw[List.replicate_succ,List.flatten_cons,List.replicate_succ,List.map_cons,<-ih]; rfl
theorem YQ(r:Rat):decide (r.num=0)=decide (r=0):=decide_eq_decide.mpr Rat.num_eq_zero
theorem Po{f:Rat}(hn:n<=3):vR [.d<|.int (n:Int),.d<|fR f]=some (.t<|aZ fR<|uP n f,[.d<|.int (n:Int),.d<|fR f]):=by
 refine tG ?_;simp![vR,QC,YQ];unfold uP
 by_cases z:f=0
 .simp![z]
  rfl
 .simp![z,Gf,Int.toNat_natCast]
  rfl
theorem Q9{k:Int}(h:k < 1000)(h2:-1000 < k):qW (.d<|az [0]) (.d<|.int k)=some (.d<|az<|List.replicate k.toNat 0):=by
 rw[<-Gf];exact Oo (xs:=[.int 0]) (by decide) h h2 (by decide)
theorem zid{k:Nat}(hk:k < n)(hn:n<=3):xR [.d<|.int (n:Int),.d<|.int (k:Int)]=some (.t<|aZ fR [(Ei n k,1)],[.d<|.int (n:Int),.d<|.int (k:Int)]):=by
 refine tG ?_;have e:((n:Int) - (k:Int) - 1).toNat=n - k - 1:=by omega
 simp![xR,Qz,Gf,Int.toNat_natCast,e,U5,U9,Rm (a:=List.replicate k 0) (b:=[1]) (by rw[List.length_replicate]; show k+1<=1000; omega),Rm (a:=List.replicate k 0++[1]) (b:=List.replicate (n - k - 1) 0) (by rw[qt,List.length_replicate,List.length_replicate]; show k+1+_<=1000; omega),Q9 (k:=(k:Int)) (by omega) (by omega),Q9 (k:=(n:Int) - (k:Int) - 1) (by omega) (by omega)];rfl
theorem RT{t:Qa Int×Rat}:cq [t]:=by unfold cq; simp
end K57
open PySem L2
namespace K57
open PySem L2
noncomputable def pF(v:Qa Int):Pq Rat:=(nb v).map λp=>([(p.1:Int)],((p.2:Int):Rat))
noncomputable def pV(v:Qa Int):Pq Rat:=nz (pF v)
theorem nN{g:Qa Int->Rat}:bh (pF v) g=(v.getD 0 0:Rat) * g [0]+((v.getD 1 0:Rat) * g [1]+((v.getD 2 0:Rat) * g [2]+((v.getD 3 0:Rat) * g [3]+((v.getD 4 0:Rat) * g [4]+0)))):=rfl
theorem zBm:(pF v).Pairwise pK:=by
 have h:∀ a b:Int,a < b->∀ x y:Rat,pK ([a],x) ([b],y):=λa b pX x y=>by
  unfold pK;simp[cP,pX];omega
 unfold pF nb;simp only[List.map_cons,List.map_nil,List.pairwise_cons,qv,List.not_mem_nil,or_false];refine⟨?_,?_,?_,?_,?_,List.Pairwise.nil⟩<;>rintro t ht
 .rcases ht with rfl|rfl|rfl|rfl<;>exact h _ _ (by decide) _ _
 .rcases ht with rfl|rfl|rfl<;>exact h _ _ (by decide) _ _
 .rcases ht with rfl|rfl<;>exact h _ _ (by decide) _ _
 .subst ht
  exact h _ _ (by decide) _ _
 .exact ht.elim
theorem zBn:Nf (pV v):=⟨zBm.sublist List.filter_sublist,λt ht=>by simpa using (ß.mp ht).2⟩
structure Pv (v:Qa Int) (p:Pq Rat):Prop where
 nd:cq p
 sr:mH p=pV v
theorem Pv.bh{p:Pq Rat}(h:Pv v p)(g:Qa Int->Rat):L2.bh p g=L2.bh (pF v) g:=by
 rw[<-NS (mr p) g,h.sr];exact F5 _ g
theorem La{r:Pq Rat}(nd:cq r)(h:∀ g,bh r g=bh (pF v) g):Pv v (nz r):=⟨KG nd,M3 (Vb nd) zBn λg=>by rw[Ym,h]; exact(F5 _ g).symm⟩
theorem Pv.mem{p:Pq Rat}(h:Pv v p){t:Qa Int×Rat}(ht:t∈p):∃ k:Nat,k<=4/\t.1=[(k:Int)]/\t.2=(v.getD k 0:Rat):=by
 have:=(mr p).mem_iff.mpr ht;rw[h.sr]at this;have(q,hq,rfl):=À.mp (ß.mp this).1;simp only[nb,qv,List.not_mem_nil,or_false]at hq;rcases hq with rfl|rfl|rfl|rfl|rfl
 .exact⟨0,by decide,rfl,rfl⟩
 .exact⟨1,by decide,rfl,rfl⟩
 .exact⟨2,by decide,rfl,rfl⟩
 .exact⟨3,by decide,rfl,rfl⟩
 .exact⟨4,by decide,rfl,rfl⟩
theorem Pv.len{p:Pq Rat}(h:Pv v p):p.length<=5:=by
 rw[<-(mr p).length_eq,h.sr];exact qy (Ô _ _)<|qe _
theorem Pv.ln{p:Pq Rat}(h:Pv v p):Ln 1 p:=λt ht=>by
 have(k,_,e,_):=h.mem ht;rw[e];rfl
theorem Pv.bd{p:Pq Rat}(h:Pv v p)(hb:∀ k:Nat,(v.getD k 0).natAbs<=B):PB 1 B p:=λt ht=>by
 have(k,_,_,e):=h.mem ht;rw[e];exact(Bd.int _).le<|hb k
theorem Pv.add{s:Int}{w:Qa Int}{p q:Pq Rat}(hs:s=1\/s=-1)(hv:v.length=5)(hw:w.length=5)(h:Pv v p)(h':Pv w q):Pv (pl s v w) (nz<|gf p<|fQ s q):=by
 refine La (B9 _ h.nd) λg=>?_;have e1:=h.bh g;have e2:=h'.bh g;have e3:L2.bh (fQ s q) g=(s:Rat) * L2.bh q g:=by
  rcases hs with rfl|rfl
  .rw[Yi]
   show _=(1:Rat) * _;rw[Rat.one_mul]
  .rw[Yh,Yl]
   show _=(-1:Rat) * _;rw[Rat.neg_mul,Rat.one_mul]
 rw[M4 _ _ h.nd,e3,e1,e2];rw[nN,nN,nN];rw[jQ (by omega),jQ (by omega),jQ (by omega),jQ (by omega),jQ (by omega)];simp only[Rat.intCast_add,Rat.intCast_mul];grind
theorem Pv.mul{w:Qa Int}{p q:Pq Rat}(hv:v.length=5)(hw:w.length=5)(dv:Dg m v)(dw:Dg n w)(Se:m+n<=4)(h:Pv v p)(h':Pv w q):Pv (tm v w) (nz<|gf []<|gB p q):=by
 refine La (B9 _ Jc) λg=>?_;have hz:∀ j k:Nat,5<=j+k->((v.getD j 0:Int):Rat) * ((w.getD k 0:Int):Rat)=0:=λj k hjk=>by
  by_cases c:m < j
  .rw[dv j c]
   exact Rat.zero_mul _
  .rw[dw k (by omega)]
   exact Rat.mul_zero _
 rw[M4 _ _ Jc,rA,Yk,h.bh];have e:∀ a,(L2.bh q λb=>g<|gC a b)=L2.bh (pF w) λb=>g (gC a b):=λa=>h'.bh _;rw[nN,e,e,e,e,e,nN,nN,nN,nN,nN,nN];have z14:=hz 1 4 (by omega);have z23:=hz 2 3 (by omega);have z24:=hz 2 4 (by omega);have z32:=hz 3 2 (by omega);have z33:=hz 3 3 (by omega);have z34:=hz 3 4 (by omega);have z41:=hz 4 1 (by omega);have z42:=hz 4 2 (by omega);have z43:=hz 4 3 (by omega);have z44:=hz 4 4 (by omega);have(a0,a1,a2,a3,a4,rfl):=oG hv;have(b0,b1,b2,b3,b4,rfl):=oG hw;rw[Dt];simp only[gC,List.zipWith_cons_cons,List.zipWith_nil_left,List.getD_cons_zero,List.getD_cons_succ]at z14 z23 z24 z32 z33 z34 z41 z42 z43 z44 ⊢;simp only[Rat.intCast_add,Rat.intCast_mul];simp only[Int.reduceAdd];clear e h h' hv hw dv dw hz;generalize ((a0:Int):Rat)=A0 at *;generalize ((a1:Int):Rat)=A1 at *;generalize ((a2:Int):Rat)=A2 at *;generalize ((a3:Int):Rat)=A3 at *;generalize ((a4:Int):Rat)=A4 at *;generalize ((b0:Int):Rat)=B0 at *;generalize ((b1:Int):Rat)=B1 at *;generalize ((b2:Int):Rat)=B2 at *;generalize ((b3:Int):Rat)=B3 at *;generalize ((b4:Int):Rat)=B4 at *;generalize g [0]=G0;generalize g [1]=G1;generalize g [2]=G2;generalize g [3]=G3;generalize g [4]=G4;generalize g [5]=G5;generalize g [6]=G6;generalize g [7]=G7;generalize g [8]=G8;grind
end K57
open PySem L2
namespace K57
open PySem L2
noncomputable def Ee(i c:Nat):Nat:=(i+4) * 3^c
def Nb(B:Nat)(v:Qa Int):Prop:=∀ k:Nat,(v.getD k 0).natAbs<=B
theorem Nb.up{C:Nat}(h:Nb B v)(l:B<=C):Nb C v:=λk=>qy (h k) l
noncomputable def cnt(rs:Qa D)(i:Nat):Nat:=((rs.take i).filter iS).length
theorem LG{rs:Qa D}:cnt rs i<=(rs.filter iS).length:=((List.take_sublist i rs).filter iS).length_le
theorem zBo{rs:Qa D}{r:D}(h:rs[i]?=some r):cnt rs (i+1)=cnt rs i+if iS r=true then 1 else 0:=by
 unfold cnt;have(hi,rfl):=qk.mp h;rw[List.take_succ_eq_append_getElem hi,List.filter_append,qt,List.filter_cons];split<;>simp
noncomputable def jn(ps:Qa (Pq Rat)):Qa D:=ps.map λp=>.dict<|cw fR p
theorem Xk{c d:Nat}(h:c<=d):Ee i c<=Ee (i+1) d:=Õ (by omega) (Ä (by omega) h)
theorem nb1:Nb 1 AJ:=λk=>by
 match k with
 | 0=>decide
 | 1|2|3|4=>decide
 | k+5=>exact Å _
theorem nbx:Nb 1 x5:=λk=>by
 match k with
 | 0=>decide
 | 1|2|3|4=>decide
 | k+5=>exact Å _
theorem pv0:Pv fV (uP 1 0):=by
 refine⟨List.nodup_nil,?_⟩;rfl
theorem pv1:Pv AJ (uP 1 1):=by
 refine⟨RT,?_⟩;rfl
theorem pvx:Pv x5 [(Ei 1 0,1)]:=by
 refine⟨RT,?_⟩;rfl
theorem Q8{c:Nat}:Ee i c+1<=Ee (i+1) c:=by
 have h1:=Nat.one_le_pow c 3 (by omega);have h2:Ee (i+1) c=Ee i c+3^c:=Nat.succ_mul (i+4) (3^c);omega
theorem K9{s:Int}{a:Qa Int}(hs:s=1\/s=-1)(h:a.length=b.length)(ha:Nb B a)(hb:Nb B b):Nb (2 * B) (pl s a b):=λk=>by
 rw[jQ h];have:=ha k;have:=hb k;rcases hs with rfl|rfl<;>omega
theorem zBQ{c:Nat}:3+(Ee i c+Ee i c)<=Ee (i+1) (c+1):=by
 have h1:=Nat.one_le_pow c 3 (by omega);have h2:Ee (i+1) (c+1)=Ee (i+1) c * 3:=by
  unfold Ee;rw[Nat.pow_succ,Nat.mul_assoc]
 have h3:Ee (i+1) c=Ee i c+3^c:=Nat.succ_mul (i+4) (3^c);omega
theorem jc{x y:Int}{C:Nat}(hC:B * B=C)(hx:x.natAbs<=B)(hy:y.natAbs<=B):-(C:Int)<=x * y/\x * y<=C:=by
 have h:(x * y).natAbs<=C:=by
  rw[Int.natAbs_mul,<-hC];exact Õ hx hy
 omega
theorem zBq{a:Qa Int}(la:a.length=5)(lb:b.length=5)(ha:Nb B a)(hb:Nb B b):Nb (8 * (B * B)) (tm a b):=by
 have(a0,a1,a2,a3,a4,rfl):=oG la;have(b0,b1,b2,b3,b4,rfl):=oG lb;generalize hC:B * B=C;have m00:=jc hC (ha 0) (hb 0);have m01:=jc hC (ha 0) (hb 1);have m02:=jc hC (ha 0) (hb 2);have m03:=jc hC (ha 0) (hb 3);have m04:=jc hC (ha 0) (hb 4);have m10:=jc hC (ha 1) (hb 0);have m11:=jc hC (ha 1) (hb 1);have m12:=jc hC (ha 1) (hb 2);have m13:=jc hC (ha 1) (hb 3);have m20:=jc hC (ha 2) (hb 0);have m21:=jc hC (ha 2) (hb 1);have m22:=jc hC (ha 2) (hb 2);have m30:=jc hC (ha 3) (hb 0);have m31:=jc hC (ha 3) (hb 1);have m40:=jc hC (ha 4) (hb 0);simp only[List.getD_cons_zero,List.getD_cons_succ]at m00 m01 m02 m03 m04 m10 m11 m12 m13 m20 m21 m22 m30 m31 m40;clear ha hb la lb hC;generalize yW:a0 * b0=q00 at *;generalize yV:a0 * b1=q01 at *;generalize yU:a0 * b2=q02 at *;generalize yT:a0 * b3=q03 at *;generalize yS:a0 * b4=q04 at *;generalize yR:a1 * b0=RM at *;generalize yQ:a1 * b1=q11 at *;generalize yP:a1 * b2=q12 at *;generalize yO:a1 * b3=q13 at *;generalize yN:a2 * b0=q20 at *;generalize yM:a2 * b1=q21 at *;generalize yL:a2 * b2=q22 at *;generalize yK:a3 * b0=q30 at *;generalize yJ:a3 * b1=q31 at *;generalize yI:a4 * b0=q40 at *;rw[Dt];rw[yW,yV,yU,yT,yS,yR,yQ,yP,yO,yN,yM,yL,yK,yJ,yI];clear yW yV yU yT yS yR yQ yP yO yN yM yL yK yJ yI;intro k;rcases k with _|_|_|_|_|k
 all_goals simp only[List.getD_cons_zero,List.getD_cons_succ,List.getD_nil]
 all_goals omega
noncomputable def wO:Qa (Qa Int):=[[0],[1],[2],[3],[4]]
theorem TQ:(wO.map λa=>hT<|kL a).Nodup:=by decide +kernel
theorem K8{p:Pq Rat}(h:Pv v p):Fy p:=by
 have inj:∀ a∈wO,∀ b∈wO,hT (kL a)=hT (kL b)->a=b:=L3 TQ;have ky:∀ t∈p,t.1∈wO:=λt ht=>by
  have(k,hk,e,_):=h.mem ht;rw[e];rcases(by omega:k=0\/k=1\/k=2\/k=3\/k=4)with rfl|rfl|rfl|rfl|rfl<;>decide
 have nd:=h.nd;unfold Fy sU;rw[Bool.and_eq_true_iff];constructor
 .rw[List.all_eq_true]
  intro ks hk;have(a,_,rfl):=À.mp hk;rw[EC,List.all_eq_true];intro k hk;have(i,_,rfl):=À.mp hk;rfl
 .rw[decide_eq_true_iff,List.map_map]
  have mem:∀ a∈p.map (·.1),a∈wO:=λa ha=>by
   have(t,ht,rfl):=À.mp ha;exact ky t ht
  refine List.pairwise_map.mpr<|List.Pairwise.imp_of_mem (λ{a b} ha hb (rY:a≠b)=>?_) nd;exact λe=>rY<|inj a (mem a ha) b (mem b hb) e
theorem K7:gH fR (pV l)=(i4 l).map eU:=by
 unfold gH pV nz pF i4;rw[List.filter_map,List.map_map,List.map_map];have e:((λt:Qa Int×Rat=>decide<|t.2≠0) ∘ λp:Nat×Int=>([(p.1:Int)],((p.2:Int):Rat)))=λp=>!decide (p.2=0):=by
  funext p
  simp
 rw[e];rfl
theorem HL{x:D}{Q:U×Qa U->Prop}(hm:m<=2)(h5:l.length=5)(h:Rk m l x)(q:Q (.d<|.int (m:Int),[.d x,.d<|.tuple<|(i4 l).map eU])):Wo (Dl [.d x,.d<|.tuple<|(i4 l).map eU]) Q:=by
 have(rs,vs,rfl,lN,hl,hc,cT):=h.ex;have nx:gU 1 100 (PyData.tuple [.str "x"]):=(tE (n:=1) (k:=0) (M:=12) (λd hd=>by
  rw[qq.mp hd];exact GN (n:=1) (by unfold uK; decide))<|qe _).mono (by decide) (by decide)
 have ex:jL true (.d<|PyData.tuple [.str "x"]) (.d<|.tuple [.str "x"])=some (.d<|.bool false):=by
  rw[nx.wq nx (by decide) (by decide)];rfl
 simp![Dl,Qw,ex];refine GO (λi ρ=>i<=rs.length/\∃ ps v3 v4,List.length ps=i/\(∀ j p v,ps[j]?=some p->vs[j]?=some v->Pv v p)/\(∀ j v,j < i->vs[j]?=some v->Nb (2^Ee i (cnt rs i)) v)/\ρ=[some<|.d<|.tuple [.tuple [.str "x"],.tuple rs],some<|.d<|.tuple<|(i4 l).map eU,some<|.l<|jn ps,v3,v4]) ⟨by omega,[],_,_,rfl,λj p v e=>(by rw[List.getElem?_nil]at e; cases e),λj v hj=>absurd hj<|Nat.not_lt_zero _,rfl⟩ ?_ ?_
 .rintro i row ρ hd ⟨_,ps,v3,v4,cL,pQ,pT,rfl⟩
  have hi:=(qk.mp hd).1;have cU:i < vs.length:=by rw[<-lN.1]; exact hi
  have hr:=lN.2.2 i row _ hd (qm cU);generalize hvv:vs[i]=vv at hr;have SH:vs[i]?=some vv:=by rw[<-hvv]; exact qm cU
  have hz:(jn ps).length < 16777216:=by
   rw[jn,List.length_map];omega
  have cs:=zBo hd;have cle:=LG (rs:=rs) (i:=i+1);have Av:cnt rs i<=cnt rs (i+1):=by omega
  have As:2^Ee i (cnt rs i)<=2^Ee (i+1) (cnt rs<|i+1):=Ä (by omega) (Xk Av);have J8:Ee i (cnt rs i)<=1116:=Õ (show i+4<=124 by omega) (Ä (n:=3) (by omega) (show cnt rs i<=2 by omega));have Kk:2^Ee i (cnt rs i)<=2^1116:=Ä (by omega) J8;have fin:∀ (p':Pq Rat) v3 v4,Pv vv p'->Nb (2^Ee (i+1) (cnt rs<|i+1)) vv->(i+1<=rs.length/\∃ rM v3' v4',List.length rM=i+1/\(∀ j p v,rM[j]?=some p->vs[j]?=some v->Pv v p)/\(∀ j v,j < i+1->vs[j]?=some v->Nb (2^Ee (i+1) (cnt rs<|i+1)) v)/\[some<|U.d<|.tuple [.tuple [.str "x"],.tuple rs],some<|.d<|.tuple<|(i4 l).map eU,some<|.l<|jn ps++[.dict<|cw fR p'],v3,v4]=[some<|.d<|.tuple [.tuple [.str "x"],.tuple rs],some<|.d<|.tuple<|(i4 l).map eU,some<|.l<|jn rM,v3',v4']):=λp' v3 v4 pS eJ=>by
   refine⟨hi,ps++[p'],v3,v4,by simp[cL],λj p v e1 e2=>?_,λj v hj e2=>?_,by rw[show jn ps++[.dict<|cw fR p']=jn (ps++[p']) by unfold jn; rw[List.map_append]; rfl]⟩
   .by_cases hj:j < ps.length
    .rw[List.getElem?_append_left hj]at e1
     exact pQ j p v e1 e2
    .have pU:=(qk.mp e1).1
     rw[qt,List.length_singleton]at pU;have ej:j=i:=by omega
     subst ej;rw[<-cL,List.getElem?_append_right<|qe _,Nat.sub_self]at e1;cases e1;rw[SH]at e2;cases e2;exact pS
   .by_cases pU:j < i
    .exact(pT j v pU e2).up As
    .have ej:j=i:=by omega
     subst ej;rw[SH]at e2;cases e2;exact eJ
  have one:1<=2^Ee (i+1) (cnt rs<|i+1):=Nat.one_le_two_pow;have nl:gU 1 1000 (PyData.tuple [.str "letter",.int 0]):=(tE (n:=2) (k:=0) (M:=102) (λd hd=>by
   simp only[qv,List.not_mem_nil,or_false]at hd;rcases hd with rfl|rfl
   .exact GN (n:=10) (by unfold uK; decide)
   .exact(vG (n:=1) (by decide)).mono (by decide) (by decide))<|qe _).mono (by decide) (by decide)
  have nr:∀ {w:Str} {a b:Nat},uK 10 w->a < 200->b < 200->gU 1 1000 (PyData.tuple [.str w,.int (a:Int),.int (b:Int)]):=λ{w a b} hw ha hb=>(tE (n:=3) (k:=0) (M:=102) (λd hd=>by
   simp only[qv,List.not_mem_nil,or_false]at hd;rcases hd with rfl|rfl|rfl
   .exact GN (n:=10) hw
   .exact(vG (n:=3) (by omega)).mono (by decide) (by decide)
   .exact(vG (n:=3) (by omega)).mono (by decide) (by decide))<|qe _).mono (by decide) (by decide)
  have at_:∀ {a:Nat},a < i->∃ p,br (jn ps) (a:Int)=some (.dict<|cw fR p)/\ps[a]?=some p:=λ{a} ha=>by
   have h1:a < ps.length:=by omega
   refine⟨ps[a],atK rfl ?_,qm h1⟩;unfold jn;rw[List.getElem?_map,qm h1];rfl
  cases hr with
  | pI=>
   unfold nD;have e0:PyData.tuple [.int 0,.int 1]=fR 0:=rfl;have pn:vR [.d<|.int 1,.d<|fR 0]=some (.t<|aZ fR<|uP 1 0,[.d<|.int 1,.d<|fR 0]):=Po (n:=1) (f:=0) (by omega);simp!;rw[e0];simp![pn,hz];exact fin _ _ _ pv0 (λk=>by rw[Bq]; exact Å _)
  | pH=>
   unfold nD;have e0:PyData.tuple [.int 1,.int 1]=fR 1:=rfl;have pn:vR [.d<|.int 1,.d<|fR 1]=some (.t<|aZ fR<|uP 1 1,[.d<|.int 1,.d<|fR 1]):=Po (n:=1) (f:=1) (by omega);simp!;rw[e0];simp![pn,hz];exact fin _ _ _ pv1<|Nb.up nb1 one
  | gN=>
   unfold lD;have el:jL false (.d<|PyData.tuple [.str "letter",.int 0]) (.d<|PyData.tuple [.str "letter",.int 0])=some (.d<|.bool true):=by
    rw[nl.wq nl (by decide) (by decide)];rfl
   have pn:xR [.d<|.int 1,.d<|.int 0]=some (.t<|aZ fR [(Ei 1 0,1)],[.d<|.int 1,.d<|.int 0]):=zid (n:=1) (k:=0) (by omega) (by omega);simp![el,pn,hz];exact fin _ _ _ pvx<|Nb.up nbx one
  | @plus a b va vb ha hb ea eb=>
   unfold r3;have en:jL false (.d<|PyData.tuple [.str "plus",.int (a:Int),.int (b:Int)]) (.d<|PyData.tuple [.str "letter",.int 0])=some (.d<|.bool false):=by
    rw[(nr (by unfold uK; decide) (show a < 200 by omega) (show b < 200 by omega)).wq nl (by decide) (by decide)];rfl
   have ei:lO true (.d<|PyData.str "plus") (.d<|PyData.tuple [.str "plus",.str "less",.str "times"])=some (.d<|.bool false):=rfl;have(p1,Ap,yX):=at_ ha;have(p2,sC,kW):=at_ hb;have v1:=pQ a p1 va yX ea;have v2:=pQ b p2 vb kW eb;have n1:=pT a va ha ea;have n2:=pT b vb hb eb;have l1:=v1.len;have l2:=v2.len;have f1:=lN.2.1 va (Â ea);have f2:=lN.2.1 vb (Â eb);have lb:2^Ee i (cnt rs i)+p2.length * 2^Ee i (cnt rs i) < 2^4000:=by
    have:=Ø (2^Ee i (cnt rs i)) l2;exact Ó (show _<=6 * 2^1116 by omega) (by decide)
   have pa:=O5 (s:=1) (M:=1) (u1:=dT p1) (u2:=dT p2) (KE<|K8 v1) rfl (.inl rfl) v1.nd v2.nd (v1.bd n1) (v2.bd n2) (by omega) (by decide) lb (by omega) (by omega);simp![en,ei,Ap,sC,pa,hz];have c0:cnt rs (i+1)=cnt rs i:=cs;refine fin _ _ _ (v1.add (.inl rfl) f1 f2 v2) ?_;rw[c0];exact(K9 (.inl rfl) (by omega) n1 n2).up (by
    rw[<-Nat.pow_succ'];exact Ä (by omega) Q8)
  | @less a b va vb ha hb ea eb=>
   unfold r3;have en:jL false (.d<|PyData.tuple [.str "less",.int (a:Int),.int (b:Int)]) (.d<|PyData.tuple [.str "letter",.int 0])=some (.d<|.bool false):=by
    rw[(nr (by unfold uK; decide) (show a < 200 by omega) (show b < 200 by omega)).wq nl (by decide) (by decide)];rfl
   have ei:lO true (.d<|PyData.str "less") (.d<|PyData.tuple [.str "plus",.str "less",.str "times"])=some (.d<|.bool false):=rfl;have(p1,Ap,yX):=at_ ha;have(p2,sC,kW):=at_ hb;have v1:=pQ a p1 va yX ea;have v2:=pQ b p2 vb kW eb;have n1:=pT a va ha ea;have n2:=pT b vb hb eb;have l1:=v1.len;have l2:=v2.len;have f1:=lN.2.1 va (Â ea);have f2:=lN.2.1 vb (Â eb);have lb:2^Ee i (cnt rs i)+p2.length * 2^Ee i (cnt rs i) < 2^4000:=by
    have:=Ø (2^Ee i (cnt rs i)) l2;exact Ó (show _<=6 * 2^1116 by omega) (by decide)
   have pa:=O5 (s:=(-1)) (M:=1) (u1:=dT p1) (u2:=dT p2) (KE<|K8 v1) rfl (.inr rfl) v1.nd v2.nd (v1.bd n1) (v2.bd n2) (by omega) (by decide) lb (by omega) (by omega);simp![en,ei,Ap,sC,pa,hz];have c0:cnt rs (i+1)=cnt rs i:=cs;refine fin _ _ _ (v1.add (.inr rfl) f1 f2 v2) ?_;rw[c0];exact(K9 (.inr rfl) (by omega) n1 n2).up (by
    rw[<-Nat.pow_succ'];exact Ä (by omega) Q8)
  | @times a b m' n' va vb ha hb ea eb dm dn Se=>
   unfold r3;have en:jL false (.d<|PyData.tuple [.str "times",.int (a:Int),.int (b:Int)]) (.d<|PyData.tuple [.str "letter",.int 0])=some (.d<|.bool false):=by
    rw[(nr (by unfold uK; decide) (show a < 200 by omega) (show b < 200 by omega)).wq nl (by decide) (by decide)];rfl
   have ei:lO true (.d<|PyData.str "times") (.d<|PyData.tuple [.str "plus",.str "less",.str "times"])=some (.d<|.bool false):=rfl;have(p1,Ap,yX):=at_ ha;have(p2,sC,kW):=at_ hb;have v1:=pQ a p1 va yX ea;have v2:=pQ b p2 vb kW eb;have n1:=pT a va ha ea;have n2:=pT b vb hb eb;have l1:=v1.len;have l2:=v2.len;have f1:=lN.2.1 va (Â ea);have f2:=lN.2.1 vb (Â eb);have l12:p1.length * p2.length<=25:=Õ l1 l2;have b2:2^Ee i (cnt rs i) * 2^Ee i (cnt rs i)<=2^1116 * 2^1116:=Õ Kk Kk;have lb:p1.length * p2.length * (2^Ee i (cnt rs i) * 2^Ee i (cnt rs i)) < 2^4000:=Ó (Õ l12 b2) (by decide);have bl:2^Ee i (cnt rs i) < 2^4000:=Ó Kk (by decide);simp![en,ei,Ap,sC];refine zlD (M:=1) (N:=1) (B:=2^Ee i (cnt rs i)) (C:=2^Ee i (cnt rs i)) (n:=1) (p:=p1) (q:=p2) rfl rfl v1.nd v2.nd (v1.bd n1) (v2.bd n2) v1.ln v2.ln (by omega) (by omega) (by omega) (by decide) (by decide) (by decide) bl bl lb (Nat.mul_pos (Nat.two_pow_pos _)<|Nat.two_pow_pos _) (by omega) (by omega) (by omega) λIm yC=>?_;simp![hz];have c0:cnt rs (i+1)=cnt rs i+1:=cs;refine fin _ _ _ (v1.mul f1 f2 dm dn Se v2) ?_;rw[c0];exact(zBq f1 f2 n1 n2).up (by
    rw[<-Nat.pow_add,show 8=2^3 from rfl,<-Nat.pow_add];exact Ä (by omega) zBQ)
 .rintro ρ ⟨_,ps,v3,v4,cL,pQ,pT,rfl⟩
  obtain⟨ls,Sf⟩:∃ n,vs.length=n+1:=by
   rcases vs with _|⟨v,vs⟩
   .cases cT
   .exact⟨vs.length,rfl⟩
  have R8:vs[ls]?=some l:=by
   rw[List.getLast?_eq_getElem?,Sf]at cT;exact cT
  have RU:ls < ps.length:=by rw[cL,lN.1]; omega
  have pB:Pv l ps[ls]:=pQ ls _ l (qm RU) R8;have eat:br (jn ps) (-1)=some (.dict<|cw fR ps[ls]):=by
   have e1:(jn ps).length=ls+1:=by rw[jn,List.length_map,cL,lN.1,Sf]
   unfold br eI;rw[e1,if_neg (by omega),if_pos (by omega),bd];have e2:(jn ps)[ls]?=some (.dict<|cw fR ps[ls]):=by
    unfold jn;rw[List.getElem?_map,qm RU];rfl
   rw[show(-1+((ls+1:Nat):Int)).toNat=ls by omega];exact e2
  have tk:=Xl (u:=dT ps[ls]) rfl pB.nd (by have:=pB.len; omega);simp![eat,tk];have epT:Fd (mH ps[ls])=.d (.tuple<|(i4 l).map eU):=by
   rw[pB.sr];unfold Fd;rw[K7]
  rw[epT];have nbl:Nb (2^1116) l:=(pT ls l (by omega) R8).up (Ä (by omega)<|Õ (show rs.length+4<=124 by omega)<|Ä (n:=3) (by omega) (show cnt rs rs.length<=2 by have:=LG (rs:=rs) (i:=rs.length); omega));have nn:=ZX (n:=400) (m:=5) (p:=pV l) (λt ht=>?_) (λt ht=>?_) (λt ht=>?_) (qy (Ô _ _)<|qe _);rw[K7]at nn;have ee:jL true (.d<|.tuple<|(i4 l).map eU) (.d<|.tuple<|(i4 l).map eU)=some (.d<|.bool false):=by
   rw[nn.wq nn (by decide) (by decide),if_pos rfl,SeqAt.eqv_refl _<|SeqAt.canLay_of_shaped<|nn.shaped (by decide)];rfl
  .simp![ee]
   have hz:sizeLine=16777216:=sizeLine_eq;refine By (λi ah ys=>ah=[none]/\ys=(rs.take i).filter iS) (by omega) (λi ah ys h=>?_) ⟨rfl,rfl⟩ (λi d ah ys hd h=>?_) λah ys h=>?_
   .rw[h.2]
    exact qy (Ô _ _) (by simp; omega)
   .have(rfl,rfl):=h
    have hi:=(qk.mp hd).1;have cU:i < vs.length:=by rw[<-lN.1]; exact hi
    have hr:=lN.2.2 i d _ hd (qm cU);have et:(rs.take<|i+1).filter iS=(rs.take i).filter iS++if iS d=true then [d]else []:=by
     have(_,e):=qk.mp hd;rw[List.take_succ_eq_append_getElem hi,e,List.filter_append,List.filter_cons];split<;>simp
    rw[et];generalize vs[i]=vv at hr;cases hr<;>(try unfold nD)<;>(try unfold lD)<;>(try unfold r3)<;>simp!<;>simp[iS]<;>(try decide)
   .have(rfl,rfl):=h
    simp!;rw[List.take_length,hc];exact q
  .have(k,hk,e1,e2):=pB.mem ((mr ps[ls]).mem_iff.mp (by rw[pB.sr]; exact ht))
   rw[e2];show(l.getD k 0).natAbs < _/\1 < _;exact⟨Ó (nbl k) (by decide),by decide⟩
  .have(k,hk,e1,e2):=pB.mem ((mr ps[ls]).mem_iff.mp (by rw[pB.sr]; exact ht))
   rw[e1];intro j hj;rw[qq.mp hj];omega
  .have(k,hk,e1,e2):=pB.mem ((mr ps[ls]).mem_iff.mp (by rw[pB.sr]; exact ht))
   rw[e1];exact(by decide:1<=3)
end K57
open PySem L2
namespace K57
open PySem L2
theorem Cb:W0 l↔wa l:=by
 constructor
 .rintro⟨a,sa,rfl⟩
  have(x,y,rfl,hx,hy):=Dx sa;exact⟨x,y,hx,hy,lJ⟩
 .rintro⟨a,b,ha,hb,rfl⟩
  refine⟨[a,b],⟨rfl,λs hs=>?_⟩,lJ.symm⟩;simp only[qv,List.not_mem_nil,or_false]at hs;rcases hs with rfl|rfl
  .exact ha
  .exact hb
theorem Ge(h5:l.length=5):(∃ f,lR f/\W1 l f)↔TK l:=by
 have(l0,l1,l2,l3,l4,rfl):=qF h5;constructor
 .rintro⟨f,hf,b,⟨b3,bs⟩,e⟩
  have f5:=GP hf;rcases b with _|⟨x,_|⟨y,_|⟨c,_|⟨d,b⟩⟩⟩⟩<;>simp at b3;have hx:=bs x (by simp);have hy:=bs y (by simp);have hc:=bs c (by simp);refine⟨f,c,hf,by omega,x,y,hx,hy,?_⟩;rw[show [x,y,c]=[x,y]++[c] from rfl,T3,tz rfl,lJ]at e;have(f0,f1,f2,f3,f4,rfl):=qF f5;simp[pl]at e;simp[mn];omega
 .rintro⟨f,m,hf,hm,a,b,ha,hb,e⟩
  have f5:=GP hf;refine⟨f,hf,[a,b,m],⟨rfl,λs hs=>?_⟩,?_⟩
  .simp only[qv,List.not_mem_nil,or_false]at hs
   rcases hs with rfl|rfl|rfl
   .exact ha
   .exact hb
   .omega
  .rw[show [a,b,m]=[a,b]++[m] from rfl,T3,tz rfl,lJ]
   have(f0,f1,f2,f3,f4,rfl):=qF f5;simp[mn]at e;simp[pl];omega
theorem MF{Q:U×Qa U->Prop}(h5:l.length=5)(q:∀ u,Q (.d<|.bool true,[u])):Wo (Dc [.l<|l.map .int]) Q:=by
 have eB:U.d (.list<|l.map .int)=h9 false l:=rfl;have J9:h9 false l=U.d (.list<|l.map .int):=rfl;have eqB:∀ {p:Bool},cu false (.d<|.bool p) (.d<|.bool p)=some (.d<|.bool true):=λ{p}=>by cases p<;>rfl
 simp![Dc,PN];refine zpF h5 ?_;simp!;refine zmH TV (λz=>?_) λl' x _ hw hx=>?_
 .rw[Ly h5]at z
  cases z
 rw[Ly h5]at hw;cases hw;rcases hx with⟨rfl,hn⟩|⟨y,rfl,hy,h0⟩|⟨y,rfl,hy,h0,h1⟩|⟨y,rfl,hy,h0,h1⟩
 .have iN:jd false (.d .none) (.d .none)=some (.d<|.bool true):=rfl
  simp![iN];rw[eB];refine xF h5 λb hb=>?_;cases b
  .simp![Bool.not_false]
   rw[J9];refine GV h5 λb2 oh=>?_;cases b2
   .simp![Bool.not_false]
    exact q _
   .exact absurd (.inr<|.inl<|(Ge h5).mpr<|oh.mp rfl) hn
  .exact absurd (.inl<|Cb.mpr<|hb.mp rfl) hn
 .have iN:jd false (.d<|.tuple [.int 0,y]) (.d .none)=some (.d<|.bool false):=rfl
  simp![iN];refine HL (by omega) h5 hy ?_;have i3:lO true (.d<|.int 0) (.d<|PyData.tuple [.int 0,.int 1,.int 2])=some (.d<|.bool false):=rfl;simp![i3];rw[eB];refine xF h5 λb hb=>?_;have eb:=hb.mpr (Cb.mp h0);subst eb;simp!;exact q _
 .have iN:jd false (.d<|.tuple [.int 1,y]) (.d .none)=some (.d<|.bool false):=rfl
  simp![iN];refine HL (by omega) h5 hy ?_;have i3:lO true (.d<|.int 1) (.d<|PyData.tuple [.int 0,.int 1,.int 2])=some (.d<|.bool false):=rfl;simp![i3];rw[eB];refine xF h5 λb hb=>?_;have eb:b=false:=by
   cases b
   .rfl
   .exact absurd (Cb.mpr<|hb.mp rfl) h0
  subst eb;simp!;rw[J9];refine GV h5 λb2 oh=>?_;have J7:=oh.mpr ((Ge h5).mp h1);subst J7;simp![eqB];exact q _
 .have iN:jd false (.d<|.tuple [.int 2,y]) (.d .none)=some (.d<|.bool false):=rfl
  simp![iN];refine HL (by omega) h5 hy ?_;have i3:lO true (.d<|.int 2) (.d<|PyData.tuple [.int 0,.int 1,.int 2])=some (.d<|.bool false):=rfl;simp![i3];rw[eB];refine xF h5 λb hb=>?_;have eb:b=false:=by
   cases b
   .rfl
   .exact absurd (Cb.mpr<|hb.mp rfl) h0
  subst eb;simp!;rw[J9];refine GV h5 λb2 oh=>?_;have J7:b2=false:=by
   cases b2
   .rfl
   .have(f,hf,hw):=(Ge h5).mpr (oh.mp rfl)
    exact absurd hw<|h1 f hf
  subst J7;simp![eqB];exact q _
theorem TN(ns:Qa Int)(hl:ns.length<=63):∃ outs,vh [.d<|.list<|ns.map .int]=some (.d<|.bool true,outs):=by
 suffices h:Wo (vh [.d<|.list<|ns.map .int]) λo=>o.1=.d (.bool true) by
  obtain⟨⟨a,outs⟩,e,ha⟩:=h;subst ha;exact⟨outs,e⟩
 simp![vh,KO];refine w9 (λi ρ=>∃ v1 v2 v3 v4,ρ=[some<|.d<|.list<|ns.map .int,v1,v2,v3,v4]) ⟨_,_,_,_,rfl⟩ ?_ ?_
 .rintro i ρ hi ⟨v1,v2,v3,v4,rfl⟩
  simp!;refine zBc (by omega) λx y=>?_;simp!;refine xl (by omega) (by omega) λr x1 y1 h0 h1=>?_;simp!;refine zlC (by omega) λl x2 y2 l5=>?_;simp!;refine xl (by omega) (by omega) λn x3 y3 n0 n1=>?_;simp!;refine oM (λc=>?_) λc=>?_
  .simp!
   refine xl (by omega) (by omega) λa x4 y4 a0 a1=>?_;have ea:a=((a.toNat:Nat):Int):=by omega
   have e1:=uQ (l:=l) (i:=a.toNat) (by omega);have e2:=AL (l:=l) (i:=a.toNat) (by omega);rw[<-ea]at e1 e2;simp![e1];refine xl (by omega) (by omega) λb x5 y5 b0 b1=>?_;have pk:∃ s:Int,br [PyData.int 1,.int (-1)] b=some (.int s):=by
    rcases(show b=0\/b=1 by omega)with e|e
    .exact⟨1,atK (i:=0) e rfl⟩
    .exact⟨-1,atK (i:=1) e rfl⟩
   have(s,es):=pk;simp![es,e2,Bi];refine MF (by rw[List.length_set]; exact l5) λu=>?_;simp!;exact⟨_,_,_,_,rfl⟩
  .simp!
   refine MF l5 λu=>?_;simp!;exact⟨_,_,_,_,rfl⟩
 .rintro ρ ⟨v1,v2,v3,v4,rfl⟩
  simp!
abbrev LF(K:qc):Sp:=nX K 1 vh
theorem BI{X:Cx}(ha:Wr (PE X o ta))(hv:Wr (PE X value tv))(hs:swapsWith value (some<|.Attribute o f pos') pos.line X.env=pure false:=by rfl):Wr (PS X (.Assign [.Attribute o f pos'] value pos)<|wM X.K ta tv f):=⟨V1 ha.run hv.run hs⟩
theorem all_mk{l:PySem.W.OpenLaw}{fa:Qg}(X:K.In h)(G:h.Ns mainGlobals mg)(hfa:mg "law"=some (.ref fa)){eK:Tok}{cZ nv cY c6 fF aH bY:Qg}{kI tU kH kJ mM jq jD:Qb Qg}{bW gP bV bX cR:Array Qc}{iG rQ iF iH jZ:Nat}{kE tN kD kF mL ji:Array (Qb Qc)}{jr ju jB jo fu jC:Qc}
  (a0:sG K "NewRows" "add_new" "NewRows.add_new" Q4)
  (a1:sG K "NewRows" "shared" "NewRows.shared" Ql)
  (a2:sG K "NewRows" "sum_row" "NewRows.sum_row" Q3)
  (a3:b8 K "whole_numbers" Qv)
  (a4:b8 K "numbers_plus" PK)
  (a5:b8 K "numbers_times" Qu)
  (a6:b8 K "mixes" Mw)
  (a7:b8 K "products_of" P4)
  (a8:b8 K "thing_row" Pf)
  (a9:b8 K "mix_row" OD)
  (Tf:b8 K "small_reckoning" Q2)
  (Te:b8 K "with_two" OW)
  (Td:b8 K "cheapest" OV)
  (Tc:b8 K "_law_box" Pe)
  (Tb:b8 K "_law_take" Pn)
  (Ta:b8 K "_law_fraction" Qk)
  (S9:b8 K "_law_plus" Pl)
  (S8:b8 K "_law_times" P2)
  (S7:b8 K "_law_poly_add" Qj)
  (S6:b8 K "_law_poly_mult" Q1)
  (S5:b8 K "_law_poly_number" QH)
  (S4:b8 K "_law_poly_letter" QD)
  (S3:b8 K "_law_poly_told" Q0)
  (S2:b8 K "_law_list_product" Q7)
  (S1:b8 K "_law_mix" Pd)
  (S0:b8 K "_law_signs" P1)
  (SY:b8 K "_law_small_one" QZ)
  (SX:b8 K "_law_poly_of" Qt)
  (SW:b8 K "_law_is_mix" PJ)
  (SV:b8 K "_law_firsts" PH)
  (SU:b8 K "_law_by_one" PF)
  (SS:b8 K "_law_rows_right" Qx)
  (SR:b8 K "_law_right" P0)
  (SQ:b8 K "law" KP)
  (z0:PySem.W.nsIn K mainGlobals "len"=some none)
  (z1:PySem.W.nsIn K mainGlobals "tuple"=some none)
  (z2:PySem.W.nsIn K mainGlobals "zip"=some none)
  (z3:PySem.W.nsIn K mainGlobals "enumerate"=some none)
  (z4:PySem.W.nsIn K mainGlobals "range"=some none)
  (z5:PySem.W.nsIn K mainGlobals "list"=some none)
  (z6:PySem.W.nsIn K mainGlobals "int"=some none)
  (z7:PySem.W.nsIn K mainGlobals "abs"=some none)
  (z8:PySem.W.nsIn K mainGlobals "dict"=some none)
  (z9:PySem.W.nsIn K mainGlobals "sorted"=some none)
  (Ib:PySem.W.nsIn K mainGlobals "sum"=some none)
  (Ia:PySem.W.nsIn K mainGlobals "isinstance"=some none)
  (HZ:PySem.W.nsIn K mainGlobals "max"=some none)
  (HY:PySem.W.nsIn K mainGlobals "min"=some none)
  (Ie:Es K Rb Rz=true)
  (fE:PySem.W.nsIn K mainGlobals "POWERS"=some (some<|.int 5 eK))
  (fC:PySem.W.nsIn K mainGlobals "NOUGHT"=some (some<|.ref cZ))
  (eY:K.lookup cZ=some ⟨.type "tuple",kI,.seq bW iG,kE⟩)
  (eP:zC [.int<|0,.int<|1] bW.toList)
  (eM:bW.size<=sizeLine)
  (ni:PySem.W.nsIn K mainGlobals "ONE"=some (some<|.ref nv))
  (mS:K.lookup nv=some ⟨.type "tuple",tU,.seq gP rQ,tN⟩)
  (mD:zC [.int<|1,.int<|1] gP.toList)
  (mz:gP.size<=sizeLine)
  (fB:PySem.W.nsIn K mainGlobals "NUMBER"=some (some<|.ref cY))
  (eX:K.lookup cY=some ⟨.type "tuple",kH,.seq bV iF,kD⟩)
  (eO:zC [.int<|1,.int<|0,.int<|0,.int<|0,.int<|0] bV.toList)
  (eL:bV.size<=sizeLine)
  (fD:PySem.W.nsIn K mainGlobals "LETTER"=some (some<|.ref c6))
  (eZ:K.lookup c6=some ⟨.type "tuple",kJ,.seq bX iH,kF⟩)
  (eQ:zC [.int<|0,.int<|1,.int<|0,.int<|0,.int<|0] bX.toList)
  (eN:bX.size<=sizeLine)
  (gT:PySem.W.nsIn K mainGlobals "SIGNS"=some (some<|.ref fF))
  (gO:K.lookup fF=some ⟨.type "tuple",mM,.seq cR jZ,mL⟩)
  (gF:zC [.int<|0,.int<|1,.int (-1)] cR.toList)
  (gE:cR.size<=sizeLine)
  (bD:PySem.W.nsIn K mainGlobals "NewRows"=some (some<|.ref aH))
  (dB:PySem.W.keepIn K (.ref aH)=true)
  (dz:PySem.W.makesIn K aH=true)
  (cD:PySem.W.plainGet K aH Str.empty=true)
  (cH:PySem.W.hasDictIn K aH=true)
  (cC:PySem.W.plainOver K aH=true)
  (cB:PySem.W.findIn K (.ref aH) "__setattr__"=some (some<|.builtin "object.__setattr__"))
  (bp:PySem.W.findIn K (.ref aH) "rows"=some none)
  (bf:PySem.W.findIn K (.ref aH) "paper"=some none)
  (aY:PySem.W.findIn K (.ref aH) "places"=some none)
  (aJ:PySem.W.findIn K (.ref aH) "mark_places"=some none)
  (dC:PySem.W.findIn K (.ref aH) "__init__"=some (some<|.ref bY))
  (dA:K.lookup bY=some ⟨jr,jq,.func<|PySem.W.fnOf "__init__" "NewRows.__init__" (nV CS) (je CS) (zM CS) .none ju jB jo jD fu jC,ji⟩)
  (dJ:PySem.W.codeIn K fu "NewRows.__init__"=true)
  (cG:PySem.W.keepIn K (.ref bY)=true)
  (cI:PySem.W.isFn K (.ref bY)=true)
  : ∃ fd:FuncData,(∀ (s:Qd) (v:Qc),BindsTo s fd ⟨[v],[]⟩ [("_law_script",v)])/\∀ base:Heap,K.In base->base.Ns mainGlobals mg->bK l.prog w K mg base iR 9 fa fd ["_law_script"] (nX K 1 vh):=by
 have(_,fd,F,g):=SQ;cases hfa.symm.trans (á X G g);refine⟨fd,λs v=>by have(_,_,_,_,_,_,_,_,_,rfl,_):=F.ex; exact .of_eq rfl,λbase _ _=>?_⟩;have hB:Bl mg ["len", "tuple", "zip", "enumerate", "range", "list", "int", "abs", "dict", "sorted", "sum", "isinstance", "max", "min"]:=Bl.cons (Æ X G z0) (Bl.cons (Æ X G z1)<|Bl.cons (Æ X G z2)<|Bl.cons (Æ X G z3)<|Bl.cons (Æ X G z4)<|Bl.cons (Æ X G z5)<|Bl.cons (Æ X G z6)<|Bl.cons (Æ X G z7)<|Bl.cons (Æ X G z8)<|Bl.cons (Æ X G z9)<|Bl.cons (Æ X G Ib)<|Bl.cons (Æ X G Ia)<|Bl.cons (Æ X G HZ)<|Bl.cons (Æ X G HY)<|Bl.nil);have hT:=zAE Ie;have aT:=á X G fE;have fm:=á X G fC;have dF:nu K cZ [0,1]:=⟨_,bW,iG,eY,rfl,rfl,eM,eP⟩;have m6:=á X G ni;have jz:nu K nv [1,1]:=⟨_,gP,rQ,mS,rfl,rfl,mz,mD⟩;have fj:=á X G fB;have dE:nu K cY [1,0,0,0,0]:=⟨_,bV,iF,eX,rfl,rfl,eL,eO⟩;have fq:=á X G fD;have dG:nu K c6 [0,1,0,0,0]:=⟨_,bX,iH,eZ,rfl,rfl,eN,eQ⟩;have gS:=á X G gT;have fe:nu K fF [0,1,-1]:=⟨_,cR,jZ,gO,rfl,rfl,gE,gF⟩;have k7:=á X G bD;have k9:=Gk (st:=CS) dA dJ cG;have ft:fG K aH:=⟨cD,cH,cC,cB⟩;have eW:∀ p∈([("rows",.l []),("paper",.l []),("places",.x []),("mark_places",.x [])]:Qa (Str×PU)),gu K aH p.1:=λ_ z=>by rcases qv.mp z with rfl|z; exact bp; rcases qv.mp z with rfl|z; exact bf; rcases qv.mp z with rfl|z; exact aY; rcases qv.mp z with rfl|z; exact aJ; cases z
 have aC:OB K "NewRows" ["rows", "paper", "places", "mark_places"]:=OB.of bD ft λf hf=>by have(p,hp,rfl):=À.mp (show f∈([("rows",.l []),("paper",.l []),("places",.x []),("mark_places",.x [])]:Qa (Str×PU)).map (·.1) from hf); exact eW p hp
 have cE:qE l.prog w K mg base "NewRows" [("rows",.l []),("paper",.l []),("places",.x []),("mark_places",.x [])]:=zBL (Z:=⟨l.prog,w,K,mg,base⟩) bD k7 ⟨dz,dC,cI,dB⟩ ft eW k9 (λz=>nomatch z) (by decide) (by decide) ⟨rfl,rfl,rfl,by decide +kernel,rfl,by decide +kernel,by decide +kernel⟩ (λ_ _ _ _ _ _ us hl=>by have(_,rfl):=EB hl; rfl) λnd=>(aG (BI aa<|eF zi)<|aG (BI aa<|eF zi)<|aG (BI aa MB)<|zE<|BI aa MB)
 let Z:Zs:=⟨l.prog,w,K,mg,base⟩
 have B:Bs Z:=⟨hB,hT,⟨_,aT⟩,⟨_,fm,dF⟩,⟨_,m6,jz⟩,⟨_,fj,dE⟩,⟨_,fq,dG⟩,⟨_,gS,fe⟩,aC,cE⟩;have C0:=zfS B a0;have C1:=zgp B a1 C0;have C2:=zfW B a2 C0 C1;have C3:=zg0 B (a3.z X G);have C4:=zhV B (a4.z X G);have C5:=zg1 B (a5.z X G);have C6:=WX B (a6.z X G) C4;have C7:=zir B (a7.z X G) C5 C6;have C8:=zlu B (a8.z X G) C1;have C9:=zpC B (a9.z X G) C8 C2;have TJ:=zfZ B (Tf.z X G) C9 C0;have C11:=zmE B (Te.z X G) C4 C6 C7 TJ;have C12:=zmF B (Td.z X G) C3 C6 C7 TJ C11;have C13:=zls B (Tc.z X G);have TH:=zj0 B (Tb.z X G);have TF:=zgo B (Ta.z X G);have TC:=zj1 B (S9.z X G) TF;have C17:=zio B (S8.z X G) TF;have C18:=zgq B (S7.z X G) TC;have C19:=zfX B (S6.z X G) TC C17;have C20:=zeI B (S5.z X G);have C21:=zeJ B (S4.z X G);have C22:=zfU B (S3.z X G);have TB:=zen B (S2.z X G);have C24:=zlt B (S1.z X G);have C25:=ziq B (S0.z X G) TH;have C26:=zfY B (SY.z X G) TB C24 C25;have C27:=zg2 B (SX.z X G);have Tz:=zhW B (SW.z X G);have C29:=zhX B (SV.z X G) TB;have C30:=zhY B (SU.z X G) Tz C29;have C31:=zfg B (SS.z X G) C18 C19 C20 C21 C22;have C32:=zis B (SR.z X G) C12 C27 Tz C30 C31;exact T4 (Z:=Z) B F C13 TH C26 C32
theorem walk{l:PySem.W.OpenLaw}{q:Qe}{loose:Qa Str}{XP:(Str->Qb Qc)->Heap->Prop}{YP:Qh->Heap->Prop}{d:DefRec}{K:Params->qc}(hn:l.most=some 63)(Ab:d.params.defaults=[])
  (hY:∀ (w:Qh) (h:Heap),YP w h->(K w.params).In h)
  (F:∀ (w:Qh) (mg:Str->Qb Qc) (fa:Qg) (h:Heap),(K w.params).In h->h.Ns mainGlobals mg->mg d.name=some (.ref fa)->
   ∃ fd:FuncData,(∀ (s:Qd) (u:Qc),BindsTo s fd ⟨[u],[]⟩ [("_law_script",u)])/\∀ base:Heap,(K w.params).In base->base.Ns mainGlobals mg->bK l.prog w (K w.params) mg base iR 9 fa fd ["_law_script"] (LF<|K w.params)):
  PySem.W.WalkO q loose XP YP l.row.toRowW d [] (λf vs=>PySem.call f vs):=
 L2.pf (n:=63) (k:=9) (x := "_law_script") (CX:=λ_=>iR) (sp:=λw=>LF<|K w.params) hn (by decide) Ab ⟨rfl,by decide,by decide,rfl⟩ hY F (λw H a ns hl hO hS=>UZ hO hS<|TN ns hl) λ_ _ _ _ _ z=>z
end K57
namespace PySem.W.Fast
def tw10452797712918705312:=()
def tw11227535981849460891:=()
def tw10707427398083908033:=()
def tw14978162696555458955:=()
def tw16953537420023801526:=()
def tw11633460208475378024:=()
def tw9741710961916118322:=()
def tw8784154008949685775:=()
def tw16526252987841355174:=()
def tw16466551147476984193:=()
def tw4452058823551932489:=()
def tw6415109342208921372:=()
def tw5994182374409701357:=()
def tw10232239104190960810:=()
def tw7218371100289754024:=()
def tw12255348072311938785:=()
def tw11109798412353028927:=()
def tw13079432570806829932:=()
def tw9574111073905221129:=()
def tw14189284358242254457:=()
def tw2254854594241051186:=()
def tw9548572337913509029:=()
def tw2437141333583855751:=()
def tw16900846712615604770:=()
def tw16408101185245421538:=()
def tw15949141341955021833:=()
def tw13238625127750887054:=()
def tw14500207746908244990:=()
def tw15633089347435653033:=()
def tw11887982824424992117:=()
def tw538928218546975875:=()
def tw3856555904275487751:=()
def tw12178619496149275883:=()
def tw4838760182148600195:=()
def tw642739647824775994:=()
def tw16201780978273657448:=()
def tw17791750154082151016:=()
def tw2568644017393591581:=()
def tw12781441604931194561:=()
def tw15158600025921633091:=()
def tw3473297045500594213:=()
def tw11231777156021825105:=()
def tw4371605762179103443:=()
def tw16939838267448663834:=()
def tw2782964247956360139:=()
def tw9943084931162620422:=()
def tw1993298876876824307:=()
def tw16819309308733007800:=()
def tw3768274615484124318:=()
def tw11601498916806921080:=()
def tw11109167097950776546:=()
def tw10657274432866329756:=()
def tw4429738534943301631:=()
def tw8155626364156579806:=()
def tw4454169397450545202:=()
def tw4782318304769171860:=()
def tw5956848306818808793:=()
def tw4241529129266240476:=()
def tw2156742926579074116:=()
def tw3500726570206509076:=()
def tw16633378635645962279:=()
def tw17301399499230164590:=()
def tw16909718523788777908:=()
def tw15839470215757573125:=()
def tw7077714225825335888:=()
def tw14664785073942940593:=()
def tw561659182409625192:=()
def tw11563939119730879621:=()
def tw10853998069315062276:=()
def tw8216830923802825082:=()
def tw2206454773021072401:=()
def tw6806577643726346234:=()
def tw12801018205333941650:=()
def tw5294048203727360270:=()
def tw12792110219830960768:=()
def tw1244086624686064212:=()
def tw7998882185937564114:=()
def tw5613474173264857927:=()
def tw14942236070223498289:=()
def tw11211247830786796487:=()
def tw8118274710723566013:=()
def tw10139890959382017634:=()
def tw7787951236499796613:=()
def tw2632075007818546623:=()
def tw13677785510069047605:=()
def tw9149906493282558852:=()
def tw12024211926721116585:=()
def tw16312921246575337158:=()
def tw9813598738343668557:=()
def tw15395733600919607847:=()
def tw9785450471099593479:=()
def tw5646985122677570158:=()
def tw16198286867739637457:=()
def tw1091514041297078997:=()
def tw10397480086506959656:=()
def tw7891817385242919608:=()
def tw4243056474489411472:=()
def tw10554761604515053633:=()
def tw4746271972926926007:=()
def tw224234627364040577:=()
def tw17685935684428429815:=()
def tw2331872488211800604:=()
def tw3382291626695519261:=()
def tw906333775751586324:=()
def tw6152004797467231126:=()
def tw9225859600273527568:=()
def tw16123130104286769334:=()
def tw10592964641876972410:=()
def tw18223139977418072834:=()
def tw2508998181799319765:=()
def tw9193023140987821597:=()
def tw4496175772946417826:=()
def tw10638917216269517768:=()
def tw12082651870942799354:=()
def tw7081213301446427943:=()
def tw1277391535067319779:=()
def tw12746999557284438052:=()
def tw11398792524617072963:=()
def tw1200135019246981543:=()
def tw6627233588988975531:=()
def tw9833175529458270019:=()
def tw7202929090688961582:=()
def tw16059359902148507605:=()
def tw13244267198750308386:=()
def tw685095677194852219:=()
def tw2669126890382565440:=()
def tw10126395868165690502:=()
def tw2630104221939175634:=()
def tw8366888607375456569:=()
def tw4518750048392034756:=()
def tw2631186342821034799:=()
def tw4077331476969725215:=()
def tw6312695829520903289:=()
def tw9284228592431183789:=()
def tw14348545709300110332:=()
def tw7290575830170730226:=()
def tw5428818318453791677:=()
def tw17904058219831415040:=()
def tw8808230214072621046:=()
def tw3421452975634757262:=()
def tw13780338385955756924:=()
def tw7489803857116349748:=()
def tw8778729514416011891:=()
def tw11103454613496752114:=()
def tw3270035387412534901:=()
def tw10633228417689202987:=()
def tw12143831603522657372:=()
def tw16495595908872912892:=()
def tw3316032736714958982:=()
def tw14378591432623020927:=()
def tw12304712166897122492:=()
def tw14610583287558632306:=()
def tw16341839533852740065:=()
def tw12865610622556505296:=()
def tw10684994847672955897:=()
def tw8635211016684671460:=()
def tw6884798253051453219:=()
def tw15624264407794573841:=()
def tw16128950015140570245:=()
def tw15158168197277301591:=()
def tw1480070251342487894:=()
def tw18340693871155730920:=()
def tw5083467485318462882:=()
def tw6583079563674344604:=()
def tw6170622812721795457:=()
def tw14554233794723085862:=()
def tw7147870400876809105:=()
def tw1452608020487855640:=()
def tw8177856639065072284:=()
def tw2636118460486289260:=()
def tw11125640827659862111:=()
def tw7747894478171417058:=()
def tw303396676829919208:=()
def tw4035725305854867911:=()
def tw14137247502392407167:=()
def tw16332148805577266061:=()
def tw7980954774798194334:=()
def tw4542960163490966927:=()
end PySem.W.Fast
open PySem PySem.W PyProof.Rows
set_option maxRecDepth 100000 in
set_option maxHeartbeats 0 in
theorem PySem.Challenge.cw_undivide_k57_whole_none_cheaper_holds : PySem.Challenge.rw_undivide_k57_whole_none_cheaper.Holds := by
 w_on; o_law; k_head; (case hw=>w_witness2)
 k_fill
 refine K57.walk (l:=PySem.Challenge.rw_undivide_k57_whole_none_cheaper) rfl rfl (λw h Y=>PySem.W.kIn_of Y) ?F
 case F=>
  intro w mg fa h KX G y6;refine' K57.all_mk KX G y6 ?a0 ?a1 ?a2 ?a3 ?a4 ?a5 ?a6 ?a7 ?a8 ?a9 ?Tf ?Te ?Td ?Tc ?Tb ?Ta ?S9 ?S8 ?S7 ?S6 ?S5 ?S4 ?S3 ?S2 ?S1 ?S0 ?SY ?SX ?SW ?SV ?SU ?SS ?SR ?SQ ?z0 ?z1 ?z2 ?z3 ?z4 ?z5 ?z6 ?z7 ?z8 ?z9 ?Ib ?Ia ?HZ ?HY ?Ie ?fE ?fC ?eY ?eP ?eM ?ni ?mS ?mD ?mz ?fB ?eX ?eO ?eL ?fD ?eZ ?eQ ?eN ?gT ?gO ?gF ?gE ?bD ?dB ?dz ?cD ?cH ?cC ?cB ?bp ?bf ?aY ?aJ ?dC ?dA ?dJ ?cG ?cI
  any_goals (refine' L2.fnK ?_ ?_ ?_ ?_<;>try k_is)
  any_goals (refine' L2.mtK ?_ ?_ ?_ ?_ ?_ ?_ ?_ ?_ ?_ ?_<;>try k_is)
  (case z0=>k_is)
  (case z1=>k_is)
  (case z2=>k_is)
  (case z3=>k_is)
  (case z4=>k_is)
  (case z5=>k_is)
  (case z6=>k_is)
  (case z7=>k_is)
  (case z8=>k_is)
  (case z9=>k_is)
  (case Ib=>k_is)
  (case Ia=>k_is)
  (case HZ=>k_is)
  (case HY=>k_is)
  (case Ie=>kernel_rfl)
  (case fE=>k_is)
  (case fC=>k_is)
  (case eY=>k_is)
  (case eP=>(repeat (first|exact .nil|refine .cons ⟨_,rfl⟩ ?_)))
  (case eM=>exact by decide)
  (case ni=>k_is)
  (case mS=>k_is)
  (case mD=>(repeat (first|exact .nil|refine .cons ⟨_,rfl⟩ ?_)))
  (case mz=>exact by decide)
  (case fB=>k_is)
  (case eX=>k_is)
  (case eO=>(repeat (first|exact .nil|refine .cons ⟨_,rfl⟩ ?_)))
  (case eL=>exact by decide)
  (case fD=>k_is)
  (case eZ=>k_is)
  (case eQ=>(repeat (first|exact .nil|refine .cons ⟨_,rfl⟩ ?_)))
  (case eN=>exact by decide)
  (case gT=>k_is)
  (case gO=>k_is)
  (case gF=>(repeat (first|exact .nil|refine .cons ⟨_,rfl⟩ ?_)))
  (case gE=>exact by decide)
  (case bD=>k_is)
  (case dB=>k_is)
  (case dz=>k_is)
  (case cD=>k_is)
  (case cH=>k_is)
  (case cC=>k_is)
  (case cB=>k_is)
  (case bp=>k_is)
  (case bf=>k_is)
  (case aY=>k_is)
  (case aJ=>k_is)
  (case dC=>k_is)
  (case dA=>k_is)
  (case dJ=>k_is)
  (case cG=>k_is)
  (case cI=>k_is)
