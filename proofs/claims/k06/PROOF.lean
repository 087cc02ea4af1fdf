import PyProof.Rows.All
import Wide.All
import OpenK.AllK
import Wide.FinOn
import Lean
import PyProof.EqAt
import PyProof.EqKinds
import PyProof.TupleCall
import PySem.Challenge.RW_undivide_k06_parted_by
set_option Elab.async false
set_option linter.all false
set_option maxRecDepth 100000
set_option compiler.extract_closed false
local macro_rules | `(tactic| omega)=> `(tactic| lia)
noncomputable section
open Lean in
local macro_rules|`(tactic|have($a,$b,*):=$e)=>do
 let p<-(#[a]++b.getElems).mapM λx=>match x with|`($i:ident)=>`(Parser.Tactic.rcasesPatLo|$i:ident)|_=>`(Parser.Tactic.rcasesPatLo|_)
 `(tactic|obtain⟨$p,*⟩:=$e)
namespace L2
open PySem PySem.Spec PyProof.Rows
abbrev À.{u,v}:=@List.mem_map.{u,v}
abbrev Á:=@PySem.Heap.get?_update_other
abbrev Â:=@Nat.lt_of_le_of_lt
abbrev Ã:=@Nat.mul_le_mul_right
abbrev Ä.{u}:=@List.mem_append.{u}
abbrev Å:=@PySem.Heap.get?_update_self
abbrev Æ.{u}:=@List.mem_filter.{u}
abbrev Ç:=@Nat.lt_irrefl
abbrev È:=@PySem.Heap.SameBut.update
abbrev É.{u}:=@List.mem_append_left.{u}
abbrev Ê.{u}:=@List.mem_of_getElem?.{u}
abbrev Ë:=@PySem.W.mg_none_of
abbrev Ì.{u}:=@List.eq_nil_of_length_eq_zero.{u}
abbrev Í:=@Nat.mul_le_mul_left
abbrev Î:=@Nat.pow_le_pow_right
abbrev Ï:=@Nat.mul_le_mul
abbrev Ð:=@Nat.zero_le
abbrev Ñ.{u}:=@Array.getElem?_eq_getElem.{u}
abbrev Ò:=@Int.le_refl
abbrev Ó:=@Nat.lt_trans
abbrev Ô.{u}:=@List.length_filter_le.{u}
abbrev Õ:=@PyProof.Rows.boot_tuple
abbrev Ö:=@PySem.F.plain_max_loop
abbrev Ø.{u}:=@List.all_eq_true.{u}
abbrev Ù:=@PySem.F.slot_dict_itemiterator_next
abbrev Ú:=@Nat.lt_or_ge
abbrev Û.{u,v}:=@List.map_congr_left.{u,v}
abbrev Ü.{u}:=@List.pairwise_cons.{u}
abbrev Ý:=@PySem.F.slot_dict_keyiterator_next
abbrev Þ:=@Rat.intCast_eq_zero_iff
abbrev ß.{u}:=@List.getElem_of_mem.{u}
abbrev à.{u}:=@List.length_pos_iff.{u}
abbrev á:=@PySem.F.entry_max_loop
abbrev â:=@Nat.mul_pos
abbrev ã:=@List.mem_range
abbrev ä.{u}:=@List.exists_mem_of_ne_nil.{u}
abbrev å:=@PySem.Obj.data_mapDictKeys
abbrev æ.{u}:=@List.any_eq_true.{u}
abbrev ç:=@Int.gcd_pos_of_ne_zero_right
abbrev è:=@PyProof.Rows.boot_dict
abbrev é:=@Nat.le_of_lt
abbrev ê:=@Int.le_of_lt
abbrev ë:=@Int.dvd_gcd_mul_iff_dvd_mul
abbrev ì.{u}:=@List.nodup_cons.{u}
abbrev í:=@PySem.F.slot_dict_len
abbrev î:=@Int.emod_nonneg
abbrev ï.{u,v}:=@List.pairwise_map.{u,v}
abbrev ð.{u}:=@List.pairwise_iff_getElem.{u}
abbrev ñ:=@PySem.F.slot_tuple_getattribute
abbrev ò:=@Nat.lt_succ_self
abbrev ó.{u}:=@List.getElem_mem.{u}
abbrev ô:=@Int.mul_ediv_cancel_left
abbrev õ:=@PySem.F.slot_list_getattribute
abbrev ö:=@PySem.mem_of_lookup
abbrev ø.{u,v}:=@List.map_eq_nil_iff.{u,v}
abbrev ù:=@PySem.F.slot_tuple_hash
abbrev ú:=@Rat.natCast_eq_zero_iff
abbrev û:=@Nat.le_of_dvd
abbrev ü:=@Rat.intCast_inj
abbrev ý:=@Rat.mul_eq_zero
abbrev þ:=@Int.ofNat_dvd_left
abbrev ÿ:=@Int.emod_lt_of_pos
abbrev Ā.{u}:=@List.getElem?_set_self.{u}
abbrev ā:=@PySem.F.plain_min_loop
abbrev Ă:=@Nat.lt_succ_of_lt
abbrev ă:=@PyProof.Rows.boot_sum
abbrev Ą:=@PyProof.Rows.boot_abs
abbrev ą:=@PyProof.Rows.boot_min
abbrev Ć:=@PyProof.Rows.callWith_type1
abbrev ć:=@Int.eq_of_mul_eq_mul_right
abbrev Ĉ:=@Nat.pow_le_pow_left
abbrev ĉ.{u}:=@List.filter_eq_self.{u}
abbrev Ċ.{u,v}:=@List.length_map.{u,v}
abbrev ċ:=@Nat.ne_of_gt
abbrev Č:=@PySem.Calls.spliced_cons
abbrev č:=@PySem.boot_len
abbrev Qa.{u}:=@List.{u}
abbrev Qb.{u}:=@Option.{u}
abbrev Qc:=Value
abbrev Qd:=Shared
abbrev Qe:=Program
abbrev Qf:=Around
abbrev Qg:=Addr
abbrev Qh:=World
abbrev qa:=@wpAny_bind
abbrev qb:=@wpAny_pure
abbrev qc:=PySem.W.Frag
abbrev qd:=@Heap.get?_push_of_some
abbrev qe:=@Nat.le_refl
abbrev qf:=@Bool.false_ne_true
abbrev qg:=@Heap.get?_push_size
abbrev qi:=@Heap.lt_size
abbrev qj:=@Nat.lt_of_lt_of_le
abbrev qk:=@Nat.ne_of_lt
abbrev ql.{u}:=@List.getElem?_eq_some_iff.{u}
abbrev qm.{u}:=@List.getElem?_eq_getElem.{u}
abbrev qo.{u}:=@List.mem_cons_of_mem.{u}
abbrev qp.{u}:=@List.mem_cons_self.{u}
abbrev qq.{u}:=@List.mem_singleton.{u}
abbrev qr.{u,v}:=@Option.map_eq_some_iff.{u,v}
abbrev qu.{u}:=@List.length_append.{u}
abbrev qv.{u}:=@List.length_cons.{u}
abbrev qw.{u}:=@List.mem_cons.{u}
abbrev qx.{u}:=@List.mem_append_right.{u}
abbrev qy.{u}:=@Option.some.inj.{u}
abbrev qA:=@Nat.le_trans
abbrev qB:=@wpAny_newObj_type
abbrev qC.{u}:=@List.getD_eq_getElem?_getD.{u}
abbrev qE.{u}:=@List.getElem?_set_ne.{u}
abbrev Key:=Sum Int Str
def tY:Key->Qc->Bool
 | .inl k,v=>Value.isInt k v
 | .inr x,v=>Value.isStrOf x v
def Jd(w:Qh):Key->Int
 | .inl k=>hashInt k
 | .inr x=>hashStr w x
theorem i6:∀ {k:Key} {v:Qc},tY k v=true->(∃ i t,k=Sum.inl i/\v=Value.int i t)\/(∃ x t,k=Sum.inr x/\v=Value.str x t)
 | .inl i,v,h=>by
  have(t,e):=Value.isInt_shape (k:=i) (v:=v) h;exact .inl ⟨i,t,rfl,e⟩
 | .inr x,v,h=>by
  have(t,e):=Value.isStrOf_shape (x:=x) (v:=v) h;exact .inr ⟨x,t,rfl,e⟩
theorem zoQ(i:Int)(t:Tok):tY (.inl i) (.int i t)=true:=by simp[tY,Value.isInt]
theorem zoR(x:Str)(t:Tok):tY (.inr x) (.str x t)=true:=by simp[tY,Value.isStrOf]
theorem VW(a b:Int):decide ((Sum.inl a:Key)=Sum.inl b)=(a==b):=by
 by_cases e:a=b
 .subst e; simp
 .have h:¬(Sum.inl a:Key)=Sum.inl b:=λq=>e<|Sum.inl.inj q
  rw[decide_eq_false h];exact(beq_eq_false_iff_ne.mpr e).symm
theorem VV(a b:Str):decide ((Sum.inr a:Key)=Sum.inr b)=decide (a=b):=by
 by_cases e:a=b
 .subst e; simp
 .have h:¬(Sum.inr a:Key)=Sum.inr b:=λq=>e<|Sum.inr.inj q
  rw[decide_eq_false h,decide_eq_false e]
theorem VR(a:Int)(b:Str):decide ((Sum.inl a:Key)=Sum.inr b)=false:=decide_eq_false (λq=>nomatch q)
theorem VQ(a:Str)(b:Int):decide ((Sum.inr a:Key)=Sum.inl b)=false:=decide_eq_false (λq=>nomatch q)
def zA(prog:Qe)(w:Qh):PySem.KeyKind prog w Key where
 is:=tY
 hash:=Jd w
 inj:=λv a b ha hb=>by
  rcases i6 ha with⟨i,t,rfl,rfl⟩|⟨x,t,rfl,rfl⟩
  .rcases i6 hb with⟨j,u,rfl,e⟩|⟨y,u,rfl,e⟩
   .injection e with e1 _; rw[e1]
   .exact nomatch e
  .rcases i6 hb with⟨j,u,rfl,e⟩|⟨y,u,rfl,e⟩
   .exact nomatch e
   .injection e with e1 _; rw[e1]
 byValue:=λk v h=>by
  rcases i6 h with⟨i,t,rfl,rfl⟩|⟨x,t,rfl,rfl⟩<;>rfl
 pyHash:=λhv h=>by
  rcases i6 hv with⟨i,t,rfl,rfl⟩|⟨x,t,rfl,rfl⟩
  .exact wpAny_pyHash_int h
  .exact wpAny_pyHash_str h
 eqBool:=λhu hv h=>by
  rcases i6 hu with⟨i,t,rfl,rfl⟩|⟨x,t,rfl,rfl⟩
  .rcases i6 hv with⟨j,u,rfl,rfl⟩|⟨y,u,rfl,rfl⟩
   .rw[VW]at h; exact wpAny_eqBool_int h
   .rw[VR]at h; exact SeqAt.EqAt.int_str i t y u _ _ _ _ h
  .rcases i6 hv with⟨j,u,rfl,rfl⟩|⟨y,u,rfl,rfl⟩
   .rw[VQ]at h; exact SeqAt.EqAt.str_int x t j u _ _ _ _ h
   .rw[VV]at h; exact wpAny_eqBool_str h
 «strs»:=λk x t v h=>by
  rcases i6 h with⟨i,u,rfl,e⟩|⟨y,u,rfl,e⟩
  .exact nomatch e
  .injection e with e1 _
   subst e1;cases v<;>rfl
theorem zkg(prog:Qe)(w:Qh)(i:Int)(t:Tok):(zA prog w).is (.inl i) (.int i t)=true:=zoQ i t
theorem zkh(prog:Qe)(w:Qh)(x:Str)(t:Tok):(zA prog w).is (.inr x) (.str x t)=true:=zoR x t
inductive V where
 | aT|bl (b:Bool) | int (i:Int) | str (x:Str) | jk (b:Array UInt8) | HX (b:UInt64) | ref (a:Qg) | ty (n:String)
 deriving DecidableEq
def zV:V->Qc->Prop
 | .aT,u=>u=Value.none
 | .bl b,u=>u=Value.bool b
 | .int i,u=>∃ t,u=Value.int i t
 | .str x,u=>∃ t,u=Value.str x t
 | .jk b,u=>∃ t,u=Value.bytes b t
 | .HX b,u=>∃ t,u=Value.float b t
 | .ref a,u=>u=Value.ref a
 | .ty n,u=>u=Value.type n
abbrev zO:Qa V->Qa Qc->Prop:=Paired zV
theorem zO.length{xs:Qa V}{us:Qa Qc}(r:zO xs us):xs.length=us.length:=Paired.length r
theorem zO.get:∀ {xs:Qa V} {us:Qa Qc} {i:Nat} {x:V},zO xs us->xs[i]?=some x->∃ u,us[i]?=some u/\zV x u
 | _,_,_,_,.nil,e=>by simp at e
 | _,_,0,_,.cons r _,e=>by simp at e; subst e; exact⟨_,rfl,r⟩
 | _,_,i+1,x,.cons _ t,e=>by
  have(u,h1,h2):=zO.get (i:=i) (x:=x) t (by simpa using e);exact⟨u,by simpa using h1,h2⟩
theorem zO.set{x:V}{u:Qc}(r:zV x u):∀ {xs:Qa V} {us:Qa Qc} (i:Nat),zO xs us->zO (xs.set i x) (us.set i u)
 | _,_,_,.nil=>.nil
 | _,_,0,.cons _ t=>.cons r t
 | _,_,i+1,.cons q t=>.cons q<|zO.set r i t
theorem zO.append:∀ {xs ys:Qa V} {us ws:Qa Qc},zO xs us->zO ys ws->zO (xs++ys) (us++ws)
 | _,_,_,_,.nil,s=>s
 | _,_,_,_,.cons r t,s=>.cons r<|zO.append t s
theorem zO.take:∀ {xs:Qa V} {us:Qa Qc} (n:Nat),zO xs us->zO (xs.take n) (us.take n)
 | _,_,0,_=>.nil
 | _,_,_+1,.nil=>.nil
 | _,_,n+1,.cons r t=>.cons r<|zO.take n t
theorem zO.drop:∀ {xs:Qa V} {us:Qa Qc} (n:Nat),zO xs us->zO (xs.drop n) (us.drop n)
 | _,_,0,r=>r
 | _,_,_+1,.nil=>.nil
 | _,_,n+1,.cons _ t=>zO.drop n t
def jr:Qb V->Qb Qc->Prop
 | some v,some u=>zV v u
 | none,none=>True
 | _,_=>False
def KV{κ:Type}:Qa (κ×V)->Qa (κ×Qc)->Prop:=Paired λ(p:κ×V) (q:κ×Qc)=>p.1=q.1/\zV p.2 q.2
def kV:Key->V
 | .inl i=>.int i
 | .inr x=>.str x
structure IK (prog:Qe) (w:Qh) (J:Type) [DecidableEq J] where
 is:Heap->J->Qc->Prop
 hash:J->Int
 draws:J->Nat
 fW:Nat
 inj:∀ {h:Heap} {v:Qc} {x y:J},is h x v->is h y v->x=y
 keeps:∀ {h h':Heap} {k:J} {v:Qc} {d:Qg} {o:Obj} {es ep},is h k v->h.get? d=some o->o.data=.dict es ep->Heap.SameBut d h h'->is h' k v
 pyHash:∀ {A:Qf} {E:Qc->Qd->Prop} {s:Qd} {k:J} {v:Qc} {Q:Int->Qd->Prop},A.units+fW < cLine->is s.heap k v->Q (hash k) {s with toks:=s.toks+draws k}->
  wpAny (model prog w) A (PySem.pyHash v) Q E s
 eqBool:∀ {A:Qf} {E:Qc->Qd->Prop} {s:Qd} {x y:J} {u v:Qc} {Q:Bool->Qd->Prop},A.units+fW < cLine->is s.heap x u->is s.heap y v->Q (decide<|x=y) s->
  wpAny (model prog w) A (PySem.eqBool u v) Q E s
 quiet:∀ {A:Qf} {E:Qc->Qd->Prop} {s:Qd} {k:J} {v:Qc} {Q:Bool->Qd->Prop} (n:Nat),fW<=n->is s.heap k v->Q true s->wpAny (model prog w) A (eqIsQuiet n v) Q E s
section
variable{prog:Qe}{w:Qh}{J:Type}[DecidableEq J](I:IK prog w J)
inductive aU (h:Heap):Qa J->Qa Qc->Prop
 | nil:aU h [] []
 | cons {k:J} {v:Qc} {ks:Qa J} {vs:Qa Qc}:I.is h k v->aU h ks vs->aU h (k::ks) (v::vs)
def fM(h:Heap)(ks:Qa J)(a:Qg):Prop:=∃ o items n,h.get? a=some o/\o.cls=.type "tuple"/\o.data=.seq items n/\aU I h ks items.toList
def AY(ks:Qa J):Int:=reduceHash (Builtin.Tuple.tupleHashOf<|ks.map I.hash)
def Bh(ks:Qa J):Nat:=(ks.map I.draws).sum+1
variable{I}
theorem aU.inj{h:Heap}{x y:Qa J}{vs:Qa Qc}(hx:aU I h x vs)(hy:aU I h y vs):x=y:=by
 induction hx generalizing y with
 | nil=>cases hy; rfl
 | cons h1 _ ih=>
  cases hy with
  | cons h2 t2=>rw[I.inj h1 h2,ih t2]
theorem aU.keeps{h h':Heap}{x:Qa J}{vs:Qa Qc}{d:Qg}{o:Obj}{es ep}(hx:aU I h x vs)(ho:h.get? d=some o)(hd:o.data=.dict es ep)(hs:Heap.SameBut d h h'):aU I h' x vs:=by
 induction hx with
 | nil=>exact .nil
 | cons h1 _ ih=>exact .cons (I.keeps h1 ho hd hs) ih
theorem fM.typeIs{s:Qd}{ks:Qa J}{a:Qg}(x:fM I s.heap ks a):s.TypeIs (.ref a) "tuple":=let ⟨o,_,_,ho,hc,_⟩:=x; ⟨o,ho,hc⟩
theorem fM.tup{h:Heap}{ks:Qa J}{a:Qg}(x:fM I h ks a):∃ items,h.IsTuple a items:=let ⟨o,ae,n,ho,hc,hd,_⟩:=x; ⟨ae,o,ho,hc,n,hd⟩
theorem fM.inj{h:Heap}{a:Qg}{x y:Qa J}(hx:fM I h x a)(hy:fM I h y a):x=y:=by
 have(o,items,n,ho,_,hd,hi):=hx;have(o',Hc,n',dB,_,iL,fH):=hy;obtain rfl:o=o':=qy (ho.symm.trans dB);rw[hd]at iL;injection iL with h1 _;subst h1;exact hi.inj fH
theorem fM.keeps{h h':Heap}{ks:Qa J}{a d:Qg}{o:Obj}{es ep}(x:fM I h ks a)(ho:h.get? d=some o)(hd:o.data=.dict es ep)(hs:Heap.SameBut d h h'):fM I h' ks a:=by
 have(o',items,n,dB,hc,iL,hi):=x;have dW:a≠d:=by
  rintro rfl;obtain rfl:o'=o:=qy (dB.symm.trans ho);rw[hd]at iL; exact nomatch iL
 exact⟨o',items,n,(hs.2 a dW).trans dB,hc,iL,hi.keeps ho hd hs⟩
variable{A:Qf}{E:Qc->Qd->Prop}{s:Qd}
theorem L7{ks:Qa J}{a:Qg}{Q:Int->Qd->Prop}(hu:A.units+(I.fW+1) < cLine)(hk:fM I s.heap ks a)(h:Q (AY I ks) {s with toks:=s.toks+Bh I ks}):
  wpAny (model prog w) A (pyHash<|.ref a) Q E s:=by
 have hT:=hk.typeIs;have(o,items,n,ho,_,hd,hi):=hk;unfold pyHash
 first|unfold pyHashByItsType|skip
 first|refine qa (wpAny_cRoomFor_or (.inr (by omega)) ?_) | skip
 refine qa<|wpAny_specialOf hT ù.lookup ?_;show wpAny _ _ (if(some (Value.builtin "tuple.__hash__")==some Value.none)=true then _ else _) Q E s;rw[if_neg (by rw[beq_builtin_none]; exact qf)];refine qa<|wpAny_specialOf hT ù.lookup ?_;show wpAny _ _ (callSpecialIfBoundUnlessNone? (.ref a) "__hash__" _ >>= _) Q E s;refine qa<|wpAny_callSpecialIfBoundUnlessNone?_slot hT ù<|wpAny_call_entry ù hT PySem.F.entry_tuple_hash ?_<|PySem.F.args_tuple_hash_1 _;show wpAny _ _ (Builtin.Tuple.tupleItemsOf (.ref a) >>= _) _ _ s;refine qa<|wpAny_tupleItemsOf ho hd ?_;refine qa ?_;rw[<-Array.forIn_toList];refine wpAny_forIn_list _
  (λrest (b:Array Int) s'=>∃ done left,ks=done++left/\aU I s.heap left rest/\b.toList=done.map I.hash/\s'={s with toks:=s.toks+(done.map I.draws).sum})
  _ ?_ ?_ _ _ ⟨[],ks,rfl,hi,rfl,rfl⟩
 .rintro x rest b s' ⟨done,left,rfl,hl,hb,rfl⟩
  cases hl with
  | @cons k _ fU _ h1 sQ=>
   refine qa (I.pyHash (s:={s with toks:=s.toks+(done.map I.draws).sum}) (by show A.units+1+I.fW < _; omega) h1 ?_)
   first
    | exact qb ⟨done++[k],fU,by simp,sQ,by simp[hb],by simp[Nat.add_assoc]⟩
    | exact qa<|qb<|qb ⟨done++[k],fU,by simp,sQ,by simp[hb],by simp[Nat.add_assoc]⟩
 .rintro b s' ⟨done,left,rfl,hl,hb,rfl⟩
  cases hl;rw[List.append_nil]at h;show wpAny _ _ (retInt<|Builtin.Tuple.tupleHashOf b.toList) _ _ _;rw[hb];refine wpAny_ret_mkInt ?_;show wpAny _ _ (if(decide (-(2:Int)^63<=Builtin.Tuple.tupleHashOf (done.map I.hash)) && decide (Builtin.Tuple.tupleHashOf (done.map I.hash) < 2^63))=true then _ else _) Q E _;unfold AY reduceHash at h;unfold Bh at h
  by_cases hr:(decide (-(2:Int)^63<=Builtin.Tuple.tupleHashOf (done.map I.hash)) && decide (Builtin.Tuple.tupleHashOf (done.map I.hash) < 2^63))=true
  .rw[if_pos hr]
   rw[if_pos hr]at h;exact qb (by simpa [Nat.add_assoc] using h)
  .rw[if_neg hr]
   rw[if_neg hr]at h;exact qa<|wpAny_rule<|qb (by simpa [Nat.add_assoc] using h)
theorem zlI{x y:Qa J}{a b:Qg}{P:Fin->Qd->Prop}(hu:A.units+I.fW < cLine)(hx:fM I s.heap x a)(hy:fM I s.heap y b)(h:P (.done<|.ret<|.bool<|decide<|x=y) s):
  wpAny (model prog w) A (Builtin.«tuple.__eq__» ⟨[.ref a,.ref b],[]⟩) P E s:=by
 have hTb:=hy.typeIs;have(oa,xs,na,lV,_,nM,hia):=hx;have(ob,ys,nb,nC,_,cB,hib):=hy;show wpAny _ _ (isInstance (.ref b) (.type "tuple") >>= _) _ _ s;refine qa<|wpAny_isInstance hTb isSubtype_tuple_tuple ?_;simp only[Bool.not_true,Bool.false_eq_true,if_false];refine qa<|wpAny_tupleItemsOf lV nM ?_;refine qa<|wpAny_tupleItemsOf nC cB ?_;refine qa ?_;refine wpAny_forIn_list _
  (λrest r s'=>r.1=none/\s'=s/\∃ x' y' i9 i8,rest=List.zip i9 i8/\aU I s.heap x' i9/\aU I s.heap y' i8/\decide (x'=y')=decide (x=y)/\(i9.length==i8.length)=(xs.size==ys.size))
  _ ?_ ?_ _ _ ⟨rfl,rfl,x,y,xs.toList,ys.toList,rfl,hia,hib,rfl,by simp⟩
 .rintro⟨u,v⟩ rest r s' ⟨hr,rfl,x',y',i9,i8,hz,nj,Cf,nK,hlen⟩
  cases nj with
  | nil=>simp at hz
  | @cons k1 u' O0 Gk h1 Hi=>
   cases Cf with
   | nil=>simp at hz
   | @cons k2 v' OY Gi h2 Hh=>
    simp only[List.zip_cons_cons,List.cons.injEq,Prod.mk.injEq]at hz;obtain⟨⟨rfl,rfl⟩,rfl⟩:=hz;refine qa<|I.eqBool (x:=k1) (y:=k2) hu h1 h2 ?_
    by_cases hk:k1=k2
    .subst hk
     rw[decide_eq_true rfl];simp only[Bool.not_true,Bool.false_eq_true,if_false];refine qb ⟨rfl,rfl,O0,OY,Gk,Gi,rfl,Hi,Hh,?_,by simpa using hlen⟩;rw[<-nK]
     by_cases Qj:O0=OY
     .simp[Qj]
     .simp[Qj]
    .rw[decide_eq_false hk]
     simp only[Bool.not_false,if_true];have hf:decide (x=y)=false:=by rw[<-nK]; simp[hk]
     rw[hf]at h;exact qa<|qb<|qb<|qb h
 .rintro⟨r1,r2⟩ s' ⟨hr,rfl,x',y',i9,i8,hz,nj,Cf,nK,hlen⟩
  simp only at hr;subst hr;refine qb ?_;have HD:(xs.size==ys.size)=decide (x=y):=by
   rw[<-nK,<-hlen];cases nj with
   | nil=>
    cases Cf with
    | nil=>simp
    | cons _ _=>simp
   | cons _ _=>
    cases Cf with
    | nil=>simp
    | cons _ _=>simp at hz
  show P (.done<|.ret<|.bool<|xs.size==ys.size) s';rw[HD]; exact h
theorem JO{x y:Qa J}{a b:Qg}{Q:Bool->Qd->Prop}(hu:A.units+(I.fW+1) < cLine)(hx:fM I s.heap x a)(hy:fM I s.heap y b)(h:Q (decide<|x=y) s):
  wpAny (model prog w) A (eqBool (.ref a)<|.ref b) Q E s:=by
 unfold eqBool
 try with_reducible refine wpAny_holding ?_
 show wpAny _ _ (if(Value.ref a==Value.ref b)=true then _ else _) Q E s
 by_cases tu:(Value.ref a==Value.ref b)=true
 .rw[if_pos tu]
  have e:a=b:=by have:=eq_of_beq tu; injection this
  subst e;obtain rfl:=hx.inj hy;exact qa<|wpAny_rule<|qb (by simpa using h)
 .rw[if_neg tu]
  exact qa (wpAny_richCompare_same_room (op:=.Eq) hx.typeIs hy.typeIs PySem.F.slot_tuple_eq
   (wpAny_call_entry PySem.F.slot_tuple_eq hx.typeIs PySem.F.entry_tuple_eq (zlI (by show A.units+1+I.fW < _; omega) hx hy ⟨_,rfl,(λe=>nomatch e),wpAny_truthy_bool h⟩)<|PySem.F.args_tuple_eq_2 _ _) (by omega))
theorem Mw{ks:Qa J}{a:Qg}{Q:Bool->Qd->Prop}(n:Nat)(hn:I.fW+1<=n)(hk:fM I s.heap ks a)(h:Q true s):wpAny (model prog w) A (eqIsQuiet n<|.ref a) Q E s:=by
 have hT:=hk.typeIs;obtain⟨m,rfl⟩:∃ m,n=m+1:=⟨n - 1,by omega⟩;have(o,items,n',ho,_,hd,hi):=hk;unfold eqIsQuiet;refine qa<|wpAny_specialOf hT PySem.F.slot_tuple_eq.lookup ?_;show wpAny _ _ (isInstance (.ref a) (.type "tuple") >>= _) _ _ s;refine qa<|wpAny_isInstance hT isSubtype_tuple_tuple ?_;simp only[Bool.not_true,Bool.false_eq_true,if_false];refine qa<|wpAny_seqItems ho hd ?_;refine qa ?_;show wpAny _ _ (forIn items _ _) _ _ s;rw[<-Array.forIn_toList];refine wpAny_forIn_list _ (λrest r s'=>r.1=none/\s'=s/\∃ fU,aU I s.heap fU rest) _ ?_ ?_ _ _ ⟨rfl,rfl,ks,hi⟩
 .rintro v rest r s' ⟨hr,rfl,fU,kC⟩
  cases kC with
  | cons h1 t1=>
   refine qa<|I.quiet m (by omega) h1 ?_;simp only[Bool.not_true,Bool.false_eq_true,if_false];exact qb ⟨rfl,rfl,_,t1⟩
 .rintro⟨r1,r2⟩ s' ⟨hr,rfl,_⟩
  simp only at hr;subst hr;exact qb h
end
def ikK(prog:Qe)(w:Qh):IK prog w Key where
 is:=λ_ k v=>(zA prog w).is k v=true
 hash:=(zA prog w).hash
 draws:=λ_=>1
 fW:=0
 inj:=λhx hy=>(zA prog w).inj _ _ _ hx hy
 keeps:=λx _ _ _=>x
 pyHash:=λ_ hk h=>(zA prog w).pyHash hk h
 eqBool:=λ_ hx hy h=>(zA prog w).eqBool hx hy h
 quiet:=λn _ hk h=>by rw[eqIsQuiet_byValue n<|(zA prog w).byValue _ _ hk]; exact qb h
def He{prog:Qe}{w:Qh}{J:Type}[DecidableEq J](I:IK prog w J):IK prog w (Key ⊕ Qa J) where
 is:=λh x v=>match x with
  | .inl k=>(zA prog w).is k v=true
  | .inr ks=>∃ a,v=.ref a/\fM I h ks a
 hash:=λx=>match x with
  | .inl k=>(zA prog w).hash k
  | .inr ks=>AY I ks
 draws:=λx=>match x with
  | .inl _=>1
  | .inr ks=>Bh I ks
 fW:=I.fW+1
 inj:=λ{h v x y} hx hy=>by
  cases x with
  | inl k=>
   cases y with
   | inl k'=>exact congrArg Sum.inl<|(zA prog w).inj _ _ _ hx hy
   | inr ks=>
    have(a,rfl,_):=hy;rcases i6 hx with⟨i,t,_,e⟩|⟨z,t,_,e⟩<;>cases e
  | inr ks=>
   have(a,rfl,hx):=hx;cases y with
   | inl k'=>rcases i6 hy with⟨i,t,_,e⟩|⟨z,t,_,e⟩<;>cases e
   | inr fU=>
    have(b,e,hy):=hy;cases e;exact congrArg Sum.inr (hx.inj hy)
 keeps:=λ{h h' k v d o es ep} x ho hd hs=>by
  cases k with
  | inl k=>exact x
  | inr ks=>
   have(a,e,x):=x;exact⟨a,e,x.keeps ho hd hs⟩
 pyHash:=λ{A E s k v Q} hu hk h=>by
  cases k with
  | inl k=>exact(zA prog w).pyHash hk h
  | inr ks=>
   have(a,rfl,x):=hk;exact L7 hu x h
 eqBool:=λ{A E s x y u v Q} hu hx hy h=>by
  cases x with
  | inl k=>
   cases y with
   | inl k'=>exact(zA prog w).eqBool hx hy (by simpa using h)
   | inr ks=>
    have(b,rfl,hy):=hy;have(ae,ht):=hy.tup;have h':Q false s:=by simpa using h
    rcases i6 hx with⟨i,t,rfl,rfl⟩|⟨z,t,rfl,rfl⟩
    .exact SeqAt.EqAt.int_tuple i t ht (by omega) _ _ _ _ h'
    .exact SeqAt.EqAt.str_tuple z t ht (by omega) _ _ _ _ h'
  | inr ks=>
   have(a,rfl,hx):=hx;have(ae,ht):=hx.tup;cases y with
   | inl k'=>
    have h':Q false s:=by simpa using h
    rcases i6 hy with⟨i,t,rfl,rfl⟩|⟨z,t,rfl,rfl⟩
    .exact SeqAt.EqAt.tuple_int i t ht (by omega) _ _ _ _ h'
    .exact SeqAt.EqAt.tuple_str z t ht (by omega) _ _ _ _ h'
   | inr fU=>
    have(b,rfl,hy):=hy;exact JO hu hx hy (by simpa using h)
 quiet:=λ{A E s k v Q} n hn hk h=>by
  cases k with
  | inl k=>rw[eqIsQuiet_byValue n<|(zA prog w).byValue _ _ hk]; exact qb h
  | inr ks=>
   have(a,rfl,x):=hk;exact Mw n hn x h
def VP{prog:Qe}{w:Qh}{J:Type}[DecidableEq J](I:IK prog w J)(hI:I.fW<=7):HeapKind prog w (Qa J) where
 is:=fM I
 hash:=AY I
 draws:=Bh I
 room:=λA=>A.units+(I.fW+1) < cLine
 inj:=λhx hy=>hx.inj hy
 keeps:=λx ho hd hs=>x.keeps ho hd hs
 pyHash:=λhu hk h=>L7 hu hk h
 eqBool:=λhu hx hy h=>JO hu hx hy h
 quiet:=λhk h=>Mw 8 (by omega) hk h
abbrev K1:=Key ⊕ Qa Key
instance dK1:DecidableEq K1:=instDecidableEqSum
abbrev K2:=Key ⊕ Qa K1
instance dK2:DecidableEq K2:=instDecidableEqSum
abbrev K3:=Key ⊕ Qa K2
instance dK3:DecidableEq K3:=instDecidableEqSum
instance dL3:DecidableEq (Qa K3):=instDecidableEqList
def SR(prog:Qe)(w:Qh):HeapKind prog w (Qa K3):=VP (He<|He<|He<|ikK prog w) (by show 3<=7; decide)
inductive HO where
 | lst (xs:Qa V)
 | tup (xs:Qa V)
 | dK (kvs:Qa (Key×V)) | dT (kvs:Qa (Qa Key×V))
 | set (S:Int->Bool) (n:Nat)
 | ins (C dx:Qg) (fs:Qa (Str×V))
 | own (x:Qg)
 | xd (fs:Qa (Str×V))
 | met (f x:Qg)
 | GD (lo hi:Int)
 | aZ (o:Obj) (u:HO)
 | rR (ps:Array Qc)
 | ext (φ:Heap->Prop)
 | sub (b:Qg) (p u:HO)
 | dX (kvs:Qa (Qa K3×V))
def HO.flat:HO->Bool
 | .lst _=>true
 | .dK _=>true
 | .dT _=>true
 | .dX _=>true
 | _=>false
abbrev Hp:=Qg->Qb HO
def upd(H:Hp)(a:Qg)(o:HO):Hp:=λb=>if b=a then some o else H b
theorem zy{H:Hp}{a:Qg}{o:HO}:upd H a o a=some o:=by unfold upd; rw[if_pos rfl]
theorem zx{H:Hp}{a b:Qg}{o:HO}(h:b≠a):upd H a o b=H b:=by unfold upd; rw[if_neg h]
theorem oP{H:Hp}{a b:Qg}{o u:HO}(h:H a=some o)(h':H b=some u)(d:o≠u):a≠b:=by
 intro e; subst e; rw[h]at h'; exact d<|qy h'
theorem zZ{H:Hp}{a b:Qg}{o:HO}(h:H a=some o)(h':H b=none):a≠b:=by
 intro e; subst e; rw[h]at h'; cases h'
def Sq(K:qc)(a:Qg)(xs:Qa V):Prop:=∃ (o:Obj) (ae:Array Qc) (n:Nat),K.lookup a=some o/\o.cls=.type "tuple"/\o.data=.seq ae n/\ae.size<=sizeLine/\zO xs ae.toList/\∃ i r,xs=.int i::r
def aM(K:qc)(H:Hp)(a:Qg)(xs:Qa V):Prop:=H a=some (.tup xs)\/Sq K a xs
theorem aM.keeps{K:qc}{H H':Hp}{a:Qg}{xs:Qa V}(h:aM K H a xs)(ht:∀ b ys,H b=some (.tup ys)->H' b=some (.tup ys)):aM K H' a xs:=h.imp (ht _ _) id
def oW(h:Heap)(a:Qg)(items:Array Qc):Prop:=∃ o,h.get? a=some o/\o.cls=.type "tuple"/\(∃ n,o.data=.seq items n)/\(o.dict=none\/∃ i t r,items.toList=.int i t::r)
theorem oW.tup{h:Heap}{a:Qg}{items:Array Qc}(x:oW h a items):IsTup h a items:=let ⟨o,e,c,d,_⟩:=x; ⟨o,e,c,d⟩
theorem oW.lt{h:Heap}{a:Qg}{items:Array Qc}(x:oW h a items):a < h.objs.size:=x.tup.lt
theorem oW.new(h:Heap)(items:Array Qc):oW (h.push {cls:=.type "tuple",data:=.seq items}) h.objs.size items:=⟨_,qg _ rfl,rfl,⟨_,rfl⟩,.inl rfl⟩
def N0(K:qc)(H:Hp)(ks:Qa Key)(a:Qg):Prop:=aM K H a (ks.map kV)
def NI{J:Type}(P:Qa J->Qg->Prop)(x:Key ⊕ Qa J)(v:V):Prop:=match x with
 | .inl k=>v=kV k
 | .inr ks=>∃ b,v=.ref b/\P ks b
def nY{J:Type}(K:qc)(H:Hp)(P:Qa J->Qg->Prop)(xs:Qa (Key ⊕ Qa J))(a:Qg):Prop:=∃ vs,aM K H a vs/\Paired (NI P) xs vs
def N3(K:qc)(H:Hp):Qa K3->Qg->Prop:=nY K H (nY K H<|nY K H<|N0 K H)
theorem L6{α β:Type}{F G:α->β->Prop}:∀ {j7:Qa α} {l₂:Qa β},Paired F j7 l₂->(∀ a b,F a b->G a b)->Paired G j7 l₂
 | _,_,.nil,_=>.nil
 | _,_,.cons r t,f=>.cons (f _ _ r)<|L6 t f
theorem nY.keeps{J:Type}{K:qc}{H H':Hp}{P P':Qa J->Qg->Prop}{xs:Qa (Key ⊕ Qa J)}{a:Qg}(h:nY K H P xs a)(ht:∀ b ys,H b=some (.tup ys)->H' b=some (.tup ys))(hp:∀ ks b,P ks b->P' ks b):nY K H' P' xs a:=by
 have(vs,h1,h2):=h;refine⟨vs,h1.keeps ht,L6 h2 λx v z=>?_⟩;cases x with
 | inl k=>exact z
 | inr ks=>have(b,e,z):=z; exact⟨b,e,hp _ _ z⟩
theorem N3.keeps{K:qc}{H H':Hp}{xs:Qa K3}{a:Qg}(h:N3 K H xs a)(ht:∀ b ys,H b=some (.tup ys)->H' b=some (.tup ys)):N3 K H' xs a :=
 nY.keeps h ht λ_ _ h=>nY.keeps h ht λ_ _ h=>nY.keeps h ht λ_ _ h=>aM.keeps h ht
section
variable(P:Qe)(w:Qh)(K:qc)
def be(H:Hp)(h:Heap)(a:Qg):HO->Prop
 | .lst xs=>xs.length<=sizeLine/\∃ (ae:Qa Qc) (n:Nat),zO xs ae/\h.get? a=some {cls:=.type "list",data:=.seq ae.toArray n}
 | .tup xs=>xs.length<=sizeLine/\∃ ae:Qa Qc,zO xs ae/\oW h a ae.toArray
 | .dK kvs=>kvs.length<=sizeLine/\(a==sysModules)=false/\∃ vs,KV kvs vs/\h.DictOf (zA P w) a vs
 | .dT kvs=>kvs.length<=sizeLine/\(a==sysModules)=false/\∃ xs:Qa (Qa Key×Qg×Qc),
   Paired (λ(p:Qa Key×V) (q:Qa Key×Qg×Qc)=>p.1=q.1/\aM K H q.2.1 (p.1.map kV)/\zV p.2 q.2.2) kvs xs/\
   ∃ o es ep,h.get? a=some o/\o.ExactDict/\o.data=.dict es ep/\es.toList=xs.map (entryOfKey<|tupleKind<|zA P w)/\(xs.map (·.1)).Nodup
 | .dX kvs=>kvs.length<=sizeLine/\(a==sysModules)=false/\∃ xs:Qa (Qa K3×Qg×Qc),
   Paired (λ(p:Qa K3×V) (q:Qa K3×Qg×Qc)=>p.1=q.1/\N3 K H p.1 q.2.1/\zV p.2 q.2.2) kvs xs/\
   ∃ o es ep,h.get? a=some o/\o.ExactDict/\o.data=.dict es ep/\es.toList=xs.map (entryOfKey<|SR P w)/\(xs.map (·.1)).Nodup
 | .set S n=>h.SetOf (intKind P w) a S n
 | .ins C dx fs=>H dx=some (.own a)/\fs.length<=1000/\dx≠a/\h.get? a=some (PySem.W.instObj C dx)/\
   ∃ mA,h.Ns1 dx mA/\(∀ f,jr (fs.lookup f)<|mA f)/\PySem.Within mA (fs.map (·.1))
 | .own _=>∃ o,h.get? a=some o
 | .xd fs=>∃ mA,h.Ns1 a mA/\∀ f,jr (fs.lookup f)<|mA f
 | .GD lo hi=>∃ t u v,h.get? a=some {cls:=.type "range",data:=.fields #[.int lo t,.int hi u,.int 1 v]}
 | .aZ o u=>h.get? a=some o/\be H h a u
 | .rR ps=>h.get? a=some {cls:=.none,data:=.fields ps}
 | .met f x=>h.get? a=some (PySem.W.methodObj (.ref f)<|.ref x)
 | .ext φ=>φ h/\(∃ o,h.get? a=some o)/\∀ h1 h2:Heap,φ h1->(∀ o,h1.get? a=some o->h2.get? a=some o)->φ h2
 | .sub b p u=>be H h a u/\H b=some (.own a)/\b≠a/\p.flat=true/\be H h b p
def bV(H:Hp)(h:Heap):Prop:=∀ a o,H a=some o->be P w K H h a o
end
section
variable{P:Qe}{w:Qh}{K:qc}{H H':Hp}{h h':Heap}{a:Qg}{o:HO}
theorem be.lt(x:be P w K H h a o):a < h.objs.size:=by
 induction o with
 | sub b p u _ ih=>exact ih x.1
 | lst xs=>have(_,_,_,_,e):=x; exact qi e
 | tup xs=>have(_,_,_,p):=x; exact p.lt
 | dK kvs=>have(_,_,_,_,o,_,_,e,_):=x; exact qi e
 | dT kvs=>have(_,_,_,_,o,_,_,e,_):=x; exact qi e
 | dX kvs=>have(_,_,_,_,o,_,_,e,_):=x; exact qi e
 | set S n=>have(o,_,_,_,e,_):=x; exact qi e
 | ins C dx fs=>have(_,_,_,e,_):=x; exact qi e
 | own y=>have(_,e):=x; exact qi e
 | xd fs=>obtain⟨_,⟨_,_,_,e,_⟩,_⟩:=x; exact qi e
 | GD lo hi=>have(_,_,_,e):=x; exact qi e
 | aZ ob u _=>have(e,_):=x; exact qi e
 | rR ps=>exact qi (show h.get? a=some _ from x)
 | met f y=>exact qi (show h.get? a=some _ from x)
 | ext φ=>obtain⟨_,⟨_,e⟩,_⟩:=x; exact qi e
theorem Paired.g6{α β:Type}{F G:α->β->Prop}:∀ {j7:Qa α} {l₂:Qa β},Paired F j7 l₂->(∀ a b,F a b->G a b)->Paired G j7 l₂
 | _,_,.nil,_=>.nil
 | _,_,.cons r t,f=>.cons (f _ _ r)<|Paired.g6 t f
theorem be.xC(x:be P w K H h a o)(f:o.flat=true)(k:∀ u,h.get? a=some u->h'.get? a=some u)(ht:∀ b xs,H b=some (.tup xs)->H' b=some (.tup xs)):be P w K H' h' a o:=by
 cases o with
 | lst xs=>have(z,ae,n,r,e):=x; exact⟨z,ae,n,r,k _ e⟩
 | dK kvs=>have(z,y,vs,r,ob,es,ep,e,c):=x; exact⟨z,y,vs,r,ob,es,ep,k _ e,c⟩
 | dT kvs=>
  have(z,y,xs,r,ob,es,ep,e,c):=x;exact⟨z,y,xs,Paired.g6 r λp q z=>⟨z.1,z.2.1.keeps ht,z.2.2⟩,ob,es,ep,k _ e,c⟩
 | dX kvs=>
  have(z,y,xs,r,ob,es,ep,e,c):=x;exact⟨z,y,xs,Paired.g6 r λp q z=>⟨z.1,z.2.1.keeps ht,z.2.2⟩,ob,es,ep,k _ e,c⟩
 | _=>cases f
theorem be.dS(x:be P w K H h a o)(k:∀ b u,(b=a\/H b=some (.own a))->h.get? b=some u->h'.get? b=some u)
  (ho:∀ b,H b=some (.own a)->H' b=some (.own a)) (ht:∀ b xs,H b=some (.tup xs)->H' b=some (.tup xs)):be P w K H' h' a o:=by
 induction o with
 | lst xs=>have(z,ae,n,r,e):=x; exact⟨z,ae,n,r,k _ _ (.inl rfl) e⟩
 | tup xs=>have(z,ae,r,ob,e,c):=x; exact⟨z,ae,r,ob,k _ _ (.inl rfl) e,c⟩
 | dK kvs=>have(z,y,vs,r,ob,es,ep,e,c):=x; exact⟨z,y,vs,r,ob,es,ep,k _ _ (.inl rfl) e,c⟩
 | dT kvs=>
  have(z,y,xs,r,ob,es,ep,e,c):=x;exact⟨z,y,xs,Paired.g6 r λp q z=>⟨z.1,z.2.1.keeps ht,z.2.2⟩,ob,es,ep,k _ _ (.inl rfl) e,c⟩
 | dX kvs=>
  have(z,y,xs,r,ob,es,ep,e,c):=x;exact⟨z,y,xs,Paired.g6 r λp q z=>⟨z.1,z.2.1.keeps ht,z.2.2⟩,ob,es,ep,k _ _ (.inl rfl) e,c⟩
 | set S n=>have(ob,es,ep,t,e,c):=x; exact⟨ob,es,ep,t,k _ _ (.inl rfl) e,c⟩
 | ins C dx fs=>
  obtain⟨d,z,ne,e,mA,⟨od,es,ep,e2,c⟩,r⟩:=x;exact⟨ho _ d,z,ne,k _ _ (.inl rfl) e,mA,⟨od,es,ep,k _ _ (.inr d) e2,c⟩,r⟩
 | own y=>have(ob,e):=x; exact⟨ob,k _ _ (.inl rfl) e⟩
 | xd fs=>obtain⟨mA,⟨od,es,ep,e,c⟩,r⟩:=x; exact⟨mA,⟨od,es,ep,k _ _ (.inl rfl) e,c⟩,r⟩
 | GD lo hi=>have(t,u,v,e):=x; exact⟨t,u,v,k _ _ (.inl rfl) e⟩
 | aZ ob u ih=>have(e,q):=x; exact⟨k _ _ (.inl rfl) e,ih q⟩
 | rR ps=>
  have e:h.get? a=some {cls:=.none,data:=.fields ps}:=x;show h'.get? a=some {cls:=.none,data:=.fields ps};exact k a _ (.inl rfl) e
 | met f y=>
  have e:h.get? a=some (PySem.W.methodObj (.ref f)<|.ref y):=x;show h'.get? a=some (PySem.W.methodObj (.ref f)<|.ref y);exact k a _ (.inl rfl) e
 | ext φ=>obtain⟨p,⟨o,e⟩,st⟩:=x; exact⟨st _ _ p λo q=>k _ _ (.inl rfl) q,⟨o,k _ _ (.inl rfl) e⟩,st⟩
 | sub b p u _ ih=>have(y,e,n,f,q):=x; exact⟨ih y,ho _ e,n,f,q.xC f (λu z=>k _ _ (.inr e) z) ht⟩
theorem bV.lt(x:bV P w K H h)(e:H a=some o):a < h.objs.size:=(x a o e).lt
theorem bV.fresh(x:bV P w K H h)(e:h.objs.size<=a):H a=none:=by
 cases q:H a with
 | none=>rfl
 | some u=>exact absurd (qj (x.lt q) e)<|Ç _
theorem bV.kept(x:bV P w K H h)(k:∀ b u,h.get? b=some u->h'.get? b=some u):bV P w K H h':=λa o e=>
 (x a o e).dS (λb u _ q=>k b u q) (λ_ q=>q) λ_ _ q=>q
theorem bV.laid(x:bV P w K H h)(k:∀ b u,h.get? b=some u->h'.get? b=some u)(hp:h.objs.size<=a)(new:be P w K (upd H a o) h' a o):bV P w K (upd H a o) h':=λb u e=>by
 have hn:=x.fresh hp
 by_cases hb:b=a
 .subst hb; rw[zy]at e; cases e; exact new
 .rw[zx hb]at e
  exact(x b u e).dS (λc v _ q=>k c v q) (λc q=>by rw[zx<|zZ q hn]; exact q) λc xs q=>by rw[zx<|zZ q hn]; exact q
end
def Rd(H:Hp)(a:Qg)(u:HO):Prop:=H a=some u\/∃ o,H a=some (.aZ o u)
theorem Rd.ok{P:Qe}{w:Qh}{K:qc}{H:Hp}{h:Heap}{a:Qg}{u:HO}(r:Rd H a u)(x:bV P w K H h):be P w K H h a u:=by
 rcases r with r|⟨o,r⟩
 .exact x a u r
 .have(_,q):=x a _ r
  exact q
def yC:Qb HO->Prop
 | some (.lst _)=>True
 | some (.dK _)=>True
 | some (.dT _)=>True
 | some (.set _ _)=>True
 | some (.ins _ _ _)=>True
 | some (.ext _)=>True
 | some (.sub _ _ _)=>True
 | some (.dX _)=>True
 | _=>False
section
variable{P:Qe}{w:Qh}{K:qc}{H:Hp}{h h':Heap}{x e:Qg}{o':HO}
theorem bV.write(ok:bV P w K H h)(mu:yC (H x))(he:e=x\/H e=some (.own x))(k:∀ b u,b≠e->h.get? b=some u->h'.get? b=some u)(vw:∃ u,h'.get? e=some u)
  (new:be P w K (upd H x o') h' x o'):bV P w K (upd H x o') h':=λb u q=>by
 have xI:∀ c y,H c=some (.own y)->c≠x:=λc y r z=>by subst z; rw[r]at mu; exact mu
 have GS:∀ c xs,H c=some (.tup xs)->c≠x:=λc xs r z=>by subst z; rw[r]at mu; exact mu
 by_cases hb:b=x
 .subst hb; rw[zy]at q; cases q; exact new
 .rw[zx hb]at q
  by_cases tj:b=e
  .have q':H b=some (.own x):=by
    rcases he with z|z
    .exact absurd (tj.trans z) hb
    .rw[tj]; exact z
   rw[q]at q'; cases q';have(v,hv):=vw;exact⟨v,by rw[tj]; exact hv⟩
  .refine(ok b u q).dS (λc v hc r=>k c v ?_ r) (λc r=>by rw[zx<|xI c b r]; exact r) λc xs r=>by rw[zx<|GS c xs r]; exact r
   rcases hc with rfl|hc
   .exact tj
   .rintro rfl
    rcases he with z|z
    .exact xI c b hc z
    .rw[hc]at z; cases z; exact hb rfl
end
structure Un (fs ex:Qa Qg) (H H':Hp) (h h':Heap):Prop where
 keep:∀ b o,h.get? b=some o->H b=none->b∉fs->b∉ex->h'.get? b=some o
 slot:∀ b o,h.get? b=some o->H b=none->b∈fs->b∉ex->∃ sl,h'.get? b=some {o with slots:=sl}
 free:∀ b o,h.get? b=some o->H b=none->b∉ex->H' b=none
 there:∀ b o,h.get? b=some o->b∉ex->∃ o',h'.get? b=some o'
 dP:∀ b xs,H b=some (.tup xs)->H' b=some (.tup xs)
 cW:∀ b o u,H b=some (.aZ o u)->H' b=some (.aZ o u)
 eL:∀ b ps,H b=some (.rR ps)->∃ more,H' b=some (.rR<|ps++more)
section
variable{fs fs' ex ex':Qa Qg}{H H1 H2:Hp}{h h1 h2 h':Heap}{a x e:Qg}{o:HO}
theorem Un.any(u:Un fs ex H H1 h h1){b:Qg}{ob:Obj}(q:h.get? b=some ob)(n:H b=none)(hx:b∉ex):∃ sl,h1.get? b=some {ob with slots:=sl}:=by
 by_cases hb:b∈fs
 .exact u.slot b ob q n hb hx
 .exact⟨ob.slots,u.keep b ob q n hb hx⟩
theorem Un.kept(k:∀ b u,h.get? b=some u->h'.get? b=some u):Un fs ex H H h h' :=
 ⟨λb ob q _ _ _=>k b ob q,λb ob q _ _ _=>⟨ob.slots,k b ob q⟩,λ_ _ _ n _=>n,λb ob q _=>⟨ob,k b ob q⟩,λ_ _ q=>q,λ_ _ _ q=>q,λ_ ps q=>⟨#[],by rw[q]; simp⟩⟩
theorem Un.refl:Un fs ex H H h h:=Un.kept λ_ _ q=>q
theorem Un.laid(k:∀ b u,h.get? b=some u->h'.get? b=some u)(hp:h.objs.size<=a)(hn:H a=none):Un fs ex H (upd H a o) h h' where
 keep:=λb u q _ _ _=>k b u q
 slot:=λb u q _ _ _=>⟨u.slots,k b u q⟩
 free:=λb u q n _=>by rw[zx<|qk<|qj (qi q) hp]; exact n
 there:=λb u q _=>⟨u,k b u q⟩
 dP:=λb xs q=>by rw[zx<|zZ q hn]; exact q
 cW:=λb u xs q=>by rw[zx<|zZ q hn]; exact q
 eL:=λb ps q=>⟨#[],by rw[zx<|zZ q hn,q]; simp⟩
theorem Un.write(mu:yC (H x))(he:e=x\/H e=some (.own x))(k:∀ b u,b≠e->h.get? b=some u->h'.get? b=some u)(vw:∃ u,h'.get? e=some u):Un fs ex H (upd H x o) h h':=by
 have hx:∀ b,H b=none->b≠x:=λb n z=>by subst z; rw[n]at mu; exact mu
 have hb:∀ b,H b=none->b≠e:=λb n z=>by
  subst z;rcases he with r|r
  .exact hx b n r
  .rw[n]at r; cases r
 have hm:∀ b u,H b=some u->¬yC (some u)->b≠x:=λb u q nm z=>by subst z; rw[q]at mu; exact nm mu
 refine⟨λb u q n _ _=>k b u (hb b n) q,λb u q n _ _=>⟨u.slots,k b u (hb b n) q⟩,λb u q n _=>by rw[zx<|hx b n]; exact n,λb u q _=>?_,
  λb xs q=>by rw[zx<|hm b _ q λz=>z]; exact q,λb u xs q=>by rw[zx<|hm b _ q λz=>z]; exact q,λb ps q=>⟨#[],by rw[zx<|hm b _ q λz=>z,q]; simp⟩⟩
 by_cases tj:b=e
 .subst tj; exact vw
 .exact⟨u,k b u tj q⟩
end
def BY(h:Heap)(H:Hp):Qa Qg:=(List.range h.objs.size).filter λa=>(H a).isSome
def mr(h:Heap)(H:Hp):Heap:=PySem.W.hideAll h (BY h H)
theorem zoS(h:Heap)(H:Hp):(mr h H).objs.size=h.objs.size:=PySem.W.hideAll_size _ _
theorem ZW{h:Heap}{H:Hp}{b:Qg}{o:Obj}(e:h.get? b=some o)(n:H b=none):(mr h H).get? b=some o :=
 PySem.W.hideAll_get _ e λhm=>by
  have q:(H b).isSome=true:=(Æ.mp hm).2;rw[n]at q; simp at q
theorem Yd{h:Heap}{H:Hp}{b:Qg}{o:Obj}(e:(mr h H).get? b=some o):h.get? b=some o/\H b=none:=by
 have e':h.get? b=some o:=PySem.W.of_hideAll (BY h H) e;refine⟨e',?_⟩;cases q:H b with
 | none=>rfl
 | some x=>
  have hm:b∈BY h H:=Æ.mpr ⟨ã.mpr<|qi e',by simp[q]⟩;have z:(mr h H).get? b=none:=PySem.W.hideAll_none (BY h H) hm;rw[z]at e; cases e
def Yc(g h:Heap)(L:Qg):Qa (Qg×Obj):=(List.range h.objs.size).filterMap λa=>if a=L\/(g.get? a).isSome=true then none else(h.get? a).map λo=>(a,o)
def rest(g h:Heap)(L d:Qg):Qa (Qg×Obj):=(Yc g h L).filter λp=>decide<|p.1≠d
structure Mod (K:qc) (mg:Str->Qb Qc) (base:Heap):Prop where
 gv:K.In base
 glob:base.Ns mainGlobals mg
 blt:∃ mb,base.Ns builtinsNs mb/\∀ x:Str,x ≠ "__name__"->mb x=bootBuiltins x
 nolimit:base.NoLimit
structure Cx where
 prog:Qe
 w:Qh
 K:qc
 mg:Str->Qb Qc
 base:Heap
 A:Qf
 N:Qa Str
 aW:Qd
 aq:Hp
 env:Env
 outer:Qa Env
 stack:Qa Env
 ex:Qa Qg
 fn:Str->Bool
 calm:Bool
 pn:Qa (Qg×Obj)
 xe:Qc->Qd->Prop
def jj(l:Qa Env):Qa Qg:=l.filterMap (·.frame)
abbrev Cx.fs(X:Cx):Qa Qg:=jj X.outer
def Cz(sc:Scope)(x:Str):Prop:=sc.names.lookup x=some .local\/sc.names.lookup x=some .cell\/sc.names.lookup x=some .free
def Loc(sc:Scope)(x:Str):Prop:=sc.names.lookup x=some .local\/sc.names.lookup x=some .cell
def So(env:Env)(h:Heap)(m:Str->Qb Qc)(x:Str)(u:Qc):Prop :=
 (env.kindOf x=some .local/\m x=some u)\/((env.kindOf x=some .cell\/env.kindOf x=some .free)/\∃ c,env.cells.lookup x=some c/\h.IsCell c (some u))
structure Cx.Ok (X:Cx):Prop where
 mod:Mod X.K X.mg X.base
 kind:X.env.scope.kind=.function
 glob:X.env.globals=mainGlobals
 blt:X.env.builtins=builtinsNs
 above:X.aW.heap.objs.size<=X.env.locals
 inj:∀ x y c,X.env.cells.lookup x=some c->X.env.cells.lookup y=some c->x=y
 has:∀ x,(X.env.kindOf x=some .cell\/X.env.kindOf x=some .free)->∃ c,X.env.cells.lookup x=some c
 qJ:∀ x c,X.fn x=true->X.env.cells.lookup x=some c->X.aW.heap.objs.size<=c
 hd:X.calm=true->X.A.handled=none
 frames:X.A.frames=some X.stack
 rS:X.stack=X.outer\/(X.stack=X.env::X.outer/\X.env.frame=some X.env.locals)
 tJ:∀ b∈X.ex,b≠X.env.locals/\∀ x c,X.env.cells.lookup x=some c->c≠b
 bs:∀ b o,X.base.get? b=some o->X.aW.heap.get? b=some o/\X.aq b=none
 kG:X.base.objs.size<=X.aW.heap.objs.size
 gu:∀ b o,X.base.get? b=some o->b∉X.ex
 hV:∀ b∈X.ex,b∉X.fs
 cx:X.aW.heap.FunFrames X.base X.outer
 nO:∀ b∈X.fs,X.aq b=none
structure Inv (X:Cx) (pins:Qa (Qg×Obj)) (σ:Qa (Qb V)) (H:Hp) (s:Qd):Prop where
 ok:X.Ok
 os:s.os=X.aW.os
 bare:AllBare s.gens
 base:Un X.fs X.ex X.aq H X.aW.heap s.heap
 loc:∃ m,s.heap.Ns X.env.locals m/\∀ (i:Nat) (x:Str) (v:V),X.N[i]?=some x->σ[i]?=some (some v)->Cz X.env.scope x->∃ u,zV v u/\So X.env s.heap m x u
 cell:∀ x c,X.env.cells.lookup x=some c->∃ v,s.heap.IsCell c v
 free:H X.env.locals=none
 ba:∀ x c,X.env.cells.lookup x=some c->H c=none
 pin:∀ p∈X.pn++pins,s.heap.get? p.1=some p.2/\H p.1=none/\p.1≠X.env.locals/\p.1∉X.fs/\∀ v,p.2.data≠.cell v
 az:bV X.prog X.w X.K H s.heap
 len:σ.length=X.N.length
section
variable{X:Cx}{pins:Qa (Qg×Obj)}{σ:Qa (Qb V)}{H H':Hp}{s:Qd}{h':Heap}
theorem Cx.Ok.GV(ok:X.Ok){b:Qg}{o:Obj}(e:X.base.get? b=some o):b∉X.fs:=λhb=>by
 have:=(ok.cx.mem hb).1;rw[e]at this; cases this
theorem Inv.bs(I:Inv X pins σ H s):∀ b o,X.base.get? b=some o->s.heap.get? b=some o/\H b=none:=λb o e=>
 ⟨I.base.keep b o (I.ok.bs b o e).1 (I.ok.bs b o e).2 (I.ok.GV e)<|I.ok.gu b o e,I.base.free b o (I.ok.bs b o e).1 (I.ok.bs b o e).2<|I.ok.gu b o e⟩
theorem Inv.bk(I:Inv X pins σ H s):∀ b o,X.base.get? b=some o->s.heap.get? b=some o:=λb o e=>(I.bs b o e).1
theorem Inv.mod(I:Inv X pins σ H s):Mod X.K X.mg X.base:=I.ok.mod
theorem Inv.cJ(I:Inv X pins σ H s):X.K.In s.heap:=I.ok.mod.gv.keeps I.bk
theorem Inv.fr(I:Inv X pins σ H s):∃ m,Fr X.base X.env.locals s.heap m :=
 let ⟨m,hn,_⟩:=I.loc
 ⟨m,hn,I.bk,qA I.ok.kG I.ok.above⟩
theorem Inv.lt(I:Inv X pins σ H s):X.env.locals < s.heap.objs.size:=let ⟨_,hn,_⟩:=I.loc; hn.lt
theorem Inv.sz(I:Inv X pins σ H s):X.aW.heap.objs.size<=s.heap.objs.size:=qA I.ok.above (é I.lt)
theorem Inv.GU(I:Inv X pins σ H s){a:Qg}(h:s.heap.objs.size<=a):a∉X.fs:=λhb=>by
 have(_,o,ho,_):=I.ok.cx.mem hb;exact absurd (qj (qi ho)<|qA I.sz h)<|Ç _
theorem Inv.l6(I:Inv X pins σ H s):∀ x c,X.env.cells.lookup x=some c->c≠X.env.locals:=λx c e z=>by
 have(v,o,ho,hd):=I.cell x c e;obtain⟨m,⟨o',es,ep,dB,iL,_⟩,_⟩:=I.loc;rw[z,dB]at ho; cases ho; rw[iL]at hd; cases hd
theorem Inv.cx(I:Inv X pins σ H s):s.heap.FunFrames X.base X.outer:=by
 have all:∀ (l:Qa Env),(∀ b∈jj l,b∈X.fs)->X.aW.heap.FunFrames X.base l->s.heap.FunFrames X.base l:=by
  intro l
  induction l with
  | nil=>intro _ _; trivial
  | cons env r ih=>
   intro hs hl;obtain⟨hk,⟨L,o,hf,hn,ho,hd⟩,hr⟩:=hl;have hL:L∈X.fs:=hs L (by unfold jj; rw[List.filterMap_cons,hf]; exact qp);have(sl,e):=I.base.slot L o ho (I.ok.nO L hL) hL λz=>I.ok.hV L z hL;exact⟨hk,⟨L,_,hf,hn,e,hd⟩,ih (λb hb=>hs b (by unfold jj; rw[List.filterMap_cons,hf]; exact qo _ hb)) hr⟩
 exact all X.outer (λ_ hb=>hb) I.ok.cx
theorem Inv.stack(I:Inv X pins σ H s):s.heap.FunFrames X.base X.stack:=by
 rcases I.ok.rS with e|⟨e,hf⟩
 .rw[e]; exact I.cx
 .rw[e]
  have(m,hn,_):=I.loc;refine .cons (by rw[I.ok.kind]; decide) hf hn ?_ I.cx;exact Heap.get?_none_of_le<|qA I.ok.kG I.ok.above
theorem Inv.dQ(I:Inv X pins σ H s):∀ b∈jj X.stack,b∈X.env.locals::X.fs:=λb hb=>by
 rcases I.ok.rS with e|⟨e,hf⟩
 .rw[e]at hb; exact qo _ hb
 .rw[e]at hb
  unfold jj at hb;rw[List.filterMap_cons,hf]at hb;exact hb
theorem Inv.iE(I:Inv X pins σ H s):∀ b∈jj X.stack,H b=none:=λb hb=>by
 rcases qw.mp (I.dQ b hb)with e|hb
 .rw[e]; exact I.free
 .have(_,o,ho,_):=I.ok.cx.mem hb
  exact I.base.free b o ho (I.ok.nO b hb) λz=>I.ok.hV b z hb
theorem Inv.step{g':Array GenState}{t':Nat}{d':Drawn}{ch:Qa Qg}(I:Inv X pins σ H s)
  (lY:∀ b∈ch,(b∈X.ex\/X.aW.heap.objs.size<=b)/\b≠X.env.locals/\(∀ x c,X.env.cells.lookup x=some c->c≠b)/\∀ p∈X.pn++pins,p.1≠b)
  (keep:∀ b o,b≠X.env.locals->b∉X.fs->b∉ch->s.heap.get? b=some o->H b=none->h'.get? b=some o)
  (slot:∀ b o,b≠X.env.locals->b∈X.fs->b∉ch->s.heap.get? b=some o->H b=none->∃ sl,h'.get? b=some {o with slots:=sl}) (free:∀ b o,b∉ch->s.heap.get? b=some o->H b=none->H' b=none)
  (there:∀ b o,b∉ch->s.heap.get? b=some o->∃ o',h'.get? b=some o')
  (dP:∀ b xs,H b=some (.tup xs)->H' b=some (.tup xs)) (cW:∀ b o u,H b=some (.aZ o u)->H' b=some (.aZ o u)) (eL:∀ b ps,H b=some (.rR ps)->∃ more,H' b=some (.rR<|ps++more))
  (ns:∀ m,s.heap.Ns X.env.locals m->h'.Ns X.env.locals m) (az:bV X.prog X.w X.K H' h') (hg:AllBare g'):
  Inv X pins σ H' {s with heap:=h',gens:=g',drawn:=d',toks:=t'}:=by
 have Py:∀ b o,X.aW.heap.get? b=some o->b≠X.env.locals:=λb o e=>qk<|qj (qi e) I.ok.above;have B5:∀ b o,X.aW.heap.get? b=some o->b∉X.ex->b∉ch:=λb o e hx hb=>by
  rcases(lY b hb).1 with z|z
  .exact hx z
  .exact absurd (qj (qi e) z) (Ç _)
 have cellK:∀ x c,X.env.cells.lookup x=some c->∀ v,s.heap.IsCell c v->h'.IsCell c v:=λx c e v ⟨o,ho,hd⟩=>by
  have xM:c∉ch:=λz=>(lY c z).2.2.1 x c e rfl
  by_cases hc:c∈X.fs
  .have(sl,q):=slot c o (I.l6 x c e) hc xM ho (I.ba x c e)
   exact⟨_,q,hd⟩
  .exact⟨o,keep c o (I.l6 x c e) hc xM ho<|I.ba x c e,hd⟩
 refine⟨I.ok,I.os,hg,⟨λb o e n hb hx=>?_,λb o e n hb hx=>?_,λb o e n hx=>?_,λb o e hx=>?_,λb xs e=>dP b xs<|I.base.dP b xs e,λb o xs e=>cW b o xs<|I.base.cW b o xs e,λb ps e=>?_⟩,?_,λx c e=>?_,?_,λx c e=>?_,λp hp=>?_,az,I.len⟩
 .exact keep b o (Py b o e) hb (B5 b o e hx) (I.base.keep b o e n hb hx) (I.base.free b o e n hx)
 .have(sl,e1):=I.base.slot b o e n hb hx
  have(sl',e2):=slot b _ (Py b o e) hb (B5 b o e hx) e1 (I.base.free b o e n hx);exact⟨sl',e2⟩
 .have(o',e1):=I.base.there b o e hx
  exact free b o' (B5 b o e hx) e1<|I.base.free b o e n hx
 .have(o',e1):=I.base.there b o e hx
  exact there b o' (B5 b o e hx) e1
 .have(m1,e1):=I.base.eL b ps e
  have(m2,e2):=eL b _ e1;exact⟨m1++m2,by rw[e2,Array.append_assoc]⟩
 .have(m,hn,hl):=I.loc
  refine⟨m,ns m hn,λi x v e1 e2 e3=>?_⟩;have(u,r,l):=hl i x v e1 e2 e3;refine⟨u,r,?_⟩;rcases l with l|⟨k,c,e,z⟩
  .exact .inl l
  .exact .inr ⟨k,c,e,cellK x c e _ z⟩
 .have(v,z):=I.cell x c e
  exact⟨v,cellK x c e v z⟩
 .obtain⟨m,⟨o,_,_,ho,_⟩,_⟩:=I.loc
  exact free _ o (λz=>(lY _ z).2.1 rfl) ho I.free
 .have(v,o,ho,hd):=I.cell x c e
  exact free c o (λz=>(lY c z).2.2.1 x c e rfl) ho<|I.ba x c e
 .have(e,n,ne,nf,d):=I.pin p hp
  have xM:p.1∉ch:=λz=>(lY p.1 z).2.2.2 p hp rfl;exact⟨keep p.1 p.2 ne nf xM e n,free p.1 p.2 xM e n,ne,nf,d⟩
theorem Inv.un{t':Nat}(I:Inv X pins σ H s)(u:Un X.fs [] H H' s.heap h')(az:bV X.prog X.w X.K H' h'):Inv X pins σ H' {s with heap:=h',toks:=t'}:=by
 obtain⟨m,⟨o,es,ep,ho,r⟩,_⟩:=id I.loc;have(sl,hL):=u.any ho I.free (by simp);exact I.step (g':=s.gens) (d':=s.drawn) (ch:=[]) (λ_ z=>nomatch z) (λb o _ hb _ e n=>u.keep b o e n hb (by simp)) (λb o _ hb _ e n=>u.slot b o e n hb (by simp)) (λb o _ e n=>u.free b o e n (by simp)) (λb o _ e=>u.there b o e (by simp)) u.dP u.cW u.eL (λm' hm=>by
  have(o',nQ,eS,dB,r'):=hm;rw[ho]at dB; cases dB;exact⟨_,nQ,eS,hL,r'⟩) az I.bare
theorem Inv.call{g':Array GenState}{t':Nat}{d':Drawn}{ch:Qa Qg}(I:Inv X pins σ H s)(u:Un (jj X.stack) ch H H' s.heap h')(az:bV X.prog X.w X.K H' h')(hg:AllBare g')
  (lY:∀ b∈ch,(b∈X.ex\/X.aW.heap.objs.size<=b)/\b≠X.env.locals/\(∀ x c,X.env.cells.lookup x=some c->c≠b)/\∀ p∈X.pn++pins,p.1≠b):
  Inv X pins σ H' {s with heap:=h',gens:=g',drawn:=d',toks:=t'}:=by
 obtain⟨m,⟨o,es,ep,ho,r⟩,_⟩:=id I.loc;have(sl,hL):=u.any ho I.free λz=>(lY _ z).2.1 rfl;exact I.step (ch:=ch) lY (λb o hL hb hc e n=>u.keep b o e n (λz=>(qw.mp<|I.dQ b z).elim hL hb) hc) (λb o _ _ hc e n=>u.any e n hc) (λb o hc e n=>u.free b o e n hc) (λb o hc e=>u.there b o e hc) u.dP u.cW u.eL (λm' hm=>by
  have(o',nQ,eS,dB,r'):=hm;rw[ho]at dB; cases dB;exact⟨_,nQ,eS,hL,r'⟩) az hg
theorem Inv.turned{t':Nat}{it:Qg}(I:Inv X pins σ H s)(k:∀ b o,b≠it->s.heap.get? b=some o->h'.get? b=some o)(hn:H it=none)(hL:it≠X.env.locals)
  (h1:it∈X.ex\/X.aW.heap.objs.size<=it) (h2:∀ x c,X.env.cells.lookup x=some c->c≠it) (h3:∀ p∈X.pn++pins,p.1≠it):Inv X pins σ H {s with heap:=h',toks:=t'}:=by
 have je:∀ b u,H b=some u->b≠it:=λb u e z=>by rw[z,hn]at e; cases e
 refine I.step (g':=s.gens) (d':=s.drawn) (ch:=[it]) (λb hb=>?_) (λb o _ _ hc e _=>k b o (λz=>hc (by simp[z])) e) (λb o _ _ hc e _=>⟨o.slots,k b o (λz=>hc (by simp[z])) e⟩) (λ_ _ _ _ n=>n)
  (λb o hc e=>⟨o,k b o (λz=>hc (by simp[z])) e⟩) (λ_ _ e=>e) (λ_ _ _ e=>e) (λb ps e=>⟨#[],by rw[e]; simp⟩) (λm hm=>?_) (λb u e=>?_) I.bare
 .have e:b=it:=by simpa using hb
  subst e;exact⟨h1,hL,h2,h3⟩
 .have(o,es,ep,ho,r):=hm
  exact⟨o,es,ep,k _ o (Ne.symm hL) ho,r⟩
 .refine(I.az b u e).dS (λc v hc q=>k c v ?_ q) (λ_ q=>q) λ_ _ q=>q
  rcases hc with z|z
  .rw[z]; exact je b u e
  .exact je c _ z
theorem Inv.tok(I:Inv X pins σ H s)(t:Nat):Inv X pins σ H {s with toks:=t}:=I.un (h':=s.heap) (t':=t) Un.refl I.az
theorem Inv.kept{t':Nat}(I:Inv X pins σ H s)(k:∀ b u,s.heap.get? b=some u->h'.get? b=some u):Inv X pins σ H {s with heap:=h',toks:=t'}:=I.un (Un.kept k) (I.az.kept k)
theorem Inv.laid{a:Qg}{o:HO}{t':Nat}(I:Inv X pins σ H s)(k:∀ b u,s.heap.get? b=some u->h'.get? b=some u)(hp:s.heap.objs.size<=a)(new:be X.prog X.w X.K (upd H a o) h' a o):
  Inv X pins σ (upd H a o) {s with heap:=h',toks:=t'}:=I.un (Un.laid k hp<|I.az.fresh hp) (I.az.laid k hp new)
theorem Inv.write{x e:Qg}{o:HO}{t':Nat}(I:Inv X pins σ H s)(mu:yC (H x))(he:e=x\/H e=some (.own x))(k:∀ b u,b≠e->s.heap.get? b=some u->h'.get? b=some u)(vw:∃ u,h'.get? e=some u)
  (new:be X.prog X.w X.K (upd H x o) h' x o):Inv X pins σ (upd H x o) {s with heap:=h',toks:=t'}:=I.un (Un.write mu he k vw) (I.az.write mu he k vw new)
theorem Inv.weak{aE:Qa (Qb V)}(I:Inv X pins σ H s)(hl:aE.length=σ.length)(w:∀ (i:Nat) v,aE[i]?=some (some v)->σ[i]?=some (some v)):Inv X pins aE H s :=
 ⟨I.ok,I.os,I.bare,I.base,let ⟨m,hn,sQ⟩:=I.loc; ⟨m,hn,λi x v e1 e2 e3=>sQ i x v e1 (w i v e2) e3⟩,I.cell,I.free,I.ba,I.pin,I.az,hl.trans I.len⟩
theorem Inv.aY{pQ:Qa (Qg×Obj)}(I:Inv X pins σ H s)(h:∀ p∈pQ,s.heap.get? p.1=some p.2/\H p.1=none/\p.1≠X.env.locals/\p.1∉X.fs/\∀ v,p.2.data≠.cell v):Inv X pQ σ H s :=
 ⟨I.ok,I.os,I.bare,I.base,I.loc,I.cell,I.free,I.ba,λp hp=>(Ä.mp hp).elim (λz=>I.pin p<|É _ z)<|h p,I.az,I.len⟩
theorem Mv{N:Qa Str}(hN:N.Nodup){i j:Nat}{x:Str}(a:N[i]?=some x)(b:N[j]?=some x):i=j:=by
 have(h1,e1):=ql.mp a;have(h2,e2):=ql.mp b;exact(List.getElem_inj hN).mp<|e1.trans e2.symm
theorem M7{M:Model}{A:Qf}{E:Qc->Qd->Prop}{i:Nat}{x:Str}{v:V}{u:Qc}{Q:Unit->Qd->Prop}(I:Inv X pins σ H s)(hN:X.N.Nodup)(hi:X.N[i]?=some x)(hx:Loc X.env.scope x)(r:zV v u)
  (h:∀ s',Inv X pins (σ.set i<|some v) H s'->(∃ a,Heap.SameBut a s.heap s'.heap/\(a=X.env.locals\/X.env.cells.lookup x=some a))->Q () s') (hf:X.fn x=true\/X.env.scope.names.lookup x=some .local:=by first|exact .inl rfl|exact .inr rfl|assumption):wpAny M A (storeName X.env x u) Q E s:=by
 have(m,hn,hl):=id I.loc;have HF:(X.env.scope.kind==.class || (X.env.scope.kind==.module && X.env.locals != X.env.globals))=false:=by rw[I.ok.kind]; rfl
 have ye:i < σ.length:=by rw[I.len]; exact(ql.mp hi).1
 have l6:=I.l6;have tracked:∀ {a:Qg} {h':Heap},(∃ o,s.heap.get? a=some o/\H a=none)->Heap.SameBut a s.heap h'->bV X.prog X.w X.K H h':=λ{a h'} ha hs b ob e=>by
  have(_,_,p4):=ha;refine(I.az b ob e).dS (λc w' hc q=>(hs.2 c ?_).trans q) (λ_ q=>q) λ_ _ q=>q;rintro rfl;rcases hc with rfl|hc
  .rw[p4]at e; cases e
  .rw[p4]at hc; cases hc
 rcases hx with hk|hk
 .refine wpAny_storeName_local hk hn (λh' hn' hs=>?_) HF
  have(oL,_,_,nI,_):=id hn;refine h _ ⟨I.ok,I.os,I.bare,⟨λb o e n hb hx=>?_,λb o e n hb hx=>?_,I.base.free,λb o e hx=>?_,I.base.dP,I.base.cW,I.base.eL⟩,⟨_,hn',λj y v' e1 e2 e3=>?_⟩,λy c e=>?_,I.free,I.ba,λp hp=>?_,tracked ⟨oL,nI,I.free⟩ hs,by simpa using I.len⟩ ⟨_,hs,.inl rfl⟩
  .exact(hs.2 b<|qk<|qj (qi e) I.ok.above).trans (I.base.keep b o e n hb hx)
  .have(sl,e1):=I.base.slot b o e n hb hx
   exact⟨sl,(hs.2 b<|qk<|qj (qi e) I.ok.above).trans e1⟩
  .have(o',e1):=I.base.there b o e hx
   exact⟨o',(hs.2 b<|qk<|qj (qi e) I.ok.above).trans e1⟩
  .by_cases hj:j=i
   .subst hj
    rw[hi]at e1; cases e1;rw[List.getElem?_set_self ye]at e2;cases e2;exact⟨u,r,.inl ⟨hk,by simp⟩⟩
   .rw[qE<|Ne.symm hj]at e2
    have(u',r',q):=hl j y v' e1 e2 e3;refine⟨u',r',?_⟩;rcases q with⟨k,e⟩|⟨k,c,e,z⟩
    .refine .inl ⟨k,?_⟩
     have:y≠x:=λe=>hj<|Mv hN e1<|e▸hi;simp[this,e]
    .exact .inr ⟨k,c,e,z.sameBut hs<|l6 y c e⟩
  .have(w',z):=I.cell y c e
   exact⟨w',z.sameBut hs<|l6 y c e⟩
  .have(e,n,ne,nf,d):=I.pin p hp
   exact⟨(hs.2 p.1 ne).trans e,n,ne,nf,d⟩
 .have HC:X.fn x=true:=by
   rcases hf with z|z
   .exact z
   .rw[z]at hk; cases hk
  have(c,hc):=I.ok.has x (.inl hk);have(w',z):=I.cell x c hc;refine wpAny_storeName_cell I.ok.kind hk hc z λh' hJ hs=>?_;have(oc,Ql,Hw):=id z;refine h {s with heap:=h'} ⟨I.ok,I.os,I.bare,⟨λb o e n hb hx=>?_,λb o e n hb hx=>?_,I.base.free,λb o e hx=>?_,I.base.dP,I.base.cW,I.base.eL⟩,⟨m,hn.sameBut hs<|Ne.symm<|l6 x c hc,λj y v' e1 e2 e3=>?_⟩,λy c' e=>?_,I.free,I.ba,λp hp=>?_,tracked ⟨oc,Ql,I.ba x c hc⟩ hs,by simpa using I.len⟩ ⟨c,hs,.inr hc⟩
  .exact(hs.2 b<|qk<|qj (qi e)<|I.ok.qJ x c HC hc).trans (I.base.keep b o e n hb hx)
  .have(sl,e1):=I.base.slot b o e n hb hx
   exact⟨sl,(hs.2 b<|qk<|qj (qi e)<|I.ok.qJ x c HC hc).trans e1⟩
  .have(o',e1):=I.base.there b o e hx
   exact⟨o',(hs.2 b<|qk<|qj (qi e)<|I.ok.qJ x c HC hc).trans e1⟩
  .by_cases hj:j=i
   .subst hj
    rw[hi]at e1; cases e1;rw[List.getElem?_set_self ye]at e2;cases e2;exact⟨u,r,.inr ⟨.inl hk,c,hc,hJ⟩⟩
   .rw[qE<|Ne.symm hj]at e2
    have(u',r',q):=hl j y v' e1 e2 e3;refine⟨u',r',?_⟩;rcases q with q|⟨k,c',e,z'⟩
    .exact .inl q
    .refine .inr ⟨k,c',e,z'.sameBut hs ?_⟩
     rintro rfl;exact hj<|Mv hN e1<|I.ok.inj _ _ _ e hc▸hi
  .by_cases Qs:c'=c
   .subst Qs; exact⟨_,hJ⟩
   .have(w2,z2):=I.cell y c' e
    exact⟨w2,z2.sameBut hs Qs⟩
  .have(e,n,ne,nf,d):=I.pin p hp
   refine⟨(hs.2 p.1 ?_).trans e,n,ne,nf,d⟩;intro q;rw[q,Ql]at e;have q':oc=p.2:=qy e;exact d w' (by rw[<-q']; exact Hw)
theorem Bu{M:Model}{A:Qf}{E:Qc->Qd->Prop}{i:Nat}{x:Str}{v:V}{u:Qc}{Q:Unit->Qd->Prop}(I:Inv X pins σ H s)(hN:X.N.Nodup)(hi:X.N[i]?=some x)(hx:Loc X.env.scope x)(r:zV v u)
  (h:∀ s',Inv X pins (σ.set i<|some v) H s'->Q () s') (hf:X.fn x=true\/X.env.scope.names.lookup x=some .local:=by first|exact .inl rfl|exact .inr rfl|assumption):wpAny M A (storeName X.env x u) Q E s :=
 M7 I hN hi hx r (λs' I' _=>h s' I') hf
theorem Inv.qI{s':Qd}{ch:Qa Qg}(I:Inv X pins σ H s)(ho:s'.os=s.os)(u:Un (jj X.stack) ch H H' s.heap s'.heap)(az:bV X.prog X.w X.K H' s'.heap)(hg:AllBare s'.gens)
  (lY:∀ b∈ch,(b∈X.ex\/X.aW.heap.objs.size<=b)/\b≠X.env.locals/\(∀ x c,X.env.cells.lookup x=some c->c≠b)/\∀ p∈X.pn++pins,p.1≠b):Inv X pins σ H' s':=by
 have(h',g',d',t',o'):=s';have e:o'=s.os:=ho;subst e;exact I.call (g':=g') (t':=t') (d':=d') u az hg lY
end
abbrev XK:=Qc->Qb Qg->Hp->Prop
abbrev St:=Qa (Qb V)
abbrev VK:=V->Hp->Prop
abbrev TE:=St->Hp->VK->Prop
abbrev TT:=St->Hp->(Bool->Hp->Prop)->Prop
abbrev TA:=St->Hp->(Qa V->Hp->Prop)->Prop
structure Ends where
 nx:St->Hp->Prop
 rt:VK
 bk:St->Hp->Prop:=λ_ _=>False
 ct:St->Hp->Prop:=λ_ _=>False
abbrev TS:=Ends->St->Hp->Prop
def EP(X:Cx)(pins:Qa (Qg×Obj))(σ:St)(Q:VK)(u:Qc)(s':Qd):Prop:=∃ v H',Inv X pins σ H' s'/\zV v u/\Q v H'
def TP(X:Cx)(pins:Qa (Qg×Obj))(σ:St)(Q:Bool->Hp->Prop)(b:Bool)(s':Qd):Prop:=∃ H',Inv X pins σ H' s'/\Q b H'
def AP(X:Cx)(pins:Qa (Qg×Obj))(σ:St)(Q:Qa V->Hp->Prop)(us:Qa Qc)(s':Qd):Prop:=∃ vs H',Inv X pins σ H' s'/\zO vs us/\Q vs H'
def SP(X:Cx)(pins:Qa (Qg×Obj))(D:Ends)(f:Flow)(s':Qd):Prop :=
 match f with
 | .next=>∃ aE H',Inv X pins aE H' s'/\D.nx aE H'
 | .brk=>∃ aE H',Inv X pins aE H' s'/\D.bk aE H'
 | .cont=>∃ aE H',Inv X pins aE H' s'/\D.ct aE H'
 | .ret u=>∃ v aE H',Inv X pins aE H' s'/\zV v u/\D.rt v H'
def PE(X:Cx)(e:Expr)(t:TE):Prop :=
 ∀ (pins:Qa (Qg×Obj)) (s:Qd) (σ:St) (H:Hp) (Q:VK),Inv X pins σ H s->t σ H Q->wpAny (model X.prog X.w) X.A (eval e X.env) (EP X pins σ Q) X.xe s
def PT(X:Cx)(e:Expr)(t:TT):Prop :=
 ∀ (pins:Qa (Qg×Obj)) (s:Qd) (σ:St) (H:Hp) (Q:Bool->Hp->Prop),Inv X pins σ H s->t σ H Q->wpAny (model X.prog X.w) X.A (isTrue e X.env<|eval e X.env) (TP X pins σ Q) X.xe s
def PW(X:Cx)(e:Expr)(t:TT):Prop :=
 ∀ (whole:Sem Qc) (pins:Qa (Qg×Obj)) (s:Qd) (σ:St) (H:Hp) (Q:Bool->Hp->Prop),Inv X pins σ H s->t σ H Q->wpAny (model X.prog X.w) X.A (isTrue e X.env whole) (TP X pins σ Q) X.xe s
theorem PW.pt{X:Cx}{e:Expr}{t:TT}(h:PW X e t):PT X e t:=h _
def PA(X:Cx)(es:Qa Expr)(t:TA):Prop :=
 ∀ (pos:Pos) (pins:Qa (Qg×Obj)) (s:Qd) (σ:St) (H:Hp) (Q:Qa V->Hp->Prop),Inv X pins σ H s->t σ H Q->wpAny (model X.prog X.w) X.A (spliced<|backTo pos<|starEach es X.env) (AP X pins σ Q) X.xe s
def PS(X:Cx)(st:Stmt)(t:TS):Prop :=
 ∀ (pins:Qa (Qg×Obj)) (s:Qd) (σ:St) (H:Hp) (D:Ends),Inv X pins σ H s->t D σ H->wpAny (model X.prog X.w) X.A (exec st X.env) (SP X pins D) X.xe s
def dF(X:Cx)(st:Qa Stmt)(t:TS):Prop :=
 ∀ (pins:Qa (Qg×Obj)) (s:Qd) (σ:St) (H:Hp) (D:Ends),Inv X pins σ H s->t D σ H->wpAny (model X.prog X.w) X.A (execs st X.env) (SP X pins D) X.xe s
theorem aF{α:Type}{t:Sem α}{Q Q':α->Qd->Prop}{M:Model}{A:Qf}{E:Qc->Qd->Prop}{s:Qd}(h:wpAny M A t Q E s)(hQ:∀ a s,Q a s->Q' a s):wpAny M A t Q' E s:=wpAny_mono h hQ λ_ _ x=>x
section
variable{X:Cx}
theorem bin{a b:Expr}{ta tb:TE}(ha:PE X a ta)(hb:PE X b tb){pins:Qa (Qg×Obj)}{s:Qd}{σ:St}{H:Hp}{R:V->V->Hp->Prop}(I:Inv X pins σ H s)(h:ta σ H λx H1=>tb σ H1 λy H2=>R x y H2)
  {α:Type} {Q:α->Qd->Prop} {f:Qc->Qc->Sem α}
  (hf:∀ v u s2 x y H2,Inv X pins σ H2 s2->zV x v->zV y u->R x y H2->wpAny (model X.prog X.w) X.A (f v u) Q X.xe s2):
  wpAny (model X.prog X.w) X.A (eval a X.env) (λv aC=>wpAny (model X.prog X.w) X.A (eval b X.env) (λu gr=>wpAny (model X.prog X.w) X.A (f v u) Q X.xe gr) X.xe aC) X.xe s:=by
 refine aF (ha pins s σ H _ I h) λv s1 hZ=>?_;have(x,H1,I1,r1,q1):=hZ;refine aF (hb pins s1 σ H1 _ I1 q1) λu s2 hZ=>?_;have(y,H2,I2,r2,q2):=hZ;exact hf v u s2 x y H2 I2 r1 r2 q2
def mq(i:Nat):TE:=λσ H Q=>∃ v,σ[i]?=some (some v)/\Q v H
def tC(v:V):TE:=λ_ H Q=>Q v H
theorem VN{i:Nat}{x:Str}{pos:Pos}(hN:X.N[i]?=some x)(hv:Cz X.env.scope x)(hd:(x==("__debug__":Str))=false:=by decide)(ji:(x==("__classdict__":Str))=false:=by decide):PE X (.Name x pos) (mq i):=by
 intro pins s σ H Q I h;have(v,e,h):=h;have(m,hn,hl):=I.loc;have(u,r,l):=hl i x v hN e hv;have fin:EP X pins σ Q u s:=⟨v,H,I,r,h⟩;rcases l with⟨hk,hm⟩|⟨hk,c,hc,p5⟩
 .exact wpAny_Name (wpAny_loadName_local I.ok.kind hk hn hm fin) hd
 .rcases hk with hk|hk
  .exact wpAny_Name (wpAny_loadName_cell I.ok.kind hk hc p5 fin) hd
  .exact wpAny_Name (wpAny_loadName_free I.ok.kind hk hc p5 fin ji) hd
theorem VM{i j pos}:PE X (.Constant (.int i) j pos) (tC<|.int i):=λ_ _ _ H _ I h=>wpAny_Constant_int ⟨.int i,H,I.tok _,⟨_,rfl⟩,h⟩
theorem SQ{b j pos}:PE X (.Constant (.bool b) j pos) (tC<|.bl b):=λ_ _ _ H _ I h=>Constant_bool ⟨.bl b,H,I,rfl,h⟩
theorem VL{j pos}:PE X (.Constant .none j pos) (tC .aT):=λ_ _ _ H _ I h=>Constant_none ⟨.aT,H,I,rfl,h⟩
def Gl(X:Cx)(x:Str):Prop:=X.env.kindOf x=some .globalImplicit
theorem L5{E:Qc->Qd->Prop}{pins:Qa (Qg×Obj)}{s:Qd}{σ:St}{H:Hp}{x:Str}{u:Qc}{pos:Pos}{Q:Qc->Qd->Prop}(I:Inv X pins σ H s)(hg:Gl X x)(hm:X.mg x=some u)(h:Q u s)
  (hd:(x==("__debug__":Str))=false:=by decide):wpAny (model X.prog X.w) X.A (eval (.Name x pos) X.env) Q E s :=
 Calls.Name_function_global I.ok.kind hg (Calls.loadGlobal_global (by rw[I.ok.glob]; exact I.mod.glob.keeps I.bk) hm h) hd
theorem uI{E:Qc->Qd->Prop}{pins:Qa (Qg×Obj)}{s:Qd}{σ:St}{H:Hp}{x:Str}{u:Qc}{pos:Pos}{Q:Qc->Qd->Prop}(I:Inv X pins σ H s)(hg:Gl X x)(hm:X.mg x=none)(hv:bootBuiltins x=some u)(h:Q u s)
  (hn:x ≠ "__name__":=by decide) (hd:(x==("__debug__":Str))=false:=by decide):wpAny (model X.prog X.w) X.A (eval (.Name x pos) X.env) Q E s:=by
 have(mb,h1,h2):=I.mod.blt;exact Calls.Name_function_global I.ok.kind hg (Calls.loadGlobal_builtin (by rw[I.ok.glob]; exact I.mod.glob.keeps I.bk) hm (by rw[I.ok.blt]; exact h1.keeps I.bk) ((h2 x hn).trans hv) h) hd
variable{a b:Expr}{ta tb:TE}{pos:Pos}
def tB(t:TE):TT:=λσ H Q=>t σ H λx H1=>∃ c,x=.bl c/\Q c H1
theorem VJ{e:Expr}{t:TE}(h:PE X e t)(he:∀ whole,isTrue e X.env whole=(do let v <-whole; standAt e.pos; holding [v] (truthy v)):=by intro _; rfl):PT X e (tB t):=by
 intro pins s σ H Q I hw;refine isTrue_plain (aF (h pins s σ H _ I hw) λv s1 hZ=>?_)<|he _;have(x,H1,I1,r1,q1):=hZ;have(d,rfl,q):=q1;cases r1;exact wpAny_truthy_bool ⟨H1,I1,q⟩
variable{tA lN:TT}{rest:Qa Expr}
def Dw(t u:TT):TT:=λσ H Q=>t σ H λc H1=>if c=true then u σ H1 Q else Q false H1
def Gw(t u:TT):TT:=λσ H Q=>t σ H λc H1=>if c=true then Q true H1 else u σ H1 Q
def Du(t:TT):TT:=λσ H Q=>t σ H λc H1=>Q (!c) H1
theorem Yb(ha:PT X a tA):PW X (.BoolOp .And [a] pos) tA:=by
 intro wh pins s σ H Q I h;refine isTrue_and<|aF (ha pins s σ H Q I h) λc s1 e=>?_;cases c with
 | true=>exact isTrue_and_nil e
 | false=>exact e
theorem VH(ha:PT X a tA):PW X (.BoolOp .Or [a] pos) tA:=by
 intro wh pins s σ H Q I h;refine isTrue_or<|aF (ha pins s σ H Q I h) λc s1 e=>?_;cases c with
 | false=>exact isTrue_or_nil e
 | true=>exact e
theorem V3(ha:PT X a tA)(hb:PW X (.BoolOp .And (b::rest) pos) lN):PW X (.BoolOp .And (a::b::rest) pos) (Dw tA lN):=by
 intro wh pins s σ H Q I h;refine isTrue_and<|aF (ha pins s σ H _ I h) λc s1 hZ=>?_;have(H1,I1,q1):=hZ;cases c with
 | true=>exact hb wh pins s1 σ H1 Q I1 q1
 | false=>exact⟨H1,I1,q1⟩
theorem SO(ha:PT X a tA)(hb:PW X (.BoolOp .Or (b::rest) pos) lN):PW X (.BoolOp .Or (a::b::rest) pos) (Gw tA lN):=by
 intro wh pins s σ H Q I h;refine isTrue_or<|aF (ha pins s σ H _ I h) λc s1 hZ=>?_;have(H1,I1,q1):=hZ;cases c with
 | true=>exact⟨H1,I1,q1⟩
 | false=>exact hb wh pins s1 σ H1 Q I1 q1
theorem V2(ha:PT X a tA):PT X (.UnaryOp .Not a pos) (Du tA):=by
 intro pins s σ H Q I h;exact isTrue_not<|ha pins s σ H (λc H1=>Q (!c) H1) I h
def D8(ta tb:TE):TE:=λσ H Q=>ta σ H λx H1=>∃ c,x=.bl c/\if c=true then tb σ H1 Q else Q (.bl false) H1
def JN(ta:TE):TE:=λσ H Q=>ta σ H λx H1=>∃ c,x=.bl c/\Q (.bl (!c)) H1
theorem V1{op}{t:TE}(h:PE X a t):PE X (.BoolOp op [a] pos) t:=λpins s σ H Q I hw=>BoolOp_one<|h pins s σ H Q I hw
theorem V0(ha:PE X a ta)(hb:PE X (.BoolOp .And (b::rest) pos) tb):PE X (.BoolOp .And (a::b::rest) pos) (D8 ta tb):=by
 intro pins s σ H Q I h;refine BoolOp_and<|aF (ha pins s σ H _ I h) λv s1 hZ=>?_;have(x,H1,I1,r1,q1):=hZ;have(c,rfl,q1):=q1;cases r1;refine wpAny_truthy_bool ?_;cases c with
 | true=>exact hb pins s1 σ H1 Q I1 q1
 | false=>exact⟨.bl false,H1,I1,rfl,q1⟩
theorem VZ(ha:PE X a ta):PE X (.UnaryOp .Not a pos) (JN ta):=by
 intro pins s σ H Q I h;refine UnaryOp_<|aF (ha pins s σ H _ I h) λv s1 hZ=>?_;have(x,H1,I1,r1,q1):=hZ;have(c,rfl,q1):=q1;cases r1;exact not_of<|wpAny_truthy_bool ⟨.bl (!c),H1,I1,rfl,q1⟩
end
def bq(K:qc)(H:Hp)(a:Qg)(xs:Qa V):Prop :=
 Rd H a (.lst xs)\/
  ∃ (o:Obj) (ae:Array Qc) (n:Nat),K.lookup a=some o/\o.cls=.type "list"/\o.dict=none/\o.data=.seq ae n/\ae.size<=sizeLine/\zO xs ae.toList
def bg(K:qc)(H:Hp)(a:Qg)(xs:Qa V):Prop :=
 Rd H a (.tup xs)\/
  ∃ (o:Obj) (ae:Array Qc) (n:Nat),K.lookup a=some o/\o.cls=.type "tuple"/\o.data=.seq ae n/\ae.size<=sizeLine/\zO xs ae.toList
def Sm:Qc->Qb V
 | .none=>some .aT
 | .bool b=>some<|.bl b
 | .int i _=>some<|.int i
 | .str x _=>some<|.str x
 | .bytes b _=>some<|.jk b
 | .float b _=>some<|.HX b
 | .ref a=>some<|.ref a
 | .type n=>some<|.ty n
 | _=>none
theorem zV.abs{x:V}{u:Qc}(r:zV x u):Sm u=some x:=by
 cases x with
 | aT=>cases r; rfl
 | bl _=>cases r; rfl
 | int _=>have(t,rfl):=r; rfl
 | str _=>have(t,rfl):=r; rfl
 | jk _=>have(t,rfl):=r; rfl
 | HX _=>have(t,rfl):=r; rfl
 | ref _=>cases r; rfl
 | ty _=>cases r; rfl
theorem zV.inj{x y:V}{u:Qc}(r:zV x u)(q:zV y u):x=y:=qy (r.abs.symm.trans q.abs)
theorem zO.inj:∀ {xs ys:Qa V} {us:Qa Qc},zO xs us->zO ys us->xs=ys
 | _,_,_,.nil,.nil=>rfl
 | _,_,_,.cons r t,.cons r' t'=>by rw[r.inj r',zO.inj t t']
section
variable{X:Cx}{pins:Qa (Qg×Obj)}{σ:St}{H:Hp}{s:Qd}{a:Qg}{xs ys:Qa V}
theorem bq.of{K:qc}(h:H a=some (.lst xs)):bq K H a xs:=.inl (.inl h)
theorem bg.of{K:qc}(h:H a=some (.tup xs)):bg K H a xs:=.inl (.inl h)
theorem Inv.list(I:Inv X pins σ H s)(h:bq X.K H a xs):∃ ae:Qa Qc,zO xs ae/\PlainL s.heap a ae.toArray/\xs.length<=sizeLine:=by
 rcases h with h|⟨o,ae,n,hk,hc,hd,hs,hz,r⟩
 .have(z,ae,n,r,e):=h.ok I.az
  exact⟨ae,r,⟨_,n,e,rfl,rfl,rfl⟩,z⟩
 .refine⟨ae.toList,r,⟨o,n,I.cJ a o hk,hc,hd,by simpa using hs⟩,?_⟩
  have e:=r.length;simp only[Array.length_toList]at e;omega
theorem Inv.tuple(I:Inv X pins σ H s)(h:bg X.K H a xs):∃ ae:Qa Qc,zO xs ae/\IsTup s.heap a ae.toArray/\xs.length<=sizeLine:=by
 rcases h with h|⟨o,ae,n,hk,hc,hs,hz,r⟩
 .have(z,ae,r,p):=h.ok I.az
  exact⟨ae,r,p.tup,z⟩
 .refine⟨ae.toList,r,⟨o,I.cJ a o hk,hc,n,by simpa using hs⟩,?_⟩
  have e:=r.length;simp only[Array.length_toList]at e;omega
theorem Inv.kf(I:Inv X pins σ H s)(h:bq X.K H a xs)(h':bq X.K H a ys):xs=ys:=by
 obtain⟨ae,r,⟨o,n,e,_,_,d⟩,_⟩:=I.list h;obtain⟨cV,r',⟨o',n',e',_,_,d'⟩,_⟩:=I.list h';rw[e]at e'; cases e';rw[d]at d';injection d' with d1 _;have:ae=cV:=by simpa using congrArg Array.toList d1
 subst this;exact r.inj r'
theorem Inv.cH(I:Inv X pins σ H s)(h:bg X.K H a xs)(h':bg X.K H a ys):xs=ys:=by
 obtain⟨ae,r,⟨o,e,_,n,d⟩,_⟩:=I.tuple h;obtain⟨cV,r',⟨o',e',_,n',d'⟩,_⟩:=I.tuple h';rw[e]at e'; cases e';rw[d]at d';injection d' with d1 _;have:ae=cV:=by simpa using congrArg Array.toList d1
 subst this;exact r.inj r'
end
abbrev Cx.eJ(X:Cx)(E:Qc->Qd->Prop):Cx:={X with xe:=E}
abbrev Cx.r9(X:Cx):Cx:=X.eJ λ_ _=>False
theorem Cx.Ok.eJ{X:Cx}(ok:X.Ok)(E:Qc->Qd->Prop):(X.eJ E).Ok :=
 ⟨ok.mod,ok.kind,ok.glob,ok.blt,ok.above,ok.inj,ok.has,ok.qJ,ok.hd,ok.frames,ok.rS,ok.tJ,ok.bs,ok.kG,ok.gu,ok.hV,ok.cx,ok.nO⟩
theorem Cx.Ok.bQ{X:Cx}{E:Qc->Qd->Prop}(ok:(X.eJ E).Ok):X.Ok :=
 ⟨ok.mod,ok.kind,ok.glob,ok.blt,ok.above,ok.inj,ok.has,ok.qJ,ok.hd,ok.frames,ok.rS,ok.tJ,ok.bs,ok.kG,ok.gu,ok.hV,ok.cx,ok.nO⟩
section
variable{X:Cx}{pins:Qa (Qg×Obj)}{σ:St}{H:Hp}{s:Qd}{E:Qc->Qd->Prop}
theorem Inv.eJ(I:Inv X pins σ H s)(E:Qc->Qd->Prop):Inv (X.eJ E) pins σ H s:=⟨I.ok.eJ E,I.os,I.bare,I.base,I.loc,I.cell,I.free,I.ba,I.pin,I.az,I.len⟩
theorem Inv.bQ(I:Inv (X.eJ E) pins σ H s):Inv X pins σ H s:=⟨I.ok.bQ,I.os,I.bare,I.base,I.loc,I.cell,I.free,I.ba,I.pin,I.az,I.len⟩
theorem SP.bQ{D:Ends}{f:Flow}{s':Qd}(h:SP (X.eJ E) pins D f s'):SP X pins D f s':=by
 cases f with
 | next=>have(aE,H',I,q):=h; exact⟨aE,H',I.bQ,q⟩
 | brk=>have(aE,H',I,q):=h; exact⟨aE,H',I.bQ,q⟩
 | cont=>have(aE,H',I,q):=h; exact⟨aE,H',I.bQ,q⟩
 | ret u=>have(v,aE,H',I,r,q):=h; exact⟨v,aE,H',I.bQ,r,q⟩
theorem dF.r9{st:Qa Stmt}{t:TS}(h:dF X.r9 st t):dF X st t:=λpins s σ H D I hw=>
 wpAny_mono (h pins s σ H D (I.eJ _) hw) (λ_ _ q=>q.bQ) λ_ _ z=>False.elim z
end
section
variable{X:Cx}{st:Stmt}{rest:Qa Stmt}{t u:TS}{e:Expr}{te:TE}{pos:Pos}
def D7:TS:=λD σ H=>D.nx σ H
def Dz(t u:TS):TS:=λD σ H=>t {D with nx:=u D} σ H
theorem Ya:dF X [] D7:=λ_ _ σ H _ I h=>wpAny_execs_nil ⟨σ,H,I,h⟩
theorem ZV(h1:PS X st t)(h2:dF X rest u):dF X (st::rest) (Dz t u):=by
 intro pins s σ H D I h;refine wpAny_execs_cons<|aF (h1 pins s σ H {D with nx:=u D} I h) λf s1 q=>?_;cases f with
 | next=>
  have(aE,H',I',q):=q;exact h2 pins s1 aE H' D I' q
 | ret v=>exact q
 | brk=>exact q
 | cont=>exact q
theorem X9(h1:PS X st t):dF X [st] t:=by
 intro pins s σ H D I h;refine wpAny_execs_cons<|aF (h1 pins s σ H D I h) λf s1 q=>?_;cases f with
 | next=>exact wpAny_execs_nil q
 | ret v=>exact q
 | brk=>exact q
 | cont=>exact q
theorem Inv.quiet{pins:Qa (Qg×Obj)}{σ:St}{H:Hp}{s:Qd}(I:Inv X pins σ H s):interactive X.env=false:=by simp[interactive,I.ok.kind]
def D6(te:TE):TS:=λD σ H=>te σ H λ_ H1=>D.nx σ H1
theorem X8(he:PE X e te)(hs:swapsWith e none pos.line X.env=pure false:=by rfl):PS X (.Expr e pos) (D6 te):=by
 intro pins s σ H D I h;exact wpAny_Expr_any (aF (he pins s σ H _ I h) λv s1 ⟨x,H1,I1,r1,q1⟩=>⟨σ,H1,I1,q1⟩) I.quiet hs
def y9(te:TE):TS:=λD σ H=>te σ H D.rt
theorem VY(he:PE X e te):PS X (.Return (some e) pos) (y9 te):=by
 intro pins s σ H D I h;exact wpAny_Return_some<|aF (he pins s σ H _ I h) λv s1 ⟨x,H1,I1,r1,q1⟩=>⟨x,σ,H1,I1,r1,q1⟩
def Dy(c:TT)(t u:TS):TS:=λD σ H=>c σ H λb H1=>if b=true then t D σ H1 else u D σ H1
theorem SN{c:Expr}{a b:Qa Stmt}{tc:TT}(hc:PT X c tc)(ha:dF X a t)(hb:dF X b u):PS X (.If c a b pos) (Dy tc t u):=by
 intro pins s σ H D I h;refine wpAny_If<|aF (hc pins s σ H _ I h) λd s1 hZ=>?_;have(H1,I1,q1):=hZ;cases d with
 | true=>exact ha pins s1 σ H1 D I1 q1
 | false=>exact hb pins s1 σ H1 D I1 q1
end
abbrev TG:=V->St->Hp->(St->Hp->Prop)->Prop
abbrev gS:=Qa V->St->Hp->(St->Hp->Prop)->Prop
def PG(X:Cx)(target:Expr)(t:TG):Prop :=
 ∀ (pins:Qa (Qg×Obj)) (s:Qd) (σ:St) (H:Hp) (v:V) (u:Qc) (Q:St->Hp->Prop),Inv X pins σ H s->zV v u->t v σ H Q->
  wpAny (model X.prog X.w) X.A (assign target X.env u) (λ_ s'=>∃ aE H',Inv X pins aE H' s'/\Q aE H') X.xe s
def qL(X:Cx)(ts:Qa Expr)(t:gS):Prop :=
 ∀ (pins:Qa (Qg×Obj)) (s:Qd) (σ:St) (H:Hp) (vs:Qa V) (us:Qa Qc) (Q:St->Hp->Prop),Inv X pins σ H s->zO vs us->t vs σ H Q->
  wpAny (model X.prog X.w) X.A (assignInOrder ((assignEach ts X.env).map (·.2)) us) (λ_ s'=>∃ aE H',Inv X pins aE H' s'/\Q aE H') X.xe s
abbrev y8:=V->V->V->Hp->(Hp->Prop)->Prop
def Dx(X:Cx)(t:y8):Prop :=
 ∀ (pins:Qa (Qg×Obj)) (s:Qd) (σ:St) (H:Hp) (o i v:V) (ov iv u:Qc) (Q:Hp->Prop),Inv X pins σ H s->zV o ov->zV i iv->zV v u->t o i v H Q->
  wpAny (model X.prog X.w) X.A (setItem ov iv u) (λ_ s'=>∃ H',Inv X pins σ H' s'/\Q H') X.xe s
section
variable{X:Cx}{pos:Pos}
def jv(i:Nat):TG:=λv σ H Q=>Q (σ.set i<|some v) H
theorem X7{i:Nat}{x:Str}(hN:X.N.Nodup)(hi:X.N[i]?=some x)(hx:Loc X.env.scope x)(hf:X.fn x=true\/X.env.scope.names.lookup x=some .local:=by first|exact .inl rfl|exact .inr rfl|assumption):PG X (.Name x pos) (jv i):=by
 intro pins s σ H v u Q I r h;exact wpAny_assign_Name<|Bu I hN hi hx r (λs' I'=>⟨_,H,I',h⟩) hf
def y7:gS:=λvs σ H Q=>vs=[]/\Q σ H
def v5(t:TG)(u:gS):gS:=λvs σ H Q=>∃ v r,vs=v::r/\t v σ H λaE H'=>u r aE H' Q
theorem Xf:qL X [] y7:=by
 intro pins s σ H vs us Q I r h;have(e,h):=h;subst e;cases r;exact assignInOrder_nil ⟨σ,H,I,h⟩
theorem ZU{e:Expr}{es:Qa Expr}{t:TG}{u:gS}(h1:PG X e t)(h2:qL X es u)
  (hs:(assignEach (e::es) X.env).map (·.2)=assign e X.env::(assignEach es X.env).map (·.2):=by rfl):qL X (e::es) (v5 t u):=by
 intro pins s σ H vs us Q I r h;have(v,vr,e1,h):=h;subst e1;cases r with
 | cons r rr=>
  rw[hs];refine assignInOrder_cons<|aF (h1 pins s σ H _ _ _ I r h) λ_ s1 hZ=>?_;have(c9,H1,I1,q1):=hZ;exact h2 pins s1 c9 H1 _ _ Q I1 rr q1
def yS(K:qc)(n:Nat)(t:gS):TG:=λv σ H Q=>∃ a xs,v=.ref a/\bg K H a xs/\xs.length=n/\t xs σ H Q
theorem VX{es:Qa Expr}{k:Nat}{t:gS}{n:Nat}(hc:X.calm=true)(h:qL X es t)
  (hn:(assignEach es X.env).length=n:=by rfl) (vp:(assignEach es X.env).findIdx? (·.1)=none:=by rfl):PG X (.Tuple es k pos) (yS X.K n t):=by
 intro pins s σ H v u Q I r hw;have(a,xs,e1,hq,hl,hw):=hw;subst e1;cases r;have(ae,rv,ht,hz):=I.tuple hq;refine assign_Tuple_tuple (I.ok.hd hc) ht (by simp[hn,<-hl,rv.length]) vp λh' hx=>?_;have I1:Inv X pins σ H {s with heap:=h'}:=I.kept (t':=s.toks) λb o e=>hx b o (qk<|qi e) e;exact h pins _ σ H xs _ Q I1 (by simpa using rv) hw
def Dq(to ti:TE)(t:y8):TG:=λv σ H Q=>to σ H λo H1=>ti σ H1 λi H2=>t o i v H2 λH3=>Q σ H3
theorem UN{o i:Expr}{to ti:TE}{t:y8}(ho:PE X o to)(hi:PE X i ti)(hs:Dx X t)
  (ha:∀ v,assign (.Subscript o i pos) X.env v=(do
   let ov <-holding [v] (eval o X.env)
   let iv <-holding [v,ov] (eval i X.env)
   standAt pos
   holding [v,ov,iv] (setItem ov iv v)
   release [v,ov,iv] []):=by intro _; rfl):PG X (.Subscript o i pos) (Dq to ti t):=by
 intro pins s σ H v u Q I r h;rw[ha];refine qa<|wpAny_holding<|aF (ho pins s σ H _ I h) λov s1 hZ=>?_;have(x,H1,I1,r1,q1):=hZ;refine qa<|wpAny_holding<|aF (hi pins s1 σ H1 _ I1 q1) λiv s2 hZ=>?_;have(y,H2,I2,r2,q2):=hZ;refine qa<|wpAny_standAt<|qa<|wpAny_holding<|aF (hs pins s2 σ H2 x y v ov iv u _ I2 r1 r2 r q2) λ_ s3 hZ=>?_;have(H3,I3,q3):=hZ;exact wpAny_release ⟨σ,H3,I3,q3⟩
def om(te:TE)(g:TG):TS:=λD σ H=>te σ H λx H1=>g x σ H1 D.nx
theorem UM{tg e:Expr}{te:TE}{g:TG}(he:PE X e te)(hg:PG X tg g)(hs:swapsWithSole [tg] e pos.line X.env=pure false:=by rfl)(hw:swappedStores [tg] e X.env=pure none:=by rfl)
  (h1:(assignEach [tg] X.env).map (·.2)=[assign tg X.env]:=by rfl):PS X (.Assign [tg] e pos) (om te g):=by
 intro pins s σ H D I h;refine wpAny_Assign_stores (aF (he pins s σ H _ I h) λv s1 hZ=>?_) hs hw;have(x,H1,I1,r1,q1):=hZ;rw[h1];exact aF (hg pins s1 σ H1 x v _ I1 r1 q1) λ_ s2 q=>q
theorem EJ{i:Nat}{x:Str}{e:Expr}{te:TE}{pos':Pos}(hN:X.N.Nodup)(hi:X.N[i]?=some x)(hx:Loc X.env.scope x)(he:PE X e te)(hs:swapsWith e (some<|.Name x pos') pos.line X.env=pure false:=by rfl)(hf:X.fn x=true\/X.env.scope.names.lookup x=some .local:=by first|exact .inl rfl|exact .inr rfl|assumption):
  PS X (.Assign [.Name x pos'] e pos) (om te<|jv i):=by
 intro pins s σ H D I h;refine wpAny_Assign_Name (aF (he pins s σ H _ I h) λv s1 hZ=>?_) hs;have(y,H1,I1,r1,q1):=hZ;exact Bu I1 hN hi hx r1 (λs2 I2=>⟨_,H1,I2,q1⟩) hf
def Dp(i j:Nat)(ta:TA):TS:=λD σ H=>ta σ H λvs H1=>∃ v w,vs=[v,w]/\D.nx ((σ.set i<|some v).set j<|some w) H1
theorem UL{i j:Nat}{x y:Str}{a b:Expr}{ta:TA}{px py pt:Pos}{kt k2 rV}(hc:X.calm=true)(hN:X.N.Nodup)(hi:X.N[i]?=some x)(hj:X.N[j]?=some y)(ff:i≠j)
  (hx:X.env.scope.names.lookup x=some .local) (hy:X.env.scope.names.lookup y=some .local) (ha:PA X [a,b] ta)
  (hw:swappedStores [.Tuple [.Name x px,.Name y py] kt pt] (.Tuple [a,b] k2 rV) X.env=pure (some [x,y]))
  (hs:swapsWithSole [.Tuple [.Name x px,.Name y py] kt pt] (.Tuple [a,b] k2 rV) pos.line X.env=pure false:=by rfl):
  PS X (.Assign [.Tuple [.Name x px,.Name y py] kt pt] (.Tuple [a,b] k2 rV) pos) (Dp i j ta):=by
 intro pins s σ H D I h;rw[exec_Assign_arm];refine qa<|wpAny_standAt ?_;rw[hs];refine qa<|qb ?_;rw[if_neg (by decide)];refine qa<|Tuple_<|aF (ha _ pins s σ H _ I h) λus s1 hZ=>?_;have(vs,H1,I1,r1,q1):=hZ;have(v,w,e1,q1):=q1;subst e1;obtain⟨u1,u2,rfl,rv,jc⟩:∃ u1 u2,us=[u1,u2]/\zV v u1/\zV w u2:=by
  cases r1 with
  | cons p q=>
   cases q with
   | cons p' q'=>
    cases q';exact⟨_,_,rfl,p,p'⟩
 refine qB ?_ (by show 2<=sizeLine; decide);have I2:Inv X pins σ H1 {s1 with heap:=s1.heap.push {cls:=.type "tuple",data:=.seq [u1,u2].toArray}}:=I1.kept (t':=s1.toks) λb o e=>qd _ e;rw[hw];refine qa<|qb ?_;show wpAny (model X.prog X.w) X.A (do rule "assign.swapped-stores"; let items <-unpackItems (.ref s1.heap.objs.size) 2 none; assignInOrder [λv=>bindName X.env y v,λv=>bindName X.env x v] items.reverse; pure Flow.next) _ _ _;refine qa<|wpAny_rule<|qa<|unpackItems_tuple (items:=#[u1,u2]) (I.ok.hd hc) (IsTup.new s1.heap _) λh' nj=>?_;have I3:=I2.kept (h':=h') (t':=s1.toks) λb o e=>nj b o (qk<|qi e) e;show wpAny _ _ (assignInOrder [λv=>bindName X.env y v,λv=>bindName X.env x v] [u2,u1] >>= λ_=>pure Flow.next) _ _ _;refine qa<|assignInOrder_cons<|wpAny_bindName<|Bu I3 hN hj (.inl hy) jc (λs2 I4=>?_)<|.inr hy;refine assignInOrder_cons<|wpAny_bindName<|Bu I4 hN hi (.inl hx) rv (λs3 I5=>assignInOrder_nil<|qb ?_)<|.inr hx;rw[List.set_comm _ _<|Ne.symm ff]at I5;exact⟨_,H1,I5,q1⟩
end
section
variable{X:Cx}{pos:Pos}
def EI(c:TT)(tb:TS):TS:=λD σ H=>∃ W:Nat->St->Hp->Prop,(∃ m,W m σ H)/\∀ m σ H,W m σ H->
 c σ H λb H1=>if b=true then ∃ N:St->Hp->Prop,(∀ aE H',N aE H'->∃ m',m' < m/\W m' aE H')/\tb {D with nx:=N,ct:=N,bk:=D.nx} σ H1 else D.nx σ H1
theorem ZT{c:Expr}{body:Qa Stmt}{tc:TT}{tb:TS}(hp:PassesOwn (model X.prog X.w) X.A X.env X.xe)(hc:PT X c tc)(hb:dF X body tb):PS X (.While c body [] pos) (EI tc tb):=by
 intro pins s σ H D I h;obtain⟨W,⟨m0,w0⟩,turn⟩:=h;refine wpAny_While<|codeAny_whileLoop (λn s'=>∃ aE H',Inv X pins aE H' s'/\W n aE H') ?_ m0 ⟨σ,H,I,w0⟩;rintro n s1 ⟨c9,H1,I1,w1⟩;refine wpAny_passesOwn hp<|aF (hc pins s1 c9 H1 _ I1<|turn n c9 H1 w1) λb s2 hZ=>?_;have(H2,I2,q2):=hZ;cases b with
 | true=>
  have(N,hN,q2):=q2;rw[if_pos rfl];refine wpAny_passesOwn hp<|aF (hb pins s2 c9 H2 _ I2 q2) λf s3 q3=>?_;cases f with
  | next=>
   have(cL,H3,I3,n3):=q3;have(m',hm,w3):=hN cL H3 n3;exact⟨m',hm,cL,H3,I3,w3⟩
  | cont=>
   have(cL,H3,I3,n3):=q3;have(m',hm,w3):=hN cL H3 n3;exact⟨m',hm,cL,H3,I3,w3⟩
  | brk=>exact q3
  | ret v=>exact q3
 | false=>
  rw[if_neg qf];exact wpAny_execs_nil ⟨c9,H2,I2,q2⟩
end
structure It where
 go:Nat->Hp->Prop
 u9:Nat->Hp->V->Hp->Prop
 stop:Nat->Hp->Prop
def cu(X:Cx)(pins:Qa (Qg×Obj))(H:Hp)(b:Qg):Prop :=
 H b=none/\b≠X.env.locals/\b∉X.fs/\(b∈X.ex\/X.aW.heap.objs.size<=b)/\(∀ x c,X.env.cells.lookup x=some c->c≠b)/\∀ p∈X.pn++pins,p.1≠b
theorem Inv.cX{X:Cx}{pins:Qa (Qg×Obj)}{σ:St}{H H':Hp}{s:Qd}{b:Qg}(I:Inv X pins σ H s)(hb:s.heap.objs.size<=b)(hn:H' b=none):cu X pins H' b:=by
 refine⟨hn,ċ<|qj I.lt hb,I.GU hb,.inr<|qA I.sz hb,λx c e z=>?_,λp hp z=>?_⟩
 .have(v,q):=I.cell x c e
  exact absurd (qj q.lt (by rw[z]; exact hb))<|Ç _
 .exact absurd (qj (qi (I.pin p hp).1) (by rw[z]; exact hb)) (Ç _)
structure Turn (P:Qe) (w:Qh) (K:qc) (tg:Expr) (J:It) (fp:Qa Qg) (it:Qg) (tn:Nat->Heap->Prop):Prop where
 mem:it∈fp
 obj:∀ i h,tn i h->∀ b∈fp,∃ o,h.get? b=some o/\∀ v,o.data≠.cell v
 keep:∀ i h h',tn i h->(∀ b∈fp,∀ o,h.get? b=some o->h'.get? b=some o)->tn i h'
 item:∀ (X:Cx),X.prog=P->X.w=w->X.K=K->X.calm=true->∀ (i:Nat) (pins:Qa (Qg×Obj)) (s:Qd) (σ:St) (H:Hp) (E:Qc->Qd->Prop),Inv X pins σ H s->(∀ b∈fp,cu X pins H b)->tn i s.heap->J.go i H->
  wpAny (model P w) X.A (pyNext<|.ref it) (λr s1=>∃ u,r=some u/\
   wpAny (model P w) X.A (letOwnedTupleGo tg (.ref it) u) (λ_ s2=>∃ x H',Inv X pins σ H' s2/\zV x u/\J.u9 i H x H'/\tn (i+1) s2.heap/\∀ b∈fp,H' b=none) E s1) E s
 done:∀ (X:Cx),X.prog=P->X.w=w->X.K=K->X.calm=true->∀ (i:Nat) (pins:Qa (Qg×Obj)) (s:Qd) (σ:St) (H:Hp) (E:Qc->Qd->Prop),Inv X pins σ H s->(∀ b∈fp,cu X pins H b)->tn i s.heap->J.stop i H->
  wpAny (model P w) X.A (pyNext<|.ref it) (λr s1=>r=none/\Inv X pins σ H s1) E s
 self:∀ (A:Qf) (i:Nat) (s:Qd) (Q:Qc->Qd->Prop) (E:Qc->Qd->Prop),tn i s.heap->Q (.ref it) s->wpAny (model P w) A (pyIter<|.ref it) Q E s
abbrev TI:=St->Hp->(It->Hp->Prop)->Prop
def Iq(X:Cx)(pins:Qa (Qg×Obj))(σ:St)(tg:Expr)(R:It->Hp->Prop)(pU:Qc)(s2:Qd):Prop :=
 ∃ (it:Qg) (fp:Qa Qg) (tn:Nat->Heap->Prop) (J:It) (H':Hp),pU=.ref it/\Inv X pins σ H' s2/\Turn X.prog X.w X.K tg J fp it tn/\tn 0 s2.heap/\(∀ b∈fp,cu X pins H' b)/\R J H'
def PI(X:Cx)(tg iter:Expr)(wi:TI):Prop :=
 ∀ (pins:Qa (Qg×Obj)) (s:Qd) (σ:St) (H:Hp) (R:It->Hp->Prop),Inv X pins σ H s->wi σ H R->
  wpAny (model X.prog X.w) X.A (eval iter X.env) (λv s1=>wpAny (model X.prog X.w) X.A (pyIter v) (Iq X pins σ tg R) X.xe s1) X.xe s
theorem Av{M:Model}{A:Qf}{E:Qc->Qd->Prop}{s:Qd}{tg:Expr}{it:Qg}{u:Qc}{o:Obj}{n:String}{vs:Array Qc}{Q:Unit->Qd->Prop}(ho:s.heap.get? it=some o)(hc:o.cls=.type n)(hd:o.data=.fields vs)
  (hn:["enumerate", "zip", "dict_itemiterator", "dict_reverseitemiterator", "odict_iterator", "itertools.zip_longest", "itertools.pairwise"].contains n=false) (hQ:Q () s):wpAny M A (letOwnedTupleGo tg (.ref it) u) Q E s:=by
 unfold letOwnedTupleGo;cases tg<;>first
  | exact qb hQ
  | (cases u<;>first
    | exact qb hQ
    | (refine qa<|wpAny_load ho ?_
       rw[hc,hd];show wpAny M A (if(["enumerate", "zip", "dict_itemiterator", "dict_reverseitemiterator", "odict_iterator", "itertools.zip_longest", "itertools.pairwise"].contains n && vs[0]?==some (rawInt _))=true then _ else _) Q E s;rw[if_neg (by intro h; rw[hn,Bool.false_and]at h; cases h)];exact qb hQ))
def Rt(K:qc)(a:Qg):It :=
 ⟨λi H=>∃ xs x,bq K H a xs/\xs[i]?=some x,λi H x H'=>H'=H/\∀ xs,bq K H a xs->xs[i]?=some x,λi H=>∃ xs,bq K H a xs/\xs.length<=i⟩
def Rr(K:qc)(a:Qg):It :=
 ⟨λi H=>∃ xs x,bg K H a xs/\xs[i]?=some x,λi H x H'=>H'=H/\∀ xs,bg K H a xs->xs[i]?=some x,λi H=>∃ xs,bg K H a xs/\xs.length<=i⟩
def CH(lo:Int)(n:Nat):It:=⟨λi _=>i < n,λi H x H'=>H'=H/\x=.int (lo+i),λi _=>n<=i⟩
theorem zoT{P:Qe}{w:Qh}{K:qc}{tg:Expr}(a it:Qg):Turn P w K tg (Rt K a) [it] it (λi h=>h.IsListIter it a i) where
 mem:=by simp
 obj:=λi h st b hb=>by
  have e:b=it:=by simpa using hb
  subst e;have(o,e,c,d):=st;exact⟨o,e,λv z=>by rw[d]at z; cases z⟩
 keep:=λi h h' st k=>st.at λo e=>k it (by simp) o e
 item:=by
  intro X hP hw hK hc i pins s σ H E I hf st hg;subst hP hw hK;have(xs,x,hq,hx):=hg;have(ae,rv,p,hz):=I.list hq;have(u,hu,ru):=rv.get hx;have(f0,f1,f2,f3,f4,f5):=hf it (by simp);refine wpAny_pyNext_list_item st p.isList (x:=u) (by simpa using hu) λh' dz sb=>?_;have I1:Inv X pins σ H {s with heap:=h'}:=I.turned (t':=s.toks) (λb o hb e=>(sb.2 b hb).trans e) f0 f1 f3 f4 f5;have(o,e,c,d):=id dz;exact⟨u,rfl,Av (s:={s with heap:=h'}) e c d (by decide) ⟨x,H,I1,ru,⟨rfl,λys hy=>by rw[I.kf hy hq]; exact hx⟩,dz,λb hb=>(hf b hb).1⟩⟩
 done:=by
  intro X hP hw hK hc i pins s σ H E I hf st hg;subst hP hw hK;have(xs,hq,hx):=hg;have(ae,rv,p,hz):=I.list hq;have(f0,f1,f2,f3,f4,f5):=hf it (by simp);have hl:=rv.length;exact wpAny_pyNext_list_end (I.ok.hd hc) st p.isList (by simp; omega) λh' eb=>⟨rfl,I.turned (t':=s.toks) (λb o hb e=>eb b o hb e) f0 f1 f3 f4 f5⟩
 self:=λ_ _ _ _ _ st h=>wpAny_pyIter_listiter st h
theorem zlL{P:Qe}{w:Qh}{K:qc}{tg:Expr}(a it:Qg):Turn P w K tg (Rr K a) [it] it (λi h=>h.IsTupleIter it a i) where
 mem:=by simp
 obj:=λi h st b hb=>by
  have e:b=it:=by simpa using hb
  subst e;have(o,e,c,d):=st;exact⟨o,e,λv z=>by rw[d]at z; cases z⟩
 keep:=λi h h' st k=>st.at λo e=>k it (by simp) o e
 item:=by
  intro X hP hw hK hc i pins s σ H E I hf st hg;subst hP hw hK;have(xs,x,hq,hx):=hg;have(ae,rv,p,hz):=I.tuple hq;have(u,hu,ru):=rv.get hx;have(f0,f1,f2,f3,f4,f5):=hf it (by simp);refine wpAny_pyNext_tuple_item st (show s.heap.IsTuple a ae.toArray from p) (x:=u) (by simpa using hu) λh' dz sb=>?_;have I1:Inv X pins σ H {s with heap:=h'}:=I.turned (t':=s.toks) (λb o hb e=>(sb.2 b hb).trans e) f0 f1 f3 f4 f5;have(o,e,c,d):=id dz;exact⟨u,rfl,Av (s:={s with heap:=h'}) e c d (by decide) ⟨x,H,I1,ru,⟨rfl,λys hy=>by rw[I.cH hy hq]; exact hx⟩,dz,λb hb=>(hf b hb).1⟩⟩
 done:=by
  intro X hP hw hK hc i pins s σ H E I hf st hg;subst hP hw hK;have(xs,hq,hx):=hg;have(ae,rv,p,hz):=I.tuple hq;have(f0,f1,f2,f3,f4,f5):=hf it (by simp);have hl:=rv.length;exact wpAny_pyNext_tuple_end (I.ok.hd hc) st (show s.heap.IsTuple a ae.toArray from p) (by simp; omega) λh' eb=>⟨rfl,I.turned (t':=s.toks) (λb o hb e=>eb b o hb e) f0 f1 f3 f4 f5⟩
 self:=λ_ _ _ _ _ st h=>wpAny_pyIter_tupleiter st h
theorem zlM{P:Qe}{w:Qh}{K:qc}{tg:Expr}(it:Qg)(lo:Int)(n:Nat):Turn P w K tg (CH lo n) [it] it (λi h=>IsRangeIter h it (lo+(i:Nat) * 1) ((n:Int) - (i:Nat)) 1) where
 mem:=by simp
 obj:=λi h st b hb=>by
  have e:b=it:=by simpa using hb
  subst e;exact⟨_,st,λv z=>by
   have z':Data.fields _=Data.cell v:=z;cases z'⟩
 keep:=λi h h' st k=>k it (by simp) _ st
 item:=by
  intro X hP hw hK hc i pins s σ H E I hf st hg;subst hP hw hK;have(f0,f1,f2,f3,f4,f5):=hf it (by simp);have W:=Walks.range (prog:=X.prog) (w:=X.w) (I.ok.hd hc) it lo 1 n;refine W.item i s _ _ hg st λv h' tk hv dz kk=>?_;have(t,rfl):=hv;have I1:Inv X pins σ H {s with heap:=h',toks:=tk}:=I.turned (λb o hb e=>kk b o (by simpa using hb) e) f0 f1 f3 f4 f5;refine⟨_,rfl,Av (s:={s with heap:=h',toks:=tk}) (n := "range_iterator") dz rfl rfl (by decide) ⟨.int<|lo+i,H,I1,⟨t,?_⟩,⟨rfl,rfl⟩,dz,λb hb=>(hf b hb).1⟩⟩;rw[Int.mul_one]
 done:=by
  intro X hP hw hK hc i pins s σ H E I hf st hg;subst hP hw hK;have(f0,f1,f2,f3,f4,f5):=hf it (by simp);exact wpAny_pyNext_range_end (I.ok.hd hc) st (by have:n<=i:=hg; omega) λh' eb=>⟨rfl,I.turned (t':=s.toks) (λb o hb e=>eb b o hb e) f0 f1 f3 f4 f5⟩
 self:=λ_ _ _ _ _ st h=>wpAny_pyIter_rangeiter st h
section
variable{X:Cx}{tg:Expr}
def D5(K:qc)(tl:TE):TI:=λσ H R=>tl σ H λx H1=>∃ a,x=.ref a/\(∃ xs,bq K H1 a xs)/\R (Rt K a) H1
def Dm(K:qc)(tl:TE):TI:=λσ H R=>tl σ H λx H1=>∃ a,x=.ref a/\(∃ xs,bg K H1 a xs)/\R (Rr K a) H1
theorem Xe{l:Expr}{tl:TE}(hl:PE X l tl):PI X tg l (D5 X.K tl):=by
 intro pins s σ H R I h;refine aF (hl pins s σ H _ I h) λv s1 hZ=>?_;have(x,H1,I1,r1,q1):=hZ;obtain⟨a,e,⟨xs,hq⟩,q⟩:=q1;subst e;cases r1;have(ae,rv,p,hz):=I1.list hq;refine wpAny_pyIter_list p.isList ?_;refine⟨s1.heap.objs.size,[s1.heap.objs.size],_,_,H1,rfl,I1.kept (t':=s1.toks) λb o e=>qd _ e,zoT a _,⟨_,qg _ rfl,rfl,rfl⟩,λb hb=>?_,q⟩;have e:b=s1.heap.objs.size:=by simpa using hb
 subst e;exact I1.cX (qe _)<|I1.az.fresh<|qe _
theorem UK{l:Expr}{tl:TE}(hl:PE X l tl):PI X tg l (Dm X.K tl):=by
 intro pins s σ H R I h;refine aF (hl pins s σ H _ I h) λv s1 hZ=>?_;have(x,H1,I1,r1,q1):=hZ;obtain⟨a,e,⟨xs,hq⟩,q⟩:=q1;subst e;cases r1;have(ae,rv,p,hz):=I1.tuple hq;refine wpAny_pyIter_tuple (show s1.heap.IsTuple a ae.toArray from p) ?_;refine⟨s1.heap.objs.size,[s1.heap.objs.size],_,_,H1,rfl,I1.kept (t':=s1.toks) λb o e=>qd _ e,zlL a _,⟨_,qg _ rfl,rfl,rfl⟩,λb hb=>?_,q⟩;have e:b=s1.heap.objs.size:=by simpa using hb
 subst e;exact I1.cX (qe _)<|I1.az.fresh<|qe _
theorem ZS{pins:Qa (Qg×Obj)}{σ:St}{H:Hp}{s:Qd}{R:It->Hp->Prop}{E:Qc->Qd->Prop}{lo hi:Int}{t u v:Tok}{tk:Nat}(I:Inv X pins σ H s)(h1:-(2^62)<=lo)(h2:lo < 2^62)(h3:-(2^62)<=hi)(h4:hi < 2^62)
  (q:R (CH lo (hi - lo).toNat) H):wpAny (model X.prog X.w) X.A (pyIter<|.ref s.heap.objs.size) (Iq X pins σ tg R) E {s with heap:=s.heap.push {cls:=.type "range",data:=.fields #[.int lo t,.int hi u,.int 1 v]},toks:=tk}:=by
 refine wpAny_pyIter_range (IsRange.new ..) (small_one h1 h2 h3 h4) ?_;have I1:Inv X pins σ H {s with heap:=s.heap.push {cls:=.type "range",data:=.fields #[.int lo t,.int hi u,.int 1 v]},toks:=tk}:=I.kept λb o e=>qd _ e;refine⟨(s.heap.push {cls:=.type "range",data:=.fields #[.int lo t,.int hi u,.int 1 v]}).objs.size,[(s.heap.push {cls:=.type "range",data:=.fields #[.int lo t,.int hi u,.int 1 v]}).objs.size],_,_,H,rfl,
  I1.kept (t':=tk) λb o e=>qd _ e,zlM _ lo (hi - lo).toNat,?_,λb hb=>?_,q⟩
 .have e1:lo+((0:Nat):Int) * 1=lo:=by simp
  have e2:(((hi - lo).toNat:Nat):Int) - ((0:Nat):Int)=Builtin.Range.rangeSize lo hi 1:=by rw[rangeSize_one]; split<;>omega
  show IsRangeIter _ _ (lo+((0:Nat):Int) * 1) ((((hi - lo).toNat:Nat):Int) - ((0:Nat):Int)) 1;rw[e1,e2];exact qg _ rfl
 .have e:b=(s.heap.push {cls:=.type "range",data:=.fields #[.int lo t,.int hi u,.int 1 v]}).objs.size:=by simpa using hb
  subst e;exact I1.cX (qe _)<|I1.az.fresh<|qe _
def D4(ta:TA):TI:=λσ H R=>ta σ H λvs H1=>∃ j:Int,vs=[.int j]/\-(2^62)<=j/\j < 2^62/\R (CH 0 j.toNat) H1
theorem zoU{a:Expr}{ta:TA}{p pos:Pos}(hg:Gl X "range")(hm:X.mg "range"=none)(ha:PA X [a] ta)(hs:starEach [a] X.env=[(false,eval a X.env)]:=by rfl):PI X tg (.Call (.Name "range" p) [a] [] pos) (D4 ta):=by
 intro pins s σ H R I h;refine Call_<|uI I hg hm boot_range<|Ć (aF (ha pos pins s σ H _ I h) λus s1 hZ=>?_) hs rfl;have(vs,H1,I1,r1,q1):=hZ;have(j,e,q1,q2,q):=q1;subst e;cases r1 with
 | cons r rr=>
  cases rr;have(t,rfl):=r;exact call_range_1<|ZS I1 (by omega) (by omega) q1 q2 (by simpa using q)
def Dl(wi:TI)(g:TG)(tb:TS):TS:=λD σ H=>wi σ H λJ H1=>∃ W:Nat->Nat->St->Hp->Prop,(∃ m,W 0 m σ H1)/\∀ i m σ H,W i m σ H->
 (J.stop i H/\D.nx σ H)\/(J.go i H/\∃ N:St->Hp->Prop,(∀ aE H',N aE H'->∃ m',m' < m/\W (i+1) m' aE H')/\∀ x H',J.u9 i H x H'->g x σ H' λdG H2=>tb {D with nx:=N,ct:=N,bk:=D.nx} dG H2)
def uH(fp:Qa Qg)(h:Heap):Qa (Qg×Obj):=fp.filterMap λb=>(h.get? b).map λo=>(b,o)
theorem pK{fp:Qa Qg}{h:Heap}{b:Qg}{o:Obj}(hb:b∈fp)(e:h.get? b=some o):(b,o)∈uH fp h:=List.mem_filterMap.mpr ⟨b,hb,by rw[e]; rfl⟩
theorem zoV{fp:Qa Qg}{h:Heap}{p:Qg×Obj}(hp:p∈uH fp h):p.1∈fp/\h.get? p.1=some p.2:=by
 have(b,hb,e):=List.mem_filterMap.mp hp;cases q:h.get? b with
 | none=>rw[q]at e; cases e
 | some o=>
  rw[q]at e;have e':(b,o)=p:=qy e;subst e';exact⟨hb,q⟩
theorem Inv.pinned{pins:Qa (Qg×Obj)}{σ:St}{H:Hp}{s:Qd}{fp:Qa Qg}(I:Inv X pins σ H s)(hf:∀ b∈fp,cu X pins H b)(ho:∀ b∈fp,∃ o,s.heap.get? b=some o/\∀ v,o.data≠.cell v):Inv X (pins++uH fp s.heap) σ H s :=
 I.aY λp hp=>(Ä.mp hp).elim (λz=>I.pin p<|qx _ z) λz=>by
  have(hb,e):=zoV z;have(f0,f1,f2,_):=hf p.1 hb;have(o,e',d):=ho p.1 hb;rw[e]at e'; cases e';exact⟨e,f0,f1,f2,d⟩
theorem Inv.bS{pins pl:Qa (Qg×Obj)}{σ:St}{H:Hp}{s:Qd}(I:Inv X (pins++pl) σ H s):Inv X pins σ H s:=I.aY λp hp=>I.pin p<|qx _<|É _ hp
theorem UJ{iter:Expr}{body:Qa Stmt}{wi:TI}{g:TG}{tb:TS}{pos:Pos}(hp:PassesOwn (model X.prog X.w) X.A X.env X.xe)(hc:X.calm=true)(hi:PI X tg iter wi)(hg:PG X tg g)(hb:dF X body tb)
  (hs:∀ x,foldedSetIterable iter X.env x=pure x:=by intro _; rfl):PS X (.For tg iter body [] pos) (Dl wi g tb):=by
 intro pins s σ H D I h;refine wpAny_For (aF (hi pins s σ H _ I h) λv s1 h1=>aF h1 λpU s2 h2=>?_) hs;obtain⟨it,fp,tn,J,H2,e,I2,T,jw,f2,W,⟨m0,w0⟩,turn⟩:=h2;subst e;have rT:∀ {H':Hp},(∀ b∈fp,H' b=none)->∀ b∈fp,cu X pins H' b:=λhn b hb=>⟨hn b hb,(f2 b hb).2⟩;refine codeAny_forLoop_any (λn s'=>∃ i aE H',Inv X pins aE H' s'/\tn i s'.heap/\(∀ b∈fp,H' b=none)/\W i n aE H') ?_ m0 ⟨0,σ,H2,I2,jw,λb hb=>(f2 b hb).1,w0⟩;rintro n s3 ⟨i,cL,H3,I3,lO,qF,w3⟩;rcases turn i n cL H3 w3 with⟨stop,qn⟩|⟨go,N,hN,step⟩
 .refine wpAny_passesOwn hp (aF (T.done X rfl rfl rfl hc i pins s3 cL H3 X.xe I3 (rT qF) lO stop) λr s4 hZ=>?_)
  have(hr,I4):=hZ;subst hr;exact wpAny_execs_nil ⟨cL,H3,I4,qn⟩
 .refine wpAny_passesOwn hp (aF (T.item X rfl rfl rfl hc i pins s3 cL H3 X.xe I3 (rT qF) lO go) λr s4 hZ=>?_)
  have(u,hr,h4):=hZ;subst hr;refine wpAny_passesOwn hp<|aF h4 λ_ s5 hZ=>?_;have(x,H5,I5,r5,y5,jW,yt):=hZ;have yD:=I5.pinned (rT yt) (T.obj _ _ jW);refine wpAny_passesOwn hp<|aF (hg _ s5 cL H5 x u _ yD r5<|step x H5 y5) λ_ s6 hZ=>?_;have(kI,H6,I6,q6):=hZ;refine wpAny_passesOwn hp<|aF (hb _ s6 kI H6 _ I6 q6) λf s7 q7=>?_;have again:∀ {jC:St} {H7:Hp},Inv X (pins++uH fp s5.heap) jC H7 s7->N jC H7->∃ m,m < n/\∃ i aE H',Inv X pins aE H' s7/\tn i s7.heap/\(∀ b∈fp,H' b=none)/\W i m aE H':=λ{jC H7} I7 n7=>by
   have(m',hm,w7):=hN jC H7 n7;refine⟨m',hm,i+1,jC,H7,I7.bS,T.keep _ _ _ jW λb hb o e=>(I7.pin (b,o)<|qx _<|qx _<|pK hb e).1,λb hb=>?_,w7⟩;have(o,e,d):=T.obj _ _ jW b hb;exact(I7.pin (b,o)<|qx _<|qx _<|pK hb e).2.1
  cases f with
  | next=>have(jC,H7,I7,n7):=q7; exact again I7 n7
  | cont=>have(jC,H7,I7,n7):=q7; exact again I7 n7
  | brk=>have(jC,H7,I7,q7):=q7; exact⟨jC,H7,I7.bS,q7⟩
  | ret v=>have(x7,jC,H7,I7,r7,q7):=q7; exact⟨x7,jC,H7,I7.bS,r7,q7⟩
end
abbrev R2:=V->V->Hp->VK->Prop
def cC(X:Cx)(f:Qc->Qc->Sem Qc)(r:R2):Prop :=
 ∀ (pins:Qa (Qg×Obj)) (s:Qd) (σ:St) (H:Hp) (x y:V) (v u:Qc) (Q:VK),Inv X pins σ H s->zV x v->zV y u->r x y H Q->
  wpAny (model X.prog X.w) X.A (f v u) (EP X pins σ Q) X.xe s
def CB(X:Cx)(f:Qc->Sem Qc)(r:V->Hp->VK->Prop):Prop :=
 ∀ (pins:Qa (Qg×Obj)) (s:Qd) (σ:St) (H:Hp) (x:V) (v:Qc) (Q:VK),Inv X pins σ H s->zV x v->r x H Q->
  wpAny (model X.prog X.w) X.A (f v) (EP X pins σ Q) X.xe s
def du(X:Cx)(f:Qc)(r:Qa V->Hp->VK->Prop):Prop :=
 ∀ (pins:Qa (Qg×Obj)) (s:Qd) (σ:St) (H:Hp) (xs:Qa V) (us:Qa Qc) (Q:VK),Inv X pins σ H s->zO xs us->r xs H Q->
  wpAny (model X.prog X.w) X.A (call f us) (EP X pins σ Q) X.xe s
def zAa(X:Cx)(r:V->Hp->(Bool->Hp->Prop)->Prop):Prop :=
 ∀ (pins:Qa (Qg×Obj)) (s:Qd) (σ:St) (H:Hp) (x:V) (v:Qc) (Q:Bool->Hp->Prop),Inv X pins σ H s->zV x v->r x H Q->
  wpAny (model X.prog X.w) X.A (truthy v) (TP X pins σ Q) X.xe s
def mX(r:R2)(ta tb:TE):TE:=λσ H Q=>ta σ H λx H1=>tb σ H1 λy H2=>r x y H2 Q
def Gu(r:V->Hp->VK->Prop)(ta:TE):TE:=λσ H Q=>ta σ H λx H1=>r x H1 Q
def rI(C:Int->Int->Prop)(g:Int->Int->V):R2:=λx y H Q=>∃ i j,x=.int i/\y=.int j/\C i j/\Q (g i j) H
def jd(g:Int->Int->V):R2:=λx y H Q=>∃ i j,x=.int i/\y=.int j/\Q (g i j) H
def rU(g:Int->V):V->Hp->VK->Prop:=λx H Q=>∃ i,x=.int i/\Q (g i) H
section
variable{X:Cx}{a b c:Expr}{ta tb tc:TE}{pos:Pos}
theorem Dk(ha:PE X a ta)(hb:PE X b tb){pins:Qa (Qg×Obj)}{s:Qd}{σ:St}{H:Hp}{R:V->V->Hp->Prop}(I:Inv X pins σ H s)
  (h:ta σ H λx H1=>tb σ H1 λy H2=>R x y H2) {Q:Qc->Qd->Prop} {f:Qc->Qc->Sem Qc}
  (hf:∀ v u s2 x y H2,Inv X pins σ H2 s2->zV x v->zV y u->R x y H2->wpAny (model X.prog X.w) X.A (f v u) Q X.xe s2):
  wpAny (model X.prog X.w) X.A (eval a X.env) (λv aC=>wpAny (model X.prog X.w) X.A (eval b X.env) (λu gr=>wpAny (model X.prog X.w) X.A (f v u) Q X.xe gr) X.xe aC) X.xe s:=by
 refine aF (ha pins s σ H _ I h) λv s1 hZ=>?_;have(x,H1,I1,r1,q1):=hZ;refine aF (hb pins s1 σ H1 _ I1 q1) λu s2 hZ=>?_;have(y,H2,I2,r2,q2):=hZ;exact hf v u s2 x y H2 I2 r1 r2 q2
theorem SM{op:Operator}{r:R2}(ho:cC X (binaryOp op) r)(ha:PE X a ta)(hb:PE X b tb):PE X (.BinOp a op b pos) (mX r ta tb):=by
 intro pins s σ H Q I h;exact wpAny_BinOp<|Dk ha hb I h λv u s2 x y H2 I2 rx ry q=>ho pins s2 σ H2 x y v u Q I2 rx ry q
theorem SK{op:UnaryOp}{r:V->Hp->VK->Prop}(ho:CB X (unaryOp op) r)(ha:PE X a ta):PE X (.UnaryOp op a pos) (Gu r ta):=by
 intro pins s σ H Q I h;exact UnaryOp_<|aF (ha pins s σ H _ I h) λv s1 ⟨x,H1,I1,r1,q1⟩=>ho pins s1 σ H1 x v Q I1 r1 q1
theorem rZ{f:Qc->Qc->Sem Qc}{C:Int->Int->Prop}{g:Int->Int->Int}
  (rule:∀ (i j:Int) (t u:Tok) (s:Qd) (Q:Qc->Qd->Prop) (E:Qc->Qd->Prop),C i j->Q (.int (g i j) s.toks) {s with toks:=s.toks+1}->wpAny (model X.prog X.w) X.A (f (.int i t)<|.int j u) Q E s):
  cC X f (rI C λi j=>.int<|g i j):=by
 intro pins s σ H x y v u Q I rx ry h;have(i,j,rfl,rfl,hc,q):=h;have(t,rfl):=rx;have(t',rfl):=ry;exact rule i j t t' s _ _ hc ⟨.int<|g i j,H,I.tok _,⟨_,rfl⟩,q⟩
theorem Jc{f:Qc->Qc->Sem Qc}{g:Int->Int->Int}
  (rule:∀ (i j:Int) (t u:Tok) (s:Qd) (Q:Qc->Qd->Prop) (E:Qc->Qd->Prop),Q (.int (g i j) s.toks) {s with toks:=s.toks+1}->wpAny (model X.prog X.w) X.A (f (.int i t)<|.int j u) Q E s):
  cC X f (jd λi j=>.int<|g i j):=by
 intro pins s σ H x y v u Q I rx ry h;have(i,j,rfl,rfl,q):=h;have(t,rfl):=rx;have(t',rfl):=ry;exact rule i j t t' s _ _ ⟨.int<|g i j,H,I.tok _,⟨_,rfl⟩,q⟩
theorem Dj{f:Qc->Qc->Sem Qc}{g:Int->Int->Bool}
  (rule:∀ (i j:Int) (t u:Tok) (s:Qd) (Q:Qc->Qd->Prop) (E:Qc->Qd->Prop),Q (.bool<|g i j) s->wpAny (model X.prog X.w) X.A (f (.int i t)<|.int j u) Q E s):
  cC X f (jd λi j=>.bl<|g i j):=by
 intro pins s σ H x y v u Q I rx ry h;have(i,j,rfl,rfl,q):=h;have(t,rfl):=rx;have(t',rfl):=ry;exact rule i j t t' s _ _ ⟨.bl<|g i j,H,I,rfl,q⟩
def yR(i j:Int):Prop:=0<=j/\j<=1000000/\i.natAbs < 2^64
def tU(i j:Int):Prop:=(-(2^64) < i/\i < 2^64)\/(-(2^64) < j/\j < 2^64)
theorem tU.ok{i j:Int}(h:tU i j):IntMulOk i j:=by
 rcases h with⟨h1,h2⟩|⟨h1,h2⟩
 .exact .of_left (intBits_le_64 h1 h2)
 .exact .of_right (intBits_le_64 h1 h2)
theorem fO:cC X (binaryOp .Add) (jd λi j=>.int<|i+j):=Jc λ_ _ _ _ _ _ _ q=>add_int q
theorem lA:cC X (binaryOp .Sub) (jd λi j=>.int<|i - j):=Jc λ_ _ _ _ _ _ _ q=>sub_int q
theorem mQ:cC X (binaryOp .Mult) (rI tU λi j=>.int<|i * j):=rZ λ_ _ _ _ _ _ _ hc q=>mul_int q hc.ok
theorem lx:cC X (binaryOp .Mod) (rI (λ_ j=>0 < j) λi j=>.int<|i % j):=rZ λi j _ _ _ _ _ hc q=>by
 have h1:(0:Int) < j:=hc;exact mod_int' (by omega) (by rw[Int.fmod_eq_emod_of_nonneg i (by omega)]; exact q)
theorem Xd:cC X (binaryOp .Mod) (rI (λ_ j=>j≠0) λi j=>.int<|i.fmod j):=rZ λ_ _ _ _ _ _ _ hc q=>mod_int' hc q
theorem UI:cC X (binaryOp .Pow) (rI yR λi j=>.int<|i^j.toNat):=rZ λ_ _ _ _ _ _ _ hc q=>pow_int_small hc.1 hc.2.1 hc.2.2 q
theorem unI{f:Qc->Sem Qc}{g:Int->Int}
  (rule:∀ (i:Int) (t:Tok) (s:Qd) (Q:Qc->Qd->Prop) (E:Qc->Qd->Prop),Q (.int (g i) s.toks) {s with toks:=s.toks+1}->wpAny (model X.prog X.w) X.A (f<|.int i t) Q E s):
  CB X f (rU λi=>.int<|g i):=by
 intro pins s σ H x v Q I rx h;have(i,rfl,q):=h;have(t,rfl):=rx;exact rule i t s _ _ ⟨.int<|g i,H,I.tok _,⟨_,rfl⟩,q⟩
theorem wy:CB X (unaryOp .USub) (rU λi=>.int (-i)):=unI λ_ _ _ _ _ q=>neg_int q
end
def yQ:V->V->Bool
 | .aT,.aT=>true | .aT,.int _=>true | .int _,.aT=>true | .aT,.bl _=>true | .bl _,.aT=>true | .aT,.str _=>true | .str _,.aT=>true
 | .int _,.int _=>true | .bl _,.bl _=>true | .str _,.str _=>true | .jk _,.jk _=>true
 | .int _,.str _=>true | .str _,.int _=>true | .bl _,.str _=>true | .str _,.bl _=>true
 | _,_=>false
def Pl:R2:=λx y H Q=>yQ x y=true/\Q (.bl<|decide<|x=y) H
def Pj:R2:=λx y H Q=>yQ x y=true/\Q (.bl (!decide (x=y))) H
theorem L4{i j:Int}:decide (V.int i=V.int j)=(i==j):=by
 rw[Bool.eq_iff_iff];simp
theorem KS{i j:Bool}:decide (V.bl i=V.bl j)=(i==j):=by
 rw[Bool.eq_iff_iff];simp
theorem L3{i j:Str}:decide (V.str i=V.str j)=(i==j):=by
 rw[Bool.eq_iff_iff];simp
theorem L1{i j:Array UInt8}:decide (V.jk i=V.jk j)=(i.toList==j.toList):=by
 rw[Bool.eq_iff_iff];cases i;cases j;simp
section
variable{X:Cx}{a b c:Expr}{ta tb tc:TE}{pos:Pos}
theorem b4{pins:Qa (Qg×Obj)}{σ:St}{H:Hp}{s:Qd}{Q:VK}{k k':Bool}(I:Inv X pins σ H s)(q:Q (.bl k) H)(e:k=k'):EP X pins σ Q (.bool k') s:=by
 subst e;exact⟨.bl k,H,I,rfl,q⟩
theorem SJ:cC X (compareOp .Eq) Pl:=by
 intro pins s σ H x y v u Q I rx ry h;have(hs,q):=h;cases x with
 | aT=>
  cases rx;cases y with
  | aT=>cases ry; exact PySem.EqNone.eq_none_none<|b4 I q (by simp)
  | bl j=>cases ry; exact PySem.EqNone.eq_none_bool<|b4 I q (by simp)
  | int j=>have(t',rfl):=ry; exact PySem.EqNone.eq_none_int<|b4 I q (by simp)
  | str j=>have(t',rfl):=ry; exact PySem.EqNone.eq_none_str<|b4 I q (by simp)
  | _=>exact absurd (show false=true from hs) qf
 | bl i=>
  cases rx;cases y with
  | aT=>cases ry; exact PySem.EqNone.eq_bool_none<|b4 I q (by simp)
  | bl j=>cases ry; exact eq_bool<|b4 I q KS
  | str j=>have(t',rfl):=ry; exact PySem.EqMixed.eq_bool_str<|b4 I q (by simp)
  | _=>exact absurd (show false=true from hs) qf
 | int i=>
  have(t,rfl):=rx;cases y with
  | aT=>cases ry; exact PySem.EqNone.eq_int_none<|b4 I q (by simp)
  | int j=>have(t',rfl):=ry; exact eq_int<|b4 I q L4
  | str j=>have(t',rfl):=ry; exact PySem.EqMixed.eq_int_str<|b4 I q (by simp)
  | _=>exact absurd (show false=true from hs) qf
 | str i=>
  have(t,rfl):=rx;cases y with
  | aT=>cases ry; exact PySem.EqNone.eq_str_none<|b4 I q (by simp)
  | bl j=>cases ry; exact PySem.EqMixed.eq_str_bool<|b4 I q (by simp)
  | int j=>have(t',rfl):=ry; exact PySem.EqMixed.eq_str_int<|b4 I q (by simp)
  | str j=>have(t',rfl):=ry; exact eq_str<|b4 I q L3
  | _=>exact absurd (show false=true from hs) qf
 | jk i=>
  have(t,rfl):=rx;cases y with
  | jk j=>have(t',rfl):=ry; exact PySem.W.eq_bytes<|b4 I q L1
  | _=>exact absurd (show false=true from hs) qf
 | _=>cases y<;>exact absurd (show false=true from hs) qf
theorem tX:cC X (compareOp .NotEq) Pj:=by
 intro pins s σ H x y v u Q I rx ry h;have(hs,q):=h;cases x with
 | aT=>
  cases rx;cases y with
  | aT=>cases ry; exact PySem.EqNone.ne_none_none<|b4 I q (by simp)
  | bl j=>cases ry; exact PySem.EqNone.ne_none_bool<|b4 I q (by simp)
  | int j=>have(t',rfl):=ry; exact PySem.EqNone.ne_none_int<|b4 I q (by simp)
  | str j=>have(t',rfl):=ry; exact PySem.EqNone.ne_none_str<|b4 I q (by simp)
  | _=>exact absurd (show false=true from hs) qf
 | bl i=>
  cases rx;cases y with
  | aT=>cases ry; exact PySem.EqNone.ne_bool_none<|b4 I q (by simp)
  | bl j=>cases ry; exact ne_bool<|b4 I q<|congrArg not KS
  | str j=>have(t',rfl):=ry; exact PySem.EqMixed.ne_bool_str<|b4 I q (by simp)
  | _=>exact absurd (show false=true from hs) qf
 | int i=>
  have(t,rfl):=rx;cases y with
  | aT=>cases ry; exact PySem.EqNone.ne_int_none<|b4 I q (by simp)
  | int j=>have(t',rfl):=ry; exact ne_int<|b4 I q<|congrArg not L4
  | str j=>have(t',rfl):=ry; exact PySem.EqMixed.ne_int_str<|b4 I q (by simp)
  | _=>exact absurd (show false=true from hs) qf
 | str i=>
  have(t,rfl):=rx;cases y with
  | aT=>cases ry; exact PySem.EqNone.ne_str_none<|b4 I q (by simp)
  | bl j=>cases ry; exact PySem.EqMixed.ne_str_bool<|b4 I q (by simp)
  | int j=>have(t',rfl):=ry; exact PySem.EqMixed.ne_str_int<|b4 I q (by simp)
  | str j=>have(t',rfl):=ry; exact ne_str<|b4 I q<|congrArg not L3
  | _=>exact absurd (show false=true from hs) qf
 | jk i=>
  have(t,rfl):=rx;cases y with
  | jk j=>have(t',rfl):=ry; exact PySem.W.ne_bytes<|b4 I q<|congrArg not L1
  | _=>exact absurd (show false=true from hs) qf
 | _=>cases y<;>exact absurd (show false=true from hs) qf
theorem vZ:cC X (compareOp .Lt) (jd λi j=>.bl<|decide<|i < j):=Dj λ_ _ _ _ _ _ _ q=>lt_int q
theorem tW:cC X (compareOp .Gt) (jd λi j=>.bl<|decide<|j < i):=Dj λ_ _ _ _ _ _ _ q=>gt_int q
theorem SI:cC X (compareOp .GtE) (jd λi j=>.bl<|decide<|j<=i):=Dj λ_ _ _ _ _ _ _ q=>ge_int q
theorem EH:cC X (compareOp .Is) (λx y H Q=>y=.aT/\Q (.bl<|decide<|x=.aT) H):=by
 intro pins s σ H x y v u Q I rx ry h;have(rfl,q):=h;cases ry;refine is_none_gen<|b4 I q ?_;cases x<;>first
  | (cases rx; rfl)
  | (have(t,rfl):=rx; rfl)
theorem KQ(b:Expr){op:CmpOp}(h:op≠.In:=by decide)(h2:op≠.NotIn:=by decide):behindInMarks op b=false:=by
 have e1:(op==CmpOp.In)=false:=by cases op<;>first|rfl|exact absurd rfl h
 have e2:(op==CmpOp.NotIn)=false:=by cases op<;>first|rfl|exact absurd rfl h2
 cases b<;>simp[behindInMarks,e1,e2]
theorem Xc{op:CmpOp}{r:R2}(ho:cC X (compareOp op) r)(ha:PE X a ta)(hb:PE X b tb)(hm:behindInMarks op b=false):PE X (.Compare a [op] [b] pos) (mX r ta tb):=by
 intro pins s σ H Q I h;exact wpAny_Compare1 (Dk ha hb I h λv u s2 x y H2 I2 rx ry q=>ho pins s2 σ H2 x y v u Q I2 rx ry q) hm
def D3(t:TE):TT:=λσ H Q=>t σ H λx H'=>∃ k,x=.bl k/\Q k H'
theorem Xb{op:CmpOp}{r:R2}(ho:cC X (compareOp op) r)(ha:PE X a ta)(hb:PE X b tb)(hm:behindInMarks op b=false):PT X (.Compare a [op] [b] pos) (D3<|mX r ta tb):=by
 intro pins s σ H Q I h;refine wpAny_isTrue_Compare1 (aF (ha pins s σ H _ I h) λv s1 ⟨x,H1,I1,r1,q1⟩=>aF (hb pins s1 σ H1 _ I1 q1) λu s2 ⟨y,H2,I2,r2,q2⟩=>
  aF (ho pins s2 σ H2 x y v u _ I2 r1 r2 q2) λc s3 ⟨z,H3,I3,r3,k,e,q3⟩=>?_) hm
 subst e;cases r3;exact wpAny_truthy_bool ⟨H3,I3,q3⟩
def Di(K:qc)(x:V)(H:Hp)(k:Bool):Prop :=
 match x with
 | .aT=>k=false
 | .bl b=>k=b
 | .int i=>k=(i != 0)
 | .str y=>y.length<=sizeLine/\k=((y.length:Int) != 0)
 | .jk y=>y.size<=sizeLine/\k=((y.size:Int) != 0)
 | .ref p=>(∃ xs,bq K H p xs/\k=!xs.isEmpty)\/(∃ xs,bg K H p xs/\k=!xs.isEmpty)\/∃ kvs,H p=some (.dK kvs)/\k=!kvs.isEmpty
 | _=>False
theorem zlO{κ:Type}{kvs:Qa (κ×V)}{vs:Qa (κ×Qc)}(r:KV kvs vs):(!vs.isEmpty)=!kvs.isEmpty:=by
 cases r<;>rfl
theorem NU{xs:Qa V}{ae:Qa Qc}(r:zO xs ae):(!ae.toArray.isEmpty)=!xs.isEmpty:=by
 cases r<;>simp
theorem wx:(sizeLine:Nat) < 2^63:=by rw[sizeLine_eq]; decide
theorem UH:zAa X (λx H Q=>∃ k,Di X.K x H k/\Q k H):=by
 intro pins s σ H x v Q I rx h;have(k,e,q):=h;have hl:=wx;have hs:sizeLine=16777216:=sizeLine_eq;cases x with
 | aT=>
  cases rx;have e':k=false:=e;subst e';exact truthy_none ⟨H,I,q⟩
 | bl b=>
  cases rx;have e':k=b:=e;subst e';exact wpAny_truthy_bool ⟨H,I,q⟩
 | int i=>
  have(t,rfl):=rx;have e':k=(i != 0):=e;subst e';exact PySem.P.truthy_int ⟨H,I,q⟩
 | str y=>
  have(t,rfl):=rx;obtain⟨hy,e'⟩:y.length<=sizeLine/\k=((y.length:Int) != 0):=e;subst e';exact PySem.P.truthy_str (by omega) ⟨H,I.tok _,q⟩
 | jk y=>
  have(t,rfl):=rx;obtain⟨hy,e'⟩:y.size<=sizeLine/\k=((y.size:Int) != 0):=e;subst e';exact PySem.W.truthy_bytes (by omega) ⟨H,I.tok _,q⟩
 | ref p=>
  cases rx;have e':(∃ xs,bq X.K H p xs/\k=!xs.isEmpty)\/(∃ xs,bg X.K H p xs/\k=!xs.isEmpty)\/∃ kvs,H p=some (.dK kvs)/\k=!kvs.isEmpty:=e;rcases e' with⟨xs,hx,e'⟩|⟨xs,hx,e'⟩|⟨kvs,hx,e'⟩
  .subst e'
   have(ae,r,pl,hz):=I.list hx;have hlen:=r.length;exact wpAny_truthy_list pl.isList (by simp only[List.size_toArray]; omega) ⟨H,I.tok _,by rw[NU r]; exact q⟩
  .subst e'
   have(ae,r,pl,hz):=I.tuple hx;have hlen:=r.length;exact truthy_tuple pl (by simp only[List.size_toArray]; omega) ⟨H,I.tok _,by rw[NU r]; exact q⟩
  .subst e'
   obtain⟨hz,hS,vs,r,m⟩:kvs.length<=sizeLine/\(p==sysModules)=false/\∃ vs,KV kvs vs/\s.heap.DictOf (zA X.prog X.w) p vs:=I.az p _ hx;have hlen:kvs.length=vs.length:=Paired.length r;exact wpAny_truthy_dict hS m (by omega) ⟨H,I.tok _,by rw[zlO r]; exact q⟩
 | _=>exact(show False from e).elim
theorem ZR(ha:PE X a ta)(he:∀ whole,isTrue a X.env whole=(do let v <-whole; standAt a.pos; holding [v] (truthy v))):
  PT X a (λσ H Q=>ta σ H λx H'=>∃ k,Di X.K x H' k/\Q k H'):=by
 intro pins s σ H Q I h;exact isTrue_plain (aF (ha pins s σ H _ I h) λv s1 ⟨x,H1,I1,r1,q1⟩=>UH pins s1 σ H1 x v Q I1 r1 q1)<|he _
theorem eZ{x:V}{us:Qa Qc}(r:zO [x] us):∃ u,us=[u]/\zV x u:=by
 cases r with
 | cons r1 r2=>cases r2; exact⟨_,rfl,r1⟩
theorem D2{x y:V}{us:Qa Qc}(r:zO [x,y] us):∃ u w',us=[u,w']/\zV x u/\zV y w':=by
 cases r with
 | cons r1 r2=>
  cases r2 with
  | cons r3 r4=>cases r4; exact⟨_,_,rfl,r1,r3⟩
theorem Bz:du X (.builtin "abs") (λxs H Q=>∃ i,xs=[.int i]/\Q (.int (if i < 0 then -i else i)) H):=by
 intro pins s σ H xs us Q I r h;have(i,rfl,q):=h;have(u,rfl,t,rfl):=eZ r;exact call_abs_int λu tk=>⟨.int (if i < 0 then -i else i),H,I.tok _,⟨_,rfl⟩,q⟩
theorem zoX:du X (.type "int") (λxs H Q=>(∃ i,xs=[.int i]/\Q (.int i) H)\/∃ k,xs=[.bl k]/\Q (.int (if k then 1 else 0)) H):=by
 intro pins s σ H xs us Q I r h;rcases h with⟨i,rfl,q⟩|⟨k,rfl,q⟩
 .have(u,rfl,t,rfl):=eZ r
  exact call_int_int ⟨.int i,H,I,⟨_,rfl⟩,q⟩
 .have(u,rfl,r1):=eZ r
  cases r1;exact call_int_bool ⟨.int (if k then 1 else 0),H,I.tok _,⟨_,rfl⟩,q⟩
end
section
variable{prog:Qe}{w:Qh}{A:Qf}{E:Qc->Qd->Prop}{s:Qd}{K:qc}{x dx C f:Qg}{mA:Str->Qb Qc}{name:Str}{v:Qc}
end
theorem jr.some_of{v:V}{o:Qb Qc}(r:jr (some v) o):∃ u,o=some u/\zV v u:=by
 cases o with
 | none=>exact(show False from r).elim
 | some u=>exact⟨u,rfl,r⟩
section
variable{P:Qe}{w:Qh}{K:qc}{H H':Hp}{h h':Heap}{a C dx:Qg}{fs fs':Qa (Str×V)}
end
structure Cls (K:qc) (C:Qg):Prop where
 pg:PySem.W.plainGet K C Str.empty=true
 hd:PySem.W.hasDictIn K C=true
 po:PySem.W.plainOver K C=true
 sa:PySem.W.findIn K (.ref C) "__setattr__"=some (some<|.builtin "object.__setattr__")
def UG(K:qc)(C:Qg)(f:Str):Prop:=PySem.W.findIn K (.ref C) f=some none
structure Iu (K:qc) (C:Qg) (m:Str) (f:Qg):Prop where
 at_:PySem.W.findIn K (.ref C) m=some (some<|.ref f)
 fn:PySem.W.isFn K (.ref f)=true
 kp:PySem.W.keepIn K (.ref f)=true
section
variable{X:Cx}{pins:Qa (Qg×Obj)}{σ:St}{H:Hp}{s:Qd}{a C dx:Qg}{fs:Qa (Str×V)}{f:Str}{v:V}{A:Qf}{E:Qc->Qd->Prop}
end
section
variable{X:Cx}{o e value:Expr}{f:Str}{pos pos' mW:Pos}{ta tv:TE}
end
section
variable{X:Cx}{pins:Qa (Qg×Obj)}{σ:St}{H:Hp}{s:Qd}{A:Qf}{E:Qc->Qd->Prop}{Q:Qc->Qd->Prop}{c:Qc}{b:Bool}
end
structure aD (k:Nat) (A:Qf):Prop where
 hd:A.handled=none
 dp:A.depth+3 * k+5 < recursionLimit
 un:A.units+16 * k+200 < cLine
 gd:A.guards=some []
theorem aD.mono{j k:Nat}{A:Qf}(r:aD k A)(h:j<=k):aD j A:=⟨r.hd,by have:=r.dp; omega,by have:=r.un; omega,r.gd⟩
theorem aD.deeper{k:Nat}{A:Qf}(r:aD (k+1) A)(env:Env):aD k (A.deeper env):=
 ⟨r.hd,by have:=r.dp; show A.depth+1+3 * k+5 < _; omega,by have:=r.un; show A.units+3+16 * k+200 < _; omega,r.gd⟩
theorem aD.in1{k:Nat}{A:Qf}(r:aD (k+1) A):aD k A.in1 :=
 ⟨r.hd,by have:=r.dp; show A.depth+3 * k+5 < _; omega,by have:=r.un; show A.units+1+16 * k+200 < _; omega,r.gd⟩
theorem aD.depth{k:Nat}{A:Qf}(r:aD k A):A.depth < recursionLimit:=by have:=r.dp; omega
theorem aD.units{k:Nat}{A:Qf}(r:aD k A):A.units+64 < cLine:=by have:=r.un; omega
def mn:TA:=λ_ H Q=>Q [] H
def mG(ta:TE)(tr:TA):TA:=λσ H Q=>ta σ H λx H1=>tr σ H1 λxs H2=>Q (x::xs) H2
section
variable{X:Cx}{e:Expr}{es:Qa Expr}{te:TE}{t:TA}{pos:Pos}
theorem UE:PA X [] mn:=λ_ _ _ _ H Q I h=>Calls.spliced_nil ⟨[],H,I,.nil,h⟩
theorem Xa(ha:PE X e te)(hr:PA X es t)(hs:starEach (e::es) X.env=(false,eval e X.env)::starEach es X.env:=by rfl):PA X (e::es) (mG te t):=by
 intro pos pins s σ H Q I h;rw[hs];show wpAny _ _ (spliced<|(false,eval e X.env)::backTo pos (starEach es X.env)) _ _ s;refine Č<|aF (ha pins s σ H _ I h) λu s1 hZ=>?_;have(x,H1,I1,r1,q1):=hZ;exact aF (hr pos pins s1 σ H1 _ I1 q1) λus s2 ⟨xs,H2,I2,r2,q2⟩=>⟨x::xs,H2,I2,.cons r1 r2,q2⟩
def Dh(t:TA):TE:=λσ H Q=>t σ H λxs H1=>xs.length<=sizeLine/\∀ p,H1 p=none->Q (.ref p) (upd H1 p<|.tup xs)
def yP(t:TA):TE:=λσ H Q=>t σ H λxs H1=>xs.length<=sizeLine/\∀ p,H1 p=none->Q (.ref p) (upd H1 p<|.lst xs)
theorem UD{x1}(h:PA X es t):PE X (.Tuple es x1 pos) (Dh t):=by
 intro pins s σ H Q I hq;refine wpAny_Tuple_spliced<|aF (h pos pins s σ H _ I hq) λus s1 ⟨xs,H1,I1,r,z,q⟩=>⟨by rw[<-r.length]; exact z,?_⟩;have hf:H1 s1.heap.objs.size=none:=I1.az.fresh (qe _);refine⟨.ref s1.heap.objs.size,upd H1 s1.heap.objs.size<|.tup xs,I1.laid (t':=s1.toks) (λb u e=>qd _ e) (qe _) ?_,rfl,q _ hf⟩;exact⟨z,us,r,⟨_,qg _ rfl,rfl,⟨_,rfl⟩,.inl rfl⟩⟩
theorem UC(h:PA X es t):PE X (.List es pos) (yP t):=by
 intro pins s σ H Q I hq;refine wpAny_List_spliced<|aF (h pos pins s σ H _ I hq) λus s1 ⟨xs,H1,I1,r,z,q⟩=>⟨by rw[<-r.length]; exact z,?_⟩;have hf:H1 s1.heap.objs.size=none:=I1.az.fresh (qe _);refine⟨.ref s1.heap.objs.size,upd H1 s1.heap.objs.size<|.lst xs,I1.laid (t':=s1.toks) (λb u e=>qd _ e) (qe _) ?_,rfl,q _ hf⟩;exact⟨z,us,0,r,qg _ rfl⟩
end
abbrev Sp:=Qa V->Hp->VK->XK->Prop
abbrev iP:=Qa Env->Hp->Qd->XK->Qc->Qd->Prop
structure nZ (P:Qe) (w:Qh) (K:qc) (mg:Str->Qb Qc) (base:Heap) (A:Qf) (outer:Qa Env) (s:Qd) (H:Hp):Prop where
 frames:A.frames=some outer
 mod:Mod K mg base
 bs:∀ b o,base.get? b=some o->s.heap.get? b=some o/\H b=none
 kG:base.objs.size<=s.heap.objs.size
 cx:s.heap.FunFrames base outer
 nO:∀ b∈jj outer,H b=none
 az:bV P w K H s.heap
 bare:AllBare s.gens
def CE(outer:Qa Env)(P:Qe)(w:Qh)(K:qc)(H:Hp)(s:Qd)(Q:VK)(u:Qc)(s':Qd):Prop :=
 ∃ v H',s'.os=s.os/\AllBare s'.gens/\Un (jj outer) [] H H' s.heap s'.heap/\bV P w K H' s'.heap/\zV v u/\Q v H'
def CR(CX:iP)(outer:Qa Env)(P:Qe)(w:Qh)(K:qc)(H:Hp)(s:Qd)(Q:VK)(E:XK)(r:Result)(s':Qd):Prop :=
 match r with
 | .ok (.ret u)=>CE outer P w K H s Q u s'
 | .ok _=>False
 | .error e=>CX outer H s E e s'
structure bW (P:Qe) (w:Qh) (K:qc) (mg:Str->Qb Qc) (base:Heap) (CX:iP) (k:Nat) (f:Qg) (fd:FuncData) (ps:Qa Str) (sp:Sp):Prop where
 len:∀ vs H Q E,sp vs H Q E->vs.length=ps.length
 run:∀ (A:Qf) (outer:Qa Env) (s:Qd) (H:Hp) (args:Args) (us:Qa Qc) (vs:Qa V) (Q:VK) (E:XK),aD k A->nZ P w K mg base A outer s H->BindsTo s fd args (ps.zip us)->zO vs us->sp vs H Q E->
  codeAny (model P w) A (.call (.ref f) args) (CR CX outer P w K H s Q E) s
section
variable{X:Cx}{pins:Qa (Qg×Obj)}{σ:St}{H:Hp}{s s':Qd}
theorem Inv.Ie(I:Inv X pins σ H s):nZ X.prog X.w X.K X.mg X.base X.A X.stack s H :=
 ⟨I.ok.frames,I.ok.mod,I.bs,qA I.ok.kG I.sz,I.stack,I.iE,I.az,I.bare⟩
theorem Inv.after{Q:VK}{u:Qc}(I:Inv X pins σ H s)(h:CE X.stack X.prog X.w X.K H s Q u s'):EP X pins σ Q u s':=by
 have(v,H',os,bare,un,az,r,q):=h;have(hh,g,d,t,B3):=s';obtain rfl:B3=s.os:=os;exact⟨v,H',I.call (h':=hh) (g':=g) (d':=d) (t':=t) (ch:=[]) un az bare (λb z=>absurd z (by simp)),r,q⟩
end
def SH(sp:Sp)(dvs:Qa V)(E:XK)(t:TA):TE:=λσ H Q=>t σ H λvs H1=>sp (vs++dvs) H1 Q E
def kZ(K:qc)(fd:FuncData)(ps:Qa Str)(ds:Qa Qc):Prop :=
 ∀ (s:Qd) (us:Qa Qc),K.In s.heap->(us++ds).length=ps.length->BindsTo s fd ⟨us,[]⟩ (ps.zip<|us++ds)
theorem kZ.all{K:qc}{fd:FuncData}{ps:Qa Str}(h:∀ us:Qa Qc,us.length=ps.length->bindArgs fd ⟨us,[]⟩=pure (ps.zip us)):kZ K fd ps []:=λs us _ hl=>by
 rw[List.append_nil]at hl ⊢;exact .of_eq<|h us hl
def EG(CX:iP)(X:Cx)(E:XK):Prop:=∀ (pins:Qa (Qg×Obj)) (σ:St) (H:Hp) (s:Qd) (e:Qc) (s':Qd),Inv X pins σ H s->CX X.stack H s E e s'->X.xe e s'
section
variable{X:Cx}{CX:iP}{k:Nat}{f C:Qg}{fd:FuncData}{ps:Qa Str}{sp:Sp}{dvs:Qa V}{ds:Qa Qc}{E:XK}{x m:Str}{p pos apos:Pos}{e o:Expr}{es:Qa Expr}{ta:TE}{t:TA}
theorem EF{pins:Qa (Qg×Obj)}{σ:St}{H:Hp}{s:Qd}{Q:VK}{us:Qa Qc}{vs:Qa V}(F:bW X.prog X.w X.K X.mg X.base CX k f fd ps sp)(hr:aD k X.A)(hb:kZ X.K fd ps ds)(hd:zO dvs ds)(hx:EG CX X E)
  (I:Inv X pins σ H s) (r:zO vs us) (h:sp (vs++dvs) H Q E):wpAny (model X.prog X.w) X.A (call (.ref f) us) (EP X pins σ Q) X.xe s:=by
 have r2:zO (vs++dvs) (us++ds):=r.append hd;have hl:(us++ds).length=ps.length:=by rw[<-r2.length]; exact F.len _ _ _ _ h
 refine wpAny_call<|codeAny_mono (F.run X.A X.stack s H ⟨us,[]⟩ (us++ds) (vs++dvs) Q E hr I.Ie (hb s us I.cJ hl) r2 h) λr s' hq=>?_;cases r with
 | error e=>exact hx pins σ H s e s' I hq
 | ok fl=>
  cases fl with
  | ret u=>exact I.after hq
  | next=>exact False.elim hq
  | brk=>exact False.elim hq
  | cont=>exact False.elim hq
theorem W9(F:bW X.prog X.w X.K X.mg X.base CX k f fd ps sp)(hr:aD k X.A)(hg:Gl X x)(hm:X.mg x=some (.ref f))(hk:PySem.W.keepIn X.K (.ref f)=true)(hb:kZ X.K fd ps ds)(hd:zO dvs ds)(hx:EG CX X E)
  (ha:PA X (e::es) t) (cB:(x==("__debug__":Str))=false:=by decide) (he:starEach (e::es) X.env=(false,eval e X.env)::starEach es X.env:=by rfl) (e9:(backTo pos<|starEach es X.env).any (·.1)=false:=by rfl):
  PE X (.Call (.Name x p) (e::es) [] pos) (SH sp dvs E t):=by
 intro pins s σ H Q I h;refine wpAny_Call_Name_kw<|L5 I hg hm ?_ cB;refine PySem.W.callWith_K (h₀:=X.base) I.ok.mod.gv hk (aF (ha pos pins s σ H _ I h) λus s1 ⟨vs,H1,I1,r,q⟩=>⟨I1.cJ,?_⟩) he e9;exact EF F hr hb hd hx I1 r q
structure Mk (K:qc) (C f:Qg):Prop where
 makes:PySem.W.makesIn K C=true
 init:PySem.W.findIn K (.ref C) "__init__"=some (some<|.ref f)
 fn:PySem.W.isFn K (.ref f)=true
 kp:PySem.W.keepIn K (.ref C)=true
end
def PK(X:Cx)(iK:Qa Keyword)(t:TA):Prop :=
 ∀ (pos:Pos) (pins:Qa (Qg×Obj)) (s:Qd) (σ:St) (H:Hp) (Q:Qa V->Hp->Prop),Inv X pins σ H s->t σ H Q->wpAny (model X.prog X.w) X.A (evalAll<|(backToKw pos<|keywordEach iK X.env).map (·.2)) (AP X pins σ Q) X.xe s
section
variable{X:Cx}{CX:iP}{k:Nat}{f C:Qg}{fd:FuncData}{ps ks:Qa Str}{sp:Sp}{E:XK}{x m:Str}{p pos apos jf:Pos}{e o:Expr}{es:Qa Expr}{iK:Qa Keyword}{te ta:TE}{t tk:TA}{nm:Qb Str}
theorem UB:PK X [] mn:=λ_ _ _ _ H Q I h=>wpAny_evalAll_nil ⟨[],H,I,.nil,h⟩
theorem W8(ha:PE X e te)(hr:PK X iK t):PK X (⟨nm,e,jf⟩::iK) (mG te t):=by
 intro pos pins s σ H Q I h;show wpAny _ _ (evalAll<|(do let v <-eval e X.env; standAt pos; pure v)::(backToKw pos<|keywordEach iK X.env).map (·.2)) _ _ s;refine wpAny_evalAll_cons<|qa<|aF (ha pins s σ H _ I h) λu s1 ⟨x,H1,I1,r1,q1⟩=>qa<|wpAny_standAt<|qb ?_;exact aF (hr pos pins s1 σ H1 _ I1 q1) λus s2 ⟨xs,H2,I2,r2,q2⟩=>⟨x::xs,H2,I2,.cons r1 r2,q2⟩
variable{g:Qa Qc->Qa Qc->Qa Qc}{gV:Qa V->Qa V->Qa V}
end
structure bE (N P:Qa Str) (sc:Scope):Prop where
 kind:sc.kind=.function
 co:sc.isCoroutine=false
 gen:sc.isGenerator=false
 nd:N.Nodup
 pre:N.take P.length=P
 par:∀ x∈P,sc.names.lookup x=some .local\/sc.names.lookup x=some .cell
 sg:∀ y∈sc.names,y.2≠.free
theorem M6{kindOf:Str->Qb NameKind}{x:Str}:∀ {binds:Qa (Str×Qc)} {m:Str->Qb Qc},(∀ v,(x,v)∉binds)->bindL kindOf binds m x=m x
 | [],_,_=>rfl
 | (n,v)::r,m,h=>by
  unfold bindL;rw[M6 λw hw=>h w<|qo _ hw];split
  .have:x≠n:=by rintro rfl; exact h v qp
   simp[this]
  .rfl
theorem M5{kindOf:Str->Qb NameKind}{x:Str}:∀ {binds:Qa (Str×Qc)} {m:Str->Qb Qc},(∀ v,(x,v)∉binds)->bindC kindOf binds m x=m x
 | [],_,_=>rfl
 | (n,v)::r,m,h=>by
  unfold bindC;rw[M5 λw hw=>h w<|qo _ hw];split
  .rfl
  .have:x≠n:=by rintro rfl; exact h v qp
   simp[this]
theorem M4{kindOf:Str->Qb NameKind}{x:Str}{v:Qc}:∀ {P:Qa Str} {vs:Qa Qc} {i:Nat} {m:Str->Qb Qc},P.Nodup->P[i]?=some x->vs[i]?=some v->kindOf x=some .local->
  bindL kindOf (P.zip vs) m x=some v
 | [],_,_,_,_,h,_,_=>by simp at h
 | _::_,[],_,_,_,_,h,_=>by simp at h
 | p::P,w::vs,0,m,nd,h1,h2,hk=>by
  simp at h1 h2; subst h1; subst h2;show bindL kindOf ((p,w)::P.zip vs) m p=_;unfold bindL;rw[M6 λv hv=>(List.nodup_cons.mp nd).1 (List.of_mem_zip hv).1,if_pos hk];simp
 | p::P,w::vs,i+1,m,nd,h1,h2,hk=>by
  show bindL kindOf ((p,w)::P.zip vs) m x=_;unfold bindL;exact M4 (i:=i) (ì.mp nd).2 (by simpa using h1) (by simpa using h2) hk
theorem M3{kindOf:Str->Qb NameKind}{x:Str}{v:Qc}:∀ {P:Qa Str} {vs:Qa Qc} {i:Nat} {m:Str->Qb Qc},P.Nodup->P[i]?=some x->vs[i]?=some v->kindOf x≠some .local->
  bindC kindOf (P.zip vs) m x=some v
 | [],_,_,_,_,h,_,_=>by simp at h
 | _::_,[],_,_,_,_,h,_=>by simp at h
 | p::P,w::vs,0,m,nd,h1,h2,hk=>by
  simp at h1 h2; subst h1; subst h2;show bindC kindOf ((p,w)::P.zip vs) m p=_;unfold bindC;rw[M5 λv hv=>(List.nodup_cons.mp nd).1 (List.of_mem_zip hv).1,if_neg hk];simp
 | p::P,w::vs,i+1,m,nd,h1,h2,hk=>by
  show bindC kindOf ((p,w)::P.zip vs) m x=_;unfold bindC;exact M3 (i:=i) (ì.mp nd).2 (by simpa using h1) (by simpa using h2) hk
def gf(N:Qa Str)(vs:Qa V):St:=vs.map some++List.replicate (N.length - vs.length) none
def l9(CX:iP)(P:Qe)(w:Qh)(K:qc)(mg:Str->Qb Qc)(base:Heap)(N:Qa Str)(qual:Str)(scope:Scope)(f:Qg)(cd:Qc)(A:Qf)(outer:Qa Env)(s:Qd)(H:Hp)(E:XK):Cx where
 prog:=P
 w:=w
 K:=K
 mg:=mg
 base:=base
 A:=A.deeper (envOfC qual scope s.heap.objs.size f cd)
 N:=N
 aW:=s
 aq:=H
 env:=envOfC qual scope s.heap.objs.size f cd
 outer:=outer
 stack:=envOfC qual scope s.heap.objs.size f cd::outer
 ex:=[]
 calm:=true
 fn:=λ_=>true
 pn:=[]
 xe:=λe s'=>wpAny (model P w) (A.deeper<|envOfC qual scope s.heap.objs.size f cd) (leaving (envOfC qual scope s.heap.objs.size f cd) e) (λ_ B0=>CX outer H s E e B0) (λe' B0=>CX outer H s E e' B0) s'
theorem Mt{sc:Scope}{n:Nat}{x:Str}(h:sc.names.lookup x=some .cell):∃ c,(cellsFrom n sc.names []).lookup x=some c:=by
 have q:=PySem.W.cellsFrom_some sc.names n [] (.inl h);exact Option.isSome_iff_exists.mp q
theorem zoY{CX:iP}{P:Qe}{w:Qh}{K:qc}{mg:Str->Qb Qc}{base:Heap}{N ps:Qa Str}{qual:Str}{scope:Scope}{f:Qg}{cd:Qc}{A:Qf}{outer:Qa Env}{s s1:Qd}{H:Hp}{E:XK}{us:Qa Qc}{vs:Qa V}
  (S:bE N ps scope) (hd:A.handled=none) (e0:nZ P w K mg base A outer s H) (hl:vs.length=ps.length) (r:zO vs us)
  (x:InCallC s s.heap.objs.size (bindL (envOfC qual scope s.heap.objs.size f cd).kindOf (ps.zip us) λ_=>none) (cellsFrom (s.heap.objs.size+1) scope.names []) (bindC (envOfC qual scope s.heap.objs.size f cd).kindOf (ps.zip us) λ_=>none) s1):
  Inv (l9 CX P w K mg base N qual scope f cd A outer s H E) [] (gf N vs) H s1:=by
 have e9:ps.length<=N.length:=by have:=congrArg List.length S.pre; rw[List.length_take]at this; omega
 have(h1,tk,rfl,hk):=x.done;have xK:∀ b:Qg,b∉(l9 CX P w K mg base N qual scope f cd A outer s H E).ex:=λb z=>absurd (show b∈([]:Qa Qg) from z) (by simp);refine⟨⟨e0.mod,S.kind,rfl,rfl,qe _,λy z c h1 h2=>?_,λy hy=>?_,λy c _ h=>?_,λ_=>hd,Around.frames_deeper e0.frames,.inr ⟨rfl,rfl⟩,λb z=>absurd z<|xK b,e0.bs,e0.kG,λb _ _=>xK b,λb z=>absurd z<|xK b,e0.cx,e0.nO⟩,
  rfl,e0.bare,Un.kept hk,⟨_,x.toInCall.ns,λi y v h1 h2 h3=>?_⟩,λy c h=>⟨_,x.cell y c h⟩,e0.az.fresh<|qe _,λy c h=>?_,λp hp=>absurd (show p∈([]:Qa (Qg×Obj)) from hp) (by simp),e0.az.kept hk,?_⟩
 .exact name_of_addr x.apart (ö h1) (ö h2)
 .have hy:scope.names.lookup y=some .cell\/scope.names.lookup y=some .free:=hy
  rcases hy with hy|hy
  .exact Mt hy
  .exact absurd rfl (S.sg _<|ö hy)
 .exact é (x.above y c<|ö h)
 .have hi:i < vs.length:=by
   unfold gf at h2
   by_cases hi:i < vs.length
   .exact hi
   .rw[List.getElem?_append_right (by simpa using hi)]at h2
    rw[List.getElem?_replicate]at h2;split at h2<;>cases h2
  have ha:vs[i]?=some v:=by
   unfold gf at h2;rw[List.getElem?_append_left (by simpa using hi),List.getElem?_map]at h2;cases e:vs[i]? with
   | none=>rw[e]at h2; cases h2
   | some a=>rw[e]at h2; cases h2; rfl
  have(u,hu,rv):=r.get ha;have hp:ps[i]?=some y:=by
   rw[<-S.pre,List.getElem?_take_of_lt (by omega)]; exact h1
  have Pz:ps.Nodup:=by rw[<-S.pre]; exact S.nd.sublist<|List.take_sublist _ _
  refine⟨u,rv,?_⟩;rcases S.par y (Ê hp)with k|k
  .exact .inl ⟨k,M4 Pz hp hu k⟩
  .have(c,e):=Mt (n:=s.heap.objs.size+1) k
   refine .inr ⟨.inl k,c,e,?_⟩;have q:=x.cell y c e;rw[M3 Pz hp hu (by show scope.names.lookup y≠_; rw[k]; decide)]at q;exact q
 .exact e0.az.fresh (é<|x.above y c<|ö h)
 .unfold gf
  show _=N.length;rw[qu,List.length_map,List.length_replicate];omega
theorem SG{CX:iP}{P:Qe}{w:Qh}{K:qc}{mg:Str->Qb Qc}{base:Heap}{k:Nat}{f:Qg}{name qual:Str}{params:Arguments}{body:Qa Stmt}{scope:Scope}{dV kV doc pm bo ct oc:Qc}{an od:Qb Qg}
  {j4:Array (Qb Qc)} {N ps:Qa Str} {sp:Sp} (lk:K.lookup f=some ⟨oc,od,.func<|PySem.W.fnOf name qual params body scope dV kV doc pm an bo ct,j4⟩) (ji:PySem.W.codeIn K bo qual=true) (S:bE N ps scope)
  (len:∀ vs H Q E,sp vs H Q E->vs.length=ps.length)
  (bU:∀ (A:Qf) (outer:Qa Env) (s:Qd) (H:Hp) (vs:Qa V) (Q:VK) (E:XK),aD k (A.deeper<|envOfC qual scope s.heap.objs.size f bo)->sp vs H Q E->
   ∃ t,dF (l9 CX P w K mg base N qual scope f bo A outer s H E) body t/\t {nx:=λ_ H'=>Q .aT H',rt:=Q} (gf N vs) H):
  bW P w K mg base CX (k+1) f (PySem.W.fnOf name qual params body scope dV kV doc pm an bo ct) ps sp:=by
 refine⟨len,λA outer s H args us vs Q E hr e0 hb r pV=>?_⟩;have hl:=len _ _ _ _ pV;have KX:K.In s.heap:=e0.mod.gv.keeps λb o e=>(e0.bs b o e).1;have lim:s.heap.NoLimit:=e0.mod.nolimit.keeps λb o e=>(e0.bs b o e).1;have yc:∀ y∈ps.zip us,scope.names.lookup y.1=some .local\/(scope.names.lookup y.1=some .cell/\((cellsFrom (s.heap.objs.size+1) scope.names []).lookup y.1).isSome=true):=λ⟨n,v⟩ hy=>by
  rcases S.par n (List.of_mem_zip hy).1 with q|q
  .exact .inl q
  .exact .inr ⟨q,PySem.W.cellsFrom_some _ _ _<|.inl q⟩
 refine codeAny_call_function hr.depth (KX _ _ lk) rfl S.co S.gen rfl (PySem.W.codeRec_of KX ji)<|hb _ _ _ _ ?_;refine wpAny_newFunctionEnv_cells S.kind yc λenv he s1 x=>?_;subst he;refine⟨lim.keeps x.toInCall.keep,codeAny_func ?_⟩;have(t,ht,hq):=bU A outer s H vs Q E (hr.deeper _) pV;have I:Inv (l9 CX P w K mg base N qual scope f bo A outer s H E) [] (gf N vs) H s1:=zoY S hr.hd e0 hl r x;refine wpAny_mono (ht [] s1 (gf N vs) H _ I hq) (λfl s' hs=>?_) λe s' hs=>hs;have fin:∀ {aE:St} {H':Hp} {v:V} {u:Qc},Inv (l9 CX P w K mg base N qual scope f bo A outer s H E) [] aE H' s'->zV v u->Q v H'->CE outer P w K H s Q u s' :=
  λ{aE H' v u} J rv q=>⟨v,H',J.os,J.bare,J.base,J.az,rv,q⟩
 cases fl with
 | ret u=>
  have(v,aE,H',J,rv,q):=hs;exact fin J rv q
 | next=>
  have(aE,H',J,q):=hs;exact fin (v:=V.aT) (u:=Value.none) J rfl q
 | brk=>
  have(_,_,_,q):=hs;exact False.elim q
 | cont=>
  have(_,_,_,q):=hs;exact False.elim q
section
variable{X:Cx}{x:Str}{p pos:Pos}{e:Expr}{es:Qa Expr}{t:TA}{id T:String}{r:Qa V->Hp->VK->Prop}
def pO(r:Qa V->Hp->VK->Prop)(t:TA):TE:=λσ H Q=>t σ H λvs H1=>r vs H1 Q
theorem ZQ(hc:du X (.builtin id) r)(hg:Gl X x)(hm:X.mg x=none)(hv:bootBuiltins x=some (.builtin id))(ha:PA X (e::es) t)(hn:x ≠ "__name__":=by decide)(cB:(x==("__debug__":Str))=false:=by decide)
  (he:starEach (e::es) X.env=(false,eval e X.env)::starEach es X.env:=by rfl) (e9:(backTo pos<|starEach es X.env).any (·.1)=false:=by rfl):PE X (.Call (.Name x p) (e::es) [] pos) (pO r t):=by
 intro pins s σ H Q I h;refine wpAny_Call_Name_kw<|uI I hg hm hv ?_ hn cB;exact PyProof.Rows.callWith_builtin1 (aF (ha pos pins s σ H _ I h) λus s1 ⟨vs,H1,I1,r1,q1⟩=>hc pins s1 σ H1 vs us Q I1 r1 q1) he e9
theorem zoZ(hc:du X (.type T) r)(hg:Gl X x)(hm:X.mg x=none)(hv:bootBuiltins x=some (.type T))(ha:PA X (e::es) t)(hn:x ≠ "__name__":=by decide)(cB:(x==("__debug__":Str))=false:=by decide)
  (he:starEach (e::es) X.env=(false,eval e X.env)::starEach es X.env:=by rfl) (e9:(backTo pos<|starEach es X.env).any (·.1)=false:=by rfl):PE X (.Call (.Name x p) (e::es) [] pos) (pO r t):=by
 intro pins s σ H Q I h;refine wpAny_Call_Name_kw<|uI I hg hm hv ?_ hn cB;exact Ć (aF (ha pos pins s σ H _ I h) λus s1 ⟨vs,H1,I1,r1,q1⟩=>hc pins s1 σ H1 vs us Q I1 r1 q1) he e9
end
end L2
variable{E:L2.Qc->L2.Qd->Prop}{K:L2.qc}{H:L2.Hp}{pins:L2.Qa (L2.Qg×Obj)}{α:Type}{Q:L2.Qc->L2.Qd->Prop}{s:L2.Qd}{i:Nat}{R:Result->L2.Qd->Prop}{kvs:L2.Qa (L2.Qa L2.Key×L2.V)}{A:L2.Qf}{w:L2.Qh}{n:Nat}{es:Array DictEntry}{a:L2.Qg}{O:L2.Qa Int->L2.Qa Int->Prop}{σ:L2.St}{pos:Pos}{js:L2.Qa Nat}{prog:L2.Qe}{pn:L2.Qa Nat}{nt:Nat}{p:Array Nat}{e:Expr}{H':L2.Hp}{x:Str}{β:Type}{v:L2.V}{j:Nat}{b:Int}{vs:L2.Qa (Str×L2.V)}{cl:L2.Qa (Str×L2.Qg)}{te:L2.TE}{B:Nat}{o:Expr}{h:Heap}{fd:FuncData}{r:L2.Qa L2.V->L2.Hp->L2.VK->Prop}{mg:Str->L2.Qb L2.Qc}{elts:L2.Qa Expr}{ep:Nat}{ws:L2.Qa (L2.Qa L2.Key×L2.V)}{tg:Expr}{ifs:L2.Qa Expr}{d:L2.Qg}{f:Str}{scope:Scope}{P:L2.Qe}{tv:L2.TE}{st:Stmt}{ns:L2.Qa Int}{it:L2.Qg}{ta:L2.TE}{g:L2.TG}{mW:Pos}{tab:L2.Qa (Str×L2.Qa Str)}{iter:Expr}{m:Nat}{c:Str}{td ty:L2.TE}{sp:L2.Sp}{N:L2.Qa Str}{tt:L2.TT}{h':Heap}{ks:L2.Qa (L2.Qa Int)}{apos:Pos}{T:String}{tn:Nat->Heap->Prop}{RR:L2.Qc->L2.Qg->Result->L2.Qd->Prop}{u:L2.Qc}{dx:L2.Qg}{tk:L2.TE}{env:Env}{pos':Pos}{sl:Array (L2.Qb L2.Qc)}{π:Int}{aq:L2.Hp}{bM:Pos}{κ:Type}{kx vx:Expr}{y:L2.V}{wi:L2.TI}{ah:L2.St}{av:L2.Hp}{ys:L2.Qa (L2.Qa L2.Key×L2.Qg×L2.Qc)}{cmp:Nat->Nat->(Bool->L2.Qd->Prop)->L2.Qd->Prop}{G:Array GenState->Array GenState->Prop}{qual:Str}{l:L2.Qa Int}{value:Expr}{H1:L2.Hp}{elt:Expr}{as:L2.Qa α}{aH:Array L2.Qc}{us:L2.Qa L2.Qc}{j4:Array (L2.Qb L2.Qc)}{op:CmpOp}
namespace HT
open PySem PyProof.Rows
section
open PySem.SeqAt
open PySem.AutoSeq1 (wpAny_loadPart')
open PySem.MeetsSeq PySem.MeetsSeq2 PySem.MeetsSeq3
end
section
variable{prog:Program} {w:World} {A:Around} {E:Value->Shared->Prop} {s:Shared}
def dU(n d:Nat):Option Int->Nat
 | none=>d
 | some v=>if v < 0 then(v+(n:Int)).toNat else min v.toNat n
theorem jY(n d:Nat):dU n d none=d:=rfl
theorem mZ(n d k:Nat):dU n d (some (k:Int))=min k n:=by
 show(if(k:Int) < 0 then((k:Int)+(n:Int)).toNat else min (k:Int).toNat n)=min k n;rw[if_neg (by omega),Int.toNat_natCast]
end
end HT
namespace L2
open PySem PySem.Spec PyProof.Rows
abbrev TO:=St->Hp->(Qb Int->Hp->Prop)->Prop
def PO(X:Cx)(e:Qb Expr)(t:TO):Prop :=
 ∀ (pins:Qa (Qg×Obj)) (s:Qd) (σ:St) (H:Hp) (Q:Qb Int->Hp->Prop),Inv X pins σ H s->t σ H Q->
  wpAny (model X.prog X.w) X.A (evalPart e X.env) (λu s'=>∃ o H',Inv X pins σ H' s'/\IsPart u o/\Q o H') X.xe s
def E2:TO:=λ_ H Q=>Q none H
def D1(t:TE):TO:=λσ H Q=>t σ H λx H1=>∃ i,x=.int i/\Q (some i) H1
theorem zlR:∀ {us:Qa Qc},zO (ns.map V.int) us->IntsAre us ns:=by
 induction ns with
 | nil=>intro us r; rw[List.map_nil]at r; cases r; exact .nil
 | cons n ns ih=>
  intro us r;rw[List.map_cons]at r;cases r with
  | cons r1 r2=>
   have(t,e):=r1;subst e;exact .cons n t<|ih r2
section
variable{X:Cx}{lo hi:Qb Expr}{tl th:TO}{p2:Pos}
theorem W7:PO X none E2:=by
 intro pins s σ H Q I h;rw[evalPart_none];exact qb ⟨none,H,I,.none,h⟩
theorem W6(h:PE X e te):PO X (some e) (D1 te):=by
 intro pins s σ H Q I hw;rw[evalPart_some];refine aF (h pins s σ H _ I hw) λu s1 hZ=>?_;have(x,H1,I1,r1,q1):=hZ;have(i,rfl,q):=q1;have(t,rfl):=r1;exact⟨some i,H1,I1,.int i t,q⟩
def CF(X:Cx)(r:V->Qb Int->Qb Int->Hp->VK->Prop):Prop :=
 ∀ (pins:Qa (Qg×Obj)) (s:Qd) (σ:St) (H:Hp) (x:V) (v vl vu:Qc) (lo hi:Qb Int) (sl:Qg) (Q:VK),Inv X pins σ H s->zV x v->s.heap.IsSliceOf sl vl vu .none->IsPart vl lo->IsPart vu hi->r x lo hi H Q->
  ∃ T id,typeLookup (.type T) "__getitem__"=pure (some<|.builtin id)/\s.TypeIs v T/\wpAny (model X.prog X.w) X.A (getItem v<|.ref sl) (EP X pins σ Q) X.xe s
def Gv(r:V->Qb Int->Qb Int->Hp->VK->Prop)(te:TE)(tl th:TO):TE:=λσ H Q=>te σ H λx H1=>tl σ H1 λl H2=>th σ H2 λu H3=>r x l u H3 Q
theorem ZP{r:V->Qb Int->Qb Int->Hp->VK->Prop}(hr:CF X r)(he:PE X e te)(hl:PO X lo tl)(hu:PO X hi th):PE X (.Subscript e (.Slice lo hi none p2) pos) (Gv r te tl th):=by
 intro pins s σ H Q I h;refine Subscript_<|aF (he pins s σ H _ I h) λv s1 hZ=>?_;have(x,H1,I1,r1,q1):=hZ;refine wpAny_Slice<|aF (hl pins s1 σ H1 _ I1 q1) λvl s2 ⟨l,H2,I2,pl,q2⟩=>aF (hu pins s2 σ H2 _ I2 q2) λvu s3 hZ=>?_;have(u,H3,I3,pu,q3):=hZ;rw[evalPart_none];refine qb ?_;have I4:Inv X pins σ H3 {s3 with heap:=s3.heap.push {cls:=.type "slice",data:=.fields #[vl,vu,.none]}}:=I3.kept (t':=s3.toks) λb ob q=>qd _ q;have(T,id,hT,ht,hg):=hr pins {s3 with heap:=s3.heap.push {cls:=.type "slice",data:=.fields #[vl,vu,.none]}} σ H3 x v vl vu l u s3.heap.objs.size Q I4 r1 (Heap.IsSliceOf.new ..) pl pu q3;show wpAny (model X.prog X.w) X.A (subscriptTail e (.Slice lo hi none p2) v<|.ref s3.heap.objs.size) (EP X pins σ Q) X.xe {s3 with heap:=s3.heap.push {cls:=.type "slice",data:=.fields #[vl,vu,.none]}};exact tail_any (ops:=[.ref s3.heap.objs.size,v]) ht hT hg (by with_unfolding_all rfl)
def oh(xs:Qa V)(lo hi:Qb Int):Qa V:=(xs.drop<|HT.dU xs.length 0 lo).take (HT.dU xs.length xs.length hi - HT.dU xs.length 0 lo)
theorem zkp(xs:Qa V)(lo hi:Qb Int):(oh xs lo hi).length<=xs.length:=by
 unfold oh;rw[List.length_take,List.length_drop];omega
end
def fV(n:Nat)(i:Int):Qb Nat:=if 0<=i then(if i < n then some i.toNat else none)else if -(n:Int)<=i then some (i+n).toNat else none
def cP(xs:Qa α)(i:Int):Qb α:=(fV xs.length i).bind λj=>xs[j]?
theorem L0{i:Int}(h:fV n i=some j):seqIndex? i n=some j/\j < n/\-(n:Int)<=i/\i < n:=by
 unfold fV at h
 by_cases h0:0<=i
 .rw[if_pos h0]at h
  by_cases h1:i < n
  .rw[if_pos h1]at h
   have e:i.toNat=j:=qy h;exact⟨by rw[seqIndex_of h0 h1,e],by omega,by omega,h1⟩
  .rw[if_neg h1]at h; cases h
 .rw[if_neg h0]at h
  by_cases h1:-(n:Int)<=i
  .rw[if_pos h1]at h
   have e:(i+n).toNat=j:=qy h;exact⟨by rw[seqIndex_neg (by omega) h1,e],by omega,h1,by omega⟩
  .rw[if_neg h1]at h; cases h
theorem LZ{xs:Qa α}{i:Int}{v:α}(h:cP xs i=some v):∃ j,seqIndex? i xs.length=some j/\xs[j]?=some v/\j < xs.length/\-(xs.length:Int)<=i/\i < xs.length:=by
 unfold cP at h;cases e:fV xs.length i with
 | none=>rw[e]at h; cases h
 | some j=>
  rw[e]at h;have(h1,h2,h3,h4):=L0 e;exact⟨j,h1,h,h2,h3,h4⟩
def LY(b:Expr):Prop:=∀ o i,subscripted b false o i=operate [o,i] (getItem o i)
def vF(X:Cx)(r:R2):Prop :=
 ∀ (value slice:Expr) (pins:Qa (Qg×Obj)) (s:Qd) (σ:St) (H:Hp) (x y:V) (v u:Qc) (Q:VK),Inv X pins σ H s->zV x v->zV y u->r x y H Q->
  subscripted slice false v u=operate [v,u] (getItem v u)->wpAny (model X.prog X.w) X.A (subscriptTail value slice v u) (EP X pins σ Q) X.xe s
section
variable{X:Cx}{a b:Expr}{tb:TE}
theorem SF{r:R2}(hr:vF X r)(ha:PE X a ta)(hb:PE X b tb)(hs:LY b):PE X (.Subscript a b pos) (mX r ta tb):=by
 intro pins s σ H Q I h;exact Subscript_<|Dk ha hb I h λv u s2 x y H2 I2 rx ry q=>hr a b pins s2 σ H2 x y v u Q I2 rx ry q<|hs _ _
def Dg(K:qc):R2:=λx y H Q=>∃ p xs i v,x=.ref p/\y=.int i/\bq K H p xs/\cP xs i=some v/\Q v H
def Df(K:qc):R2:=λx y H Q=>∃ p xs i v,x=.ref p/\y=.int i/\bg K H p xs/\cP xs i=some v/\Q v H
theorem W5:vF X (Dg X.K):=by
 intro value slice pins s σ H x y v u Q I rx ry h hs;have(p,xs,i,z,rfl,rfl,hq,he,q):=h;cases rx;have(t,rfl):=ry;have(ae,r,pl,hz):=I.list hq;have(j,h1,h2,h3,h4,h5):=LZ he;have(w,ew,jc):=r.get h2;have hl:=r.length;have hn:=wx;have fin:EP X pins σ Q w s:=⟨z,H,I,jc,q⟩
 by_cases h0:0<=i
 .have hj:i.toNat=j:=by
   rw[seqIndex_of h0 h5]at h1;exact qy h1
  exact item_listR pl.isList h0 (by omega) (by rw[hj]; simpa using ew) fin hs
 .have hj:(i+(ae.toArray.size:Int)).toNat=j:=by
   rw[seqIndex_neg (by omega) h4]at h1;rw[List.size_toArray,<-hl];exact qy h1
  exact subscriptTail_builtinR (x:=w) pl.isList.typeIs slot_list_getitem.lookup
   (wpAny_getItem_list_neg (Q:=λr s'=>r=w/\EP X pins σ Q r s') pl.isList (by omega) (by rw[List.size_toArray]<;>omega) (by omega) (by rw[hj]; simpa using ew) ⟨rfl,fin⟩) hs
theorem UA:vF X (Df X.K):=by
 intro value slice pins s σ H x y v u Q I rx ry h hs;have(p,xs,i,z,rfl,rfl,hq,he,q):=h;cases rx;have(t,rfl):=ry;have(ae,r,pl,hz):=I.tuple hq;have(j,h1,h2,h3,h4,h5):=LZ he;have(w,ew,jc):=r.get h2;have hl:=r.length;have hn:=wx;have fin:EP X pins σ Q w s:=⟨z,H,I,jc,q⟩;exact subscriptTail_builtinR (x:=w) pl.typeIs slot_tuple_getitem.lookup
  (getItem_tuple (j:=j) (Q:=λr s'=>r=w/\EP X pins σ Q r s') pl (by omega) (by omega) (by rw[List.size_toArray,<-hl]; exact h1) (by simpa using ew) ⟨rfl,fin⟩) hs
theorem zlS(ae:Qa Qc)(n j:Nat)(u:Qc):Obj.mapSeq (·.setIfInBounds j u) {cls:=.type "list",data:=.seq ae.toArray n}={cls:=.type "list",data:=.seq (ae.set j u).toArray n}:=by
 simp[Obj.mapSeq]
theorem Inv.lst{p:Qg}{xs:Qa V}(I:Inv X pins σ H s)(h:H p=some (.lst xs)):
  ∃ (ae:Qa Qc) (n:Nat),zO xs ae/\s.heap.get? p=some {cls:=.type "list",data:=.seq ae.toArray n}/\xs.length<=sizeLine:=by
 have(z,ae,n,r,e):=I.az p _ h;exact⟨ae,n,r,e,z⟩
theorem Inv.sD{p:Qg}{xs ys:Qa V}{ae cV:Qa Qc}{n':Nat}{f:Obj->Obj}(I:Inv X pins σ H s)(h:H p=some (.lst xs))
  (ho:s.heap.get? p=some {cls:=.type "list",data:=.seq ae.toArray n}) (hf:f {cls:=.type "list",data:=.seq ae.toArray n}={cls:=.type "list",data:=.seq cV.toArray n'}) (r:zO ys cV) (hz:ys.length<=sizeLine) (t:Nat):
  Inv X pins σ (upd H p<|.lst ys) {s with heap:=s.heap.update p f,toks:=t}:=by
 have e:(s.heap.update p f).get? p=some {cls:=.type "list",data:=.seq cV.toArray n'}:=by
  rw[Heap.get?_update_self f ho (by rw[hf]<;>rfl),hf]
 refine I.write (x:=p) (e:=p) (by rw[h]; trivial) (.inl rfl) (λb u hb q=>(Á _ _<|Ne.symm hb).trans q) ⟨_,e⟩ ?_;exact⟨hz,cV,n',r,e⟩
def JM:V->V->V->Hp->(Hp->Prop)->Prop:=λo i v H Q=>∃ p xs k j,o=.ref p/\i=.int k/\H p=some (.lst xs)/\fV xs.length k=some j/\Q (upd H p<|.lst<|xs.set j v)
theorem FF:Dx X JM:=by
 intro pins s σ H o i v ov iv u Q I ro ri rv h;have(p,xs,k,j,rfl,rfl,hp,hj,q):=h;cases ro;have(t,rfl):=ri;have(ae,n,r,ho,hz):=I.lst hp;have(h1,h2,h3,h4):=L0 hj;have hl:=r.length;have hn:=wx;have I':Inv X pins σ (upd H p<|.lst<|xs.set j v) {s with heap:=s.heap.update p (Obj.mapSeq (·.setIfInBounds j u))}:=
  I.sD hp ho (zlS ae n j u) (r.set rv j) (by rw[List.length_set]; exact hz) s.toks
 by_cases h0:0<=k
 .have hk:k.toNat=j:=by
   rw[seqIndex_of h0 h4]at h1;exact qy h1
  exact PySem.W.ki_setAt ho h0 (by omega) (by rw[List.size_toArray,<-hl]; exact h4) (by rw[hk]; exact⟨_,I',q⟩)
 .have hk:(k+(ae.toArray.size:Int)).toNat=j:=by
   rw[seqIndex_neg (by omega) h3]at h1;rw[List.size_toArray,<-hl];exact qy h1
  exact PySem.W.ki_setBack ho (by omega) (by rw[List.size_toArray,<-hl]; exact h3) (by omega) (by rw[hk]; exact⟨_,I',q⟩)
theorem zjc(lo hi:Qb Int)(n:Nat):(sliceBounds lo hi none n).1=((HT.dU n 0 lo:Nat):Int)/\(sliceBounds lo hi none n).2.1=((HT.dU n n hi:Nat):Int)/\(sliceBounds lo hi none n).2.2=1:=by
 refine⟨?_,?_,rfl⟩
 .cases lo with
  | none=>simp[sliceBounds,HT.dU]
  | some i=>
   simp only[sliceBounds,HT.dU,Option.getD_none,show(1:Int) > 0 by decide,if_true]
   by_cases h:i < 0
   .simp only[h,if_true]<;>omega
   .simp only[h,if_false]<;>omega
 .cases hi with
  | none=>simp[sliceBounds,HT.dU]
  | some i=>
   simp only[sliceBounds,HT.dU,Option.getD_none,show(1:Int) > 0 by decide,if_true]
   by_cases h:i < 0
   .simp only[h,if_true]<;>omega
   .simp only[h,if_false]<;>omega
theorem zh9(ae:Qa Qc)(lo hi:Qb Int):slicePick ae.toArray lo hi none=((ae.drop<|HT.dU ae.length 0 lo).take<|HT.dU ae.length ae.length hi - HT.dU ae.length 0 lo).toArray:=by
 have(h1,h2,h3):=zjc lo hi ae.toArray.size;unfold slicePick;rw[h1,h2,h3];simp only[sliceRange_one,pick_run,List.size_toArray]<;>rfl
def De(K:qc):V->Qb Int->Qb Int->Hp->VK->Prop:=λx lo hi H Q=>∃ a xs,x=.ref a/\bq K H a xs/\∀ p,H p=none->Q (.ref p) (upd H p<|.lst<|oh xs lo hi)
theorem W4:CF X (De X.K):=by
 intro pins s σ H x v vl vu lo hi sl Q I rx hs pl pu h;have(a,xs,rfl,hx,q):=h;cases rx;have(ae,r,ht,hz):=I.list hx;have hlen:=r.length;refine⟨"list",_,slot_list_getitem.lookup,ht.isList.typeIs,?_⟩;refine wpAny_getItem_list_slice ht.isList hs pl pu .none (by simp) ?_ (by rw[List.size_toArray]<;>omega);rw[zh9,<-hlen];refine⟨.ref s.heap.objs.size,_,I.laid (t':=s.toks) (o:=.lst (oh xs lo hi)) (λb ob q=>qd _ q) (qe _) ?_,rfl,q _<|I.az.fresh<|qe _⟩;exact⟨qA (zkp xs lo hi) hz,_,0,(r.drop<|HT.dU xs.length 0 lo).take<|HT.dU xs.length xs.length hi - HT.dU xs.length 0 lo,qg _ rfl⟩
theorem zjd:du X (.builtin "len") (λxs H Q=>∃ p ys,xs=[.ref p]/\(bq X.K H p ys\/bg X.K H p ys)/\Q (.int ys.length) H):=by
 intro pins s σ H xs us Q I r h;have(p,ys,rfl,hq,q):=h;have(u,rfl,rx):=eZ r;cases rx;have hn:=wx;rcases hq with hq|hq
 .have(ae,r',pl,hz):=I.list hq
  have hlen:=r'.length;exact Calls.call_len_list pl.isList (by simp only[List.size_toArray]<;>omega) ⟨.int ys.length,H,I.tok _,⟨s.toks+1,by rw[List.size_toArray,hlen]⟩,q⟩
 .have(ae,r',pl,hz):=I.tuple hq
  have hlen:=r'.length;exact len_tuple pl (by simp only[List.size_toArray]<;>omega) ⟨.int ys.length,H,I.tok _,⟨s.toks+1,by rw[List.size_toArray,hlen]⟩,q⟩
theorem zia:du X (.type "tuple") (λxs H Q=>∃ p ys,xs=[.ref p]/\((bq X.K H p ys/\∀ l,H l=none->Q (.ref l) (upd H l<|.tup ys))\/(bg X.K H p ys/\Q (.ref p) H))):=by
 intro pins s σ H xs us Q I r h;have(p,ys,rfl,h):=h;have(u,rfl,rx):=eZ r;cases rx;rcases h with⟨hq,q⟩|⟨hq,q⟩
 .have(ae,r',pl,hz):=I.list hq
  have hlen:=r'.length;refine call_tuple_list pl.isList (λh' kp=>?_) (by simp only[List.size_toArray]<;>omega);have I1:Inv X pins σ H {s with heap:=h'}:=I.kept (t':=s.toks) kp;have I2:Inv X pins σ (upd H h'.objs.size<|.tup ys) {s with heap:=h'.push {cls:=.type "tuple",data:=.seq ae.toArray}}:=
   I1.laid (t':=s.toks) (λb o e=>qd _ e) (qe _) (show be X.prog X.w X.K _ _ _ (.tup ys) from⟨hz,ae,r',oW.new _ _⟩)
  exact⟨.ref h'.objs.size,_,I2,rfl,q _<|I1.az.fresh<|qe _⟩
 .have(ae,r',pl,hz):=I.tuple hq
  exact call_tuple_same pl ⟨.ref p,H,I,rfl,q⟩
variable{es:Qa Expr}{to:TE}{t:TA}{name:Str}{id:String}{r:V->Qa V->Hp->VK->Prop}
end
theorem zO.one{x:V}(h:zO [x] us):∃ u,us=[u]/\zV x u:=by
 cases h with
 | cons r t=>cases t; exact⟨_,rfl,r⟩
theorem zO.two{x:V}(h:zO [x,y] us):∃ u v,us=[u,v]/\zV x u/\zV y v:=by
 cases h with
 | cons r t=>
  have(v,rfl,q):=zO.one t;exact⟨_,v,rfl,r,q⟩
theorem zO.rep{xs:Qa V}(h:zO xs us):∀ k:Nat,zO (List.replicate k xs).flatten (List.replicate k us).flatten
 | 0=>.nil
 | k+1=>by
  rw[List.replicate_succ,List.replicate_succ,List.flatten_cons,List.flatten_cons];exact zO.append h<|zO.rep h k
theorem FU(ae:Qa Qc):∀ (k:Nat) (acc:Qa Qc),
  List.foldl (λx1 x2=>x1++x2) acc.toArray (List.replicate k ae.toArray)=(acc++(List.replicate k ae).flatten).toArray
 | 0,acc=>by simp
 | k+1,acc=>by
  have e:acc.toArray++ae.toArray=(acc++ae).toArray:=by simp
  have e2:(acc++ae)++(List.replicate k ae).flatten=acc++(List.replicate (k+1) ae).flatten:=by
   rw[List.replicate_succ,List.flatten_cons,List.append_assoc]
  rw[<-e2,<-FU ae k (acc++ae),<-e,List.replicate_succ,List.foldl_cons]
section
variable{X:Cx}{l b:Qg}{xs ys zs:Qa V}
theorem Inv.GZ{ae:Qa Qc}{t':Nat}(I:Inv X pins σ H s)(hv:zO ys ae)(hz:ys.length<=sizeLine):
  Inv X pins σ (upd H s.heap.objs.size<|.lst ys) {s with heap:=s.heap.push {cls:=.type "list",data:=.seq ae.toArray},toks:=t'}:=
 I.laid (λ_ _ q=>qd _ q) (qe _) ⟨hz,ae,0,hv,qg _ rfl⟩
theorem Inv.fresh(I:Inv X pins σ H s):H s.heap.objs.size=none:=I.az.fresh (qe _)
theorem Inv.GY(I:Inv X pins σ H s)(hH:H l=some (.lst xs)):xs.length<=sizeLine/\∃ (ae:Qa Qc) (n:Nat),zO xs ae/\xs.length=ae.length/\s.heap.get? l=some {cls:=.type "list",data:=.seq ae.toArray n}:=by
 have(z,ae,n,r,e):=I.az l _ hH;exact⟨z,ae,n,r,r.length,e⟩
theorem ZO(h:n<=sizeLine):Builtin.List.listTooLong n=false:=by
 unfold Builtin.List.listTooLong;exact decide_eq_false (by omega)
end
section
variable{X:Cx}
def Jb:R2:=λx y H Q=>∃ l k xs,x=.ref l/\y=.int k/\H l=some (.lst xs)/\-(2^63)<=k/\k < 2^63/\xs.length * k.toNat<=sizeLine/\
 ∀ p,H p=none->Q (.ref p) (upd H p<|.lst (List.replicate k.toNat xs).flatten)
theorem E1(xs:Qa α)(k:Nat):(List.replicate k xs).flatten.length=k * xs.length:=by
 induction k with
 | zero=>simp
 | succ k ih=>rw[List.replicate_succ,List.flatten_cons,qu,ih,Nat.succ_mul,Nat.add_comm]
theorem Uz:cC X (binaryOp .Mult) Jb:=by
 intro pins s σ H x y v u Q I rx ry h;have(l,k,xs,rfl,rfl,hH,h1,h2,hz,q):=h;cases rx;have(t,rfl):=ry;have(z,ae,n,r,hl,e):=I.GY hH;have hlen:ae.toArray.size * k.toNat<=sizeLine:=by rw[List.size_toArray,<-hl]; exact hz
 have HG:¬ae.toArray.size * k.toNat > (2^63 - 1) / 8:=by
  have:(sizeLine:Nat)<=(2^63 - 1) / 8:=by decide
  omega
 have sX:¬(!Builtin.List.listFitsIndex k)=true:=by
  rw[fitsIndex_both h1 h2];exact qf
 have x8:¬Builtin.List.listTooLong (ae.toArray.size * k.toNat)=true:=by
  rw[ZO hlen];exact qf
 have Hz:List.foldl (λx1 x2=>x1++x2) #[] (List.replicate (if ae.toArray.isEmpty=true then 0 else k.toNat) ae.toArray)=(List.replicate k.toNat ae).flatten.toArray:=by
  have f0:∀ m:Nat,List.foldl (λx1 x2=>x1++x2) #[] (List.replicate m ae.toArray)=(List.replicate m ae).flatten.toArray:=λm=>by
   have:=FU ae m [];rw[List.nil_append]at this;exact this
  rw[f0];cases ae with
  | nil=>simp
  | cons a r'=>rw[if_neg (by simp)]
 refine wpAny_binaryOp_repeat_ref (T := "list") (U := "int") (by decide) ⟨_,e,rfl⟩ (λs'=>typeIs_int s' k t) noFill_list_mul F.fills_int_mul F.slot_int_rmul repeat_list F.slot_int_index.lookup
  (call_meets F.slot_int_rmul (typeIs_int s k t) F.entry_int_rmul (F.args_int_rmul_2 _ _) (int___rmul___int_list k t l ae.toArray n)
   ⟨e,rfl,⟨_,e,rfl⟩,call_meets F.slot_list_mul ⟨_,e,rfl⟩ F.entry_list_mul (F.args_list_mul_2 _ _) (AutoListH.list___mul___list_int_3 l ae.toArray n k t sX HG x8) ⟨e,?_⟩⟩)
 rw[Hz];exact⟨.ref _,_,I.GZ (t':=s.toks) (r.rep k.toNat) (by rw[E1,Nat.mul_comm]; exact hz),rfl,q _ I.fresh⟩
end
section
end
section
variable{X:Cx}
end
section
variable[DecidableEq κ]
def ft(kvs:Qa (κ×V))(k:κ):Qb V:=(kvs.find? λkv=>decide<|kv.1=k).map (·.2)
def cc(kvs:Qa (κ×V))(k:κ)(v:V):Qa (κ×V):=
 if(kvs.any λkv=>decide<|kv.1=k)=true then kvs.map (λkv=>if kv.1=k then(kv.1,v)else kv)else kvs++[(k,v)]
def rA(kvs:Qa (κ×V))(k:κ):Qa (κ×V):=kvs.filter λkv=>decide<|kv.1≠k
theorem FE{p:κ×V}{r:Qa (κ×V)}{k:κ}(e:p.1=k):ft (p::r) k=some p.2:=by simp[ft,List.find?_cons,e]
theorem FC{p:κ×V}{r:Qa (κ×V)}{k:κ}(e:¬p.1=k):ft (p::r) k=ft r k:=by simp[ft,List.find?_cons,e]
theorem Ms(k:κ):∀ kvs:Qa (κ×V),(kvs.any λkv=>decide<|kv.1=k)=(ft kvs k).isSome
 | []=>rfl
 | p::r=>by
  rw[List.any_cons]
  by_cases e:p.1=k
  .simp only[FE e,decide_eq_true e,Bool.true_or,Option.isSome_some]
  .rw[FC e,decide_eq_false e,Bool.false_or]; exact Ms k r
theorem xh(kvs:Qa (κ×V))(k:κ)(v:V):(cc kvs k v).length<=kvs.length+1:=by
 unfold cc;split
 .rw[List.length_map]; omega
 .rw[qu,qv,List.length_nil]; omega
theorem jr.jg{o:Qb V}{u:Qb Qc}(r:jr o u):o.isSome=u.isSome:=by
 cases o with
 | none=>cases u with
  | none=>rfl
  | some _=>exact(show False from r).elim
 | some _=>cases u with
  | none=>exact(show False from r).elim
  | some _=>rfl
theorem jr.getD{o:Qb V}{u:Qb Qc}{d:V}{d':Qc}(r:jr o u)(rd:zV d d'):zV (o.getD d) (u.getD d'):=by
 cases o with
 | none=>cases u with
  | none=>exact rd
  | some _=>exact(show False from r).elim
 | some _=>cases u with
  | none=>exact(show False from r).elim
  | some _=>exact r
theorem KV.val{kvs:Qa (κ×V)}{vs:Qa (κ×Qc)}(r:KV kvs vs)(k:κ):jr (ft kvs k) (valueAt vs k):=by
 unfold KV at r
 induction r with
 | nil=>exact True.intro
 | @cons p q ps qs h t ih=>
  have(h1,h2):=h
  by_cases e:p.1=k
  .have e':q.1=k:=h1.symm.trans e
   have b:valueAt (q::qs) k=some q.2:=by simp[valueAt,List.find?_cons,e']
   rw[FE e,b]; exact h2
  .have e':¬q.1=k:=λz=>e<|h1.trans z
   have b:valueAt (q::qs) k=valueAt qs k:=by simp[valueAt,List.find?_cons,e']
   rw[FC e,b]; exact ih
theorem KV.any{kvs:Qa (κ×V)}{vs:Qa (κ×Qc)}(r:KV kvs vs)(k:κ):(kvs.any λkv=>decide<|kv.1=k)=vs.any λkv=>decide (kv.1=k):=by
 unfold KV at r
 induction r with
 | nil=>rfl
 | cons h t ih=>rw[List.any_cons,List.any_cons,ih,h.1]
theorem KV.j0{kvs:Qa (κ×V)}{vs:Qa (κ×Qc)}(r:KV kvs vs)(k:κ)(ry:zV y u):
  KV (kvs.map λkv=>if kv.1=k then(kv.1,y)else kv) (vs.map λkv=>if kv.1=k then(kv.1,u)else kv):=by
 unfold KV at r ⊢
 induction r with
 | nil=>exact .nil
 | @cons p q ps qs h t ih=>
  rw[List.map_cons,List.map_cons];refine .cons ?_ ih;have(h1,h2):=h
  by_cases e:p.1=k
  .rw[if_pos e,if_pos<|h1.symm.trans e]; exact⟨h1,ry⟩
  .rw[if_neg e,if_neg λz=>e<|h1.trans z]; exact⟨h1,h2⟩
theorem KV.put{kvs:Qa (κ×V)}{vs:Qa (κ×Qc)}(r:KV kvs vs)(k:κ)(ry:zV y u):KV (cc kvs k y) (stored vs k u):=by
 unfold cc stored;rw[r.any k]
 by_cases e:(vs.any λkv=>decide<|kv.1=k)=true
 .rw[if_pos e,if_pos e]; exact r.j0 k ry
 .rw[if_neg e,if_neg e]; exact Paired.snoc r ⟨rfl,ry⟩
theorem KV.length{kvs:Qa (κ×V)}{vs:Qa (κ×Qc)}(r:KV kvs vs):kvs.length=vs.length:=Paired.length r
end
theorem Aq{k:Key}(r:zV (kV k) u):(zA P w).is k u=true:=by
 cases k with
 | inl i=>have(t,e):=(show ∃ t,u=Value.int i t from r); subst e; exact zkg P w i t
 | inr x=>have(t,e):=(show ∃ t,u=Value.str x t from r); subst e; exact zkh P w x t
theorem FT:∀ {ks:Qa Key} {us:Qa Qc},zO (ks.map kV) us->ItemsAre (zA P w) ks us
 | [],_,r=>by rw[List.map_nil]at r; cases r; exact .nil
 | k::ks,_,r=>by
  rw[List.map_cons]at r;cases r with
  | cons h t=>exact .cons (Aq h)<|FT t
abbrev KT(K:qc)(H:Hp):Qa (Qa Key×V)->Qa (Qa Key×Qg×Qc)->Prop:=Paired λp q=>p.1=q.1/\aM K H q.2.1 (p.1.map kV)/\zV p.2 q.2.2
theorem KT.val{xs:Qa (Qa Key×Qg×Qc)}(r:KT K H kvs xs)(k:Qa Key):jr (ft kvs k) ((atKey xs k).map (·.2)):=by
 induction r with
 | nil=>exact True.intro
 | @cons p q ps qs h t ih=>
  have(h1,_,h2):=h
  by_cases e:p.1=k
  .have e':q.1=k:=h1.symm.trans e
   have b:atKey (q::qs) k=some q.2:=by simp[atKey,List.find?_cons,e']
   rw[FE e,b]; exact h2
  .have e':¬q.1=k:=λz=>e<|h1.trans z
   have b:atKey (q::qs) k=atKey qs k:=by simp[atKey,List.find?_cons,e']
   rw[FC e,b]; exact ih
theorem KT.j0{xs:Qa (Qa Key×Qg×Qc)}(r:KT K H kvs xs)(k:Qa Key)(ry:zV y u):
  KT K H (kvs.map λkv=>if kv.1=k then(kv.1,y)else kv) (xs.map<|putAt k u):=by
 induction r with
 | nil=>exact .nil
 | @cons p q ps qs h t ih=>
  rw[List.map_cons,List.map_cons];refine .cons ?_ ih;have(h1,h2,h3):=h;unfold putAt
  by_cases e:p.1=k
  .rw[if_pos e,if_pos<|h1.symm.trans e]; exact⟨h1,h2,ry⟩
  .rw[if_neg e,if_neg λz=>e<|h1.trans z]; exact⟨h1,h2,h3⟩
theorem KT.put{xs:Qa (Qa Key×Qg×Qc)}(r:KT K H kvs xs)(k:Qa Key){b:Qg}(hb:aM K H b (k.map kV))(ry:zV y u):
  KT K H (cc kvs k y) (storedH xs k b u):=by
 have e:(kvs.any λkv=>decide<|kv.1=k)=(atKey xs k).isSome:=by
  rw[Ms,(r.val k).jg,Option.isSome_map]
 unfold cc storedH;rw[e]
 by_cases q:(atKey xs k).isSome=true
 .rw[if_pos q,if_pos q]; exact r.j0 k ry
 .rw[if_neg q,if_neg q]; exact Paired.snoc r ⟨rfl,hb,ry⟩
theorem KT.keeps{xs:Qa (Qa Key×Qg×Qc)}(r:KT K H kvs xs)(ht:∀ b ys,H b=some (.tup ys)->H' b=some (.tup ys)):KT K H' kvs xs :=
 Paired.g6 r λ_ _ z=>⟨z.1,z.2.1.keeps ht,z.2.2⟩
section
theorem oO{u:HO}(ok:bV P w K H h)(e:Rd H a u):be P w K H h a u:=e.ok ok
theorem vY{kvs:Qa (Key×V)}(ok:bV P w K H h)(e:Rd H a (.dK kvs)):kvs.length<=sizeLine/\(a==sysModules)=false/\∃ vs,KV kvs vs/\h.DictOf (zA P w) a vs :=
 show be P w K H h a (.dK kvs) from oO ok e
theorem SE{kvs:Qa (Key×V)}(ok:bV P w K H h)(e:H a=some (.dK kvs)):kvs.length<=sizeLine/\(a==sysModules)=false/\∃ vs,KV kvs vs/\h.DictOf (zA P w) a vs:=vY ok (.inl e)
theorem lr{ks:Qa Key}(gv:K.In h)(ok:bV P w K H h)(e:aM K H a (ks.map kV)):(tupleKind<|zA P w).is h ks a:=by
 rcases e with e|⟨o,ae,n,hk,hc,hs,_,r,_⟩
 case inr=>exact⟨o,ae,n,gv a o hk,hc,hs,by simpa using FT r⟩
 obtain⟨_,ae,r,o,h1,h2,⟨n,h3⟩,_⟩:=(show be P w K H h a (.tup<|ks.map kV) from ok a _ e);exact⟨o,ae.toArray,n,h1,h2,h3,by simpa using FT r⟩
theorem oN(gv:K.In h)(ok:bV P w K H h)(e:Rd H a (.dT kvs)):kvs.length<=sizeLine/\(a==sysModules)=false/\
  ∃ xs,KT K H kvs xs/\h.DictOfH (tupleKind<|zA P w) a xs:=by
 have(z,y,xs,r,o,es,ep,h1,h2,h3,h4,h5):=(show be P w K H h a (.dT kvs) from oO ok e);refine⟨z,y,xs,r,o,es,ep,h1,h2,h3,h4,λx hx=>?_,h5⟩;have all:∀ {l:Qa (Qa Key×V)} {m:Qa (Qa Key×Qg×Qc)},KT K H l m->∀ x∈m,(tupleKind<|zA P w).is h x.1 x.2.1:=by
  intro l m q
  induction q with
  | nil=>intro x hx; exact nomatch hx
  | @cons p q ps qs hq t ih=>
   intro x hx;rcases qw.mp hx with e|hx
   .subst e
    exact lr gv ok (by rw[<-hq.1]; exact hq.2.1)
   .exact ih x hx
 exact all r x hx
theorem vX(gv:K.In h)(ok:bV P w K H h)(e:H a=some (.dT kvs)):kvs.length<=sizeLine/\(a==sysModules)=false/\
  ∃ xs,KT K H kvs xs/\h.DictOfH (tupleKind<|zA P w) a xs:=oN gv ok (.inl e)
end
def qV(K:qc)(H:Hp)(a:Qg)(y:V)(r:Qb V):Prop :=
 (∃ kvs k,Rd H a (.dK kvs)/\y=kV k/\r=ft kvs k)\/∃ kvs k b,Rd H a (.dT kvs)/\y=.ref b/\aM K H b (k.map kV)/\r=ft kvs k
def og(K:qc)(H:Hp)(a:Qg)(y v:V)(H':Hp):Prop :=
 (∃ kvs k,H a=some (.dK kvs)/\y=kV k/\kvs.length < sizeLine/\H'=upd H a (.dK<|cc kvs k v))\/
 ∃ kvs k b,H a=some (.dT kvs)/\y=.ref b/\aM K H b (k.map kV)/\kvs.length < sizeLine/\H'=upd H a (.dT<|cc kvs k v)
theorem og.k{kvs:Qa (Key×V)}{k:Key}(e:H a=some (.dK kvs))(hl:kvs.length < sizeLine):og K H a (kV k) v (upd H a<|.dK<|cc kvs k v):=.inl ⟨kvs,k,e,rfl,hl,rfl⟩
theorem og.t{b:Qg}{k:Qa Key}(e:H a=some (.dT kvs))(eb:aM K H b (k.map kV))(hl:kvs.length < sizeLine):
  og K H a (.ref b) v (upd H a<|.dT<|cc kvs k v):=.inr ⟨kvs,k,b,e,rfl,eb,hl,rfl⟩
section
variable{X:Cx}{r:Qc}{o:Qb V}
theorem Inv.nW(I:Inv X pins σ H s):sysModules < s.heap.objs.size:=by
 have h:mainGlobals < s.heap.objs.size:=(I.mod.glob.keeps I.bk).lt;exact Ó (by decide) h
theorem zo0(hu:A.units+1 < cLine)(I:Inv X pins σ H s)(g:qV X.K H a y (some v))(ry:zV y u)(h:∀ w' s',Inv X pins σ H s'->zV v w'->Q w' s'):
  wpAny (model X.prog X.w) A (getItem (.ref a) u) Q E s:=by
 rcases g with⟨kvs,k,e,ey,l⟩|⟨kvs,k,b,e,ey,eb,l⟩
 .subst ey
  have(z,hd,vs,rel,dd):=vY I.az e;have(w',hw,jc):=jr.some_of (v:=v) (o:=valueAt vs k) (by rw[l]; exact rel.val k);exact wpAny_getItem_of (Aq ry) dd.mapOf hw<|h w' _ (I.tok _) jc
 .subst ey
  cases(show u=Value.ref b from ry);have(z,hd,xs,rel,dd):=oN I.cJ I.az e;have(w',hw,jc):=jr.some_of (v:=v) (o:=(atKey xs k).map (·.2)) (by rw[l]; exact rel.val k);have(p,hp,kr):=qr.mp hw;refine wpAny_getItem_heap (tupleKind_room_in1 hu) (lr I.cJ I.az eb) dd hp ?_;rw[kr];exact h w' _ (I.tok _) jc
theorem uV{t':Nat}{ob:HO}(I:Inv X pins σ H s)(mu:yC (H a))(hs:Heap.SameBut a s.heap h')(he:∃ q,h'.get? a=some q)(new:be X.prog X.w X.K (upd H a ob) h' a ob):
  Inv X pins σ (upd H a ob) {s with heap:=h',toks:=t'}:=
 I.write (x:=a) (e:=a) mu (.inl rfl) (λb q hb z=>(hs.2 b hb).trans z) he new
theorem Uy{kvs:Qa (Key×V)}{vs:Qa (Key×Qc)}(z:kvs.length<=sizeLine)(hd:(a==sysModules)=false)(rel:KV kvs vs)(dd:h'.DictOf (zA P w) a vs):
  be P w K H' h' a (.dK kvs):=⟨z,hd,vs,rel,dd⟩
theorem zo1{Q:Unit->Qd->Prop}(hu:A.units+1 < cLine)(I:Inv X pins σ H s)(g:og X.K H a y v H')(ry:zV y u)(rv:zV v r)(h:∀ s',Inv X pins σ H' s'->Q () s'):
  wpAny (model X.prog X.w) A (setItem (.ref a) u r) Q E s:=by
 rcases g with⟨kvs,k,e,ey,l,eH⟩|⟨kvs,k,b,e,ey,eb,l,eH⟩
 .subst ey eH
  have(z,hd,vs,rel,dd):=SE I.az e;have hz:vs.length<=sizeLine:=by rw[<-rel.length]; exact z
  have hl:(cc kvs k v).length<=sizeLine:=by have:=xh kvs k v; omega
  refine wpAny_setItem_pairs (hsz:=hz) (Aq ry) dd λh' jz hs=>h _ ?_;have he:∃ q,h'.get? a=some q:=let ⟨q,_,_,hq,_⟩:=jz; ⟨q,hq⟩;exact uV I (by rw[e]; exact True.intro) hs he<|Uy hl hd (rel.put k rv) jz
 .subst ey eH
  cases(show u=Value.ref b from ry);have(z,hd,xs,rel,dd):=vX I.cJ I.az e;have hz:xs.length<=sizeLine:=by rw[<-Paired.length rel]; exact z
  have hl:(cc kvs k v).length<=sizeLine:=by have:=xh kvs k v; omega
  refine wpAny_setItem_heap (hsz:=hz) (tupleKind_room_in1 hu) (lr I.cJ I.az eb) dd λh' jz hs=>h _ ?_;have(q,es,ep,hq,h2,h3,h4,_,h5):=jz;refine uV I (by rw[e]; exact True.intro) hs ⟨q,hq⟩ ⟨hl,hd,_,(rel.put k eb rv).keeps λc ys ec=>?_,q,es,ep,hq,h2,h3,h4,h5⟩;rw[zx (oP ec e (λz=>nomatch z))];exact ec
end
section
variable{X:Cx}{kvs:Qa (Key×V)}{k:Key}
end
def Dt(i:Expr):Prop:=∀ ov iv,subscripted i false ov iv=operate [ov,iv] (getItem ov iv)
theorem W3{slice:Expr}{id:String}
  (hl:typeLookup (.type T) "__getitem__"=pure (some<|.builtin id)) (hs:Dt slice)
  (h:wpAny (model prog w) A (eval value env) (λo aC=>wpAny (model prog w) A (eval slice env) (λi gr=>gr.TypeIs o T/\wpAny (model prog w) A (getItem o i) Q E gr) E aC) E s):
  wpAny (model prog w) A (eval (.Subscript value slice pos) env) Q E s:=by
 refine Subscript_<|wpAny_mono h (λo aC sJ=>wpAny_mono sJ (λi gr sI=>?_) λ_ _ x=>x) λ_ _ x=>x;have(hT,sI):=sI;unfold subscriptTail;refine qa ?_;rw[getitemInPython_of_ne hT.not_modules];refine qa<|wpAny_specialOf hT hl ?_;have fin:wpAny (model prog w) A (subscripted slice false o i) (λr xB=>wpAny (model prog w) A (letTemporaryGo value o r >>= λ_=>pure r) Q E xB) E gr:=by
  rw[hs o i];exact wpAny_operating (wpAny_mono sI (λr xB Hf=>qa<|wpAny_letTemporaryGo<|qb Hf) λ_ _ x=>x)
 first
  | exact qb<|qa fin
  | exact qa<|qb<|qa fin
  | exact qa fin
theorem zku{X:Cx}{o:Qb V}(I:Inv X pins σ H s)(g:qV X.K H a y o):s.TypeIs (.ref a) "dict":=by
 rcases g with⟨kvs,k,e,_,_⟩|⟨kvs,k,b,e,_,_,_⟩
 .have(_,_,vs,_,dd):=vY I.az e
  exact dd.typeIs
 .have(_,_,xs,_,dd):=oN I.cJ I.az e
  exact dd.typeIs
def DZ(K:qc)(td ty:TE):TE:=λσ H Q=>td σ H λx H1=>ty σ H1 λy H2=>∃ a v,x=.ref a/\qV K H2 a y (some v)/\Q v H2
def DY(K:qc)(td ty tv:TE):TS:=λD σ H=>tv σ H λv H1=>td σ H1 λx H2=>ty σ H2 λy H3=>∃ a H4,x=.ref a/\og K H3 a y v H4/\D.nx σ H4
section
variable{X:Cx}{i:Expr}
theorem W2(hu:X.A.units+1 < cLine)(ho:PE X o td)(hi:PE X i ty)(hs:Dt i):PE X (.Subscript o i pos) (DZ X.K td ty):=by
 intro pins s σ H Q I h;refine W3 PySem.F.slot_dict_getitem.lookup hs<|aF (ho pins s σ H _ I h) λu s1 ⟨x,H1,I1,rx,q1⟩=>aF (hi pins s1 σ H1 _ I1 q1) λiv s2 hZ=>?_;have(y,H2,I2,ry,a,v,ex,g,q2):=hZ;subst ex;obtain rfl:u=Value.ref a:=rx;exact⟨zku I2 g,zo0 hu I2 g ry λw' s3 I3 jc=>⟨v,H2,I3,jc,q2⟩⟩
theorem W1(hu:X.A.units+1 < cLine)(ho:PE X o td)(hi:PE X i ty)(hv:PE X value tv)(hs:swapsWith value (some<|.Subscript o i pos') pos.line X.env=pure false):
  PS X (.Assign [.Subscript o i pos'] value pos) (DY X.K td ty tv):=by
 intro pins s σ H D I h;refine wpAny_Assign_Subscript (aF (hv pins s σ H _ I h) λr s1 ⟨v,H1,I1,rv,q1⟩=>aF (ho pins s1 σ H1 _ I1 q1) λu s2 ⟨x,H2,I2,rx,q2⟩=>aF (hi pins s2 σ H2 _ I2 q2) λiv s3 hZ=>?_) hs;have(y,H3,I3,ry,a,H4,ex,g,q3):=hZ;subst ex;obtain rfl:u=Value.ref a:=rx;exact zo1 hu I3 g ry rv λs4 I4=>⟨σ,H4,I4,q3⟩
end
theorem wX(h:Heap)(hb:sysModules < h.objs.size):be P w K H (h.push {cls:=.type "dict",data:=.dict #[]}) h.objs.size (.dT []):=
 ⟨Ð _,beq_eq_false_iff_ne.mpr<|Ne.symm<|qk hb,[],.nil,_,#[],0,qg _ rfl,⟨rfl,rfl,rfl⟩,rfl,rfl,List.nodup_nil⟩
def AL:TE:=λ_ H Q=>∀ p,H p=none->Q (.ref p) (upd H p<|.dT [])
section
variable{X:Cx}
theorem ZN:PE X (.Dict [] [] pos) AL:=λpins s σ H Q I h=>
 wpAny_Dict_empty ⟨.ref s.heap.objs.size,_,I.laid (a:=s.heap.objs.size) (o:=.dT []) (t':=s.toks) (λ_ _ q=>qd _ q) (qe _)<|wX s.heap I.nW,rfl,h _<|I.az.fresh<|qe _⟩
end
structure M1 (X:Cx) (o:Expr) (m:Str) (apos:Pos) (e:Expr) (bM:Pos):Prop where
 base:attributeBase o m X.env (eval o X.env)=eval o X.env
 HY:((backTo bM<|starEach [e] X.env).all (λx=>!x.1) && (backToKw bM<|keywordEach [] X.env).all (λx=>x.1.isSome)
  && decide (([e]:Qa Expr).length+([]:Qa Keyword).length+(if([]:Qa Keyword).isEmpty then 0 else 1) < 30))=true
 line:(apos.endLine==bM.line)=true
 trees:backTo bM (starEach [e] X.env)=[(false,eval e X.env)]
structure M2 (X:Cx) (o:Expr) (m:Str) (apos:Pos) (e f:Expr) (bM:Pos):Prop where
 base:attributeBase o m X.env (eval o X.env)=eval o X.env
 HY:((backTo bM<|starEach [e,f] X.env).all (λx=>!x.1) && (backToKw bM<|keywordEach [] X.env).all (λx=>x.1.isSome)
  && decide (([e,f]:Qa Expr).length+([]:Qa Keyword).length+(if([]:Qa Keyword).isEmpty then 0 else 1) < 30))=true
 line:(apos.endLine==bM.line)=true
 trees:backTo bM (starEach [e,f] X.env)=[(false,eval e X.env),(false,eval f X.env)]
def CJ(H:Hp)(a:Qg):Prop:=(∃ kvs,Rd H a<|.dK kvs)\/∃ kvs,Rd H a<|.dT kvs
theorem KP{X:Cx}(I:Inv X pins σ H s)(d:CJ H a):
  s.TypeIs (.ref a) "dict"/\(∀ b,Value.ref a=.ref b->∃ ob,s.heap.get? b=some ob/\ob.dict=none)/\(a==sysModules)=false:=by
 rcases d with⟨kvs,e⟩|⟨kvs,e⟩
 .have(_,hd,vs,_,dd):=vY I.az e
  refine⟨dd.typeIs,λb q=>?_,hd⟩;cases q;have(ob,_,_,h1,h2,_):=dd;exact⟨ob,h1,h2.2.1⟩
 .have(_,hd,xs,_,dd):=oN I.cJ I.az e
  refine⟨dd.typeIs,λb q=>?_,hd⟩;cases q;have(ob,_,_,h1,h2,_):=dd;exact⟨ob,h1,h2.2.1⟩
section
variable{X:Cx}{d:V}{r:Qc}{o:Qb V}
theorem Vb(hu:A.units+1 < cLine)(I:Inv X pins σ H s)(g:qV X.K H a y o)(ry:zV y u)(rd:zV d r)(h:∀ w' s',Inv X pins σ H s'->zV (o.getD d) w'->Q w' s'):
  wpAny (model X.prog X.w) A (call (.builtin "dict.get") [.ref a,u,r]) Q E s:=by
 rcases g with⟨kvs,k,e,ey,l⟩|⟨kvs,k,b,e,ey,eb,l⟩
 .subst ey
  have(z,hd,vs,rel,dd):=vY I.az e;refine call_meetsIn PySem.F.slot_dict_get dd.typeIs PySem.F.entry_dict_get (PySem.F.args_dict_get_3 _ _ _) (meets_dict_get_default (zA X.prog X.w) a (Aq ry) hd r) ⟨_,dd.mapOf,h _ _ (I.tok _) ?_⟩;rw[l];exact(rel.val k).getD rd
 .subst ey
  cases(show u=Value.ref b from ry);have(z,hd,xs,rel,dd):=oN I.cJ I.az e;refine call_meetsIn PySem.F.slot_dict_get dd.typeIs PySem.F.entry_dict_get (PySem.F.args_dict_get_3 _ _ _) (meetsH_dict_get_default (tupleKind<|zA X.prog X.w) a b hd r) ⟨tupleKind_room_in1 hu,k,xs,lr I.cJ I.az eb,dd,h _ _ (I.tok _) ?_⟩;rw[l];exact(rel.val k).getD rd
end
def EE(K:qc)(td ty tx:TE):TE:=λσ H Q=>td σ H λx H1=>∃ a,x=.ref a/\CJ H1 a/\ty σ H1 λy H2=>tx σ H2 λz H3=>∃ o,qV K H3 a y o/\Q (o.getD z) H3
section
variable{X:Cx}{f:Expr}{tx:TE}
theorem Z5(hu:X.A.units+1 < cLine)(ho:PE X o td)(he:PE X e ty)(hf:PE X f tx)(m:M2 X o "get" apos e f bM):PE X (.Call (.Attribute o "get" apos) [e,f] [] bM) (EE X.K td ty tx):=by
 intro pins s σ H Q I h;refine wpAny_Call_method m.base m.HY m.line PySem.F.plainAttrs_dict PySem.F.slot_dict_get PySem.F.type_dict_get<|aF (ho pins s σ H _ I h) λu s1 hZ=>?_;have(x,H1,I1,rx,a,ex,d,q1):=hZ;subst ex;obtain rfl:u=Value.ref a:=rx;have(t1,t2,_):=KP I1 d;refine⟨t1,t2,?_⟩;rw[m.trees];refine Calls.callWith_builtin rfl<|Calls.evalArgs_plain<|Č (aF (he pins s1 σ H1 _ I1 q1) λiv s2 ⟨y,H2,I2,ry,q2⟩=>
  Č (aF (hf pins s2 σ H2 _ I2 q2) λfv s3 ⟨z,H3,I3,rz,ov,g,q3⟩=>Calls.spliced_nil ?_))
 exact Vb hu I3 g ry rz λw' s4 I4 jc=>⟨_,H3,I4,jc,q3⟩
end
section
variable{X:Cx}{kvs:Qa (Key×V)}
end
section
variable{X:Cx}
end
end L2
namespace RC
open PySem PySem.W PySem.Calls PyProof.Rows
theorem zgz{P:Params}{h:Heap}:∀ (ns:List Int) (vs:List Value),WellAll P h vs (ns.map WData.int)->IntsAre vs ns:=by
 intro ns
 induction ns with
 | nil=>
  intro vs w;rw[List.map_nil]at w;cases w;exact .nil
 | cons n ns ih=>
  intro vs w;rw[List.map_cons]at w;cases w with
  | cons a b=>
   cases a;exact .cons _ _<|ih _ b
theorem zo2{l:OpenLaw}{n:Nat}(hn:l.most=some n){P:Params}{h:Heap}{args:List WData}{vals:List Value}
  (nv:l.row.toRowW.claim.pre args=true) (Hj:WellAll P h vals args):
  ∃ a vs ns,vals=[Value.ref a]/\args=[WData.list<|ns.map WData.int]/\h.get? a=some {cls:=.type "list",data:=.seq vs.toArray}/\IntsAre vs ns/\ns.length<=n:=by
 have hsh:WShape.hasAll [] args [.list .int]=true:=(pre_splitW nv).1;have hc:l.pre.holds [] {args:=args}=true:=(pre_splitW nv).2;have(d,r,rfl,h1,h2):=hasAllW_cons hsh;obtain rfl:=hasAllW_nil h2;have(xs,rfl,h3):=hasW_list h1;have(ns,rfl):=items_int h3;have hlen:ns.length<=n:=by
  unfold OpenLaw.pre at hc;have h4:(WTm.not<|.lt (.lit<|.int (n:Int))<|.len<|.arg 0).holds [] {args:=[.list<|ns.map .int]}=true:=by
   have h4:=(holds_andW hc).1;rw[hn]at h4;exact h4
  have h5:=condW_of h4 (w_not<|w_lt w_lit<|w_len_list<|w_arg rfl);rw[List.length_map]at h5;refine Nat.le_of_not_lt λq=>?_;have q':(n:Int) < ((ns.length:Nat):Int):=by omega
  first
   | (rw[decide_eq_true q']at h5; exact absurd h5 (by decide))
   | (simp at h5; omega)
 cases Hj with
 | cons w1 w2=>
  cases w2;cases w1 with
  | list ho kC=>exact⟨_,_,ns,rfl,rfl,ho,zgz ns _ kC,hlen⟩
theorem zo3(l:OpenLaw)(args:List WData):l.row.toRowW.claim.post args (.bool true) args=true :=
 postW_of (r:=l.row.toRowW) (X:=(true==true))
  (show WShape.has [] (.bool true) .bool=true by first|rfl|decide|simp[WShape.has,WShape.arms,WShape.armsAll])
  (show(WTm.eq .res<|.lit<|.bool true).value [] {args:=args,res:=some (.bool true),after:=args}=some (.bool<|true==true) from w_eq_bool (w_res rfl) w_lit) rfl
theorem gD{l:OpenLaw}{n:Nat}{q:Program}{loose:List Str}{XP:(Str->Option Value)->Heap->Prop}{YP:World->Heap->Prop}{d:DefRec}
  (hn:l.most=some n) (yg:d.params.defaults=[])
  (call:∀ (w:World) (aW aC:Shared) (mg mb:Str->Option Value) (fa:Addr) (o:Obj) (pm cd doc:Value) (a:Addr) (vs:List Value) (ns:List Int),
   Ground q loose [] XP w aW mg mb aC.heap->YP w aC.heap->
   aC.heap.get? fa=some o->o.data=.func (docDef d.name d.params d.body d.scope pm cd doc)->aC.heap.CodeRec cd d.name->mg d.name=some (.ref fa)->
   aC.heap.get? a=some {cls:=.type "list",data:=.seq vs.toArray}->IntsAre vs ns->ns.length<=n->aC.gens=#[]->
   codeAny (model l.prog w) callerA (.call (.ref fa) ⟨[.ref a],[]⟩) (λr s'=>r=.ok (.ret<|.bool true)/\OldK aC.heap s'.heap/\s'.os=aC.os/\AllBare s'.gens) aC):
  WalkO q loose XP YP l.row.toRowW d [] (λf vs=>PySem.call f vs):=by
 intro w aW aC mg mb G Y fa o pm cd doc dV kV ho hd ji hD xY hg args vals as nv hlay hrd Hj hlo;obtain rfl:dV=.none:=Dflts.none hD yg;obtain rfl:kV=.none:=Dflts.noKw hD;have(a,vs,ns,rfl,rfl,sO,hints,hlen):=zo2 hn nv Hj;refine enter_call<|codeAny_mono (call w aW aC mg mb fa o pm cd doc a vs ns G Y ho (fd_plain hd) ji xY sO hints hlen hg) λr s' hq=>?_;have(rfl,h2,h3,h4):=hq;exact⟨.inl ⟨.bool true,.bool true,[],rfl,λ_=>rfl,.bool true,zo3 l _,λ_=>⟨List.Pairwise.nil,λ_ hm=>(nomatch hm)⟩⟩,h2,h3,h4⟩
section
variable{prog:Program} {w:World} {A:Around} {E:Value->Shared->Prop} {s:Shared} {K:Frag}
end
end RC
namespace L2
open PySem PySem.Spec PyProof.Rows
theorem M0:∀ {vs:Qa Qc} {ns:Qa Int},IntsAre vs ns->zO (ns.map V.int) vs
 | _,_,.nil=>.nil
 | _,_,.cons n t h=>.cons ⟨t,rfl⟩<|M0 h
def yO(H:Hp):Prop:=∀ b,H b=none\/∃ o xs,H b=some (.aZ o<|.lst xs)
theorem Z4{mb:Str->Qb Qc}{CX:iP}{k:Nat}{fa:Qg}{aC:Qd}{vs:Qa Qc}
  (KX:K.In aC.heap) (Qm:aC.heap.Ns mainGlobals mg) (hb:aC.heap.Ns builtinsNs mb) (hbb:∀ x:Str,x ≠ "__name__"->mb x=bootBuiltins x) (HA:aC.heap.NoLimit) (hg:aC.gens=#[])
  (ha:aC.heap.get? a=some {cls:=.type "list",data:=.seq vs.toArray}) (hi:IntsAre vs ns) (hl:ns.length<=sizeLine) (hr:aD k callerA)
  (F:∀ base:Heap,K.In base->base.Ns mainGlobals mg->bW P w K mg base CX k fa fd [x] sp) (yj:∀ (s:Qd) (u:Qc),BindsTo s fd ⟨[u],[]⟩ [(x,u)])
  (pV:∀ H:Hp,yO H->bq K H a (ns.map V.int)->sp [.ref a] H (λv _=>v=.bl true) λ_ _ _=>False)
  (HN:∀ H e s',CX [] H aC (λ_ _ _=>False) e s'->False):
  codeAny (model P w) callerA (.call (.ref fa) ⟨[.ref a],[]⟩) (λr s'=>r=.ok (.ret<|.bool true)/\OldK aC.heap s'.heap/\s'.os=aC.os/\AllBare s'.gens) aC:=by
 have rv:=M0 hi;have G2:=hi.length;have core:∀ H:Hp,yO H->bq K H a (ns.map V.int)->bV P w K H aC.heap->(∀ b,H b≠none->b=a)->(H a≠none->K.lookup a=none)->
   codeAny (model P w) callerA (.call (.ref fa) ⟨[.ref a],[]⟩) (λr s'=>r=.ok (.ret<|.bool true)/\OldK aC.heap s'.heap/\s'.os=aC.os/\AllBare s'.gens) aC:=by
  intro H hO hS az hA hK;have iO:∀ {b:Qg} {o:Obj},aC.heap.get? b=some o->H b=none->(mr aC.heap H).get? b=some o:=λe n=>ZW e n;have xK:∀ {b:Qg} {o:Obj} {es:Array DictEntry} {ep:Nat},aC.heap.get? b=some o->o.data=.dict es ep->H b=none:=λ{b o es ep} e d=>by
   cases q:H b with
   | none=>rfl
   | some u=>
    have e':b=a:=hA b (by rw[q]; simp);subst e';rw[ha]at e; cases e;have d':Data.seq vs.toArray _=Data.dict es ep:=d;cases d'
  have B4:∀ {b:Qg} {m:Str->Qb Qc},aC.heap.Ns b m->(mr aC.heap H).Ns b m:=λ{b m} ⟨o,es,ep,e,d,r⟩=>⟨o,es,ep,iO e<|xK e d,d,r⟩;have Qy:K.In (mr aC.heap H):=λb o e=>iO (KX b o e) (by
   cases q:H b with
   | none=>rfl
   | some u=>
    have e':b=a:=hA b (by rw[q]; simp);subst e';rw[hK (by rw[q]; simp)]at e; cases e)
  have hM:Mod K mg (mr aC.heap H):=⟨Qy,B4 Qm,⟨mb,B4 hb,hbb⟩,let ⟨mc,h1,h2⟩:=HA; ⟨mc,B4 h1,h2⟩⟩;have e0:nZ P w K mg (mr aC.heap H) callerA [] aC H:=⟨rfl,hM,λb o e=>Yd e,Nat.le_of_eq<|zoS _ _,trivial,λb hb=>absurd (show b∈([]:Qa Qg) from hb) (by simp),az,.of_eq hg⟩;refine codeAny_mono ((F _ Qy<|B4 Qm).run callerA [] aC H ⟨[.ref a],[]⟩ [.ref a] [.ref a] _ _ hr e0 (yj aC<|.ref a) (.cons rfl .nil)<|pV H hO hS) λr s' h=>?_;cases r with
  | error e=>exact(HN H e s' h).elim
  | ok fl=>
   cases fl with
   | next=>exact False.elim h
   | brk=>exact False.elim h
   | cont=>exact False.elim h
   | ret u=>
    have(v,H',os,bare,un,Hv,r',q):=h;have q':v=.bl true:=q;subst q';obtain rfl:u=Value.bool true:=r';refine⟨rfl,OldK.of_keep λb o e=>?_,os,bare⟩;cases q:H b with
    | none=>exact un.keep b o e q (by intro z; exact absurd (show b∈([]:Qa Qg) from z) (by simp)) (by simp)
    | some u=>
     rcases hO b with z|⟨ob,xs,z⟩
     .rw[q]at z; cases z
     .have z2:=un.cW b ob _ z
      have(e1,_):=az b _ z;have(e2,_):=Hv b _ z2;rw[e]at e1; cases e1;exact e2
 cases hk:K.lookup a with
 | some o=>
  have e:=KX a o hk;rw[ha]at e;cases e;refine core (λ_=>none) (λ_=>.inl rfl) (.inr ⟨_,vs.toArray,_,hk,rfl,rfl,rfl,by rw[List.size_toArray,G2]; exact hl,by simpa using rv⟩) (λb u z=>by have z':(none:Qb HO)=some u:=z; cases z') (λb z=>absurd rfl z) λz=>absurd rfl z
 | none=>
  refine core (λb=>if b=a then some (.aZ {cls:=.type "list",data:=.seq vs.toArray}<|.lst<|ns.map V.int)else none) (λb=>?_) (.inl<|.inr ⟨{cls:=.type "list",data:=.seq vs.toArray},if_pos rfl⟩) (λb u z=>?_) (λb z=>?_) λ_=>hk
  .by_cases hb:b=a
   .exact .inr ⟨_,_,if_pos hb⟩
   .exact .inl (if_neg hb)
  .by_cases hb:b=a
   .have z':=(if_pos hb).symm.trans z
    cases z';subst hb;exact⟨ha,by rw[List.length_map]; exact hl,vs,_,rv,ha⟩
   .have z':=(if_neg hb).symm.trans z
    cases z'
  .by_cases hb:b=a
   .exact hb
   .exact absurd (if_neg hb) z
theorem mV{l:PySem.W.OpenLaw}{k:Nat}{q:Qe}{loose:Qa Str}{XP:(Str->Qb Qc)->Heap->Prop}{YP:Qh->Heap->Prop}{d:DefRec}{K:Params->qc}{CX:Qh->iP}{sp:Qh->Sp}
  (hn:l.most=some n) (hn2:n<=sizeLine) (yg:d.params.defaults=[]) (hr:aD k callerA)
  (hY:∀ (w:Qh) (h:Heap),YP w h->(K w.params).In h)
  (F:∀ (w:Qh) (mg:Str->Qb Qc) (fa:Qg) (h:Heap),(K w.params).In h->h.Ns mainGlobals mg->mg d.name=some (.ref fa)->
   ∃ fd:FuncData,(∀ (s:Qd) (u:Qc),BindsTo s fd ⟨[u],[]⟩ [(x,u)])/\
    ∀ base:Heap,(K w.params).In base->base.Ns mainGlobals mg->bW l.prog w (K w.params) mg base (CX w) k fa fd [x] (sp w))
  (pV:∀ (w:Qh) (H:Hp) (a:Qg) (ns:Qa Int),ns.length<=n->yO H->bq (K w.params) H a (ns.map V.int)->sp w [.ref a] H (λv _=>v=.bl true) λ_ _ _=>False)
  (HN:∀ (w:Qh) (H:Hp) (s:Qd) (e:Qc) (s':Qd),CX w [] H s (λ_ _ _=>False) e s'->False):
  PySem.W.WalkO q loose XP YP l.row.toRowW d [] (λf vs=>PySem.call f vs):=by
 refine RC.gD hn yg λw aW aC mg mb fa o pm cd doc a vs ns G Y ho hd ji xY sO hints hlen hg=>?_;have KX:=hY w _ Y;have(fd,hb,hF):=F w mg fa _ KX G.T.g xY;exact Z4 KX G.T.g G.T.b G.T.builtins G.T.nolimit hg sO hints (qA hlen hn2) hr hF hb (λH hO hS=>pV w H a ns hlen hO hS) λH e s'=>HN w H aC e s'
def uT(s:Stmt):Arguments:=match s with
 | .FunctionDef _ a _ _ _ _ _ _ _ _=>a
 | _=>{posonlyargs:=[],args:=[],vararg:=none,kwonlyargs:=[],kw_defaults:=[],kwarg:=none,defaults:=[]}
def lK(s:Stmt):Qa Stmt:=match s with
 | .FunctionDef _ _ b _ _ _ _ _ _ _=>b
 | _=>[]
def fy(s:Stmt):Scope:=match s with
 | .FunctionDef _ _ _ _ _ _ sc _ _ _=>sc
 | _=>{kind:=.function,names:=[],isGenerator:=false,isCoroutine:=false}
abbrev gF:iP:=λ_ _ _ _ _ _=>False
abbrev E0:XK:=λ_ _ _=>False
theorem Eb{X:Cx}:EG gF X E0:=λ_ _ _ _ _ _ _ h=>h.elim
structure jo (K:qc) (x qual:Str) (st:Stmt) (f:Qg) (fd:FuncData):Prop where
 ex:∃ (oc:Qc) (od:Qb Qg) (kV doc pm:Qc) (an:Qb Qg) (bo ct:Qc) (j4:Array (Qb Qc)),
  fd=PySem.W.fnOf x qual (uT st) (lK st) (fy st) .none kV doc pm an bo ct/\K.lookup f=some ⟨oc,od,.func fd,j4⟩/\PySem.W.codeIn K bo qual=true
 kp:PySem.W.keepIn K (.ref f)=true
section
variable{base:Heap}
theorem jo.ok{f:Qg}{ps:Qa Str}{k:Nat}(F:jo K x qual st f fd)(S:bE N ps (fy st))(len:∀ vs H Q E,sp vs H Q E->vs.length=ps.length)
  (bU:∀ (bo:Qc) (A:Qf) (outer:Qa Env) (s:Qd) (H:Hp) (vs:Qa V) (Q:VK) (E:XK),aD k (A.deeper<|envOfC qual (fy st) s.heap.objs.size f bo)->sp vs H Q E->
   ∃ t,dF (l9 gF P w K mg base N qual (fy st) f bo A outer s H E).r9 (lK st) t/\t {nx:=λ_ H'=>Q .aT H',rt:=Q} (gf N vs) H):bW P w K mg base gF (k+1) f fd ps sp:=by
 have(oc,od,kV,doc,pm,an,bo,ct,j4,rfl,lk,ji):=F.ex;refine SG lk ji S len λA outer s H vs Q E hr pV=>?_;have(t,h,q):=bU bo A outer s H vs Q E hr pV;exact⟨t,h.r9,q⟩
theorem jo.binds{f:Qg}{ps:Qa Str}(F:jo K x qual st f fd)
  (h:∀ (kV doc pm:Qc) (an:Qb Qg) (bo ct:Qc) (us:Qa Qc),us.length=ps.length->bindArgs (PySem.W.fnOf x qual (uT st) (lK st) (fy st) .none kV doc pm an bo ct) ⟨us,[]⟩=pure (ps.zip us)):kZ K fd ps []:=by
 have(oc,od,kV,doc,pm,an,bo,ct,j4,rfl,lk,ji):=F.ex;exact .all<|h kV doc pm an bo ct
theorem Va{f:Qg}{oc:Qc}{od an:Qb Qg}{kV doc pm bo ct:Qc}(l:K.lookup f=some ⟨oc,od,.func<|PySem.W.fnOf x qual (uT st) (lK st) (fy st) .none kV doc pm an bo ct,j4⟩)
  (c:PySem.W.codeIn K bo qual=true) (k:PySem.W.keepIn K (.ref f)=true):jo K x qual st f (PySem.W.fnOf x qual (uT st) (lK st) (fy st) .none kV doc pm an bo ct):=⟨⟨oc,od,kV,doc,pm,an,bo,ct,j4,rfl,l,c⟩,k⟩
end
theorem ui{k:Nat}(hr:aD k A):A.units+1 < cLine:=Â (Nat.add_le_add_left (by decide:1<=64) _) hr.units
section
variable{X:Cx}
theorem pv(i:Nat)(hN:X.N[i]?=some x:=by rfl)(hv:Cz X.env.scope x:=by first|exact Or.inl rfl|exact Or.inr (Or.inl rfl) | exact Or.inr<|Or.inr rfl)(hd:(x==("__debug__":Str))=false:=by decide)
  (ji:(x==("__classdict__":Str))=false:=by decide):PE X (.Name x pos) (mq i):=VN hN hv hd ji
end
def b9(H H':Hp):Prop:=∀ b o,H b=some o->H' b=some o
theorem b9.refl(H:Hp):b9 H H:=λ_ _ h=>h
theorem b9.trans{H2:Hp}(a:b9 H H1)(b:b9 H1 H2):b9 H H2:=λc o h=>b c o<|a c o h
theorem b9.seq{xs:Qa V}(e:b9 H H')(h:bq K H a xs):bq K H' a xs:=by
 rcases h with (h|⟨o,h⟩) | h
 .exact .inl (.inl<|e _ _ h)
 .exact .inl (.inr ⟨o,e _ _ h⟩)
 .exact .inr h
section
variable{X:Cx}
end
section
variable[DecidableEq κ]
end
end L2
set_option maxHeartbeats 4000000
namespace L2
open PySem PySem.Spec PyProof.Rows
inductive aN (X:Cx):Qa (Str×Qg)->Qa Str->Qa Nat->Prop where
 | nil:aN X [] [] []
 | cons {x:Str} {c:Qg} {j:Nat} {cl:Qa (Str×Qg)} {xs:Qa Str} {js:Qa Nat} (hN:X.N[j]?=some x) (hk:X.env.scope.names.lookup x=some .cell\/X.env.scope.names.lookup x=some .free)
   (hc:X.env.cells.lookup x=some c) (t:aN X cl xs js):aN X ((x,c)::cl) (x::xs) (j::js)
def zJ(X:Cx)(scope:Scope)(cl:Qa (Str×Qg))(Nc:Qa Str)(C:Qg)(s:Qd)(H:Hp)(ex:Qa Qg):Cx :=
 {X with aW:=s,aq:=H,env:=compEnvC scope (cellsFrom (C+1) scope.names cl) C X.env,N:=Nc,outer:=X.stack,stack:=X.stack,ex:=ex,fn:=λx=>scope.names.lookup x==some .cell,pn:=[],xe:=λ_ _=>False}
def c0(nt:Nat)(js:Qa Nat)(σ:St):St:=List.replicate nt none++js.map λj=>σ.getD j none
def Wk(a b:St):Prop:=a.length=b.length/\∀ (i:Nat) (v:V),a[i]?=some (some v)->b[i]?=some (some v)
theorem U9{a:St}{x:Qb V}(h:a[i]?=some none):Wk a (a.set i x):=by
 refine⟨by simp,λj v e=>?_⟩;have ne:i≠j:=by intro z; rw[z,e]at h; cases h
 rw[qE ne];exact e
theorem EZ(h:i < nt):(c0 nt js σ)[i]?=some none:=by
 unfold c0;rw[List.getElem?_append_left (by simpa using h),List.getElem?_replicate,if_pos h]
theorem pA{X:Cx}{xs:Qa Str}(f:aN X cl xs js):∀ x c,cl.lookup x=some c->X.env.cells.lookup x=some c:=by
 induction f with
 | nil=>intro x c e; cases e
 | @cons y d j cl xs js hN hk hc t ih=>
  intro x c e;rw[List.lookup_cons]at e
  by_cases q:x=y
  .subst q
   rw[beq_self_eq_true]at e;injection e with e1;rw[<-e1];exact hc
  .rw[beq_eq_false_iff_ne.mpr q]at e
   exact ih x c e
theorem Nj{X:Cx}{xs:Qa Str}(f:aN X cl xs js):∀ x,x∈xs->∃ c,cl.lookup x=some c:=by
 induction f with
 | nil=>intro x m; cases m
 | @cons y d j cl xs js hN hk hc t ih=>
  intro x m;rw[List.lookup_cons]
  by_cases q:x=y
  .subst q
   rw[beq_self_eq_true];exact⟨d,rfl⟩
  .rw[beq_eq_false_iff_ne.mpr q]
   rcases qw.mp m with z|z
   .exact absurd z q
   .exact ih x z
theorem Z3{X:Cx}{xs:Qa Str}(f:aN X cl xs js):∀ (i:Nat) (x:Str) (σ:St) (v:V),xs[i]?=some x->(js.map λj=>σ.getD j none)[i]?=some (some v)->
  ∃ j:Nat,X.N[j]?=some x/\σ[j]?=some (some v)/\(X.env.scope.names.lookup x=some .cell\/X.env.scope.names.lookup x=some .free)/\(∃ c,X.env.cells.lookup x=some c):=by
 induction f with
 | nil=>intro i x σ v e; simp at e
 | @cons y d j cl xs js hN hk hc t ih=>
  intro i x σ v e1 e2;cases i with
  | zero=>
   simp only[List.getElem?_cons_zero,Option.some.injEq]at e1;subst e1;refine⟨j,hN,?_,hk,d,hc⟩;simp only[List.map_cons,List.getElem?_cons_zero,Option.some.injEq]at e2;rw[qC]at e2;cases q:σ[j]? with
   | none=>rw[q]at e2; cases e2
   | some o=>rw[q]at e2; simp at e2; rw[e2]
  | succ i=>
   exact ih i x σ v (by simpa using e1) (by simpa using e2)
theorem F6:∀ {names:Qa (Str×NameKind)} {x:Str} {k:NameKind},
  (names.map λ(n,k)=>if(k==NameKind.free && env.scope.kind==.function && env.kindOf n==some .cell)then(n,NameKind.cell)else(n,k)).lookup x=some k->
  ∃ k0,names.lookup x=some k0/\(x,k0)∈names/\(k=k0\/(k0=.free/\k=.cell)):=by
 intro names
 induction names with
 | nil=>intro x k e; cases e
 | cons p r ih=>
  intro x k e;have(n,kn):=p
  by_cases q:x=n
  .subst q
   refine⟨kn,by rw[List.lookup_cons,beq_self_eq_true],qp,?_⟩;rw[List.map_cons]at e;change List.lookup x ((if(kn==NameKind.free && env.scope.kind==.function && env.kindOf x==some .cell)=true then(x,NameKind.cell)else(x,kn))::_)=_ at e
   by_cases hh:(kn==NameKind.free && env.scope.kind==.function && env.kindOf x==some .cell)=true
   .rw[if_pos hh,List.lookup_cons,beq_self_eq_true]at e
    injection e with e1;refine .inr ⟨?_,e1.symm⟩;simp only[Bool.and_eq_true]at hh;exact by simpa using hh.1.1
   .rw[if_neg hh,List.lookup_cons,beq_self_eq_true]at e
    injection e with e1;exact .inl e1.symm
  .rw[List.map_cons]at e
   change List.lookup x ((if(kn==NameKind.free && env.scope.kind==.function && env.kindOf n==some .cell)=true then(n,NameKind.cell)else(n,kn))::_)=_ at e;have e':(r.map λ(n,k)=>if(k==NameKind.free && env.scope.kind==.function && env.kindOf n==some .cell)then(n,NameKind.cell)else(n,k)).lookup x=some k:=by
    by_cases hh:(kn==NameKind.free && env.scope.kind==.function && env.kindOf n==some .cell)=true
    .rw[if_pos hh,List.lookup_cons,beq_eq_false_iff_ne.mpr q]at e
     exact e
    .rw[if_neg hh,List.lookup_cons,beq_eq_false_iff_ne.mpr q]at e
     exact e
   have(k0,h1,h2,h3):=ih e';refine⟨k0,by rw[List.lookup_cons,beq_eq_false_iff_ne.mpr q]; exact h1,qo _ h2,h3⟩
theorem zo4{X:Cx}{xs:Qa Str}(f:aN X cl xs js):js.length=xs.length:=by
 induction f with
 | nil=>rfl
 | cons _ _ _ _ ih=>simp[ih]
structure nX (scope:Scope) (xs:Qa Str):Prop where
 kind:scope.kind=.function
 cell:∀ y∈scope.names,y.2=.cell->scope.names.lookup y.1=some .cell
 names:∀ y∈scope.names,y.2=.local->scope.names.lookup y.1=some .local
 free:∀ y∈scope.names,y.2=.free->y.1∈xs
 fk:∀ x∈xs,scope.names.lookup x=some .free
theorem lj:∀ (ns:Qa (Str×NameKind)) (n:Nat) (acc:Qa (Str×Qg)),cellsFrom n ns acc=cellsFrom n ns []++acc
 | [],_,_=>rfl
 | (x,k)::r,n,acc=>by
  unfold cellsFrom;split
  .rw[lj r (n+1)<|(x,n)::acc,lj r (n+1) [(x,n)],List.append_assoc]
   rfl
  .exact lj r n acc
theorem ED:∀ (ns:Qa (Str×NameKind)) (n:Nat) {x:Str} {c:Qg},(x,c)∈cellsFrom n ns []->(x,NameKind.cell)∈ns
 | [],_,_,_,h=>by cases h
 | (y,k)::r,n,x,c,h=>by
  unfold cellsFrom at h;split at h
  .rename_i hk
   rw[lj,List.mem_append]at h;rcases h with h|h
   .exact qo _ (ED r _ h)
   .cases qq.mp h
    cases eq_of_beq hk;exact qp
  .exact qo _ (ED r _ h)
theorem AK:∀ (ns:Qa (Str×NameKind)) (n:Nat) {x:Str},(x,NameKind.cell)∈ns->∃ c,(cellsFrom n ns []).lookup x=some c
 | [],_,_,h=>by cases h
 | (y,k)::r,n,x,h=>by
  unfold cellsFrom;rcases qw.mp h with e|h'
  .cases e
   rw[if_pos (by rfl:(NameKind.cell==NameKind.cell)=true),lj,List.lookup_append];cases(cellsFrom (n+1) r []).lookup y with
   | none=>exact⟨n,by rw[List.lookup_cons,beq_self_eq_true]; rfl⟩
   | some c=>exact⟨c,rfl⟩
  .split
   .have(c,e):=AK r (n+1) h'
    rw[lj,List.lookup_append,e];exact⟨c,rfl⟩
   .exact AK r n h'
theorem uS{ns:Qa (Str×NameKind)}{acc:Qa (Str×Qg)}{c:Qg}(h:(cellsFrom n ns acc).lookup x=some c):(cellsFrom n ns []).lookup x=some c\/(acc.lookup x=some c/\(cellsFrom n ns []).lookup x=none):=by
 rw[lj,List.lookup_append]at h;cases e:(cellsFrom n ns []).lookup x with
 | none=>rw[e]at h; exact .inr ⟨h,rfl⟩
 | some d=>rw[e]at h; exact .inl h
theorem JL{ns:Qa (Str×NameKind)}{acc:Qa (Str×Qg)}{c:Qg}(h:(cellsFrom n ns []).lookup x=some c):(cellsFrom n ns acc).lookup x=some c:=by
 rw[lj,List.lookup_append,h];rfl
theorem Mr{M:Model}{globals:Qg}{bs:Qg}{Q:Env->Qd->Prop}
  (hQ:∀ h1,h1.Ns s.heap.objs.size (λ_=>none)->(∀ b o,s.heap.get? b=some o->h1.get? b=some o)->CellsOk h1 (s.heap.objs.size+1) (cellsFrom (s.heap.objs.size+1) scope.names [])->
   Q (newEnv scope s.heap.objs.size globals (cellsFrom (s.heap.objs.size+1) scope.names cl) qual none .none (some env) bs) {s with heap:=h1}):
  wpAny M A (newFunctionEnv scope globals cl [] qual none .none (some env) bs) Q E s:=by
 simp only[newFunctionEnv,Option.isSome_some,if_true];refine qa<|wpAny_alloc ?_;refine qa<|wpAny_layCells _ (λname kind cells=>by cases hkc:kind==NameKind.cell<;>simp[hkc]) _ _ _ _ ?_;have ok:=cellsFrom_ok scope.names (s.heap.push {cls:=.type "dict",data:=.dict #[]}) (s.heap.objs.size+1) [] ⟨λ_ _ hm=>(nomatch hm),List.Pairwise.nil⟩ (by rw[Heap.size_push]; exact qe _);rw[Heap.size_push]at ok;rw[show({s with heap:=s.heap.push {cls:=.type "dict",data:=.dict #[]}}:Qd).heap.objs.size=s.heap.objs.size+1 from Heap.size_push ..];rw[List.forIn_nil];exact qa<|qb<|qb<|hQ _ ((Heap.Ns.new s.heap<|.type "dict").keeps<|pushCells_keeps _ _) (λb o e=>pushCells_keeps _ _ b o<|qd _ e) ok
section
variable{X:Cx}{xs:Qa Str}{ts:Qa Str}{fp:Qa Qg}{C:Qg}
theorem EY{hx:Heap}(I:Inv X pins σ H s)(S:nX scope xs)(f:aN X cl xs js)(ck:CellsOk hx (C+1) (cellsFrom (C+1) scope.names []))(hC:s.heap.objs.size<=C)(hf:∀ b∈fp,cu X pins H b)(hl:∀ b∈fp,b < s.heap.objs.size):
  (zJ X scope cl (ts++xs) C s H fp).Ok where
 mod:=I.ok.mod
 kind:=S.kind
 glob:=I.ok.glob
 blt:=I.ok.blt
 above:=hC
 inj:=λx y c e1 e2=>by
  have no:∀ {x y:Str},(cellsFrom (C+1) scope.names []).lookup x=some c->cl.lookup y=some c->False:=λz1 z2=>by
   have(v,o,q,_):=I.cell _ c (pA f _ c z2);have q1:=qi q;have q2:=(ck.empty _ _<|mem_of_lookup z1).2;exact Ç _<|qj q1<|qA hC<|qA (Nat.le_succ C) q2
  rcases uS e1 with z1|⟨z1,_⟩<;>rcases uS e2 with z2|⟨z2,_⟩
  .exact name_of_addr ck.apart (mem_of_lookup z1) (mem_of_lookup z2)
  .exact(no z1 z2).elim
  .exact(no z2 z1).elim
  .exact I.ok.inj x y c (pA f x c z1) (pA f y c z2)
 has:=λx h=>by
  have z:∃ k0,scope.names.lookup x=some k0/\(x,k0)∈scope.names/\(k0=NameKind.free\/k0=NameKind.cell):=by
   rcases h with h|h
   .have(k0,h1,h2,h3):=F6 (env:=X.env) (names:=scope.names) h
    rcases h3 with h3|h3
    .exact⟨k0,h1,h2,.inr h3.symm⟩
    .exact⟨k0,h1,h2,.inl h3.1⟩
   .have(k0,h1,h2,h3):=F6 (env:=X.env) (names:=scope.names) h
    rcases h3 with h3|h3
    .exact⟨k0,h1,h2,.inl h3.symm⟩
    .cases h3.2
  have(k0,_,h2,h3):=z;show ∃ c,(cellsFrom (C+1) scope.names cl).lookup x=some c;rcases h3 with h3|h3
  .have(c,e):=Nj f x (S.free _ h2 h3)
   rw[lj,List.lookup_append,e];cases(cellsFrom (C+1) scope.names []).lookup x with
   | none=>exact⟨c,rfl⟩
   | some d=>exact⟨d,rfl⟩
  .subst h3
   have(c,e):=AK scope.names (C+1) h2;exact⟨c,JL e⟩
 qJ:=λx c h e=>by
  have(d,q):=AK scope.names (C+1) (mem_of_lookup<|eq_of_beq h);have e':(cellsFrom (C+1) scope.names cl).lookup x=some c:=e;rw[JL q]at e';cases e';have:=(ck.empty _ _<|mem_of_lookup q).2;show s.heap.objs.size<=c;omega
 hd:=I.ok.hd
 frames:=I.ok.frames
 rS:=.inl rfl
 tJ:=λb hb=>⟨qk<|qj (hl b hb) hC,λx c e=>by
  rcases uS e with z|⟨z,_⟩
  .have q1:=(ck.empty _ _<|mem_of_lookup z).2
   exact ċ<|qj (hl b hb)<|qA hC<|qA (Nat.le_succ C) q1
  .exact(hf b hb).2.2.2.2.1 x c (pA f x c z)⟩
 bs:=I.bs
 kG:=qA I.ok.kG I.sz
 gu:=λb o e hb=>by
  rcases(hf b hb).2.2.2.1 with z|z
  .exact I.ok.gu b o e z
  .exact absurd (qj (qi (I.ok.bs b o e).1) z) (Ç _)
 hV:=λb hb z=>by
  rcases qw.mp (I.dQ b z)with q|q
  .exact(hf b hb).2.1 q
  .exact(hf b hb).2.2.1 q
 cx:=I.stack
 nO:=I.iE
theorem Mq{m:Str->Qb Qc}{h1:Heap}{tk:Nat}(I:Inv X pins σ H s)(S:nX scope xs)(f:aN X cl xs js)(gP:ts.length=nt)(hC:s.heap.objs.size<=C)(hf:∀ b∈fp,cu X pins H b)(hl:∀ b∈fp,b < s.heap.objs.size)
  (hk:∀ b o,s.heap.get? b=some o->h1.get? b=some o) (hn:h1.Ns C m) (ck:CellsOk h1 (C+1) (cellsFrom (C+1) scope.names [])):Inv (zJ X scope cl (ts++xs) C s H fp) [] (c0 nt js σ) H {s with heap:=h1,toks:=tk} where
 ok:=EY I S f ck hC hf hl
 os:=rfl
 bare:=I.bare
 base:=Un.kept hk
 loc:=by
  refine⟨m,hn,λi x v e1 e2 e3=>?_⟩;have hi:nt<=i:=by
   rcases Ú i nt with z|z
   .rw[EZ z]at e2; cases e2
   .exact z
  have Ct:xs[i - nt]?=some x:=by
   have z:(ts++xs)[i]?=some x:=e1;rw[List.getElem?_append_right (by omega),gP]at z;exact z
  have e2':(js.map λj=>σ.getD j none)[i - nt]?=some (some v):=by
   unfold c0 at e2;rw[List.getElem?_append_right (by simpa using hi),List.length_replicate]at e2;exact e2
  have(j,hN,hσ,Qo,c,hc):=Z3 f (i - nt) x σ v Ct e2';have(m0,_,HB):=I.loc;have(u,r,lk):=HB j x v hN hσ (.inr Qo);refine⟨u,r,.inr ⟨?_,?_⟩⟩
  .rcases e3 with z|z|z
   .have hx:x∈xs:=Ê Ct
    have(k0,h1,h2,h3):=F6 (env:=X.env) (names:=scope.names) z;have q:=S.fk x hx;rw[h1]at q;cases q;rcases h3 with h3|h3
    .cases h3
    .cases h3.2
   .exact .inl z
   .exact .inr z
  .have(c',hJ):=Nj f x (Ê Ct)
   have no:(cellsFrom (C+1) scope.names []).lookup x=none:=by
    cases e:(cellsFrom (C+1) scope.names []).lookup x with
    | none=>rfl
    | some d=>
     have z:=S.cell _ (ED _ _<|mem_of_lookup e) rfl;rw[S.fk x<|List.mem_of_getElem? Ct]at z;cases z
   refine⟨c',?_,?_⟩
   .show(cellsFrom (C+1) scope.names cl).lookup x=some c'
    rw[lj,List.lookup_append,no,hJ];rfl
   have q:=pA f x c' hJ;rcases lk with⟨l1,_⟩|⟨_,c'',l2,l3⟩
   .exfalso
    have PY:X.env.scope.names.lookup x=some .local:=l1;rcases Qo with z|z<;>rw[z]at PY<;>cases PY
   .rw[q]at l2
    cases l2;exact l3.keeps hk
 cell:=λx c e=>by
  rcases uS e with z|⟨z,_⟩
  .exact⟨_,(ck.empty _ _<|mem_of_lookup z).1⟩
  .have(v,z):=I.cell x c (pA f x c z)
   exact⟨v,z.keeps hk⟩
 free:=I.az.fresh hC
 ba:=λx c e=>by
  rcases uS e with z|⟨z,_⟩
  .exact I.az.fresh (by have:=(ck.empty _ _<|mem_of_lookup z).2; omega)
  .exact I.ba x c (pA f x c z)
 pin:=λp hp=>by cases hp
 az:=I.az.kept hk
 len:=by
  show(c0 nt js σ).length=(ts++xs).length;unfold c0;rw[qu,qu,List.length_replicate,List.length_map,gP];rw[zo4 f]
theorem Ni{o:HO}(x:bV P w K H h)(hn:H a=none)(new:be P w K (upd H a o) h a o):bV P w K (upd H a o) h:=λb u e=>by
 by_cases hb:b=a
 .subst hb; rw[zy]at e; cases e; exact new
 .rw[zx hb]at e
  exact(x b u e).dS (λ_ _ _ q=>q) (λc q=>(zx<|zZ q hn).trans q) λc ys q=>(zx<|zZ q hn).trans q
theorem Mn{fs ex:Qa Qg}{h1:Heap}{o:HO}(u:Un fs ex H H1 h h1)(hn:H1 a=none)(ha:h.objs.size<=a):Un fs ex H (upd H1 a o) h h1 where
 keep:=u.keep
 slot:=u.slot
 free:=λb ob q n hx=>(zx<|qk<|qj (qi q) ha).trans (u.free b ob q n hx)
 there:=u.there
 dP:=λb ys q=>(zx<|zZ (u.dP b ys q) hn).trans (u.dP b ys q)
 cW:=λb ob ys q=>(zx<|zZ (u.cW b ob ys q) hn).trans (u.cW b ob ys q)
 eL:=λb ps q=>by
  have(more,e):=u.eL b ps q;exact⟨more,(zx<|zZ e hn).trans e⟩
def jJ(X:Cx)(ifs:Qa Expr)(t:TT):Prop :=
 ∀ (pins:Qa (Qg×Obj)) (s:Qd) (σ:St) (H:Hp) (Q:Bool->Hp->Prop),Inv X pins σ H s->t σ H Q->
  wpAny (model X.prog X.w) X.A (forIn ifs true λc r=>if r=true then do let ok <-isTrue c X.env (eval c X.env); pure (ForInStep.yield ok)else pure (ForInStep.yield r)) (TP X pins σ Q) X.xe s
def Ds:TT:=λ_ H Q=>Q true H
theorem Z2{X:Cx}:jJ X [] Ds:=λ_ _ _ H _ I h=>wpAny_tests_nil ⟨H,I,h⟩
theorem Z1{X:Cx}{c:Expr}{t:TT}(h:PT X c t):jJ X [c] t:=λpins s σ H Q I q=>wpAny_tests_one<|h pins s σ H Q I q
theorem qU{t:Sem α}{Q Q':α->Qd->Prop}{M:Model}(h:wpAny M A t Q (λ_ _=>False) s)(hQ:∀ a s,Q a s->Q' a s):wpAny M A t Q' E s:=wpAny_mono h hQ λ_ _ x=>x.elim
theorem zlX{target:Expr}{it acc:Qc}(I:Nat->Qd->Prop)
  (turn:∀ n s,I n s->∀ E,wpAny (model prog w) A (pyNext it) (λr s1=>match r with
   | none=>R (.ok .next) s1
   | some v=>wpAny (model prog w) A (letOwnedTupleGo target it v) (λ_ s2=>wpAny (model prog w) A (assign target env v) (λ_ s3=>
     wpAny (model prog w) A (forIn ifs true λc r=>if r=true then do let ok <-isTrue c env (eval c env); pure (ForInStep.yield ok)else pure (ForInStep.yield r)) (λok s4=>
      (ok=true->wpAny (model prog w) A (eval elt env) (λx s5=>wpAny (model prog w) A (call (.builtin "list.append") [acc,x]) (λ_ s6=>∃ m,m < n/\I m s6) E s5) E s4)/\
      (ok=false->∃ m,m < n/\I m s4)) E s3) E s2) E s1) E s)
  (n:Nat) (h:I n s):codeAny (model prog w) A (.compLoop (.ListComp elt [⟨target,iter,ifs,0⟩] scope pos) 0 it acc env) R s:=by
 refine codeAny_loop rfl I (λn s hI=>?_) n h;show wpAny _ A ((compTurn _ 0 it acc env).onRaise (λx=>do noteFrame x env; theTreesLotGoes x)) _ _ s;refine wpAny_noted ?_;rw[compTurn_list];refine qa<|wpAny_standAt<|qa<|wpAny_mono (turn n s hI _) (λr s1 h1=>?_) λ_ _ z=>z;cases r with
 | none=>exact qb h1
 | some v=>
  refine qa<|wpAny_mono h1 (λ_ s2 h2=>?_) λ_ _ z=>z;refine qa<|wpAny_mono h2 (λ_ s3 h3=>?_) λ_ _ z=>z;refine qa<|wpAny_mono h3 (λok s4 h4=>?_) λ_ _ z=>z;cases ok with
  | false=>exact qb ⟨rfl,h4.2 rfl⟩
  | true=>
   refine qa<|qa<|wpAny_mono (h4.1 rfl) (λx s5 h5=>?_) λ_ _ z=>z;exact qa<|wpAny_mono h5 (λ_ s6 h6=>qb<|qb ⟨rfl,h6⟩) λ_ _ z=>z
def Ja(J:It)(ir:St)(g:TG)(tt:TT)(te:TE)(Z:Qa V->Hp->Prop)(H1:Hp):Prop :=
 ∃ W:Nat->Nat->Qa V->Hp->Prop,(∃ m,W 0 m [] H1)/\∀ i m ys H,W i m ys H->
  (J.stop i H/\Z ys H)\/(J.go i H/\ys.length < sizeLine/\∃ N:Qa V->Hp->Prop,(∀ i8 H',N i8 H'->∃ m',m' < m/\W (i+1) m' i8 H')/\
   ∀ x H',J.u9 i H x H'->g x ir H' λdG H2=>tt dG H2 λb H3=>if b=true then te dG H3 λy H4=>N (ys++[y]) H4 else N ys H3)
def GW(ir:St)(g:TG):Prop:=∀ x H (Q:St->Hp->Prop),g x ir H Q->g x ir H λdG H2=>Wk ir dG/\Q dG H2
theorem NY{J:It}{Z:Qa V->Hp->Prop}
  (hc:X.calm=true) (I:Inv X pins σ H s) (S:nX scope xs) (f:aN X cl xs js) (gP:ts.length=nt) (T:Turn X.prog X.w X.K tg J fp it tn) (st:tn 0 s.heap) (hf:∀ b∈fp,cu X pins H b)
  (hg:∀ C s H ex,PG (zJ X scope cl (ts++xs) C s H ex) tg g) (ht:∀ C s H ex,jJ (zJ X scope cl (ts++xs) C s H ex) ifs tt) (he:∀ C s H ex,PE (zJ X scope cl (ts++xs) C s H ex) elt te)
  (gw:GW (c0 nt js σ) g) (h:Ja J (c0 nt js σ) g tt te Z H)
  (HK:∀ (D C:Qg) (m:Str->Qb Qc) (s':Qd) (ys:Qa V) (H':Hp),Z ys H'->H' D=none->Inv X pins σ (upd H' D<|.lst ys) s'->s'.heap.Ns C m->upd H' D (.lst ys) C=none->C≠X.env.locals->
   (∀ x c,X.env.cells.lookup x=some c->c≠C)->X.aW.heap.objs.size<=C->(∀ p∈X.pn++pins,p.1≠C)->RR (.ref D) C (.ok .next) s'):
  wpAny (model X.prog X.w) X.A (newList []) (λacc s3=>wpAny (model X.prog X.w) X.A (newFunctionEnv scope X.env.globals cl [] X.env.qual none .none<|some X.env) (λkF s4=>
   codeAny (model X.prog X.w) X.A (.compStart (.ListComp elt [⟨tg,iter,ifs,0⟩] scope pos) 0 (.ref it) acc {kF with scope:=relabel scope X.env}) (RR acc kF.locals) s4) E s3) E s:=by
 refine qB<|Mr λh1 pZ g9 ck=>?_;dsimp only at pZ g9 ck ⊢;generalize HL:s.heap.push {cls:=.type "list",dict:=none,data:=.seq ([]:Qa Qc).toArray}=G at pZ g9 ck ⊢;have lZ:G.objs.size=s.heap.objs.size+1:=by rw[<-HL,Heap.size_push]
 have hC:s.heap.objs.size<=G.objs.size:=by rw[lZ]; exact Nat.le_succ _
 have Qz:s.heap.objs.size≠G.objs.size:=by rw[lZ]; exact qk<|ò _
 have hl:∀ b∈fp,b < s.heap.objs.size:=λb hb=>by
  have(o,e,_):=T.obj _ _ st b hb;exact qi e
 have old:∀ b o,s.heap.get? b=some o->h1.get? b=some o:=λb o e=>
  g9 b o (HL▸qd _ e)
 have hD1:h1.get? s.heap.objs.size=some {cls:=.type "list",data:=.seq ([]:Qa Qc).toArray}:=g9 _ _ (HL▸qg _ rfl);have J0:Inv (zJ X scope cl (ts++xs) G.objs.size s H fp) [] (c0 nt js σ) H {s with heap:=h1}:=Mq (tk:=s.toks) I S f gP hC hf hl old pZ ck;obtain⟨W,⟨m0,w0⟩,turn⟩:=h;have gM:tn 0 h1:=T.keep _ _ _ st λb hb o e=>old b o e;have HM:H s.heap.objs.size=none:=I.az.fresh (qe _);have yG:∀ b∈fp,s.heap.objs.size≠b:=λb hb z=>absurd (hl b hb) (by rw[<-z]; exact Ç _);have tF:∀ {H':Hp} {pl:Qa (Qg×Obj)},(∀ b∈fp,H' b=none)->(∀ p∈pl,p.1=s.heap.objs.size)->∀ b∈fp,cu (zJ X scope cl (ts++xs) G.objs.size s H fp) pl H' b:=λ{H' pl} hn hp b hb=>by
  refine⟨hn b hb,qk<|qj (hl b hb) hC,λz=>?_,.inl hb,λx c e=>((EY I S f ck hC hf hl (ts:=ts)).tJ b hb).2 x c e,λp Ht z=>?_⟩
  .rcases qw.mp (I.dQ b z)with q|q
   .exact(hf b hb).2.1 q
   .exact(hf b hb).2.2.1 q
  .rcases Ä.mp Ht with q|q
   .cases q
   .exact yG b hb ((hp p q).symm.trans z)
 have loop:codeAny (model X.prog X.w) X.A (.compLoop (.ListComp elt [⟨tg,iter,ifs,0⟩] scope pos) 0 (.ref it) (.ref s.heap.objs.size)<|compEnvC scope (cellsFrom (G.objs.size+1) scope.names cl) G.objs.size X.env) (RR (.ref s.heap.objs.size) G.objs.size)
   {s with heap:=h1}:=by
  refine zlX (λn s'=>∃ i ys ae nn H',Inv (zJ X scope cl (ts++xs) G.objs.size s H fp) [] (c0 nt js σ) H' s'/\tn i s'.heap/\(∀ b∈fp,H' b=none)/\H' s.heap.objs.size=none/\
   s'.heap.get? s.heap.objs.size=some {cls:=.type "list",data:=.seq (List.toArray ae) nn}/\zO ys ae/\ys.length<=sizeLine/\W i n ys H') ?_ m0
   ⟨0,[],[],0,H,J0,gM,λb hb=>(hf b hb).1,HM,hD1,.nil,Ð _,w0⟩
  rintro n s3 ⟨i,ys,ae,nn,H3,I3,lO,qF,d3,o3,r3,z3,w3⟩ E';have l6:s.heap.objs.size≠(zJ X scope cl (ts++xs) G.objs.size s H fp).env.locals:=Qz;have CK:Inv (zJ X scope cl (ts++xs) G.objs.size s H fp) [(s.heap.objs.size,{cls:=.type "list",data:=.seq ae.toArray nn})] (c0 nt js σ) H3 s3:=I3.aY λp hp=>by
   have e:p=(s.heap.objs.size,{cls:=.type "list",data:=.seq ae.toArray nn}):=by simpa using hp
   subst e;refine⟨o3,d3,l6,λz=>?_,λv z=>by cases z⟩;have(_,ob,e,_):=I.stack.mem z;exact absurd (qi e)<|Ç _
  have GH:∀ p∈[(s.heap.objs.size,({cls:=.type "list",data:=.seq ae.toArray nn}:Obj))],p.1=s.heap.objs.size:=λp hp=>by
   have e:p=(s.heap.objs.size,{cls:=.type "list",data:=.seq ae.toArray nn}):=by simpa using hp
   rw[e]
  rcases turn i n ys H3 w3 with⟨stop,qz⟩|⟨go,hsz,N,hN,step⟩
  .refine aF (T.done (zJ X scope cl (ts++xs) G.objs.size s H fp) rfl rfl rfl hc i _ s3 _ H3 E' CK (tF qF GH) lO stop) λr s4 hZ=>?_
   have(hr,I4):=hZ;subst hr;have o4:s4.heap.get? s.heap.objs.size=some {cls:=.type "list",data:=.seq ae.toArray nn}:=(I4.pin _<|qx _ qp).1;have(m4,n4,_):=I4.loc;have hk4:bV X.prog X.w X.K (upd H3 s.heap.objs.size<|.lst ys) s4.heap:=Ni I4.az d3 ⟨z3,ae,nn,r3,o4⟩;have un4:Un (jj X.stack) fp H (upd H3 s.heap.objs.size<|.lst ys) s.heap s4.heap:=Mn I4.base d3 (qe _);refine HK _ _ m4 s4 ys H3 qz d3 (I.qI I4.os un4 hk4 I4.bare λb hb=>⟨(hf b hb).2.2.2.1,(hf b hb).2.1,(hf b hb).2.2.2.2.1,λp hp=>(hf b hb).2.2.2.2.2 p hp⟩) n4 ?_ ?_ ?_ ?_ ?_
   .rw[zx<|Ne.symm Qz]
    exact I4.free
   .exact λz=>absurd I.lt (by rw[<-z]; exact Nat.not_lt.mpr hC)
   .intro x c e z
    have(v,ob,q,_):=I.cell x c e;exact absurd (qi q) (by rw[z]; exact Nat.not_lt.mpr hC)
   .exact qA I.sz hC
   .intro p hp z
    have q:=(I.pin p hp).1;exact absurd (qi q) (by rw[z]; exact Nat.not_lt.mpr hC)
  .refine aF (T.item (zJ X scope cl (ts++xs) G.objs.size s H fp) rfl rfl rfl hc i _ s3 _ H3 E' CK (tF qF GH) lO go) λr s4 hZ=>?_
   have(u,hr,h4):=hZ;subst hr;refine aF h4 λ_ s5 hZ=>?_;have(x,H5,I5,r5,y5,jW,yt):=hZ;have yD:=I5.pinned (tF yt GH) (T.obj _ _ jW);refine qU (hg _ _ _ _ _ s5 _ H5 x u _ yD r5<|gw _ _ _<|step x H5 y5) λ_ s6 hZ=>?_;have(kI,H6,I6,xr,q6):=hZ;refine qU (ht _ _ _ _ _ s6 kI H6 _ I6 q6) λok s7 hZ=>?_;have(H7,I7,q7):=hZ;have after:∀ {H8:Hp} {s8:Qd},Inv (zJ X scope cl (ts++xs) G.objs.size s H fp) ([(s.heap.objs.size,({cls:=.type "list",data:=.seq ae.toArray nn}:Obj))]++uH fp s5.heap) kI H8 s8->
     tn (i+1) s8.heap/\(∀ b∈fp,H8 b=none)/\H8 s.heap.objs.size=none/\s8.heap.get? s.heap.objs.size=some {cls:=.type "list",data:=.seq ae.toArray nn}/\
      Inv (zJ X scope cl (ts++xs) G.objs.size s H fp) [] (c0 nt js σ) H8 s8:=λ{H8 s8} I8=>by
    have dd:=I8.pin (s.heap.objs.size,({cls:=.type "list",data:=.seq ae.toArray nn}:Obj)) (qx _<|É _ qp);refine⟨T.keep _ _ _ jW λb hb o e=>(I8.pin (b,o)<|qx _<|qx _<|pK hb e).1,λb hb=>?_,dd.2.1,dd.1,?_⟩
    .have(o,e,d):=T.obj _ _ jW b hb
     exact(I8.pin (b,o)<|qx _<|qx _<|pK hb e).2.1
    .exact(I8.weak xr.1 xr.2).aY λp hp=>by cases hp
   refine⟨λaz=>?_,λaz=>?_⟩
   .subst az
    rw[if_pos rfl]at q7;refine qU (he _ _ _ _ _ s7 kI H7 _ I7 q7) λv s8 hZ=>?_;have(y,H8,I8,ry,q8):=hZ;have(st8,fr8,d8,o8,I8'):=after I8;have(m',hm,w8):=hN _ _ q8;refine call_meets F.slot_list_append ⟨_,o8,rfl⟩ F.entry_list_append (F.args_list_append_2 _ _) (PySem.list_append s.heap.objs.size ae.toArray nn v (by rw[List.size_toArray,<-r3.length]; omega)) ⟨o8,?_⟩;have(_,f1,_,f3,f4,_):=(⟨d8,l6,trivial,.inr<|qe _,λx c e=>by
     rcases uS e with z|⟨z,_⟩
     .exact ċ (qj (Â hC<|ò _) (ck.empty _ _<|mem_of_lookup z).2)
     .have(v0,ob,q,_):=I.cell x c (pA f x c z)
      exact ċ (qi q) |>.symm,trivial⟩:H8 s.heap.objs.size=none/\s.heap.objs.size≠(zJ X scope cl (ts++xs) G.objs.size s H fp).env.locals/\True/\(s.heap.objs.size∈fp\/s.heap.objs.size<=s.heap.objs.size)/\
      (∀ x c,(cellsFrom (G.objs.size+1) scope.names cl).lookup x=some c->c≠s.heap.objs.size)/\True)
    have q:=PySem.IsL.update o8 (λx=>x.push v);have hp:ae.toArray.push v=(ae++[v]).toArray:=by simp
    rw[hp]at q;refine⟨m',hm,i+1,ys++[y],ae++[v],_,H8,I8'.turned (t':=s8.toks) (it:=s.heap.objs.size) (λb o hb e=>(Á s8.heap _<|Ne.symm hb).trans e) d8 f1 f3 f4 (λp hp=>by cases hp),?_,fr8,d8,q,r3.append<|.cons ry .nil,?_,w8⟩
    .exact T.keep _ _ _ st8 λb hb o e=>(Á s8.heap _<|yG b hb).trans e
    .rw[qu,List.length_singleton]
     omega
   .subst az
    rw[if_neg qf]at q7;have(Gz,HV,d7,o7,Iy):=after I7;have(m',hm,w7):=hN _ _ q7;exact⟨m',hm,i+1,ys,ae,nn,H7,Iy,Gz,HV,d7,o7,r3,z3,w7⟩
 exact codeAny_compStart_list loop<|T.self _ _ _ _ _ gM loop
def xA(wi:TI)(nt:Nat)(js:Qa Nat)(g:TG)(tt:TT)(te:TE):TE:=λσ H Q=>wi σ H λJ H1=>
 Ja J (c0 nt js σ) g tt te (λys H2=>∀ D,H2 D=none->Q (.ref D) (upd H2 D<|.lst ys)) H1
theorem SD(nt:Nat)(ts:Qa Str)(gP:ts.length=nt)(hc:X.calm=true)(S:nX scope xs)(f:aN X cl xs js)(dY:closureFor scope X.env=pure cl)
  (hi:PI X tg iter wi) (hg:∀ C s H ex,PG (zJ X scope cl (ts++xs) C s H ex) tg g) (gw:∀ σ:St,GW (c0 nt js σ) g) (ht:∀ C s H ex,jJ (zJ X scope cl (ts++xs) C s H ex) ifs tt)
  (he:∀ C s H ex,PE (zJ X scope cl (ts++xs) C s H ex) elt te) (hs:∀ x,foldedSetIterable iter X.env x=pure x:=by intro _; rfl):
  PE X (.ListComp elt [⟨tg,iter,ifs,0⟩] scope pos) (xA wi nt js g tt te):=by
 intro pins s σ H Q I h;rw[eval_ListComp];refine wpAny_comprehension_free (use:=none) rfl hs dY S.kind S.names<|aF (hi pins s σ H _ I h) λv s1 h1=>aF h1 λpU s2 h2=>?_;have(it,fp,tn,J,H2,e,I2,T,jw,f2,q):=h2;subst e;refine NY (RR:=λacc C=>compPost (model X.prog X.w) X.A X.xe none (EP X pins σ Q) acc C) hc I2 S f gP T jw f2 hg ht he (gw σ) q ?_;intro D C m s' ys H' z hD I' hn tD p9 p8 lZ tw;refine⟨m,hn,λh' sN=>⟨.ref D,_,I'.turned (it:=C) (λb o hb e=>sN.extBut b o hb e) tD p9 (.inr lZ) p8 tw,rfl,z D hD⟩⟩
end
section
variable{X:Cx}
def oM(_ j:Int):Prop:=0 < j/\j.natAbs.log2 < 9000
theorem uX:cC X (binaryOp .FloorDiv) (rI oM λi j=>.int<|i / j):=rZ λi j _ _ _ _ _ hc q=>by
 have h1:(0:Int) < j:=hc.1;exact floordiv_int (by omega) (by rw[Int.fdiv_eq_ediv_of_nonneg i (by omega)]; exact q)<|.inl<|PyProof.noPylong_of_log2 hc.2
def uh(_ j:Int):Prop:=j≠0/\j.natAbs.log2 < 9000
theorem By:cC X (binaryOp .FloorDiv) (rI uh λi j=>.int<|i.fdiv j):=rZ λi j _ _ _ _ _ hc q=>
 floordiv_int hc.1 q (.inl<|PyProof.noPylong_of_log2 hc.2)
theorem pJ{k:Nat}(hk:0 < k)(h:n < 2^k):n.log2 < k:=by
 by_cases hn:n=0
 .subst hn; exact hk
 .exact(Nat.log2_lt hn).mpr h
theorem W0{i j:Int}(h:0 < j)(h2:j<=2^128):oM i j:=⟨h,Ó (pJ (k:=129) (by decide) (by omega)) (by decide)⟩
end
theorem EW(h:i < nt):∀ σ:St,GW (c0 nt js σ) (jv i):=λσ x H Q q=>⟨U9<|EZ h,q⟩
def SameBut(p:Qg)(H H':Hp):Prop:=∀ b o,b≠p->H b=some o->H' b=some o
theorem zU{p:Qg}(h:H p=none)(o:HO):b9 H (upd H p o):=λb u q=>by rw[zx<|zZ q h]; exact q
def Bl(mg:Str->Qb Qc)(xs:Qa Str):Prop:=∀ x,x∈xs->mg x=none
theorem Bl.nil:Bl mg []:=λ_ h=>by cases h
theorem Bl.cons{xs:Qa Str}(h:mg x=none)(t:Bl mg xs):Bl mg (x::xs):=λy m=>by
 rcases qw.mp m with e|e
 .rw[e]; exact h
 .exact t y e
def d5:Expr->Bool
 | .Starred _ _=>false
 | _=>true
theorem mP{es:Qa Expr}(h:d5 e=true):starEach (e::es) env=(false,eval e env)::starEach es env:=by
 cases e<;>first|rfl|cases h
theorem rM:∀ {es:Qa Expr},es.all d5=true->(backTo pos<|starEach es env).any (·.1)=false
 | [],_=>rfl
 | e::es,h=>by
  rw[List.all_cons,Bool.and_eq_true]at h;rw[mP h.1];show(false || (backTo pos<|starEach es env).any (·.1))=false;rw[Bool.false_or];exact rM h.2
section
variable{X:Cx}{es:Qa Expr}{t:TA}{id:String}{p:Pos}
theorem zAb(ha:PE X e te)(hr:PA X es t)(hs:d5 e=true:=by rfl):PA X (e::es) (mG te t):=Xa ha hr (mP hs)
theorem SA(hc:du X (.builtin id) r)(hg:Gl X x)(hm:X.mg x=none)(hv:bootBuiltins x=some (.builtin id))(ha:PA X (e::es) t)(hn:x ≠ "__name__":=by decide)(cB:(x==("__debug__":Str))=false:=by decide)
  (he:d5 e=true:=by rfl) (e9:es.all d5=true:=by rfl):PE X (.Call (.Name x p) (e::es) [] pos) (pO r t):=ZQ hc hg hm hv ha hn cB (mP he) (rM e9)
theorem Sy(hc:du X (.type T) r)(hg:Gl X x)(hm:X.mg x=none)(hv:bootBuiltins x=some (.type T))(ha:PA X (e::es) t)(hn:x ≠ "__name__":=by decide)(cB:(x==("__debug__":Str))=false:=by decide)
  (he:d5 e=true:=by rfl) (e9:es.all d5=true:=by rfl):PE X (.Call (.Name x p) (e::es) [] pos) (pO r t):=zoZ hc hg hm hv ha hn cB (mP he) (rM e9)
end
structure CM (P:Qe) (w:Qh) (K:qc) (mg:Str->Qb Qc) (base:Heap) (x:Str) (k:Nat) (ps:Qa Str) (sp:Sp):Prop where
 ex:∃ (f:Qg) (fd:FuncData),bW P w K mg base gF k f fd ps sp/\kZ K fd ps []/\PySem.W.keepIn K (.ref f)=true/\mg x=some (.ref f)
def Dr(sp:Sp)(t:TA):TE:=λσ H Q=>t σ H λvs H1=>sp vs H1 Q E0
section
variable{X:Cx}{k:Nat}{ps:Qa Str}{p:Pos}{es:Qa Expr}{t:TA}
theorem U8(C:CM X.prog X.w X.K X.mg X.base x k ps sp)(hr:aD k X.A)(hg:Gl X x)(ha:PA X (e::es) t)(cB:(x==("__debug__":Str))=false:=by decide)
  (he:d5 e=true:=by rfl) (e9:es.all d5=true:=by rfl):PE X (.Call (.Name x p) (e::es) [] pos) (Dr sp t):=by
 have(f,fd,F,hb,hk,hm):=C.ex;intro pins s σ H Q I h;refine W9 (dvs:=[]) (E:=E0) F hr hg hm hk hb .nil Eb ha cB (mP he) (rM e9) pins s σ H Q I ?_;show t σ H λvs H1=>sp (vs++[]) H1 Q E0;have z:(λ(vs:Qa V) (H1:Hp)=>sp (vs++[]) H1 Q E0)=λvs H1=>sp vs H1 Q E0:=by
  funext vs H1
  rw[List.append_nil]
 rw[z];exact h
end
def Ea(t:TS):TS:=λD σ H=>∃ J:St->Hp->Prop,t {D with nx:=J} σ H/\∀ aE H',J aE H'->D.nx aE H'
theorem WZ{X:Cx}{t:TS}(h:PS X st t):PS X st (Ea t):=by
 intro pins s σ H D I ⟨J,q,z⟩;refine aF (h pins s σ H _ I q) λf s' r=>?_;cases f with
 | next=>have(aE,H',I',j):=r; exact⟨aE,H',I',z _ _ j⟩
 | brk=>exact r
 | cont=>exact r
 | ret u=>exact r
theorem Mm(x y:Int)(hx:0<=x)(hy:0 < y):Int.gcd y (x % y)=Int.gcd x y:=by
 have(a,rfl):=Int.eq_ofNat_of_zero_le hx;have(b,rfl):=Int.eq_ofNat_of_zero_le (ê hy);rw[<-Int.natCast_emod];show Nat.gcd b (a % b)=Nat.gcd a b;rw[Nat.gcd_comm a b,Nat.gcd_comm b<|a % b];exact(Nat.gcd_rec b a).symm
theorem EV(x y:Int):Int.gcd (if x < 0 then -x else x) y=Int.gcd x y:=by
 split
 .exact Int.neg_gcd
 .rfl
structure Wr (p:Prop):Prop where
 run:p
theorem ue{xs:Qa Str}(h:Bl mg xs)(m:x∈xs):mg x=none:=h x m
theorem Bg{X:Cx}{C:Qg}{ex:Qa Qg}(h:decide N.Nodup=true):(zJ X scope cl N C s H ex).N.Nodup:=of_decide_eq_true h
def f7(X:Cx)(js:Qa Nat):Qa Str:=js.map λj=>X.N.getD j ""
def gJ(X:Cx)(js:Qa Nat):Qa (Str×Qg):=(f7 X js).map λx=>(x,(X.env.cells.lookup x).getD 0)
def iD:Expr->Qa Str
 | .Name x _=>[x]
 | .Tuple es _ _=>es.flatMap λe=>match e with
  | .Name x _=>[x]
  | .Tuple fs _ _=>fs.filterMap λe=>match e with
   | .Name x _=>some x
   | _=>none
  | _=>[]
 | _=>[]
def CL(nt:Nat)(g:TG):Prop:=∀ (js:Qa Nat) (σ c9:St),Wk (c0 nt js σ) c9->∀ x H (Q:St->Hp->Prop),g x c9 H Q->g x c9 H λdG H2=>Wk (c0 nt js σ) dG/\Q dG H2
def tV(nt:Nat)(g:gS):Prop:=∀ (js:Qa Nat) (σ c9:St),Wk (c0 nt js σ) c9->∀ x H (Q:St->Hp->Prop),g x c9 H Q->g x c9 H λdG H2=>Wk (c0 nt js σ) dG/\Q dG H2
theorem Z0(h:i < nt):CL nt (jv i):=by
 intro js σ c9 w x H Q q;refine⟨⟨by rw[List.length_set]; exact w.1,λj v e=>?_⟩,q⟩;have ne:i≠j:=by
  rintro rfl;rw[EZ h]at e;cases e
 rw[qE ne];exact w.2 j v e
theorem FJ:tV nt y7:=λjs σ c9 w x H Q q=>⟨q.1,w,q.2⟩
theorem zo6{gs:gS}(h1:CL nt g)(h2:tV nt gs)(mono:∀ v σ H (Q Q':St->Hp->Prop),(∀ aE H',Q aE H'->Q' aE H')->g v σ H Q->g v σ H Q'):tV nt (v5 g gs):=by
 intro js σ c9 w x H Q q;have(v,r,e,k):=q;refine⟨v,r,e,mono _ _ _ _ _ (λaE H' hZ=>?_)<|h1 js σ c9 w v H _ k⟩;have(w',q'):=hZ;exact h2 js σ aE w' r H' Q q'
theorem EU{gs:gS}(h:tV nt gs):CL nt (yS K n gs):=by
 intro js σ c9 w x H Q q;have(a,xs,e,s,l,k):=q;exact⟨a,xs,e,s,l,h js σ c9 w xs H Q k⟩
theorem D9(h:CL nt g):∀ σ:St,GW (c0 nt js σ) g:=λσ x H Q q=>h js σ _ ⟨rfl,λ_ _ e=>e⟩ x H Q q
theorem zo7:∀ v σ H (Q Q':St->Hp->Prop),(∀ aE H',Q aE H'->Q' aE H')->jv i v σ H Q->jv i v σ H Q':=λv σ H Q Q' h q=>h _ _ q
theorem FR{gs:gS}(h:i < nt)(h2:tV nt gs):tV nt (v5 (jv i) gs):=zo6 (Z0 h) h2 zo7
section
variable{X:Cx}{p:Pos}{a b c:Expr}{es rest:Qa Expr}{tb:TE}{t:TA}{rd:R2}{id:String}{tA lN:TT}{Gy body:Qa Stmt}{ts us:TS}{gs:gS}
theorem aa(hN:X.N[i]?=some x:=by rfl)(hv:Cz X.env.scope x:=by first|exact Or.inl rfl|exact Or.inr (Or.inl rfl) | exact Or.inr<|Or.inr rfl)(hd:(x==("__debug__":Str))=false:=by decide)
  (ji:(x==("__classdict__":Str))=false:=by decide):Wr (PE X (.Name x pos)<|mq i):=⟨pv i hN hv hd ji⟩
theorem zo{n:Int}:Wr (PE X (.Constant (.int n) j pos)<|tC<|.int n):=⟨VM⟩
theorem qT{n:Bool}:Wr (PE X (.Constant (.bool n) j pos)<|tC<|.bl n):=⟨SQ⟩
theorem rB:Wr (PE X (.Constant .none j pos)<|tC .aT):=⟨VL⟩
theorem zQ{op:Operator}(ho:cC X (binaryOp op) rd)(ha:Wr (PE X a ta))(hb:Wr (PE X b tb)):Wr (PE X (.BinOp a op b pos)<|mX rd ta tb):=⟨SM ho ha.run hb.run⟩
theorem vP{op:UnaryOp}{r:V->Hp->VK->Prop}(ho:CB X (unaryOp op) r)(ha:Wr (PE X a ta)):Wr (PE X (.UnaryOp op a pos)<|Gu r ta):=⟨SK ho ha.run⟩
theorem w_not(ha:Wr (PE X a ta)):Wr (PE X (.UnaryOp .Not a pos)<|JN ta):=⟨VZ ha.run⟩
theorem Ap(ho:cC X (compareOp op) rd)(ha:Wr (PE X a ta))(hb:Wr (PE X b tb))(hm:behindInMarks op b=false:=by first|exact KQ _|rfl):Wr (PE X (.Compare a [op] [b] pos)<|mX rd ta tb):=⟨Xc ho ha.run hb.run hm⟩
theorem d6(ho:cC X (compareOp op) rd)(ha:Wr (PE X a ta))(hb:Wr (PE X b tb))(hm:behindInMarks op b=false:=by first|exact KQ _|rfl):Wr (PT X (.Compare a [op] [b] pos)<|D3<|mX rd ta tb):=⟨Xb ho ha.run hb.run hm⟩
theorem Sx{op}(h:Wr (PE X a te)):Wr (PE X (.BoolOp op [a] pos) te):=⟨V1 h.run⟩
theorem Sw(ha:Wr (PE X a ta))(hb:Wr (PE X (.BoolOp .And (b::rest) pos) tb)):Wr (PE X (.BoolOp .And (a::b::rest) pos)<|D8 ta tb):=⟨V0 ha.run hb.run⟩
theorem WY(ha:Wr (PT X a tA)):Wr (PW X (.BoolOp .And [a] pos) tA):=⟨Yb ha.run⟩
theorem AJ(ha:Wr (PT X a tA)):Wr (PW X (.BoolOp .Or [a] pos) tA):=⟨VH ha.run⟩
theorem U7(ha:Wr (PT X a tA))(hb:Wr (PW X (.BoolOp .And (b::rest) pos) lN)):Wr (PW X (.BoolOp .And (a::b::rest) pos)<|Dw tA lN):=⟨V3 ha.run hb.run⟩
theorem Ao(ha:Wr (PT X a tA))(hb:Wr (PW X (.BoolOp .Or (b::rest) pos) lN)):Wr (PW X (.BoolOp .Or (a::b::rest) pos)<|Gw tA lN):=⟨SO ha.run hb.run⟩
theorem vN(h:Wr (PW X e tA)):Wr (PT X e tA):=⟨h.run.pt⟩
theorem oV(ha:Wr (PT X a tA)):Wr (PT X (.UnaryOp .Not a pos)<|Du tA):=⟨V2 ha.run⟩
theorem oU(h:Wr (PE X e te))(he:∀ whole,isTrue e X.env whole=(do let v <-whole; standAt e.pos; holding [v] (truthy v)):=by intro _; rfl):Wr (PT X e<|tB te):=⟨VJ h.run he⟩
def I0(K:qc)(ta:TE):TT:=λσ H Q=>ta σ H λx H'=>∃ k,Di K x H' k/\Q k H'
theorem zm:Wr (PA X [] mn):=⟨UE⟩
theorem af(ha:Wr (PE X e te))(hr:Wr (PA X es t))(hs:d5 e=true:=by rfl):Wr (PA X (e::es)<|mG te t):=⟨zAb ha.run hr.run hs⟩
theorem cS{x1}(h:Wr (PA X es t)):Wr (PE X (.Tuple es x1 pos)<|Dh t):=⟨UD h.run⟩
theorem vW(h:Wr (PA X es t)):Wr (PE X (.List es pos)<|yP t):=⟨UC h.run⟩
theorem dZ(hc:du X (.builtin id) r)(hv:bootBuiltins x=some (.builtin id))(ha:Wr (PA X (e::es) t))(hg:Gl X x:=by exact rfl)(hm:X.mg x=none:=by exact ue ‹Bl _ _› (by decide))(hn:x ≠ "__name__":=by decide)(cB:(x==("__debug__":Str))=false:=by decide)
  (he:d5 e=true:=by rfl) (e9:es.all d5=true:=by rfl):Wr (PE X (.Call (.Name x p) (e::es) [] pos)<|pO r t):=⟨SA hc hg hm hv ha.run hn cB he e9⟩
theorem gI(hc:du X (.type T) r)(hv:bootBuiltins x=some (.type T))(ha:Wr (PA X (e::es) t))(hg:Gl X x:=by exact rfl)(hm:X.mg x=none:=by exact ue ‹Bl _ _› (by decide))(hn:x ≠ "__name__":=by decide)(cB:(x==("__debug__":Str))=false:=by decide)
  (he:d5 e=true:=by rfl) (e9:es.all d5=true:=by rfl):Wr (PE X (.Call (.Name x p) (e::es) [] pos)<|pO r t):=⟨Sy hc hg hm hv ha.run hn cB he e9⟩
theorem zH{k:Nat}{ps:Qa Str}(ha:Wr (PA X (e::es) t))(C:CM X.prog X.w X.K X.mg X.base x k ps sp:=by assumption)(hr:aD k X.A:=by exact aD.mono ‹aD _ _› (by decide))(hg:Gl X x:=by exact rfl)(cB:(x==("__debug__":Str))=false:=by decide)
  (he:d5 e=true:=by rfl) (e9:es.all d5=true:=by rfl):Wr (PE X (.Call (.Name x p) (e::es) [] pos)<|Dr sp t):=⟨U8 C hr hg ha.run cB he e9⟩
theorem bH(hr:vF X rd)(ha:Wr (PE X a ta))(hb:Wr (PE X b tb))(hs:LY b:=by exact λ_ _=>rfl):Wr (PE X (.Subscript a b pos)<|mX rd ta tb):=⟨SF hr ha.run hb.run hs⟩
theorem LH:Wr (PO X none E2):=⟨W7⟩
theorem LG(h:Wr (PE X e te)):Wr (PO X (some e)<|D1 te):=⟨W6 h.run⟩
theorem LF{r:V->Qb Int->Qb Int->Hp->VK->Prop}{lo hi:Qb Expr}{tl th:TO}{p2:Pos}(hr:CF X r)(he:Wr (PE X e te))(hl:Wr (PO X lo tl))(hu:Wr (PO X hi th)):Wr (PE X (.Subscript e (.Slice lo hi none p2) pos)<|Gv r te tl th):=⟨ZP hr he.run hl.run hu.run⟩
theorem wW{ta:TA}(ha:Wr (PA X [a] ta))(hg:Gl X "range":=by exact rfl)(hm:X.mg "range"=none:=by exact ue ‹Bl _ _› (by decide))(hs:d5 a=true:=by rfl):Wr (PI X tg (.Call (.Name "range" p) [a] [] pos)<|D4 ta):=⟨zoU hg hm ha.run<|mP hs⟩
theorem zC(hN:X.N.Nodup:=by first|assumption|exact Bg rfl)(hi:X.N[i]?=some x:=by rfl)(hx:Loc X.env.scope x:=by first|exact Or.inl rfl|exact Or.inr rfl)(hf:X.fn x=true\/X.env.scope.names.lookup x=some .local:=by first|exact .inl rfl|exact .inr rfl|assumption):Wr (PG X (.Name x pos)<|jv i):=⟨X7 hN hi hx hf⟩
theorem iB:Wr (qL X [] y7):=⟨Xf⟩
theorem cA(h1:Wr (PG X e g))(h2:Wr (qL X es gs))(hs:(assignEach (e::es) X.env).map (·.2)=assign e X.env::(assignEach es X.env).map (·.2):=by rfl):Wr (qL X (e::es)<|v5 g gs):=⟨ZU h1.run h2.run hs⟩
theorem EC{ti:TE}{xu:y8}(ho:Wr (PE X o ta))(hi:Wr (PE X e ti))(hs:Dx X xu)
  (hh:∀ v,assign (.Subscript o e pos) X.env v=(do
   let ov <-holding [v] (eval o X.env)
   let iv <-holding [v,ov] (eval e X.env)
   standAt pos
   holding [v,ov,iv] (setItem ov iv v)
   release [v,ov,iv] []):=by intro _; rfl):Wr (PG X (.Subscript o e pos)<|Dq ta ti xu):=⟨UN ho.run hi.run hs hh⟩
theorem jQ:Wr (jJ X [] Ds):=⟨Z2⟩
theorem U6(h:Wr (PT X c tA)):Wr (jJ X [c] tA):=⟨Z1 h.run⟩
theorem l8(hi:Wr (PI X tg iter wi))(hg:∀ {C s H ex},Wr<|PG (zJ X scope (gJ X js) (iD tg++f7 X js) C s H ex) tg g)(ht:∀ {C s H ex},Wr<|jJ (zJ X scope (gJ X js) (iD tg++f7 X js) C s H ex) ifs tt)
  (he:∀ {C s H ex},Wr<|PE (zJ X scope (gJ X js) (iD tg++f7 X js) C s H ex) elt te)
  (f:aN X (gJ X js) (f7 X js) js:=by repeat (first|exact aN.nil|refine aN.cons rfl (by first|exact Or.inl rfl|exact Or.inr rfl) rfl ?_)) (dY:closureFor scope X.env=pure (gJ X js):=by rfl) (S:nX scope (f7 X js):=by exact⟨rfl,of_decide_eq_true rfl,of_decide_eq_true rfl,of_decide_eq_true rfl,of_decide_eq_true rfl⟩) (gP:(iD tg).length=nt:=by rfl) (hc:X.calm=true:=by rfl) (gw:∀ σ:St,GW (c0 nt js σ) g:=by first|exact EW (by decide) | exact D9<|EU (by repeat (first|exact FJ|refine FR (by decide) ?_))) (hs:∀ x,foldedSetIterable iter X.env x=pure x:=by intro _; rfl):
  Wr (PE X (.ListComp elt [⟨tg,iter,ifs,0⟩] scope pos)<|xA wi nt js g tt te):=⟨SD nt (iD tg) gP hc S f dY hi.run (λC s H ex=>hg.run) gw (λC s H ex=>ht.run) (λC s H ex=>he.run) hs⟩
def IZ(K:qc):Qa V->Hp->VK->Prop:=λxs H Q=>∃ p ys,xs=[.ref p]/\(bq K H p ys\/bg K H p ys)/\Q (.int ys.length) H
def ML(K:qc):Qa V->Hp->VK->Prop:=λxs H Q=>∃ p ys,xs=[.ref p]/\((bq K H p ys/\∀ l,H l=none->Q (.ref l) (upd H l<|.tup ys))\/(bg K H p ys/\Q (.ref p) H))
theorem An(hK:X.K=K:=by rfl):du X (.builtin "len") (IZ K):=hK▸zjd
theorem pz(hK:X.K=K:=by rfl):du X (.type "tuple") (ML K):=hK▸zia
theorem jL(hK:X.K=K:=by rfl):vF X (Dg K):=hK▸W5
theorem cG(hK:X.K=K:=by rfl):vF X (Df K):=hK▸UA
theorem JK(hK:X.K=K:=by rfl):CF X (De K):=hK▸W4
theorem ET{l:Expr}{tl:TE}(hl:Wr (PE X l tl))(hK:X.K=K:=by rfl):Wr (PI X tg l<|D5 K tl):=hK▸⟨Xe hl.run⟩
theorem EL{l:Expr}{tl:TE}(hl:Wr (PE X l tl))(hK:X.K=K:=by rfl):Wr (PI X tg l<|Dm K tl):=hK▸⟨UK hl.run⟩
theorem iA{k:Nat}(h:Wr (qL X es gs))(hK:X.K=K:=by rfl)(hc:X.calm=true:=by rfl)(hn:(assignEach es X.env).length=n:=by rfl)(vp:(assignEach es X.env).findIdx? (·.1)=none:=by rfl):Wr (PG X (.Tuple es k pos)<|yS K n gs):=hK▸⟨VX hc h.run hn vp⟩
theorem JJ(ha:Wr (PE X a ta))(hK:X.K=K:=by rfl)(he:∀ whole,isTrue a X.env whole=(do let v <-whole; standAt a.pos; holding [v] (truthy v)):=by intro _; rfl):Wr (PT X a<|I0 K ta):=hK▸⟨ZR ha.run he⟩
theorem eI:Wr (dF X [] D7):=⟨Ya⟩
theorem aG(h1:Wr (PS X st ts))(h2:Wr (dF X Gy us)):Wr (dF X (st::Gy)<|Dz ts us):=⟨ZV h1.run h2.run⟩
theorem aP(h1:Wr (PS X st ts)):Wr (dF X [st] ts):=⟨X9 h1.run⟩
theorem KL(he:Wr (PE X e te))(hs:swapsWith e none pos.line X.env=pure false:=by rfl):Wr (PS X (.Expr e pos)<|D6 te):=⟨X8 he.run hs⟩
theorem bO(he:Wr (PE X e te)):Wr (PS X (.Return (some e) pos)<|y9 te):=⟨VY he.run⟩
theorem dJ{sa sb:Qa Stmt}(hc:Wr (PT X c tA))(ha:Wr (dF X sa ts))(hb:Wr (dF X sb us)):Wr (PS X (.If c sa sb pos)<|Dy tA ts us):=⟨SN hc.run ha.run hb.run⟩
theorem AI(h:Wr (PS X st ts)):Wr (PS X st<|Ea ts):=⟨WZ h.run⟩
theorem Bf(hc:Wr (PT X c tA))(hb:Wr (dF X body ts))(hp:PassesOwn (model X.prog X.w) X.A X.env X.xe:=by first|exact PassesOwn.never|exact PassesOwn.leaving):Wr (PS X (.While c body [] pos)<|EI tA ts):=⟨ZT hp hc.run hb.run⟩
theorem iW(hi:Wr (PI X tg iter wi))(hg:Wr (PG X tg g))(hb:Wr (dF X body ts))(hp:PassesOwn (model X.prog X.w) X.A X.env X.xe:=by first|exact PassesOwn.never|exact PassesOwn.leaving)(hc:X.calm=true:=by rfl)(hs:∀ x,foldedSetIterable iter X.env x=pure x:=by intro _; rfl):
  Wr (PS X (.For tg iter body [] pos)<|Dl wi g ts):=⟨UJ hp hc hi.run hg.run hb.run hs⟩
theorem zN(he:Wr (PE X e te))(hN:X.N.Nodup:=by first|assumption|exact Bg rfl)(hi:X.N[i]?=some x:=by rfl)(hx:Loc X.env.scope x:=by first|exact Or.inl rfl|exact Or.inr rfl)(hs:swapsWith e (some<|.Name x pos') pos.line X.env=pure false:=by rfl)(hf:X.fn x=true\/X.env.scope.names.lookup x=some .local:=by first|exact .inl rfl|exact .inr rfl|assumption):
  Wr (PS X (.Assign [.Name x pos'] e pos)<|om te<|jv i):=⟨EJ hN hi hx he.run hs hf⟩
theorem ud(he:Wr (PE X e te))(hg:Wr (PG X tg g))(hs:swapsWithSole [tg] e pos.line X.env=pure false:=by rfl)(hw:swappedStores [tg] e X.env=pure none:=by rfl)(h1:(assignEach [tg] X.env).map (·.2)=[assign tg X.env]:=by rfl):
  Wr (PS X (.Assign [tg] e pos)<|om te g):=⟨UM he.run hg.run hs hw h1⟩
theorem DW{y:Str}{ta:TA}{px py pt:Pos}{kt k2 rV}(ha:Wr (PA X [a,b] ta))(hc:X.calm=true:=by rfl)(hN:X.N.Nodup:=by first|assumption|exact Bg rfl)(hi:X.N[i]?=some x:=by rfl)(hj:X.N[j]?=some y:=by rfl)(ff:i≠j:=by decide)
  (hx:X.env.scope.names.lookup x=some .local:=by rfl) (hy:X.env.scope.names.lookup y=some .local:=by rfl)
  (hw:swappedStores [.Tuple [.Name x px,.Name y py] kt pt] (.Tuple [a,b] k2 rV) X.env=pure (some [x,y]):=by rfl)
  (hs:swapsWithSole [.Tuple [.Name x px,.Name y py] kt pt] (.Tuple [a,b] k2 rV) pos.line X.env=pure false:=by rfl):
  Wr (PS X (.Assign [.Tuple [.Name x px,.Name y py] kt pt] (.Tuple [a,b] k2 rV) pos)<|Dp i j ta):=⟨UL hc hN hi hj ff hx hy ha.run hw hs⟩
end
theorem jo.okW{base:Heap}{f:Qg}{ps:Qa Str}{k:Nat}(F:jo K x qual st f fd)(S:bE N ps (fy st))(len:∀ vs H Q E,sp vs H Q E->vs.length=ps.length)
  (bU:∀ (bo:Qc) (A:Qf) (outer:Qa Env) (s:Qd) (H:Hp) (vs:Qa V) (Q:VK) (E:XK),aD k (A.deeper<|envOfC qual (fy st) s.heap.objs.size f bo)->sp vs H Q E->
   ∃ t,Wr (dF (l9 gF P w K mg base N qual (fy st) f bo A outer s H E).r9 (lK st) t)/\t {nx:=λ_ H'=>Q .aT H',rt:=Q} (gf N vs) H):bW P w K mg base gF (k+1) f fd ps sp :=
 F.ok S len λbo A outer s H vs Q E hr h=>let ⟨t,w,q⟩:=bU bo A outer s H vs Q E hr h; ⟨t,w.run,q⟩
mutual
inductive DV (K:qc) (H:Hp):V->PyData->Prop
 | aT:DV K H .aT .none
 | bl (b:Bool):DV K H (.bl b) (.bool b)
 | int (i:Int):DV K H (.int i) (.int i)
 | str (x:Str):DV K H (.str x) (.str x)
 | lst {a:Qg} {xs:Qa V} {ds:Qa PyData} (h:bq K H a xs) (t:eh K H xs ds):DV K H (.ref a) (.list ds)
 | tup {a:Qg} {xs:Qa V} {ds:Qa PyData} (h:bg K H a xs) (t:eh K H xs ds):DV K H (.ref a) (.tuple ds)
inductive eh (K:qc) (H:Hp):Qa V->Qa PyData->Prop
 | nil:eh K H [] []
 | cons {v:V} {d:PyData} {vs:Qa V} {ds:Qa PyData} (h:DV K H v d) (t:eh K H vs ds):eh K H (v::vs) (d::ds)
end
theorem b9.GB{xs:Qa V}(e:b9 H H')(h:bg K H a xs):bg K H' a xs:=by
 rcases h with (h|⟨o,h⟩) | h
 .exact .inl (.inl<|e _ _ h)
 .exact .inl (.inr ⟨o,e _ _ h⟩)
 .exact .inr h
mutual
theorem DV.same(e:b9 H H'):∀ {v:V} {d:PyData},DV K H v d->DV K H' v d
 | _,_,.aT=>.aT
 | _,_,.bl b=>.bl b
 | _,_,.int i=>.int i
 | _,_,.str x=>.str x
 | _,_,.lst h t=>.lst (e.seq h)<|eh.same e t
 | _,_,.tup h t=>.tup (e.GB h)<|eh.same e t
theorem eh.same(e:b9 H H'):∀ {v:Qa V} {d:Qa PyData},eh K H v d->eh K H' v d
 | _,_,.nil=>.nil
 | _,_,.cons h t=>.cons (DV.same e h)<|eh.same e t
end
section
variable{X:Cx}
mutual
theorem DV.reads(I:Inv X pins σ H s):∀ {v:V} {d:PyData} {u:Qc},DV X.K H v d->zV v u->∃ as,Reads s.heap u d as
 | _,_,_,.aT,r=>by cases r; exact⟨_,.none⟩
 | _,_,_,.bl b,r=>by cases r; exact⟨_,.bool b⟩
 | _,_,_,.int i,r=>by have(t,rfl):=r; exact⟨_,.int i t⟩
 | _,_,_,.str x,r=>by have(t,rfl):=r; exact⟨_,.str x t⟩
 | _,_,_,.lst h t,r=>by
  cases r;obtain⟨ae,rv,⟨o,n,e1,e2,e3,e4⟩,hz⟩:=I.list h;have(as,q):=eh.reads I t rv;exact⟨_,.list e1 e2 e4 q⟩
 | _,_,_,.tup h t,r=>by
  cases r;obtain⟨ae,rv,⟨o,e1,e2,n,e4⟩,hz⟩:=I.tuple h;have(as,q):=eh.reads I t rv;exact⟨_,.tuple e1 e2 e4 q⟩
theorem eh.reads(I:Inv X pins σ H s):∀ {v:Qa V} {d:Qa PyData} {u:Qa Qc},eh X.K H v d->zO v u->∃ as,ReadsAll s.heap u d as
 | _,_,_,.nil,r=>by cases r; exact⟨_,.nil⟩
 | _,_,_,.cons h t,r=>by
  cases r with
  | cons r1 r2=>
   have(a1,q1):=DV.reads I h r1;have(a2,q2):=eh.reads I t r2;exact⟨_,.cons q1 q2⟩
end
mutual
theorem DV.noDict:∀ {v:V} {d:PyData},DV K H v d->d.hasDict=false
 | _,_,.aT=>rfl
 | _,_,.bl _=>rfl
 | _,_,.int _=>rfl
 | _,_,.str _=>rfl
 | _,_,.lst _ t=>by simp only[PyData.hasDict]; exact eh.noDict t
 | _,_,.tup _ t=>by simp only[PyData.hasDict]; exact eh.noDict t
theorem eh.noDict:∀ {v:Qa V} {d:Qa PyData},eh K H v d->PyData.hasDictAll d=false
 | _,_,.nil=>rfl
 | _,_,.cons h t=>by simp only[PyData.hasDictAll]; rw[DV.noDict h,eh.noDict t]; rfl
end
def DU(K:qc):Qa V->Hp->VK->Prop:=λxs H Q=>∃ v d,xs=[v]/\DV K H v d/\d.showable=true/\d.shown.length<=sizeLine/\d.depth<=60/\Q (.str d.shown) H
theorem zo8(hg:X.A.guards=some [])(hu:X.A.units+64 < cLine):du X (.builtin "repr") (DU X.K):=by
 intro pins s σ H xs us Q I r h;have(v,d,rfl,dv,hs,hz,hd,q):=h;have(u,rfl,ru):=eZ r;have(as,rd):=DV.reads I dv ru;have nd:=DV.noDict dv;cases dv with
 | aT=>
  cases ru;exact PySem.P.repr_of_none ⟨.str _,H,I.tok _,⟨_,rfl⟩,q⟩
 | bl b=>
  cases ru;exact PySem.P.repr_of_bool ⟨.str _,H,I.tok _,⟨_,rfl⟩,q⟩
 | int i=>
  have(t,rfl):=ru;exact PySem.P.repr_of_int (by simpa [PyData.showable] using hs) ⟨.str _,H,I.tok _,⟨_,rfl⟩,q⟩
 | str x=>
  have(t,rfl):=ru;exact PySem.P.repr_of_str ⟨.str _,H,I.tok _,⟨_,rfl⟩,q⟩ hz
 | lst h t=>
  cases ru;exact repr_of_reads' rd hs (PyData.noDict_hsm nd) hg (by omega) (λ_ _ e=>e) (λh' u tk hk=>⟨.str _,H,I.kept hk,⟨_,rfl⟩,q⟩) hz
 | tup h t=>
  cases ru;exact repr_of_reads' rd hs (PyData.noDict_hsm nd) hg (by omega) (λ_ _ e=>e) (λh' u tk hk=>⟨.str _,H,I.kept hk,⟨_,rfl⟩,q⟩) hz
theorem KJ(K:qc)(hK:X.K=K){k:Nat}(hr:aD k X.A):du X (.builtin "repr") (DU K):=hK▸zo8 hr.gd hr.units
end
section
variable{X:Cx}{p:Pos}{a b c:Expr}{es rest:Qa Expr}{tb:TE}{t:TA}{rd:R2}{id:String}{tA lN:TT}{Gy body:Qa Stmt}{ts us:TS}{gs:gS}
theorem Sv{y:Str}{py xD:Pos}(hi:Wr (PI X tg iter wi))(hg:∀ {C s H ex},Wr<|PG (zJ X scope (gJ X js) (iD tg++f7 X js) C s H ex) tg g)(ht:∀ {C s H ex},Wr<|jJ (zJ X scope (gJ X js) (iD tg++f7 X js) C s H ex) ifs tt)
  (he:∀ {C s H ex},Wr<|PE (zJ X scope (gJ X js) (iD tg++f7 X js) C s H ex) elt te)
  (hN:X.N.Nodup:=by first|assumption|exact Bg rfl) (fH:X.N[i]?=some y:=by rfl) (hy:Loc X.env.scope y:=by first|exact Or.inl rfl|exact Or.inr rfl)
  (f:aN X (gJ X js) (f7 X js) js:=by repeat (first|exact aN.nil|refine aN.cons rfl (by first|exact Or.inl rfl|exact Or.inr rfl) rfl ?_)) (dY:closureFor scope X.env=pure (gJ X js):=by rfl) (S:nX scope (f7 X js):=by exact⟨rfl,of_decide_eq_true rfl,of_decide_eq_true rfl,of_decide_eq_true rfl,of_decide_eq_true rfl⟩) (gP:(iD tg).length=nt:=by rfl) (hc:X.calm=true:=by rfl) (gw:∀ σ:St,GW (c0 nt js σ) g:=by first|exact EW (by decide) | exact D9<|EU (by repeat (first|exact FJ|refine FR (by decide) ?_))) (hs:∀ x,foldedSetIterable iter X.env x=pure x:=by intro _; rfl)
  (hsw:swapsWith (.ListComp elt [⟨tg,iter,ifs,0⟩] scope pos) (some<|.Name y py) xD.line X.env=pure true:=by rfl)
  (hf:X.fn y=true\/X.env.scope.names.lookup y=some .local:=by first|exact .inl rfl|exact .inr rfl|assumption):
  Wr (PS X (.Assign [.Name y py] (.ListComp elt [⟨tg,iter,ifs,0⟩] scope pos) xD)<|om (xA wi nt js g tt te)<|jv i):=by
 refine⟨?_⟩;intro pins s σ H D I h;rw[exec_Assign_Name_used _ _ _ _ hsw];refine qa<|wpAny_standAt<|qa ?_;show wpAny _ X.A (do let _ <-comprehension (.ListComp elt [⟨tg,iter,ifs,0⟩] scope pos) scope X.env _ (newList []) false (eval iter X.env) (some<|assign (.Name y py) X.env)) _ _ s;refine qa<|wpAny_mono (wpAny_comprehension_free (use:=some (assign (.Name y py) X.env)) (Q:=λ_ s'=>SP X pins D .next s') rfl hs dY S.kind S.names
  (aF (hi.run pins s σ H _ I h) λv s1 h1=>aF h1 λpU s2 h2=>?_)) (λ_ s' hq=>qb<|qb hq) λ_ _ e=>e
 have(it,fp,tn,J,H2,e,I2,T,jw,f2,q):=h2;subst e;refine NY (RR:=λacc C=>compPost (model X.prog X.w) X.A X.xe (some<|assign (.Name y py) X.env) (λ_ s'=>SP X pins D .next s') acc C) hc I2 S f gP T jw f2 (λC s H ex=>hg.run) (λC s H ex=>ht.run) (λC s H ex=>he.run) (gw σ) q ?_;intro D' C m s' ys H' z hD I' hn tD p9 p8 lZ tw;show wpAny _ _ (assign (.Name y py) X.env<|.ref D') _ _ _;refine wpAny_assign_Name<|M7 (v:=.ref D') I' hN fH hy rfl (λB0 I'' hZ=>?_) hf;have(a,sb,ha):=hZ;have ne:C≠a:=by
  rcases ha with rfl|ha
  .exact p9
  .exact(p8 _ _ ha).symm
 exact⟨m,hn.sameBut sb ne,λh' sN=>⟨_,_,I''.turned (it:=C) (λb o hb e=>sN.extBut b o hb e) tD p9 (.inr lZ) p8 tw,z D' hD⟩⟩
end
structure Kp (H H':Hp):Prop where
 tup:∀ b xs,H b=some (.tup xs)->H' b=some (.tup xs)
 aZ:∀ b o u,H b=some (.aZ o u)->H' b=some (.aZ o u)
 own:∀ b x,H b=some (.own x)->H' b=some (.own x)
theorem Kp.refl(H:Hp):Kp H H:=⟨λ_ _ h=>h,λ_ _ _ h=>h,λ_ _ h=>h⟩
theorem Kp.trans{H2:Hp}(a:Kp H H1)(b:Kp H1 H2):Kp H H2:=⟨λx y h=>b.tup x y<|a.tup x y h,λx y z h=>b.aZ x y z<|a.aZ x y z h,λx y h=>b.own x y<|a.own x y h⟩
theorem b9.kp(s:b9 H H'):Kp H H':=⟨λ_ _ h=>s _ _ h,λ_ _ _ h=>s _ _ h,λ_ _ h=>s _ _ h⟩
end L2
namespace HT
open PySem PyProof.Rows
open PySem.SeqAt
open PySem.MeetsSeq PySem.MeetsSeq2 PySem.MeetsSeq3
section
variable{prog:Program} {w:World} {A:Around} {E:Value->Shared->Prop} {s:Shared}
end
end HT
namespace L2
open PySem PySem.Spec PyProof.Rows
section
variable{X:Cx}
end
section
variable{X:Cx}
end
section
variable{X:Cx}
end
section
variable{X:Cx}
theorem zO.at:∀ {xs:Qa V} {us:Qa Qc} {i:Nat} {u:Qc},zO xs us->us[i]?=some u->∃ x,xs[i]?=some x/\zV x u
 | _,_,0,_,.cons r _,e=>by
  cases(show some _=some _ from e);exact⟨_,rfl,r⟩
 | _,_,i+1,_,.cons _ t,e=>zO.at (i:=i) t e
 | _,_,0,_,.nil,e=>by cases e
 | _,_,_+1,_,.nil,e=>by cases e
theorem FI{p:Qg}{xs:Qa V}(I:Inv X pins σ H s)(hh:A.handled=none)(hq:bq X.K H p xs\/bg X.K H p xs)
  (h:∀ (it:Qg) (fp wr:Qa Qg) (n:Nat) (P:Nat->Qc->Prop) (St:Nat->Heap->Prop) (s2:Qd),Walks X.prog X.w A it fp wr n P St->St 0 s2.heap->(∀ b∈fp,b < s2.heap.objs.size)->n=xs.length->(∀ i v,P i v->∃ x,xs[i]?=some x/\zV x v)->
   (∀ h' tk,(∀ b o,b∉wr->s2.heap.get? b=some o->h'.get? b=some o)->Inv X pins σ H {s2 with heap:=h',toks:=tk})->Q (.ref it) s2):
  wpAny (model X.prog X.w) A (pyIter<|.ref p) Q E s:=by
 rcases hq with hq|hq
 .have(ae,r,pl,hz):=I.list hq
  have hp:p < s.heap.objs.size:=by
   have(o,n,e,_):=pl;exact qi e
  have ne:p≠s.heap.objs.size:=qk hp;refine wpAny_pyIter_list pl.isList<|h s.heap.objs.size [s.heap.objs.size,p] [s.heap.objs.size] ae.toArray.size _ _ _ (Walks.list hh _ p ne ae.toArray) ⟨⟨_,qg _ rfl,rfl,rfl⟩,?_⟩ (λb hb=>?_) (by rw[List.size_toArray]; exact r.length.symm) (λi v e=>zO.at r (by simpa using e)) λh' tk hk=>?_
  .have(o,n,e,c,d,f):=pl
   exact⟨o,qd _ e,c,n,f⟩
  .rw[Heap.size_push]
   rcases qw.mp hb with z|z
   .rw[z]; exact ò _
   .rw[qq.mp z]; exact Ă hp
  .exact I.kept λb u e=>hk b u (λz=>absurd (qi e) (by rw[qq.mp z]; exact Ç _))<|qd _ e
 .have(ae,r,pl,hz):=I.tuple hq
  have hp:p < s.heap.objs.size:=by
   have(o,e,_):=pl;exact qi e
  have ne:p≠s.heap.objs.size:=qk hp;refine wpAny_pyIter_tuple (show s.heap.IsTuple p ae.toArray from pl)<|h s.heap.objs.size [s.heap.objs.size,p] [s.heap.objs.size] ae.toArray.size _ _ _ (Walks.tuple hh _ p ne ae.toArray) ⟨⟨_,qg _ rfl,rfl,rfl⟩,?_⟩ (λb hb=>?_) (by rw[List.size_toArray]; exact r.length.symm) (λi v e=>zO.at r (by simpa using e)) λh' tk hk=>?_
  .have(o,e,c,n,f):=pl
   exact⟨o,qd _ e,c,n,f⟩
  .rw[Heap.size_push]
   rcases qw.mp hb with z|z
   .rw[z]; exact ò _
   .rw[qq.mp z]; exact Ă hp
  .exact I.kept λb u e=>hk b u (λz=>absurd (qi e) (by rw[qq.mp z]; exact Ç _))<|qd _ e
theorem zl1(ns:Qa Int):preSum (λi=>ns.getD i 0) ns.length=ns.sum:=by
 have key:∀ k,k<=ns.length->preSum (λi=>ns.getD i 0) k=(ns.take k).sum:=by
  intro k
  induction k with
  | zero=>intro _; rfl
  | succ k ih=>
   intro hk;have dC:k < ns.length:=hk;show preSum (λi=>ns.getD i 0) k+ns.getD k 0=_;rw[ih (by omega),List.take_succ,qm dC,List.sum_append,qC,qm dC];simp
 rw[key ns.length<|qe _,List.take_of_length_le<|qe _]
def Jj(K:qc):Qa V->Hp->VK->Prop:=λxs H Q=>∃ (p:Qg) (ns:Qa Int),xs=[.ref p]/\(bq K H p (ns.map V.int)\/bg K H p (ns.map V.int))/\Q (.int ns.sum) H
theorem Am(K:qc)(hK:X.K=K)(hc:X.calm=true):du X (.builtin "sum") (Jj K):=by
 subst hK;intro pins s σ H xs us Q I r h;have(p,ns,rfl,hq,q):=h;have(u,rfl,ru):=eZ r;cases ru;refine call_sum_walkG<|FI I (I.ok.hd hc) hq λit fp wr n P St s2 W st sU hn hP hI=>⟨it,fp,wr,n,P,St,λi=>ns.getD i 0,rfl,W,st,sU,?_,λh' tk t' hk=>?_⟩
 .intro i v hv
  have(x,ex,rx):=hP i v hv;rw[List.getElem?_map]at ex;cases eb:ns[i]? with
  | none=>rw[eb]at ex; cases ex
  | some b=>
   rw[eb]at ex;cases ex;have(t,rfl):=rx;have ew:ns.getD i 0=b:=by rw[qC,eb]; rfl
   refine⟨t,?_⟩;show Value.int b t=Value.int (ns.getD i 0) t;rw[ew]
 .rw[hn,List.length_map,zl1]
  exact⟨.int _,H,hI h' tk hk,⟨t',rfl⟩,q⟩
end
section
variable{fp wr:Qa Qg}{P:Nat->Qc->Prop}{St:Nat->Heap->Prop}
theorem WX(W:Walks prog w A.in1 it fp wr n P St)(bt:Nat->Nat->Bool)(cm:CmpOf prog w A.in1 .Gt P bt)(B:Qg)(nB:B∉fp)(kw:Qa (Str×Qc)):
  ∀ (left j:Nat) (s:Qd) (vb:Qc) (c:Nat),n - (j+1)=left->j+1<=n->St (j+1) s.heap->P (argBest bt j) vb->s.heap.get? B=some {cls:=.type "list",dict:=none,data:=.seq #[vb,vb] c,slots:=#[]}->
  (∀ v h' tk,P (argBest bt<|n - 1) v->(∀ b o,b∉wr->b≠B->s.heap.get? b=some o->h'.get? b=some o)->R (.ok<|.ret v) {s with heap:=h',toks:=tk})->
  codeAny (model prog w) A (.builtin "max.loop" ⟨[.ref it,.none,.ref B],kw⟩) R s:=by
 have wB:B∉wr:=λz=>nB<|W.sub _ z;have nm:(toString "max"++toString ".loop":String) = "max.loop":=by decide
 intro left
 induction left with
 | zero=>
  intro j s vb c e1 e2 st pb oB fin;have ej:j+1=n:=by omega
  refine codeAny_builtin á ?_;rw[Around.under_plainId PySem.F.plain_max_loop _];show wpAny _ A.in1 (seqItems? (.ref B) >>= _) _ _ s;refine qa<|wpAny_seqItems oB rfl ?_;show wpAny _ A.in1 (tryCatch (pyNext<|.ref it) _ >>= _) _ _ s;refine qa<|wpAny_tryCatch<|W.done s _ _ (ej▸st) λh1 tk kp=>?_;have dA:=kp B _ wB oB;show wpAny _ A.in1 (updateSeq B (λ_=>#[]) >>= _) _ _ _;refine qa<|wpAny_updateSeq dA rfl<|qa<|wpAny_letGo<|qb ?_;exact fin vb _ tk (by rw[<-ej]; exact pb) λb o hb hB e=>(Á _ _<|Ne.symm hB).trans<|kp b o hb e
 | succ left ih=>
  intro j s vb c e1 e2 st pb oB fin;have lt:j+1 < n:=by omega
  refine codeAny_builtin á ?_;rw[Around.under_plainId PySem.F.plain_max_loop _];show wpAny _ A.in1 (seqItems? (.ref B) >>= _) _ _ s;refine qa<|wpAny_seqItems oB rfl ?_;show wpAny _ A.in1 (tryCatch (pyNext<|.ref it) _ >>= _) _ _ s;refine qa<|wpAny_tryCatch<|W.item (j+1) s _ _ lt st λv h1 tk pv gM kp=>?_;have dA:=kp B _ wB oB;show wpAny _ A.in1 (tryCatch (holding [v,v]<|richCompare .Gt v vb >>= _) _ >>= _) _ _ _;refine qa<|wpAny_tryCatch<|wpAny_holding<|qa<|cm (j+1) (argBest bt j) v vb _ _ _ pv pb ?_;refine qa<|wpAny_holding<|wpAny_truthy_bool<|qa<|wpAny_letGo<|qb ?_;cases hb:bt (j+1) (argBest bt j)with
  | true=>
   rw[if_pos rfl];refine qa<|wpAny_updateSeq dA rfl<|qa<|wpAny_letGo ?_;rw[nm];refine qb ⟨plainId_quiet Ö _,ih (j+1) _ v _ (by omega) lt (W.frame _ _ _ gM λb yk o e=>?_) (by rw[argBest,hb,if_pos rfl]; exact pv) (Å _ dA rfl) λv2 h2 jb p2 k2=>?_⟩
   .exact(Á _ _ (λz:B=b=>nB (by rw[z]; exact yk))).trans e
   .exact fin v2 h2 jb p2 λb o hw hB e=>k2 b o hw hB<|(Á _ _<|Ne.symm hB).trans<|kp b o hw e
  | false=>
   rw[if_neg qf];refine qa<|wpAny_letGo ?_;rw[nm];refine qb ⟨plainId_quiet Ö _,ih (j+1) _ vb c (by omega) lt gM (by rw[argBest,hb,if_neg qf]; exact pb) dA λv2 h2 jb p2 k2=>?_⟩;exact fin v2 h2 jb p2 λb o hw hB e=>k2 b o hw hB<|kp b o hw e
end
section
theorem zo9(a d:Qc):argsOk "max" ⟨[a],[(Str.ofString "default",d)]⟩:=by unfold argsOk; kernel_rfl
theorem ZM{x d:Qc}
  (h:wpAny (model prog w) A.in1 (pyIter x) (λpU s2=>∃ it fp wr n P St bt,pU=.ref it/\Walks prog w A.in1 it fp wr n P St/\St 0 s2.heap/\(∀ b∈fp,b < s2.heap.objs.size)/\CmpOf prog w A.in1 .Gt P bt/\
   (n=0->∀ h' tk,(∀ b o,b∉wr->s2.heap.get? b=some o->h'.get? b=some o)->Q d {s2 with heap:=h',toks:=tk})/\
   (0 < n->∀ v h' tk,P (argBest bt<|n - 1) v->(∀ b o,b∉wr->s2.heap.get? b=some o->h'.get? b=some o)->Q v {s2 with heap:=h',toks:=tk})) E s):
  wpAny (model prog w) A (call (.builtin "max") [x] [(Str.ofString "default",d)]) Q E s:=by
 have nm:(toString "max"++toString ".loop":String) = "max.loop":=by decide
 refine kmk_tree PySem.F.kind_max PySem.F.plain_max PySem.F.entry_max (zo9 _ _) ?_;show wpAny _ A.in1 (Builtin.Builtins.bindParams "max" ["key", "default"] 0 ⟨[],[(Str.ofString "default",d)]⟩ >>= _) _ _ s;refine qa<|wpAny_of_eq (show Builtin.Builtins.bindParams "max" ["key", "default"] 0 ⟨[],[(Str.ofString "default",d)]⟩=pure [none,some d] from rfl) ?_;refine qa<|qb<|qa<|wpAny_mono h (λpU s2 h2=>?_) λ_ _ e=>e;have(it,fp,wr,n,P,St,bt,rfl,W,st,sU,cm,q0,q1):=h2;refine qa<|qB ?_;have nB:s2.heap.objs.size∉fp:=λz=>Ç _<|sU _ z;have wB:s2.heap.objs.size∉wr:=λz=>nB<|W.sub _ z;rw[nm];refine qb ⟨plainId_quiet Ö _,?_⟩;have dz:=W.frame _ _ (s2.heap.push {cls:=.type "list",data:=.seq #[]}) st λb _ o e=>qd _ e;refine codeAny_builtin á ?_;rw[Around.under_plainId PySem.F.plain_max_loop _];show wpAny _ A.in1 (seqItems? (.ref _) >>= _) _ _ _;refine qa<|wpAny_seqItems (qg _ rfl) rfl ?_;show wpAny _ A.in1 (tryCatch (pyNext<|.ref it) _ >>= _) _ _ _
 by_cases hn:n=0
 .subst hn
  refine qa<|wpAny_tryCatch<|W.done _ _ _ dz λh1 tk kp=>?_;refine qa<|wpAny_rule<|qb ?_;exact q0 rfl h1 tk λb o hb e=>kp b o hb<|qd _ e
 .have lt:0 < n:=Nat.pos_of_ne_zero hn
  refine qa<|wpAny_tryCatch<|W.item 0 _ _ _ lt dz λv h1 tk pv gM kp=>?_;have dA:=kp _ _ wB (qg s2.heap (o:={cls:=.type "list",data:=.seq #[]}) rfl);show wpAny _ A.in1 (updateSeq s2.heap.objs.size (λ_=>#[v,v]) >>= _) _ _ _;refine qa<|wpAny_updateSeq dA rfl ?_;rw[nm];refine qb ⟨plainId_quiet Ö _,WX W bt cm _ nB _ _ 0 _ v _ rfl lt (W.frame _ _ _ gM λb yk o e=>?_) pv (Å _ dA rfl) λv2 h2 jb p2 k2=>?_⟩
  .exact(Á _ _ (λz:s2.heap.objs.size=b=>nB (by rw[z]; exact yk))).trans e
  .exact q1 lt v2 h2 jb p2 λb o hw e=>k2 b o hw (qk<|qi e)<|(Á _ _<|Ne.symm<|qk<|qi e).trans<|kp b o hw<|qd _ e
end
def EK(X:Cx)(f:Qc)(ks:Qa Str)(r:Qa V->Qa V->Hp->VK->Prop):Prop :=
 ∀ (pins:Qa (Qg×Obj)) (s:Qd) (σ:St) (H:Hp) (xs zs:Qa V) (us ws:Qa Qc) (Q:VK),Inv X pins σ H s->zO xs us->zO zs ws->r xs zs H Q->
  wpAny (model X.prog X.w) X.A (call f us<|ks.zip ws) (EP X pins σ Q) X.xe s
def Ji(r:Qa V->Qa V->Hp->VK->Prop)(t tk:TA):TE:=λσ H Q=>t σ H λvs H1=>tk σ H1 λzs H2=>r vs zs H2 Q
section
variable{X:Cx}
theorem KI:Wr (PK X [] mn):=⟨UB⟩
theorem LD{iK:Qa Keyword}{t:TA}{nm:Qb Str}{jf:Pos}(ha:Wr (PE X e te))(hr:Wr (PK X iK t)):Wr (PK X (⟨nm,e,jf⟩::iK)<|mG te t):=⟨W8 ha.run hr.run⟩
theorem Te{id:String}{ks:Qa Str}{r:Qa V->Qa V->Hp->VK->Prop}{p:Pos}{es:Qa Expr}{iK:Qa Keyword}{t tk:TA}(hc:EK X (.builtin id) ks r)(hv:bootBuiltins x=some (.builtin id))
  (ha:Wr (PA X (e::es) t)) (hk:Wr (PK X iK tk)) (hg:Gl X x:=by exact rfl) (hm:X.mg x=none:=by exact ue ‹Bl _ _› (by decide)) (hn:x ≠ "__name__":=by decide) (cB:(x==("__debug__":Str))=false:=by decide) (he:d5 e=true:=by rfl) (e9:es.all d5=true:=by rfl)
  (kC:(backToKw pos<|keywordEach iK X.env).all (·.1.isSome)=true:=by rfl) (hks:(backToKw pos<|keywordEach iK X.env).filterMap (·.1)=ks:=by rfl) (hkw:(backToKw pos<|keywordEach iK X.env).any (·.1.isNone)=false:=by rfl):
  Wr (PE X (.Call (.Name x p) (e::es) iK pos)<|Ji r t tk):=by
 refine⟨?_⟩;intro pins s σ H Q I h;refine wpAny_Call_Name_kw<|uI I hg hm hv ?_ hn cB;have e1:backTo pos (starEach (e::es) X.env)=(false,eval e X.env)::backTo pos (starEach es X.env):=by rw[mP he]; rfl
 have e2:(backTo pos<|starEach (e::es) X.env).any (·.1)=false:=rM (by rw[List.all_cons,he,e9]; rfl);refine callWith_kw (aF (ha.run pos pins s σ H _ I h) λus s1 ⟨vs,H1,I1,r1,q1⟩=>aF (hk.run pos pins s1 σ H1 _ I1 q1) λws s2 hZ=>?_) e1 e2 kC hkw;have(zs,H2,I2,r2,q2):=hZ;rw[hks];exact hc pins s2 σ H2 vs zs us ws Q I2 r1 r2 q2
theorem Nh(val:Nat->Int):∀ k,argBest (λi j=>decide<|val i > val j) k<=k/\∀ i,i<=k->val i<=val (argBest (λi j=>decide<|val i > val j) k)
 | 0=>⟨qe _,λi hi=>by cases Nat.le_zero.mp hi; exact Ò _⟩
 | k+1=>by
  have(h1,h2):=Nh val k;unfold argBest
  by_cases c:val (k+1) > val (argBest (λi j=>decide<|val i > val j) k)
  .rw[if_pos<|decide_eq_true c]
   refine⟨qe _,λi hi=>?_⟩;rcases Ú i (k+1)with z|z
   .have:=h2 i (by omega)
    omega
   .have:i=k+1:=by omega
    subst this;exact Ò _
  .rw[if_neg (by rw[decide_eq_false c]; exact qf)]
   refine⟨by omega,λi hi=>?_⟩;rcases Ú i (k+1)with z|z
   .exact h2 i (by omega)
   .have:i=k+1:=by omega
    subst this;omega
def JI(K:qc):Qa V->Qa V->Hp->VK->Prop:=λxs zs H Q=>∃ (p:Qg) (ns:Qa Int) (d m:Int),xs=[.ref p]/\zs=[.int d]/\(bq K H p (ns.map V.int)\/bg K H p (ns.map V.int))/\
 ((ns=[]/\m=d)\/(m∈ns/\∀ x∈ns,x<=m))/\Q (.int m) H
theorem U5(K:qc)(hK:X.K=K)(hc:X.calm=true):EK X (.builtin "max") ["default"] (JI K):=by
 subst hK;intro pins s σ H xs zs us ws Q I r rz h;have(p,ns,d,m,rfl,rfl,hq,hm,q):=h;have(u,rfl,ru):=eZ r;have(wd,rfl,rd):=eZ rz;cases ru;have(td,rfl):=rd;have val:∀ {i:Nat} {v:Qc},(∃ x,(ns.map V.int)[i]?=some x/\zV x v)->∃ t,v=.int (ns.getD i 0) t/\ns[i]?=some (ns.getD i 0):=λ{i v} hx=>by
  have(x,ex,rx):=hx;rw[List.getElem?_map]at ex;cases eb:ns[i]? with
  | none=>rw[eb]at ex; cases ex
  | some b=>
   rw[eb]at ex;cases ex;have(t,rfl):=rx;have ew:ns.getD i 0=b:=by rw[qC,eb]; rfl
   exact⟨t,by rw[ew],by rw[ew]⟩
 refine ZM<|FI I (I.ok.hd hc) hq λit fp wr n P St s2 W st sU hn hP hI=>⟨it,fp,wr,n,P,St,_,rfl,W,st,sU,CmpOf.ints_gt (λi=>ns.getD i 0) (λi v hv=>let ⟨t,e,_⟩:=val (hP i v hv); ⟨t,e⟩),λhz h' tk hk=>?_,λhz v h' tk hv hk=>?_⟩
 .rw[hn,List.length_map]at hz
  have e:m=d:=by
   rcases hm with z|z
   .exact z.2
   .rw[List.eq_nil_of_length_eq_zero hz]at z
    cases z.1
  exact⟨.int m,H,hI h' tk hk,⟨td,by rw[e]⟩,q⟩
 .rw[List.length_map]at hn
  have(t,rfl,ei):=val (hP _ v hv);have(b1,b2):=Nh (λi=>ns.getD i 0) (n - 1);have e:m=ns.getD (argBest (λi j=>decide<|ns.getD i 0 > ns.getD j 0)<|n - 1) 0:=by
   rcases hm with z|⟨z1,z2⟩
   .rw[z.1]at hn
    simp at hn;omega
   .have le1:=z2 _ (Ê ei)
    have(k,hk,ek):=ß z1;have G4:=b2 k (by omega);have yw:ns.getD k 0=m:=by rw[qC,qm hk,ek]; rfl
    have G3:ns.getD k 0<=ns.getD (argBest (λi j=>decide<|ns.getD i 0 > ns.getD j 0)<|n - 1) 0:=G4;omega
  exact⟨.int m,H,hI h' tk hk,⟨t,by rw[e]⟩,q⟩
end
section
theorem NX{t:Qg}{items:Array Qc}{x:Qc}(hi:s.heap.IsTupleIter it t i)(ht:s.heap.IsTuple t items)(hx:items[i]?=some x)
  (q:∀ h',h'.IsTupleIter it t (i+1)->Heap.SameBut it s.heap h'->Q x {s with heap:=h'}):wpAny (model prog w) A (Builtin.SmallTypes.nextOf<|.ref it) Q E s:=by
 have(oi,e1,e2,e3):=id hi;have(ot,f1,f2,nt,f3):=ht;unfold Builtin.SmallTypes.nextOf;refine qa (wpAny_callSpecial?_slot (name:=Str.ofString "__next__") hi.typeIs slot_tupleiter_next
  (wpAny_call_entry slot_tupleiter_next hi.typeIs entry_tupleiter_next ?_<|args_tupleiter_next _))
 show wpAny _ _ (field (.ref it) 0 >>= _) _ _ s;refine qa<|wpAny_field e1 e3 (x:=.ref t) rfl ?_;show wpAny _ _ (if(Value.ref t==Value.none)=true then _ else _) _ _ s;rw[if_neg (show ¬((Value.ref t==Value.none)=true) from qf)];show wpAny _ _ (field (.ref it) 1 >>= _) _ _ s;refine qa<|wpAny_field e1 e3 (x:=.int i 0) rfl ?_;show wpAny _ _ (seqItems? (.ref t) >>= _) _ _ s;refine qa<|wpAny_seqItems f1 f3 ?_;simp only[Int.toNat_natCast,hx];refine qa<|wpAny_setField e1 e3 (by simp)<|qb ⟨x,rfl,qb<|q _ ?_<|È ..⟩;refine⟨_,Å _ e1<|Obj.isFreed_of_fields<|Obj.data_mapFields e3 _,(Obj.cls_mapFields ..).trans e2,?_⟩;rw[Obj.data_mapFields e3];simp[rawInt]
theorem ZL{t:Qg}{items:Array Qc}(hh:A.handled=none)(hi:s.heap.IsTupleIter it t i)(ht:s.heap.IsTuple t items)(hx:items[i]?=none)
  (q:∀ h' e,Heap.ExtBut it s.heap h'->(∃ o,h'.get? e=some o/\o.cls=.type "StopIteration")->E (.ref e) {s with heap:=h'}):wpAny (model prog w) A (Builtin.SmallTypes.nextOf<|.ref it) Q E s:=by
 have(oi,e1,e2,e3):=id hi;have(ot,f1,f2,nt,f3):=ht;unfold Builtin.SmallTypes.nextOf;refine qa (wpAny_callSpecial?_slot (name:=Str.ofString "__next__") hi.typeIs slot_tupleiter_next
  (wpAny_call_entry slot_tupleiter_next hi.typeIs entry_tupleiter_next ?_<|args_tupleiter_next _))
 show wpAny _ _ (field (.ref it) 0 >>= _) _ _ s;refine qa<|wpAny_field e1 e3 (x:=.ref t) rfl ?_;show wpAny _ _ (if(Value.ref t==Value.none)=true then _ else _) _ _ s;rw[if_neg (show ¬((Value.ref t==Value.none)=true) from qf)];show wpAny _ _ (field (.ref it) 1 >>= _) _ _ s;refine qa<|wpAny_field e1 e3 (x:=.int i 0) rfl ?_;show wpAny _ _ (seqItems? (.ref t) >>= _) _ _ s;refine qa<|wpAny_seqItems f1 f3 ?_;simp only[Int.toNat_natCast,hx];refine qa<|wpAny_rule<|qa<|wpAny_setField e1 e3 (by simp) ?_;show wpAny _ _ (newExc (.type "StopIteration") [] >>= _) _ _ _;refine qa ?_;simp only[newExc,newTuple];refine qa<|qB ?_ (by show(0:Nat)<=sizeLine; exact Ð _);refine qa (m:=firstArgMember _ _)<|wpAny_of_eq (a:=Value.none) (by first|rfl | (simp only[firstArgMember]; rfl)) ?_;refine qB ?_ (by first|trivial|size_fits);simp only[raiseNew];refine qa (wpAny_handled ?_)
 first|rw[show A.in1.handled=none from hh] | rw[hh]
 refine qa<|qb<|wpAny_throw ?_;exact q _ _ (((È ..).extBut.push _).push _) ⟨_,qg _ rfl,rfl⟩
end
section
end
section
variable{X:Cx}
theorem Inv.fD{t':Nat}{wr:Qa Qg}(I:Inv X pins σ H s)(k:∀ b o,b∉wr->s.heap.get? b=some o->h'.get? b=some o)(hf:∀ b∈wr,cu X pins H b):Inv X pins σ H {s with heap:=h',toks:=t'}:=by
 have je:∀ b u,H b=some u->b∉wr:=λb u e z=>by rw[(hf b z).1]at e; cases e
 refine I.step (g':=s.gens) (d':=s.drawn) (ch:=wr) (λb hb=>?_) (λb o _ _ hc e _=>k b o hc e) (λb o _ _ hc e _=>⟨o.slots,k b o hc e⟩) (λ_ _ _ _ n=>n)
  (λb o hc e=>⟨o,k b o hc e⟩) (λ_ _ e=>e) (λ_ _ _ e=>e) (λb ps e=>⟨#[],by rw[e]; simp⟩) (λm hm=>?_) (λb u e=>?_) I.bare
 .have(_,z1,_,z3,z4,z5):=hf b hb
  exact⟨z3,z1,z4,z5⟩
 .have(o,es,ep,ho,r):=hm
  exact⟨o,es,ep,k _ o (λz=>(hf _ z).2.1 rfl) ho,r⟩
 .refine(I.az b u e).dS (λc v hc q=>k c v ?_ q) (λ_ q=>q) λ_ _ q=>q
  rcases hc with z|z
  .rw[z]; exact je b u e
  .exact je c _ z
theorem Inv.pN{o:HO}(I:Inv X pins σ H s)(f:cu X pins H a)(ha:X.aW.heap.objs.size<=a)(new:be X.prog X.w X.K (upd H a o) s.heap a o):Inv X pins σ (upd H a o) s:=by
 have(f0,f1,f2,f3,f4,f5):=f;refine⟨I.ok,I.os,I.bare,Mn I.base f0 ha,I.loc,I.cell,?_,λx c e=>?_,λp hp=>?_,Ni I.az f0 new,I.len⟩
 .rw[zx<|Ne.symm f1]
  exact I.free
 .rw[zx<|f4 x c e]
  exact I.ba x c e
 .have(p1,p2,p3):=I.pin p hp
  refine⟨p1,?_,p3⟩;rw[zx<|f5 p hp];exact p2
end
section
variable{X:Cx}{k:Nat}
end
section
variable{X:Cx}
end
section
variable{X:Cx}{i v:Expr}{k:Nat}
theorem lJ:Wr (PE X (.Dict [] [] pos) AL):=⟨ZN⟩
theorem fC(hr:aD k X.A)(ho:Wr (PE X o td))(hi:Wr (PE X i ty))(hs:Dt i:=by intro _ _; rfl):Wr (PE X (.Subscript o i pos)<|DZ X.K td ty):=⟨W2 (ui hr) ho.run hi.run hs⟩
theorem mO(hr:aD k X.A)(ho:Wr (PE X o td))(hi:Wr (PE X i ty))(hv:Wr (PE X v tv))(hs:swapsWith v (some<|.Subscript o i pos') pos.line X.env=pure false:=by rfl):
  Wr (PS X (.Assign [.Subscript o i pos'] v pos)<|DY X.K td ty tv):=⟨W1 (ui hr) ho.run hi.run hv.run hs⟩
end
end L2
namespace L2
open PySem PySem.W PyProof.Rows
section
def dh(lt:Nat->Nat->Bool)(n:Nat):KasT α->(α->Prop)->Prop
 | .ret a,Q=>Q a
 | .ask i j k,Q=>i < n/\j < n/\dh lt n (k<|lt i j) Q
theorem dh.bind{lt:Nat->Nat->Bool}{f:α->KasT β}{Q:β->Prop}:∀ {t:KasT α},dh lt n t (λa=>dh lt n (f a) Q)->dh lt n (t.bind f) Q
 | .ret _,h=>h
 | .ask _ _ _,⟨h1,h2,h3⟩=>⟨h1,h2,dh.bind h3⟩
theorem dh.wp{lt:Nat->Nat->Bool}{Q:α->Prop}{Q':α->Qd->Prop}(hc:∀ i j (C:Bool->Qd->Prop),i < n->j < n->C (lt i j) s->cmp i j C s)(hQ:∀ a,Q a->Q' a s):
  ∀ {t:KasT α},dh lt n t Q->t.kasWp cmp Q' s
 | .ret _,h=>hQ _ h
 | .ask i j k,⟨h1,h2,h3⟩=>hc i j _ h1 h2<|dh.wp hc hQ h3
end
section
variable{rk:Nat->Int}
def KR(rk:Nat->Int)(p:Array Nat)(i:Nat):Int:=rk (p.getD i 0)
def iJ(rk:Nat->Int)(i j:Nat):Bool:=decide (rk i < rk j)
def Pm(n:Nat)(p:Array Nat):Prop:=p.Perm (List.range n).toArray
theorem Pm.size(h:Pm n p):p.size=n:=by
 have:=h.size_eq;simpa using this
theorem Pm.lt(h:Pm n p)(hi:i < n):p.getD i 0 < n:=by
 have hs:=h.size;have fH:i < p.size:=by omega
 have e:p.getD i 0=p[i]:=by simp[Array.getD,fH]
 rw[e];have m:p[i]∈(List.range n).toArray:=(h.mem_iff).mp (Array.getElem_mem fH);simpa using m
theorem wV{q:Array Nat}(h:p[i]?=q[j]?):KR rk p i=KR rk q j:=by
 have e:∀ (x:Array Nat) (k:Nat),x.getD k 0=(x[k]?).getD 0:=λx k=>by simp
 unfold KR;rw[e,e,h]
theorem AH(hj:j<=p.size)(k:Nat):KR rk (kas_rev p i j) k=if i<=k/\k < j then KR rk p (i+j - 1 - k)else KR rk p k:=by
 have e:=getElem?_mirror_all (xs:=p) (i:=i) hj k;unfold kas_rev
 by_cases h:i<=k/\k < j
 .rw[if_pos h]at e ⊢
  exact wV e
 .rw[if_neg h]at e ⊢
  exact wV e
theorem Ng{src d:Nat}(hs:src < p.size)(hd:d<=src)(k:Nat):KR rk (bubble p src d) k=if k=src - d then KR rk p src else if src - d < k/\k<=src then KR rk p (k - 1)else KR rk p k:=by
 have e:=getElem?_bubble hs d hd k
 by_cases h1:k=src - d
 .rw[if_pos h1]at e ⊢; exact wV e
 .rw[if_neg h1]at e ⊢
  by_cases h2:src - d < k/\k<=src
  .rw[if_pos h2]at e ⊢; exact wV e
  .rw[if_neg h2]at e ⊢; exact wV e
theorem Pm.rev(h:Pm n p)(i j:Nat):Pm n (kas_rev p i j):=(mirror_perm p i j _).trans h
theorem Pm.bubble(h:Pm n p)(i d:Nat):Pm n (PyProof.Rows.bubble p i d):=(bubble_perm p i d).trans h
def Up(rk:Nat->Int)(p:Array Nat)(m:Nat):Prop:=∀ i j,i<=j->j < m->KR rk p i<=KR rk p j
def Dn(rk:Nat->Int)(p:Array Nat)(m:Nat):Prop:=∀ i j,i<=j->j < m->KR rk p j<=KR rk p i
theorem Up.more(h:Up rk p m)(h1:1<=m)(hm:KR rk p (m - 1)<=KR rk p m):Up rk p (m+1):=λi j ff hj=>by
 by_cases e:j=m
 .subst e
  by_cases e2:i=j
  .subst e2; exact Ò _
  .exact Int.le_trans (h i (j - 1) (by omega) (by omega)) hm
 .exact h i j ff (by omega)
theorem Dn.more(h:Dn rk p m)(h1:1<=m)(hm:KR rk p m<=KR rk p (m - 1)):Dn rk p (m+1):=λi j ff hj=>by
 by_cases e:j=m
 .subst e
  by_cases e2:i=j
  .subst e2; exact Ò _
  .exact Int.le_trans hm (h i (j - 1) (by omega) (by omega))
 .exact h i j ff (by omega)
theorem xP(c:rk i < rk j):iJ rk i j=true:=decide_eq_true c
theorem xQ(c:¬rk i < rk j):iJ rk i j=false:=decide_eq_false c
theorem MK(hp:Pm n p){Q:Nat->Prop}:∀ (f m:Nat),1<=m->m+f<=n->Up rk p m->(∀ m',m<=m'->m'<=m+f->Up rk p m'->(m' < m+f->KR rk p m' < KR rk p (m' - 1))->Q m')->dh (iJ rk) n (kas_asc p f m) Q:=by
 intro f
 induction f with
 | zero=>exact λm _ _ hu h=>h m (qe _) (qe _) hu λz=>absurd z<|Ç _
 | succ f ih=>
  intro m h1 hf hu h;refine⟨hp.lt (by omega),hp.lt (by omega),?_⟩
  by_cases c:rk (p.getD m 0) < rk (p.getD (m - 1) 0)
  .rw[xP c]
   dsimp only;rw[if_pos rfl];exact h m (qe _) (by omega) hu λ_=>c
  .rw[xQ c]
   dsimp only;rw[if_neg qf];exact ih (m+1) (by omega) (by omega) (hu.more h1<|Int.not_lt.mp c) λm' a b c2 d=>h m' (by omega) (by omega) c2 λz=>d (by omega)
def yF(rk:Nat->Int)(p:Array Nat)(m q:Nat):Prop:=q+1<=m/\∀ i,m - (q+1)<=i->i < m->KR rk p i=KR rk p (m - 1)
theorem Jh(h:1<=m):yF rk p m 0:=⟨h,λi a b=>by
 have:i=m - 1:=by omega
 rw[this]⟩
theorem LC{q:Nat}(hm:m<=p.size)(h:yF rk p m q)(k:Nat):KR rk (kas_rev p (m - (q+1)) m) k=KR rk p k:=by
 rw[AH hm];split
 .rw[h.2 _ (by omega) (by have:=h.1; omega),h.2 k (by omega) (by omega)]
 .rfl
theorem Dn.congr{p':Array Nat}(h:Dn rk p m)(e:∀ k,KR rk p' k=KR rk p k):Dn rk p' m:=λi j ff hj=>by
 rw[e,e];exact h i j ff hj
theorem ZK{Q:Array Nat×Nat×Nat->Prop}:∀ (f:Nat) (p:Array Nat) (m q:Nat),Pm n p->1<=m->m+f<=n->Dn rk p m->yF rk p m q->
  (∀ p' m' q',Pm n p'->1<=m'->m'<=m+f->Dn rk p' m'->yF rk p' m' q'->Q (p',m',q'))->dh (iJ rk) n (kas_desc f p m q) Q:=by
 intro f
 induction f with
 | zero=>exact λp m q hp h1 _ hd he h=>h p m q hp h1 (qe _) hd he
 | succ f ih=>
  intro p m q hp h1 hf hd he h;have hs:=hp.size;refine⟨hp.lt (by omega),hp.lt (by omega),?_⟩
  by_cases c:rk (p.getD m 0) < rk (p.getD (m - 1) 0)
  .rw[xP c]
   dsimp only;rw[if_pos rfl];have hd2:Dn rk p (m+1):=hd.more h1 (ê c);have one:∀ x:Array Nat,yF rk x (m+1) 0:=λx=>Jh (by omega)
   by_cases hq:q > 0
   .rw[if_pos hq]
    have e:=LC (by omega) he;exact ih _ (m+1) 0 (hp.rev _ _) (by omega) (by omega) (hd2.congr e) (one _) λp' m' q' a b c d e=>h p' m' q' a b (by omega) d e
   .rw[if_neg hq]
    exact ih p (m+1) 0 hp (by omega) (by omega) hd2 (one _) λp' m' q' a b c d e=>h p' m' q' a b (by omega) d e
  .rw[xQ c]
   dsimp only;rw[if_neg qf];refine⟨hp.lt (by omega),hp.lt (by omega),?_⟩
   by_cases c2:rk (p.getD (m - 1) 0) < rk (p.getD m 0)
   .rw[xP c2]
    dsimp only;rw[if_pos rfl];exact h p m q hp h1 (by omega) hd he
   .rw[xQ c2]
    dsimp only;rw[if_neg qf];have eq:KR rk p m=KR rk p (m - 1):=Int.le_antisymm (Int.not_lt.mp c2) (Int.not_lt.mp c);refine ih p (m+1) (q+1) hp (by omega) (by omega) (hd.more h1<|Int.le_of_eq eq) ⟨by have:=he.1; omega,λi a b=>?_⟩ λp' m' q' a b c d e=>h p' m' q' a b (by omega) d e;rw[show m+1 - 1=m by omega,eq]
    by_cases im:i=m
    .rw[im,eq]
    .exact he.2 i (by omega) (by omega)
def Run(rk:Nat->Int)(n:Nat)(r:Nat×Array Nat):Prop:=Pm n r.2/\r.1<=n/\Up rk r.2 r.1
theorem NW(hp:Pm n p)(h1:1<=m)(hm:m<=n)(hd:Dn rk p m){Q:Nat×Array Nat->Prop}(h:∀ r,Run rk n r->Q r):dh (iJ rk) n (kas_tail3 m n p) Q:=by
 have hs:=hp.size;refine dh.bind<|MK (hp.rev 0 m) (n - m) m h1 (by omega) (λi j ff hj=>?_) λm' a b c _=>h (m',_) ⟨hp.rev 0 m,by show m'<=n; omega,c⟩;rw[AH (by omega),AH (by omega),if_pos ⟨by omega,by omega⟩,if_pos ⟨by omega,hj⟩];exact hd _ _ (by omega) (by omega)
theorem Oe(hp:Pm n p)(h1:1<=m)(hm:m+1<=n)(hd:Dn rk p (m+1)){Q:Nat×Array Nat->Prop}(h:∀ r,Run rk n r->Q r):dh (iJ rk) n (kas_descPart m n p) Q:=by
 refine dh.bind<|ZK (n - (m+1)) p (m+1) 0 hp (by omega) (by omega) hd (Jh (by omega)) λp' m' q' xX a b d e=>?_;have hs:=xX.size;show dh (iJ rk) n (if q' > 0 then _ else _) Q;split
 .exact NW (xX.rev _ _) a (by omega) (d.congr<|LC (by omega) e) h
 .exact NW xX a (by omega) d h
theorem zl3(hp:Pm n p)(h1:1<=n){Q:Nat×Array Nat->Prop}(h:∀ r,Run rk n r->Q r):dh (iJ rk) n (kas_count n p) Q:=by
 have hs:=hp.size;refine dh.bind<|MK hp (n - 1) 1 (qe _) (by omega) (λi j ff hj=>by
  have:i=j:=by omega
  subst this; exact Ò _) λm a b u l=>?_
 by_cases e:m=n
 .rw[if_pos (by simpa using e)]
  exact h _ ⟨hp,by show m<=n; omega,u⟩
 rw[if_neg (by simpa using e)];have l:=l (by omega)
 by_cases m1:m > 1
 .rw[if_pos m1]
  refine⟨hp.lt (by omega),hp.lt (by omega),?_⟩
  by_cases c:rk (p.getD 0 0) < rk (p.getD (m - 1) 0)
  .rw[xP c]
   dsimp only;rw[if_pos rfl];exact h _ ⟨hp,by show m<=n; omega,u⟩
  .rw[xQ c]
   dsimp only;rw[if_neg qf];have all:∀ i,i < m->KR rk p i=KR rk p 0:=λi hi=>Int.le_antisymm (Int.le_trans (u i (m - 1) (by omega) (by omega))<|Int.not_lt.mp c)<|u 0 i (by omega) hi;have ek:∀ k,KR rk (kas_rev p 0 m) k=KR rk p k:=λk=>by
    rw[AH (by omega)];split
    .rw[all _ (by omega),all k (by omega)]
    .rfl
   refine Oe (hp.rev 0 m) (by omega) (by omega) (Dn.congr (p:=p) (λi j ff hj=>?_) ek) h
   by_cases jm:j=m
   .subst jm
    by_cases ij:i=j
    .subst ij; exact Ò _
    .rw[all i (by omega),<-all (j - 1) (by omega)]
     exact ê l
   .rw[all i (by omega),all j (by omega)]
    exact Ò _
 .rw[if_neg m1]
  have:m=1:=by omega
  subst this;refine Oe hp (by omega) (by omega) (λi j ff hj=>?_) h
  by_cases ij:i=j
  .subst ij; exact Ò _
  .have e1:i=0:=by omega
   have e2:j=1:=by omega
   subst e1; subst e2;exact ê l
theorem zl4{k:Nat}(hp:Pm n p)(hk:k < n){Q:Nat->Prop}(h:∀ l,l<=k->(∀ i,i < l->KR rk p i<=KR rk p k)->(∀ i,l<=i->i < k->KR rk p k<=KR rk p i)->Q l)(hu:Up rk p k):
  ∀ (f l r:Nat),l<=r->r<=k->r - l<=f->(∀ i,i < l->KR rk p i<=KR rk p k)->(∀ i,r<=i->i < k->KR rk p k<=KR rk p i)->dh (iJ rk) n (kas_place p k f l r) Q:=by
 intro f
 induction f with
 | zero=>exact λl r a b c d e=>h l (by omega) d λi hi=>e i (by omega)
 | succ f ih=>
  intro l r a b c d e;unfold kas_place
  by_cases g:l>=r
  .rw[if_pos g]
   exact h l (by omega) d λi hi=>e i (by omega)
  .rw[if_neg g]
   refine⟨hp.lt hk,hp.lt (by omega),?_⟩
   by_cases x:rk (p.getD k 0) < rk (p.getD ((l+r) / 2) 0)
   .rw[xP x]
    dsimp only;rw[if_pos rfl];exact ih l ((l+r) / 2) (by omega) (by omega) (by omega) d λi hi hik=>Int.le_trans (ê x)<|hu _ i hi hik
   .rw[xQ x]
    dsimp only;rw[if_neg qf];exact ih ((l+r) / 2+1) r (by omega) (by omega) (by omega) (λi hi=>Int.le_trans (hu i ((l+r) / 2) (by omega) (by omega))<|Int.not_lt.mp x) e
theorem MH{Q:Array Nat->Prop}(h:∀ p,Pm n p->Up rk p n->Q p):∀ (f:Nat) (p:Array Nat) (k:Nat),Pm n p->1<=k->k+f=n->Up rk p k->dh (iJ rk) n (kas_bin f p k) Q:=by
 intro f
 induction f with
 | zero=>exact λp k hp _ e hu=>h p hp (by rw[<-e]; exact hu)
 | succ f ih=>
  intro p k hp h1 e hu;have hs:=hp.size;refine dh.bind (zl4 hp (by omega) (λl hl a b=>?_) hu k 0 k (by omega) (qe _) (by omega) (λi hi=>absurd hi<|Nat.not_lt_zero _) λi a b=>by omega);refine ih _ (k+1) (hp.bubble _ _) (by omega) (by omega) λi j ff hj=>?_;rw[Ng (by omega) (by omega),Ng (by omega) (by omega),show k - (k - l)=l by omega]
  by_cases il:i=l
  .rw[if_pos il]
   by_cases jl:j=l
   .rw[if_pos jl]; exact Ò _
   .rw[if_neg jl]
    split
    .exact b _ (by omega) (by omega)
    .omega
  .rw[if_neg il]
   by_cases jl:j=l
   .rw[if_pos jl]
    split
    .omega
    .exact a i (by omega)
   .rw[if_neg jl]
    split<;>split
    .exact hu _ _ (by omega) (by omega)
    .omega
    .exact hu _ _ (by omega) (by omega)
    .exact hu _ _ (by omega) (by omega)
theorem ZJ(h2:1<=n){Q:Array Nat->Prop}(h:∀ p,Pm n p->Up rk p n->Q p):dh (iJ rk) n (kas_sort n) Q:=by
 refine dh.bind<|zl3 (Array.Perm.refl _) h2 λr hZ=>?_;have(hp,hr,hu):=hZ;split
 .rename_i c
  by_cases z:r.1=0
  .rw[z]
   exact MH h (n - max 0 1) r.2 (max 0 1) hp (by decide) (by have:max 0 1=1:=rfl; omega) λi j ff hj=>by
    have:max 0 1=1:=rfl;have:i=j:=by omega
    subst this; exact Ò _
  .have e:max r.1 1=r.1:=by omega
   rw[e];exact MH h (n - r.1) r.2 r.1 hp (by omega) (by omega) hu
 .have:r.1=n:=by omega
  exact h _ hp (by rw[<-this]; exact hu)
end
end L2
namespace L2
open PySem PySem.Spec PyProof.Rows
open PySem.AutoSeq1 (wpAny_loadPart')
open MeetsSeq MeetsSeq2 MeetsSeq3 SeqRoads2
def aV:Qa Int->Qa Int->Bool
 | [],[]=>false
 | [],_::_=>true
 | _::_,[]=>false
 | a::as,b::bs=>if a=b then aV as bs else decide (a < b)
theorem ZI{a:Int}{t u:Tok}(h:Q (.bool<|decide<|a < b) s):wpAny (model prog w) A (richCompare .Lt (.int a t)<|.int b u) Q E s:=wpAny_lt_int h
theorem zl5(l b:Qg)(items aH:Array Qc)(n n2:Nat)(dd kE:Qb Qg)(sl jX:Array (Qb Qc))(xs ys:Qa Int):
  Meets (Builtin.«tuple.__lt__» ⟨[.ref l,.ref b],[]⟩)
   (λA R s=>s.heap.get? l=some {cls:=.type "tuple",dict:=dd,data:=.seq items n,slots:=sl}/\s.heap.get? b=some {cls:=.type "tuple",dict:=kE,data:=.seq aH n2,slots:=jX}/\
    IntsAre items.toList xs/\IntsAre aH.toList ys/\R (.ok<|.ret<|.bool<|aV xs ys) s):=
 .of_wp λprog w A R s h=>by
  have(hp,g,d,tk,os):=s;have(hl,hb,i1,i2,h):=h;have f2:=AutoSeq1.sub_tuple_tuple
  wp_walk using wpAny_loadPart' hl,wpAny_loadPart' hb,wpAny_forIn_list _ (λrest b s'=>b.1=none/\s'=⟨hp,g,d,tk,os⟩/\∃ (vs us:Qa Qc) (as bs:Qa Int),rest=vs.zip us/\IntsAre vs as/\IntsAre us bs/\(items.size < aH.size↔as.length < bs.length)/\
   R (.ok<|.ret<|.bool<|aV as bs) ⟨hp,g,d,tk,os⟩) _
  case turn=>
   rintro⟨y,x⟩ rest b s' ⟨dD,rfl,vs,us,as,bs,hz,j1,j2,hn,hR⟩;cases j1 with
   | nil=>cases hz
   | @cons a t vs as j1=>
    cases j2 with
    | nil=>cases hz
    | @cons c u us bs j2=>
     rw[List.zip_cons_cons]at hz;injection hz with Hg ko;injection Hg with e1 e2;subst e1 e2;refine qa<|wpAny_eqBool_int ?_
     by_cases e:a=c
     .subst e
      rw[beq_self_eq_true]
      wp_walk
      refine⟨rfl,rfl,vs,us,as,bs,ko,j1,j2,?_,?_⟩
      .rw[hn,qv,qv]
       omega
      .simpa [aV] using hR
     .rw[beq_eq_false_iff_ne.mpr e]
      wp_walk using ZI
      exact⟨_,rfl,by simpa [aV,e] using hR⟩
  case fin=>
   rintro⟨b1,b2⟩ s' ⟨dD,rfl,vs,us,as,bs,hz,j1,j2,hn,hR⟩;simp only at dD;subst dD
   wp_walk
   refine⟨_,rfl,?_⟩;have e:decide (items.size < aH.size)=aV as bs:=by
    cases j1 with
    | nil=>
     cases j2 with
     | nil=>exact decide_eq_false λz=>absurd (hn.mp z)<|Ç _
     | cons c u j2=>exact decide_eq_true<|hn.mpr<|Nat.zero_lt_succ _
    | cons a t j1=>
     cases j2 with
     | nil=>exact decide_eq_false λz=>absurd (hn.mp z)<|Nat.not_lt_zero _
     | cons c u j2=>cases hz
   show R (Except.ok<|Flow.ret<|Value.bool<|decide<|items.size < aH.size) _;rw[e];exact hR
  case h=>
   refine⟨rfl,rfl,items.toList,aH.toList,xs,ys,rfl,i1,i2,?_,h⟩;rw[<-IntsAre.length i1,<-IntsAre.length i2,Array.length_toList,Array.length_toList]
theorem NV{l b:Qg}{items:Array Qc}{xs ys:Qa Int}(hl:s.heap.IsTuple l items)(hb:s.heap.IsTuple b aH)(i1:IntsAre items.toList xs)(i2:IntsAre aH.toList ys)(hu:A.units < cLine)
  (h:Q (.bool<|aV xs ys) s):wpAny (model prog w) A (compareOp .Lt (.ref l)<|.ref b) Q E s:=by
 obtain⟨⟨cls,dd,data,sl⟩,ho,hc,n,hd⟩:=id hl;obtain⟨⟨yy,kE,data2,jX⟩,lW,p6,n2,hd2⟩:=id hb;simp only at hc hd p6 hd2;subst hc hd p6 hd2;exact richCompare_meets_room (op:=.Lt) ⟨_,ho,rfl⟩ ⟨_,lW,rfl⟩ F.slot_tuple_lt F.entry_tuple_lt (F.args_tuple_lt_2 _ _) (zl5 l b items aH n n2 dd kE sl jX xs ys) ⟨ho,lW,i1,i2,⟨(λx=>nomatch x),h⟩⟩ hu
end L2
namespace L2
open PySem PySem.Spec PySem.W PyProof.Rows
section
def zAc(prog:Qe)(w:Qh)(A:Qf)(rk:Nat->Int)(vs:Qa Qc)(κ:SortKind)(s:Qd):Prop :=
 ∀ i j (C:Bool->Qd->Prop),i < vs.length->j < vs.length->C (iJ rk i j) s->wpAny (model prog w) A (keyLt' κ (vs.getD i Value.none)<|vs.getD j Value.none) C (λ_ _=>False) s
theorem Ot{rk:Nat->Int}{vs:Qa Qc}{P:PySem.Fin->Qd->Prop}(ho:s.heap.get? a=some (seqObj "list" vs.toArray n))(HQ:vs.length < 64)
  (hk:2<=vs.length->∀ h':Heap,(∀ b o,b≠a->s.heap.get? b=some o->h'.get? b=some o)->∀ Q:SortKind->Qd->Prop,(∀ κ,zAc prog w A rk vs κ {s with heap:=h'}->Q κ {s with heap:=h'})->wpAny (model prog w) A (keyKind' vs.toArray) Q (λ_ _=>False) {s with heap:=h'})
  (h:∀ p:Array Nat,Pm vs.length p->Up rk p vs.length->P (.done<|.ret .none) {s with heap:=sortedHeap s.heap a vs (List.toArray<|p.toList.map λi=>vs.getD i Value.none)}):
  wpAny (model prog w) A (Builtin.«list.sort» ⟨[.ref a],[]⟩) P E s:=by
 have line:(64:Nat)<=sizeLine:=by decide
 have ha:a < s.heap.objs.size:=qi ho;obtain⟨e1,lX⟩:∃ e1,(s.heap.update a<|Obj.mapSeq λ_=>#[]).get? a=some (seqObj "list" #[] e1):=⟨_,get?_update_seq ho λ_=>#[]⟩;have old:∀ b o,(s.heap.update a<|Obj.mapSeq λ_=>#[]).get? b=some o->(((s.heap.update a<|Obj.mapSeq λ_=>#[]).push<|seqObj "tuple" vs.toArray 0).push<|seqObj "list" #[] 0).get? b=some o :=
  λb o e=>qd _<|qd _ e
 have Cj:=old _ _ lX;have keep:∀ b o,b≠a->s.heap.get? b=some o->(((s.heap.update a<|Obj.mapSeq λ_=>#[]).push<|seqObj "tuple" vs.toArray 0).push<|seqObj "list" #[] 0).get? b=some o :=
  λb o ne e=>old b o (by rw[Heap.get?_update_ne _ _ _ _ ne]; exact e)
 rw[list_sort_plain];refine qa<|listItems_at ho rfl<|qa<|listUpdate_at ho rfl (qa<|seqEpoch_at lX rfl<|qa<|wpAny_newTuple (qa<|wpAny_newList (wpAny_holding ?_) ?_) ?_) ?_ ?_
 case refine_2=>exact Ð _
 case refine_3=>show vs.length<=_; omega
 case refine_4=>show vs.toArray.size<=_; rw[List.size_toArray]; omega
 case refine_5=>exact Ð _
 show wpAny (model prog w) A _ P E {s with heap:=((s.heap.update a<|Obj.mapSeq λ_=>#[]).push<|seqObj "tuple" vs.toArray 0).push (seqObj "list" #[] 0)};dsimp only;generalize hH:((s.heap.update a<|Obj.mapSeq λ_=>#[]).push<|seqObj "tuple" vs.toArray 0).push (seqObj "list" #[] 0)=h6 at *;have hsz:vs.toArray.size=vs.length:=by simp
 have fin:∀ p:Array Nat,Pm vs.length p->Up rk p vs.length->P (.done<|.ret .none) {s with heap:=h6.update a (Obj.mapSeq λ_=>List.toArray<|p.toList.map λi=>vs.getD i Value.none)}:=λp a1 a2=>by
  have:=h p a1 a2;unfold sortedHeap at this;rw[hH]at this;exact this
 by_cases h2:vs.toArray.size < 2
 .rw[if_pos h2,if_pos h2]
  refine qa<|qb ?_;rw[StateT.run_pure];refine qa<|qb ?_;dsimp only;have hz:(vs.toArray.zip vs.toArray).size=vs.length:=by simp
  have HH:arrOf (SortSt.mk' general' (vs.toArray.zip vs.toArray) #[] 7 none)=(List.range vs.length).toArray.map (kas_item<|vs.toArray.zip vs.toArray):=by
   have:=kas_range (vs.toArray.zip vs.toArray);rw[hz]at this;exact this.symm
  have e:=kat_snds (ks:=vs) (vs:=vs) rfl HH;rw[e];refine qa<|seqEpoch_at Cj rfl<|qa<|listUpdate_at Cj rfl ?_ ?_ ?_
  .show wpAny _ _ (if(e1 != e1)=true then _ else _) _ _ _
   rw[bne_self_eq_false,if_neg qf];refine qb<|fin _ (Array.Perm.refl _) λi j ff hj=>?_;have:i=j:=by omega
   subst this;exact Ò _
  .exact Ð _
  .rw[List.size_toArray,List.length_map]
   simp;omega
 .rw[if_neg h2,if_neg h2]
  have gz:2<=vs.length:=by omega
  refine qa<|wpAny_mono (hk gz h6 keep _ λκ ask=>?_) (λ_ _ x=>x) λ_ _ x=>x.elim;refine qa<|wpAny_mono (kat_run (ks:=vs) (Q:=λdz s'=>s'={s with heap:=h6}/\∃ p:Array Nat,Pm vs.length p/\Up rk p vs.length/\arrOf dz=p.map (kas_item<|vs.toArray.zip vs.toArray)/\failedOf dz=none) (G:=λp s'=>s'={s with heap:=h6}/\Pm vs.length p/\Up rk p vs.length) rfl gz HQ
   (λp dz s' _ a2 a3 a4=>⟨a4.1,p,a4.2.1,a4.2.2,a2,a3⟩) (dh.wp (lt:=iJ rk) (n:=vs.length) ask (λp hp=>⟨rfl,hp⟩)<|ZJ (by omega) λp a1 a2=>⟨a1,a2⟩)) ?_ λ_ _ x=>x
  rintro⟨⟨⟩,dz⟩ s' ⟨rfl,p,a1,a2,HH,hf⟩;dsimp only;have e:=kat_snds (ks:=vs) (vs:=vs) rfl HH;rw[e,hf];refine qa<|seqEpoch_at Cj rfl<|qa<|listUpdate_at Cj rfl ?_ ?_ ?_
  .show wpAny _ _ (if(e1 != e1)=true then _ else _) _ _ _
   rw[bne_self_eq_false,if_neg qf];exact qb<|fin p a1 a2
  .exact Ð _
  .rw[List.size_toArray,List.length_map,Array.length_toList,a1.size]
   omega
end
theorem jR:∀ a:Qa Int,aV a a=false
 | []=>rfl
 | a::as=>by unfold aV; rw[if_pos rfl]; exact jR as
theorem jU:∀ {a b c:Qa Int},aV a b=true->aV b c=true->aV a c=true
 | [],[],_,h,_=>by cases h
 | [],_::_,[],_,h=>by cases h
 | [],_::_,_::_,_,_=>rfl
 | _::_,[],_,h,_=>by cases h
 | _::_,_::_,[],_,h=>by cases h
 | a::as,b::bs,c::cs,h1,h2=>by
  unfold aV at h1 h2 ⊢
  by_cases e1:a=b
  .subst e1
   rw[if_pos rfl]at h1
   by_cases e2:a=c
   .rw[if_pos e2]at h2 ⊢
    exact jU h1 h2
   .rw[if_neg e2]at h2 ⊢
    exact h2
  .rw[if_neg e1]at h1
   have l1:=of_decide_eq_true h1
   by_cases e2:b=c
   .subst e2
    rw[if_neg e1];exact h1
   .rw[if_neg e2]at h2
    have l2:=of_decide_eq_true h2;rw[if_neg (by omega)];exact decide_eq_true (by omega)
theorem mT:∀ {a b:Qa Int},a≠b->aV a b=true\/aV b a=true
 | [],[],h=>absurd rfl h
 | [],_::_,_=>.inl rfl
 | _::_,[],_=>.inr rfl
 | a::as,b::bs,h=>by
  unfold aV
  by_cases e:a=b
  .subst e
   rw[if_pos rfl,if_pos rfl];exact mT λz=>h (by rw[z])
  .rw[if_neg e,if_neg λz=>e z.symm]
   rcases(by omega:a < b\/b < a)with z|z
   .exact .inl (decide_eq_true z)
   .exact .inr (decide_eq_true z)
theorem MF{p q:α->Bool}:∀ {l:Qa α} {x:α},(∀ y∈l,p y=true->q y=true)->x∈l->q x=true->p x=false->l.countP p < l.countP q
 | y::l,x,h,m,hq,hp=>by
  rw[List.countP_cons,List.countP_cons];have le:l.countP p<=l.countP q:=List.countP_mono_left λz hz=>h z<|qo _ hz;rcases qw.mp m with e|m
  .subst e
   rw[hp,hq];simp;omega
  .have:=MF (λz hz=>h z<|qo _ hz) m hq hp
   by_cases c:p y=true
   .rw[c,h y qp c]
    simp;omega
   .rw[if_neg c]
    split<;>omega
def l7(ps:Qa (Qa Int))(i:Nat):Int:=((List.range ps.length).countP λk=>aV (ps.getD k []) (ps.getD i []):Nat)
theorem FH{ps:Qa (Qa Int)}(hi:i < ps.length)(h:aV (ps.getD i []) (ps.getD j [])=true):l7 ps i < l7 ps j:=by
 unfold l7;have:=MF (p:=λk=>aV (ps.getD k [])<|ps.getD i []) (q:=λk=>aV (ps.getD k [])<|ps.getD j []) (l:=List.range ps.length) (x:=i) (λy _ hy=>jU hy h) (ã.mpr hi) h (jR _);omega
theorem F3{ps:Qa (Qa Int)}(h:ps.Nodup)(hi:i < ps.length)(hj:j < ps.length)(ne:i≠j):ps.getD i []≠ps.getD j []:=by
 have e:∀ k (hk:k < ps.length),ps.getD k []=ps[k]:=λk hk=>by simp[hk]
 rw[e i hi,e j hj];intro z;rcases Nat.lt_or_gt_of_ne ne with l|l
 .exact ð.mp h i j hi hj l z
 .exact ð.mp h j i hj hi l z.symm
theorem LB{ps:Qa (Qa Int)}(h:ps.Nodup)(hi:i < ps.length)(hj:j < ps.length):iJ (l7 ps) i j=aV (ps.getD i []) (ps.getD j []):=by
 cases c:aV (ps.getD i []) (ps.getD j [])with
 | true=>exact decide_eq_true<|FH hi c
 | false=>
  refine decide_eq_false λz=>?_
  by_cases e:i=j
  .subst e; omega
  .rcases mT (F3 h hi hj e)with y|y
   .rw[c]at y; cases y
   .have:=FH hj y
    omega
theorem Pm.list(h:Pm n p):p.toList.Perm (List.range n):=by
 have:=h.toList;simpa using this
theorem KH{ps:Qa (Qa Int)}(h:ps.Nodup)(hp:Pm ps.length p)(hu:Up (l7 ps) p ps.length):(p.toList.map λi=>ps.getD i []).Pairwise λa b=>aV a b=true:=by
 have hs:=hp.size;have hl:=hp.list;have nd:p.toList.Nodup:=hl.nodup_iff.mpr List.nodup_range;refine ï.mpr<|ð.mpr λi j hi hj ff=>?_;have e:∀ k (hk:k < p.toList.length),KR (l7 ps) p k=l7 ps p.toList[k]:=λk hk=>by
  unfold KR;have eQ:k < p.size:=by simpa using hk
  congr 1;simp[Array.getD,eQ]
 have m:∀ k (hk:k < p.toList.length),p.toList[k] < ps.length:=λk hk=>ã.mp<|hl.mem_iff.mp<|ó hk;have le:=hu i j (by omega) (by rw[Array.length_toList]at hj; omega);rw[e i hi,e j hj]at le;have ne:p.toList[i]≠p.toList[j]:=ð.mp nd i j hi hj ff;rcases mT (F3 h (m i hi) (m j hj) ne)with z|z
 .exact z
 .have:=FH (m j hj) z
  omega
def oC(h:Heap)(v:Qc)(ns:Qa Int):Prop:=∃ (a b:Qg) (u:Qc) (ae:Array Qc),v=.ref a/\IsTup h a #[.ref b,u]/\IsTup h b ae/\IntsAre ae.toList ns
theorem FG{ae:Array Qc}(t:IsTup h a ae)(k:∀ o,h.get? a=some o->h'.get? a=some o):IsTup h' a ae:=by
 have(o,e,r):=t;exact⟨o,k o e,r⟩
theorem xa:∀ {vs:Qa Qc} {ns:Qa Int},IntsAre vs ns->ItemsAre (zA prog w) (ns.map λn=>(Sum.inl n:Key)) vs
 | _,_,.nil=>.nil
 | _,_,.cons n t h=>.cons (show Value.isInt n (.int n t)=true by simp[Value.isInt])<|xa h
theorem wJ{ms:Qa Int}:(ns.map λn=>(Sum.inl n:Key))=(ms.map λn=>(Sum.inl n:Key))↔ns=ms:=by
 constructor
 .intro h
  have:=congrArg (List.map λk:Key=>match k with | .inl n=>n | .inr _=>0) h;rw[List.map_map,List.map_map]at this;simpa [Function.comp_def] using this
 .rintro rfl; rfl
section
theorem Td{v v':Qc}{j6:Qa Int}{C:Bool->Qd->Prop}(hu:A.units < cLine)(p:oC s.heap v ns)(p':oC s.heap v' j6)(ne:v=v'\/ns≠j6)(h:C (aV ns j6) s):wpAny (model prog w) A (keyLt' (tuples' false) v v') C (λ_ _=>False) s:=by
 obtain⟨a,b,u,ae,rfl,⟨oa,ea,ca,na,da⟩,tb,ib⟩:=p;obtain⟨a',b',u',cV,rfl,⟨oa',eU,ca',B6,yx⟩,O8,P9⟩:=p';refine kat_lt ea da eU yx ?_;show KatLex prog w A false _ C [(.ref b,.ref b'),(u,u')] 0 s;have(ob,eb,cb,nb,db):=id tb;have(GQ,vB,Il,GX,Ij):=id O8;refine kat_cons<|wpAny_eqBool_tuple (knd:=zA prog w) hu ⟨ob,ae,nb,eb,cb,db,xa ib⟩ ⟨GQ,cV,GX,vB,Il,Ij,xa P9⟩ ?_
 by_cases e:ns=j6
 .rw[decide_eq_true<|wJ.mpr e]
  rcases ne with z|z
  .cases z
   rw[ea]at eU;cases eU;rw[da]at yx;injection yx with d1 d2;have d3:=congrArg Array.toList d1;have e1:Value.ref b=.ref b'/\u=u':=by simpa using d3
   have(_,rfl):=e1;refine kat_yes<|kat_cons<|SeqAt.EqAt.same u prog w _ _<|kat_yes<|kat_nil ?_;subst e;rw[jR]at h;exact h
  .exact absurd e z
 .rw[decide_eq_false λz=>e<|wJ.mp z]
  refine kat_no<|kat_one _ _<|NV tb O8 ib P9 hu ?_;exact h
end
theorem oC.kept{v:Qc}(p:oC h v ns)(k:∀ b o,h.get? b=some o->h'.get? b=some o):oC h' v ns:=by
 have(a,b,u,ae,e,ta,tb,i):=p;exact⟨a,b,u,ae,e,FG ta<|k a,FG tb<|k b,i⟩
theorem Nd:∀ {vs:Qa Qc},(∀ v∈vs,∃ ns,oC h v ns)->∃ fs,KatTups h vs fs/\fs.length=vs.length/\∀ f∈fs,∃ (b:Qg) (ae:Array Qc),f=.ref b/\IsTup h b ae
 | [],_=>⟨[],.nil,rfl,λf hf=>by cases hf⟩
 | v::vs,hv=>by
  have(fs,k,l,q):=Nd (vs:=vs) λx hx=>hv x<|qo _ hx;obtain⟨ns,a,b,u,ae,rfl,⟨o,eo,co,n,dO⟩,tb,_⟩:=hv v qp;refine⟨.ref b::fs,.cons eo co dO rfl k,by rw[qv,qv,l],λf hf=>?_⟩;rcases qw.mp hf with e|hf
  .exact⟨b,ae,e,tb⟩
  .exact q f hf
def WW(K:qc)(H:Hp)(vs:Qa V)(ps:Qa (Qa Int)):Prop:=vs.length=ps.length/\∀ i v,vs[i]?=some v->∃ (a b:Qg) (y:V),v=.ref a/\bg K H a [.ref b,y]/\bg K H b ((ps.getD i []).map V.int)
def KG(K:qc):Qa V->Hp->VK->Prop:=λxs H Q=>∃ (l:Qg) (vs:Qa V) (ps:Qa (Qa Int)),xs=[.ref l]/\bq K H l vs/\vs.length < 64/\WW K H vs ps/\ps.Nodup/\
 ∀ (is:Qa Nat) r,is.Perm (List.range vs.length)->(is.map λi=>ps.getD i []).Pairwise (λa b=>aV a b=true)->H r=none->Q (.ref r) (upd H r<|.lst<|is.map λi=>vs.getD i .aT)
theorem Nb{vs:Qa V}(r:zO vs us):∀ is:Qa Nat,(∀ i∈is,i < vs.length)->zO (is.map λi=>vs.getD i .aT) (is.map λi=>us.getD i Value.none)
 | [],_=>.nil
 | i::is,h=>by
  have hi:=h i qp;have(u,e,ru):=r.get (qm hi);refine .cons ?_<|Nb r is λj hj=>h j<|qo _ hj;show zV (vs.getD i .aT) (us.getD i Value.none);rw[qC,qC,qm hi,e];exact ru
section
variable{X:Cx}
theorem Np(K:qc)(hK:X.K=K){k:Nat}(hr:aD k X.A):du X (.builtin "sorted") (KG K):=by
 subst hK;intro pins s σ H xs us Q I r h;obtain⟨l,vs,ps,rfl,hl,HQ,⟨lp,hp⟩,nd,q⟩:=h;have(u,rfl,ru):=eZ r;cases ru;obtain⟨ae,rv,⟨o,n,eo,co,_,dO⟩,_⟩:=I.list hl;have line:(64:Nat)<=sizeLine:=by decide
 have lv:ae.length=vs.length:=rv.length.symm;have pr:∀ i,i < ae.length->oC s.heap (ae.getD i Value.none) (ps.getD i []):=λi hi=>by
  have fH:i < vs.length:=by omega
  have(a,b,y,ev,ha,hb):=hp i _ (qm fH);have(u,eu,ru):=rv.get (qm fH);rw[ev]at ru;cases ru;have(ia,ra,ta,_):=I.tuple ha;have(u1,u2,rfl,r1,r2):=ra.two;cases r1;have(ib,rb,tb,_):=I.tuple hb;refine⟨a,b,u2,ib.toArray,?_,ta,tb,zlR rb⟩;rw[qC,eu];rfl
 refine Calls.call_function_entry kind_sorted plain_sorted entry_sorted (args_sorted1 _) ?_;unfold Builtin.«sorted»;refine qa (m:=checkCount "sorted" 1 1 _)<|qb ?_;refine qa<|collect_list (vs:=ae) ⟨o,eo,co,n,dO⟩ (qa<|wpAny_newList ?_ ?_) (by omega)
 case refine_2=>omega
 generalize hH:(s.heap.push<|seqObj "list" #[] 0).update s.heap.objs.size (Obj.mapSeq (·++ae.toArray))=h1 at *;have hsz:h1.objs.size=s.heap.objs.size+1:=by rw[<-hH,Heap.size_update,size_push']
 have e8:∀ b o,s.heap.get? b=some o->h1.get? b=some o:=λb o e=>by
  have dC:b < s.heap.objs.size:=qi e;rw[<-hH,Heap.get?_update_ne _ _ _ _<|qk dC,Heap.get?_push_ne _ _ _<|qk dC];exact e
 have I1:Inv X pins σ H {s with heap:=h1,toks:=s.toks}:=I.kept e8;have nI:(h1.push<|seqObj "list" ae.toArray 0).get? h1.objs.size=some (seqObj "list" ae.toArray 0):=qg _ rfl;have hu:X.A.units+64 < cLine:=hr.units;refine qa<|wpAny_holding<|wpAny_call_entry slot_list_sort ⟨_,nI,rfl⟩ entry_list_sort (Ot (rk:=l7 ps) (s:={s with heap:=h1.push (seqObj "list" ae.toArray 0)}) nI (by omega) (λh2 h' kp Q' hQ=>?_) λp a1 a2=>⟨_,rfl,?_⟩)<|args_list_sort _
 .have G7:∀ b o,s.heap.get? b=some o->h'.get? b=some o:=λb o e=>by
   have dC:b < s.heap.objs.size:=qi e;exact kp b o (qk (by rw[hsz]; exact Ă dC))<|qd _<|e8 b o e
  have rW:∀ i,i < ae.length->oC h' (ae.getD i Value.none) (ps.getD i []):=λi hi=>(pr i hi).kept G7;have(fs,kt,lf,tf):=Nd (h:=h') (vs:=ae) λv hv=>by
   have(i,hi,e):=ß hv;have:=rW i hi;rw[show ae.getD i Value.none=v by simp[hi,e]]at this;exact⟨_,this⟩
  refine kat_kind (fs:=fs) (T:=.type "tuple") kt (by omega) (λv hv=>?_) (by decide) ?_
  .have(b,ib,rfl,o,eo,co,_):=tf v hv
   rw[<-co];exact(Looks.ld eo).andThen .now
  .refine hQ _ λi j C hi hj hc=>?_
   rw[LB nd (by omega) (by omega)]at hc;refine Td (by show X.A.units+1+1 < cLine; omega) (rW i hi) (rW j hj) ?_ hc
   by_cases e:i=j
   .exact .inl (by rw[e])
   .exact .inr (F3 nd (by omega) (by omega) e)
 .refine qb ⟨_,rfl,?_⟩
  have(en,ho):=sortedHeap_at (vs:=ae) (out:=List.toArray (p.toList.map λi=>ae.getD i Value.none)) nI;have fresh:H h1.objs.size=none:=I1.az.fresh (qe _);have perm:p.toList.Perm (List.range vs.length):=by
   have:=a1.list;rw[lv]at this;exact this
  have mem:∀ i∈p.toList,i < vs.length:=λi hi=>ã.mp<|perm.mem_iff.mp hi;have lm:p.toList.length=vs.length:=by
   have:=perm.length_eq;simpa using this
  rw[lv,lp]at a1 a2;refine⟨.ref h1.objs.size,_,I1.laid (t':=s.toks) (a:=h1.objs.size) (o:=.lst (p.toList.map λi=>vs.getD i .aT)) (λb o e=>?_) (qe _) ⟨by rw[List.length_map]; omega,p.toList.map λi=>ae.getD i Value.none,en,Nb rv p.toList mem,by simpa using ho⟩,rfl,q p.toList _ perm (KH nd a1 a2) fresh⟩;have hb:b < h1.objs.size:=qi e;rw[sortedHeap_old (qk hb) (by rw[Heap.size_push]; exact Ă hb)];exact qd _ e
end
end L2
namespace L2
open PySem PySem.Spec PyProof.Rows
def eY(h:Heap)(d:Qg)(es:Array DictEntry)(ep:Nat):Prop:=∃ o,h.get? d=some o/\o.ExactDict/\o.data=.dict es ep
theorem eY.typeIs(r:eY s.heap d es ep):s.TypeIs (.ref d) "dict":=by
 have(o,e,x,_):=r;exact⟨o,e,x.1⟩
section
theorem Ft(hd:(d==sysModules)=false)(r:eY s.heap d es ep)
  (q:∀ h':Heap,h'.IsKeyIter s.heap.objs.size d 0 es.size ep->(∀ b o,s.heap.get? b=some o->h'.get? b=some o)->Q (.ref s.heap.objs.size) {s with heap:=h'}):wpAny (model prog w) A (pyIter<|.ref d) Q E s:=by
 have hT:=r.typeIs;have(o,e,_,dat):=r;refine wpAny_pyIter_slot hT F.slot_dict_iter<|wpAny_call_entry F.slot_dict_iter hT F.entry_dict_iter ?_<|F.args_dict_iter_1 _;unfold Builtin.«dict.__iter__»;refine qa ?_;unfold Builtin.Dict.dictSlotNone;refine qa<|wpAny_notOrdered_dict hT<|qb ?_;show wpAny _ _ (Builtin.Dict.showsAll d >>= _) _ _ s;unfold Builtin.Dict.showsAll;rw[hd,if_neg qf];refine qa<|qb<|qa<|wpAny_dictEntries e dat<|qa<|wpAny_dictEpoch e dat<|qa<|qB<|qb ⟨_,rfl, "dict_keyiterator",_,⟨_,qg _ rfl,rfl⟩,Ý.lookup,?_⟩;exact q _ ⟨_,qg _ rfl,rfl,by simp[rawInt]⟩ λb o z=>qd _ z
theorem Bx{Q:Qb Qc->Qd->Prop}(k:s.heap.IsKeyIter it d i es.size ep)(r:eY s.heap d es ep){x:DictEntry}(hx:es[i]?=some x)
  (q:∀ h':Heap,h'.IsKeyIter it d (i+1) es.size ep->Heap.SameBut it s.heap h'->Q (some x.key) {s with heap:=h'}):wpAny (model prog w) A (pyNext<|.ref it) Q E s:=by
 have kT:=k.typeIs;have(oi,ei,ci,fi):=id k;have(o,e,_,dat):=r;unfold pyNext;refine qa<|wpAny_attempt (wpAny_callSpecial?_slot (name:=Str.ofString "__next__") kT Ý
  (wpAny_call_entry Ý kT F.entry_dict_keyiterator_next ?_<|F.args_dict_keyiterator_next_1 _))
 refine qa<|qb<|qa<|qa ?_;refine qa<|wpAny_typeNameOfWhole_keyiter kT<|qb<|qa<|wpAny_fieldsOf ei fi ?_;simp only[show Builtin.Dict_items.ownsTuple "dict_keyiterator"=false by decide,Bool.false_eq_true,if_false];show wpAny _ _ (if(Value.ref d==Value.none)=true then _ else _) _ _ s;rw[if_neg (show ¬((Value.ref d==Value.none)=true) from qf)];refine qa<|qb<|qa<|wpAny_dictEntries e dat ?_;rw[if_neg (by simp)];refine qa<|qb<|qa<|wpAny_dictEpoch e dat ?_;rw[if_neg (by simp)];refine qb ?_;simp only[show ¬((i:Int) < 0) from by omega,if_false,Int.toNat_natCast,hx];refine qa<|qa<|wpAny_typeNameOfWhole_keyiter kT<|qb<|qa<|wpAny_isOneOf_keyiter kT ?_;show wpAny _ _ (setField (.ref it) 1 (rawInt<|(i:Int)+1) >>= _) _ _ s;refine qa<|wpAny_setField ei fi (by simp) ?_;have k':(s.heap.update it<|Obj.mapFields (·.setIfInBounds 1 (rawInt<|(i:Int)+1))).IsKeyIter it d (i+1) es.size ep :=
  ⟨_,Å _ ei<|Obj.isFreed_of_fields<|Obj.data_mapFields fi _,(Obj.cls_mapFields ..).trans ci,by rw[Obj.data_mapFields fi]; simp[rawInt]⟩
 refine qa<|wpAny_holding<|qa<|wpAny_isOneOf_keyiter (s:={s with heap:=s.heap.update it (Obj.mapFields (·.setIfInBounds 1 (rawInt<|(i:Int)+1)))}) k'.typeIs ?_;show wpAny _ _ (pure x.key) _ _ _;exact qb<|qb ⟨_,rfl,qb<|q _ k'<|È ..⟩
theorem ES{Q:Qb Qc->Qd->Prop}(hh:A.handled=none)(k:s.heap.IsKeyIter it d i es.size ep)(r:eY s.heap d es ep)(hx:es.size<=i)
  (q:∀ h':Heap,Heap.ExtBut it s.heap h'->Q none {s with heap:=h'}):wpAny (model prog w) A (pyNext<|.ref it) Q E s:=by
 have kT:=k.typeIs;have(oi,ei,ci,fi):=id k;have(o,e,_,dat):=r;unfold pyNext;refine qa<|wpAny_attempt (wpAny_callSpecial?_slot (name:=Str.ofString "__next__") kT Ý
  (wpAny_call_entry Ý kT F.entry_dict_keyiterator_next ?_<|F.args_dict_keyiterator_next_1 _))
 refine qa<|qb<|qa<|qa ?_;refine qa<|wpAny_typeNameOfWhole_keyiter kT<|qb<|qa<|wpAny_fieldsOf ei fi ?_;simp only[show Builtin.Dict_items.ownsTuple "dict_keyiterator"=false by decide,Bool.false_eq_true,if_false];show wpAny _ _ (if(Value.ref d==Value.none)=true then _ else _) _ _ s;rw[if_neg (show ¬((Value.ref d==Value.none)=true) from qf)];refine qa<|qb<|qa<|wpAny_dictEntries e dat ?_;rw[if_neg (by simp)];refine qa<|qb<|qa<|wpAny_dictEpoch e dat ?_;rw[if_neg (by simp)];refine qb ?_;simp only[show ¬((i:Int) < 0) from by omega,if_false,Int.toNat_natCast,Array.getElem?_eq_none hx];refine qa<|qa<|wpAny_typeNameOfWhole_keyiter kT<|qb ?_;show wpAny _ _ (setField (.ref it) 0 .none >>= _) _ _ s;refine qa<|wpAny_setField ei fi (by simp) ?_;show wpAny _ _ (newExc (.type "StopIteration") [] >>= _) _ _ _;refine qa ?_;simp only[newExc,newTuple];refine qa<|qB ?_ (by show(0:Nat)<=sizeLine; exact Ð _);refine qa (m:=firstArgMember _ _)<|wpAny_of_eq (a:=Value.none) (by first|rfl | (simp only[firstArgMember]; rfl)) ?_;refine qB ?_ (by first|trivial|size_fits);simp only[raiseNew];refine qa<|wpAny_handled ?_;rw[show A.in1.handled=none from hh];refine qa<|qb<|wpAny_throw ?_;refine qa<|wpAny_isInstance (T := "StopIteration") (b:=true) ⟨_,qg _ rfl,rfl⟩ isSubtype_stop ?_;exact qb<|q _<|((È ..).extBut.push _).push _
end
theorem w9{R:α->β->Prop}:∀ {xs:Qa α} {ys:Qa β},Paired R xs ys->∀ (i:Nat) (x:α),xs[i]?=some x->∃ y,ys[i]?=some y/\R x y
 | _,_,.nil,i,x,h=>by simp at h
 | _,_,.cons r _,0,x,h=>by
  cases(show some _=some x from h);exact⟨_,rfl,r⟩
 | _,_,.cons _ t,i+1,x,h=>w9 t i x h
theorem i4{R:α->β->Prop}:∀ {xs:Qa α} {ys:Qa β},Paired R xs ys->xs.length=ys.length
 | _,_,.nil=>rfl
 | _,_,.cons _ t=>by rw[qv,qv,i4 t]
theorem ER{X:Cx}{o:Obj}(I:Inv X pins σ H s)(e:H a=some (.aZ o<|.dT kvs)):
  (a==sysModules)=false/\∃ (es:Array DictEntry) (ep:Nat),s.heap.get? a=some o/\o.ExactDict/\o.data=.dict es ep/\es.size=kvs.length/\∀ (i:Nat) (k:Qa Key) (v:V),kvs[i]?=some (k,v)->∃ (b:Qg) (x:DictEntry),es[i]?=some x/\x.key=.ref b/\aM X.K H b (k.map kV):=by
 have(ea,z,y,xs,r,o',es,ep,h1,h2,h3,h4,h5):=(show be X.prog X.w X.K H s.heap a (.aZ o<|.dT kvs) from I.az a _ e);rw[ea]at h1;cases h1;refine⟨y,es,ep,ea,h2,h3,?_,λi k v hi=>?_⟩
 .have:=congrArg List.length h4
  rw[Array.length_toList,List.length_map,<-i4 r]at this;exact this
 .have(q,hq,r1,r2,_):=w9 r i (k,v) hi
  refine⟨q.2.1,entryOfKey (tupleKind<|zA X.prog X.w) q,?_,rfl,r2⟩;have:es.toList[i]?=some (entryOfKey (tupleKind<|zA X.prog X.w) q):=by rw[h4,List.getElem?_map,hq]; rfl
  simpa using this
def CI(K:qc)(a:Qg)(o:Obj)(kvs:Qa (Qa Key×V)):It :=
 ⟨λi H=>H a=some (.aZ o<|.dT kvs)/\i < kvs.length,λi H x H'=>H'=H/\∀ k v,kvs[i]?=some (k,v)->∃ b,x=.ref b/\aM K H b (k.map kV),λi H=>H a=some (.aZ o<|.dT kvs)/\kvs.length<=i⟩
theorem zl6(a it:Qg)(o:Obj)(kvs:Qa (Qa Key×V))(ep:Nat)(yf:∃ es,o.data=.dict es ep):Turn P w K tg (CI K a o kvs) [it] it (λi h=>h.IsKeyIter it a i kvs.length ep) where
 mem:=by simp
 obj:=λi h st b hb=>by
  have e:b=it:=by simpa using hb
  subst e;have(oi,e,c,d):=st;exact⟨oi,e,λv z=>by rw[d]at z; cases z⟩
 keep:=λi h h' st k=>st.at λoi e=>k it (by simp) oi e
 item:=by
  intro X hP hw hK hc i pins s σ H E I hf st hg;subst hP hw hK;have(e,hi):=hg;have(sM,es,eS,ea,xd,dat,hsz,ent):=ER I e;have tL:eS=ep:=by
   have(nQ,z):=yf;rw[dat]at z;injection z
  subst tL;have(f0,f1,f2,f3,f4,f5):=hf it (by simp);have(b,x,ex,kx,hb):=ent i kvs[i].1 kvs[i].2 (qm hi);refine Bx (es:=es) (by rw[hsz]; exact st) ⟨o,ea,xd,dat⟩ ex λh' dz sb=>?_;have I1:Inv X pins σ H {s with heap:=h'}:=I.turned (t':=s.toks) (λb o hb e=>(sb.2 b hb).trans e) f0 f1 f3 f4 f5;have(oi,e',c',d'):=id dz;rw[kx];refine⟨.ref b,rfl,Av (s:={s with heap:=h'}) e' c' d' (by decide) ⟨.ref b,H,I1,rfl,⟨rfl,λk v jh=>⟨b,rfl,?_⟩⟩,by rw[hsz]at dz; exact dz,λb hb=>(hf b hb).1⟩⟩;rw[qm hi]at jh;rw[qy jh]at hb;exact hb
 done:=by
  intro X hP hw hK hc i pins s σ H E I hf st hg;subst hP hw hK;have(e,hi):=hg;have(sM,es,eS,ea,xd,dat,hsz,ent):=ER I e;have tL:eS=ep:=by
   have(nQ,z):=yf;rw[dat]at z;injection z
  subst tL;have(f0,f1,f2,f3,f4,f5):=hf it (by simp);exact ES (es:=es) (I.ok.hd hc) (by rw[hsz]; exact st) ⟨o,ea,xd,dat⟩ (by omega) λh' eb=>⟨rfl,I.turned (t':=s.toks) (λb o hb e=>eb b o hb e) f0 f1 f3 f4 f5⟩
 self:=λ_ _ _ _ _ st h=>wpAny_pyIter_keyiter st h
section
variable{X:Cx}
theorem Inv.freeze(I:Inv X pins σ H s)(e:H a=some (.dT kvs)):∃ o,s.heap.get? a=some o/\Inv X pins σ (upd H a<|.aZ o<|.dT kvs) s:=by
 have ok:=(show be X.prog X.w X.K H s.heap a (.dT kvs) from I.az a _ e);have(z,y,xs,r,o,es,ep,h1,h2):=id ok;refine⟨o,h1,?_⟩;have GP:be X.prog X.w X.K (upd H a<|.aZ o<|.dT kvs) s.heap a (.dT kvs):=ok.dS (λ_ _ _ q=>q) (λb q=>by rw[zx<|oP q e (by intro z; cases z)]; exact q) λb ys q=>by rw[zx<|oP q e (by intro z; cases z)]; exact q
 exact I.write (t':=s.toks) (h':=s.heap) (by rw[e]; trivial) (.inl rfl) (λ_ _ _ q=>q) ⟨o,h1⟩ ⟨h1,GP⟩
def KE(K:qc)(td:TE):TI:=λσ H R=>td σ H λx H1=>∃ a kvs,x=.ref a/\((H1 a=some (.dT kvs)/\∀ o,R (CI K a o kvs)<|upd H1 a<|.aZ o<|.dT kvs)\/∃ o,H1 a=some (.aZ o<|.dT kvs)/\R (CI K a o kvs) H1)
theorem rL{d:Expr}(hd:Wr (PE X d td)):Wr (PI X tg d<|KE X.K td):=by
 refine⟨?_⟩;intro pins s σ H R I h;refine aF (hd.run pins s σ H _ I h) λv s1 hZ=>?_;have(x,H1,I1,r1,q1):=hZ;have(a,kvs,e,q):=q1;subst e;cases r1;have key:∀ (H2:Hp) (o:Obj),Inv X pins σ H2 s1->H2 a=some (.aZ o<|.dT kvs)->R (CI X.K a o kvs) H2->wpAny (model X.prog X.w) X.A (pyIter<|.ref a) (Iq X pins σ tg R) X.xe s1:=λH2 o I2 e2 q2=>by
  have(sM,es,ep,ea,xd,dat,hsz,_):=ER I2 e2;refine Ft (es:=es) sM ⟨o,ea,xd,dat⟩ λh' hit kk=>?_;refine⟨s1.heap.objs.size,[s1.heap.objs.size],_,_,H2,rfl,I2.kept (t':=s1.toks) kk,zl6 a s1.heap.objs.size o kvs ep ⟨es,dat⟩,by rw[<-hsz]; exact hit,λb hb=>?_,q2⟩;have e:b=s1.heap.objs.size:=by simpa using hb
  subst e;exact I2.cX (qe _)<|I2.az.fresh<|qe _
 rcases q with⟨e1,q⟩|⟨o,e1,q⟩
 .have(o,_,I2):=I1.freeze e1
  exact key _ o I2 zy<|q o
 .exact key H1 o I1 e1 q
end
end L2
namespace L2
open PySem PySem.Spec PyProof.Rows
open PySem.W (Looks)
def zAd(C p:Qg):Obj:={cls:=.ref C,data:=.fields #[.ref p,.none,.none,.none,.bool false,.none]}
section
variable{g:Array GenState}{d:Drawn}{t:Nat}{os:OsState}
variable{nm q:Str}{C N:Qg}{bs bm bmB:Qa Qc}{sZ:Bool}{sn:Qa Str}{sub:Qa Qc}{ab:Bool}{col:Qb Bool}{dd:Qb Qg}{k0 k1 k2 k3 k5:Qb Qc}{B newId Hd:String}
end
abbrev Gm:Qa Qc:=[.type "ValueError",.type "Exception",.type "BaseException",.type "object"]
structure XC (K:qc) (C:Qg):Prop where
 at_:∃ nm q N bs bm sn sub ab col dd k0 k1 k2 k3 k5,K.lookup C=some (excClassObj nm q C N bs bm true sn sub ab col dd k0 k1 k2 k3 k5 "ValueError.__new__")/\PySem.W.tailIn K Gm bm=true
 ga:PySem.W.findIn K (.ref C) "__getattribute__"=some (some<|.builtin "BaseException.__getattribute__")
 gh:PySem.W.findIn K (.ref C) "__getattr__"=some none
 sa:PySem.W.findIn K (.ref C) "__setattr__"=some (some<|.builtin "object.__setattr__")
section
variable{C x:Qg}
end
end L2
namespace L2
open PySem PySem.Spec PyProof.Rows
open PySem.W (Looks InstAt)
section
variable{C x:Qg}
end
end L2
namespace L2
open PySem PySem.Spec PyProof.Rows
open PySem.W (Looks InstAt)
structure XI (K:qc) (C:Qg):Prop where
 cl:XC K C
 ca:PySem.W.findIn K (.ref C) "__class__"=some (some<|.builtin "object.__class__")
 cg:PySem.W.specialIn K (.builtin "object.__class__") "__get__"=some (some<|.builtin "getset_descriptor.__get__")
 ct:PySem.W.takesIn K (.builtin "object.__class__")=some true
 cm:PySem.W.mroIn K C (.type "object")=some true
section
variable{C x:Qg}
end
end L2
namespace L2
open PySem PySem.Spec PyProof.Rows
open PySem.W (Looks InstAt)
def XV(H:Hp)(a C:Qg)(fs:Qa (Str×V)):Prop:=∃ ox,H a=some (.aZ ox<|.own 0)/\ox.cls=.ref C/\PySem.W.notCls ox=true/\
 ((fs=[]/\ox.dict=none)\/∃ od dx,ox.dict=some dx/\H dx=some (.aZ od<|.xd fs))
section
variable{X:Cx}{C:Qg}{fs:Qa (Str×V)}
end
section
variable{X:Cx}{CX:iP}{k:Nat}{f C:Qg}{ps:Qa Str}{E:XK}{p:Pos}{es:Qa Expr}{t:TA}
end
end L2
namespace L2
open PySem PySem.Spec PyProof.Rows
open PySem.W (Looks InstAt)
section
variable{C x:Qg}
end
section
variable{X:Cx}{C:Qg}{p:Pos}
end
end L2
namespace L2
open PySem PySem.Spec PyProof.Rows
open PySem.W (Looks InstAt)
def zAe(a C:Qg)(d tb:Qb Qg)(h:Heap):Prop:=∃ oe vs,h.get? a=some oe/\oe.cls=.ref C/\oe.dict=d/\oe.data=.fields vs/\vs[1]?=some (tb.elim .none .ref)/\(tb=none->∃ p,oe={zAd C p with dict:=d})
def pTb(T:Qg)(h:Heap):Prop:=∃ oT ts,h.get? T=some oT/\oT.data=.fields ts/\ts[3]?=some .none
def zAf(a C:Qg)(d tb:Qb Qg):HO:=.ext (zAe a C d tb)
def xTb(T:Qg):HO:=.ext (pTb T)
def zAg(H:Hp)(a C:Qg)(fs:Qa (Str×V)):Prop:=∃ d tb,H a=some (zAf a C d tb)/\(∀ T,tb=some T->H T=some (xTb T)/\T≠a)/\
 ((fs=[]/\d=none)\/∃ od dx,d=some dx/\H dx=some (.aZ od<|.xd fs))
section
variable{X:Cx}
end
end L2
namespace L2
open PySem PySem.Spec PyProof.Rows
open PySem.W (Looks InstAt)
abbrev fK:=St->Qg->Hp->Prop
section
variable{X:Cx}{EX:fK}
end
section
variable{X:Cx}{C:Qg}{p:Pos}
end
def CXv(P:Qe)(w:Qh)(K:qc):iP:=λouter H s E e s'=>∃ a H',e=.ref a/\s'.os=s.os/\AllBare s'.gens/\Un (jj outer) [] H H' s.heap s'.heap/\bV P w K H' s'.heap/\E e none H'
section
variable{X:Cx}{EX:fK}{k:Nat}{f:Qg}{ps:Qa Str}{p:Pos}{es:Qa Expr}{t:TA}
end
end L2
namespace L2
open PySem PySem.Spec PyProof.Rows
open PySem.W (Looks InstAt)
abbrev Cx.body(X:Cx)(pn:Qa (Qg×Obj))(E:Qc->Qd->Prop):Cx:={X with pn:=pn,xe:=E}
section
variable{X:Cx}{pn:Qa (Qg×Obj)}
end
section
variable{C C':Qg}
end
section
variable{X:Cx}{n cls:Str}{C':Qg}{body Pa:Qa Stmt}{b₀:Stmt}{tb:fK->TS}{th:TS}{np hpos:Pos}
end
end L2
namespace L2
open PySem PySem.Spec PyProof.Rows
abbrev D:=PyData
def xU:Key->D
 | .inl i=>.int i
 | .inr x=>.str x
def gN(ks:Qa Key):D:=.tuple (ks.map xU)
def PL(K:qc)(H:Hp)(a:Qg)(xs:Qa V):Prop :=
 (∃ o,H a=some (.aZ o<|.lst xs))\/∃ (o:Obj) (ae:Array Qc) (n:Nat),K.lookup a=some o/\o.cls=.type "list"/\o.dict=none/\o.data=.seq ae n/\ae.size<=sizeLine/\zO xs ae.toList
def XN(K:qc)(n:Str)(C:Qg):Prop:=PySem.W.nsIn K mainGlobals n=some (some<|.ref C)
def gZ:Qa (D×D)->Bool
 | (.none,_)::_=>false
 | (.bool _,_)::_=>false
 | _=>true
theorem aM.sq{xs:Qa V}(h:aM K H a xs):bg K H a xs:=h.imp .inl λ⟨o,i,n,a,b,c,d,e,_⟩=>⟨o,i,n,a,b,c,d,e⟩
theorem aM.kp{xs:Qa V}(e:Kp H H')(h:aM K H a xs):aM K H' a xs:=h.keeps e.tup
mutual
inductive DF (K:qc) (H:Hp):V->D->Prop
 | aT:DF K H .aT .none
 | bl (b:Bool):DF K H (.bl b) (.bool b)
 | int (i:Int):DF K H (.int i) (.int i)
 | str (x:Str):DF K H (.str x) (.str x)
 | tup {a:Qg} {xs:Qa V} {ds:Qa D} (h:aM K H a xs) (t:aK K H xs ds):DF K H (.ref a) (.tuple ds)
 | lst {a:Qg} {xs:Qa V} {ds:Qa D} (h:PL K H a xs) (t:aK K H xs ds):DF K H (.ref a) (.list ds)
 | ic {a:Qg} {o:Obj} {ws:Qa (Qa Key×V)} {kvs:Qa (D×D)} (h:H a=some (.aZ o<|.dT ws)) (t:gE K H ws kvs):DF K H (.ref a) (.dict kvs)
 | exc {a C:Qg} {n:Str} {fs:Qa (Str×V)} {ds:Qa (D×D)} (h:XV H a C fs) (e:XN K n C) (t:jB K H fs ds):DF K H (.ref a) (.dict<|(.none,.str n)::ds)
 | obj {a C dx:Qg} {o:Obj} {n:Str} {fs:Qa (Str×V)} {ds:Qa (D×D)} (h:H a=some (.aZ o<|.ins C dx fs)) (e:XN K n C) (t:jB K H fs ds):DF K H (.ref a) (.dict<|(.bool true,.str n)::ds)
inductive aK (K:qc) (H:Hp):Qa V->Qa D->Prop
 | nil:aK K H [] []
 | cons {v:V} {d:D} {vs:Qa V} {ds:Qa D} (h:DF K H v d) (t:aK K H vs ds):aK K H (v::vs) (d::ds)
inductive gE (K:qc) (H:Hp):Qa (Qa Key×V)->Qa (D×D)->Prop
 | nil:gE K H [] []
 | cons {k:Qa Key} {v:V} {d:D} {vs:Qa (Qa Key×V)} {ds:Qa (D×D)} (h:DF K H v d) (t:gE K H vs ds):gE K H ((k,v)::vs) ((gN k,d)::ds)
inductive jB (K:qc) (H:Hp):Qa (Str×V)->Qa (D×D)->Prop
 | nil:jB K H [] []
 | cons {k:Str} {v:V} {d:D} {vs:Qa (Str×V)} {ds:Qa (D×D)} (h:DF K H v d) (t:jB K H vs ds):jB K H ((k,v)::vs) ((.str k,d)::ds)
end
theorem XV.kp{C:Qg}{fs:Qa (Str×V)}(e:Kp H H')(h:XV H a C fs):XV H' a C fs:=by
 have(ox,h1,h2,h3,h4):=h;refine⟨ox,e.aZ _ _ _ h1,h2,h3,?_⟩;rcases h4 with h4|⟨od,dx,h5,h6⟩
 .exact .inl h4
 .exact .inr ⟨od,dx,h5,e.aZ _ _ _ h6⟩
theorem PL.kp{xs:Qa V}(e:Kp H H')(h:PL K H a xs):PL K H' a xs:=by
 rcases h with⟨o,h⟩|h
 .exact .inl ⟨o,e.aZ _ _ _ h⟩
 .exact .inr h
theorem PL.sq{xs:Qa V}(h:PL K H a xs):bq K H a xs:=by
 rcases h with⟨o,h⟩|h
 .exact .inl (.inr ⟨o,h⟩)
 .exact .inr h
mutual
theorem DF.kp(e:Kp H H'):∀ {v:V} {d:D},DF K H v d->DF K H' v d
 | _,_,.aT=>.aT
 | _,_,.bl b=>.bl b
 | _,_,.int i=>.int i
 | _,_,.str x=>.str x
 | _,_,.tup h t=>.tup (h.keeps e.tup)<|aK.kp e t
 | _,_,.lst h t=>.lst (h.kp e)<|aK.kp e t
 | _,_,.ic h t=>.ic (e.aZ _ _ _ h)<|gE.kp e t
 | _,_,.exc h n t=>.exc (h.kp e) n<|jB.kp e t
 | _,_,.obj h n t=>.obj (e.aZ _ _ _ h) n<|jB.kp e t
theorem aK.kp(e:Kp H H'):∀ {v:Qa V} {d:Qa D},aK K H v d->aK K H' v d
 | _,_,.nil=>.nil
 | _,_,.cons h t=>.cons (DF.kp e h)<|aK.kp e t
theorem gE.kp(e:Kp H H'):∀ {v:Qa (Qa Key×V)} {d:Qa (D×D)},gE K H v d->gE K H' v d
 | _,_,.nil=>.nil
 | _,_,.cons h t=>.cons (DF.kp e h)<|gE.kp e t
theorem jB.kp(e:Kp H H'):∀ {v:Qa (Str×V)} {d:Qa (D×D)},jB K H v d->jB K H' v d
 | _,_,.nil=>.nil
 | _,_,.cons h t=>.cons (DF.kp e h)<|jB.kp e t
end
section
theorem aK.snoc{d:D}(h:DF K H v d):∀ {vs:Qa V} {ds:Qa D},aK K H vs ds->aK K H (vs++[v]) (ds++[d])
 | _,_,.nil=>.cons h .nil
 | _,_,.cons a t=>.cons a<|aK.snoc h t
theorem aK.app:∀ {vs ws:Qa V} {ds es:Qa D},aK K H vs ds->aK K H ws es->aK K H (vs++ws) (ds++es)
 | _,_,_,_,.nil,q=>q
 | _,_,_,_,.cons a t,q=>.cons a<|aK.app t q
theorem aK.len:∀ {vs:Qa V} {ds:Qa D},aK K H vs ds->vs.length=ds.length
 | _,_,.nil=>rfl
 | _,_,.cons _ t=>congrArg (·+1)<|aK.len t
theorem aK.get:∀ {vs:Qa V} {ds:Qa D} {i:Nat} {d:D},aK K H vs ds->ds[i]?=some d->∃ v,vs[i]?=some v/\DF K H v d
 | _,_,0,_,.cons h _,e=>by
  cases(show some _=some _ from e);exact⟨_,rfl,h⟩
 | _,_,i+1,_,.cons _ t,e=>aK.get (i:=i) t e
 | _,_,0,_,.nil,e=>by cases e
 | _,_,_+1,_,.nil,e=>by cases e
theorem aK.get':∀ {vs:Qa V} {ds:Qa D} {i:Nat} {v:V},aK K H vs ds->vs[i]?=some v->∃ d,ds[i]?=some d/\DF K H v d
 | _,_,0,_,.cons h _,e=>by
  cases(show some _=some _ from e);exact⟨_,rfl,h⟩
 | _,_,i+1,_,.cons _ t,e=>aK.get' (i:=i) t e
 | _,_,0,_,.nil,e=>by cases e
 | _,_,_+1,_,.nil,e=>by cases e
theorem aK.take:∀ {vs:Qa V} {ds:Qa D} (n:Nat),aK K H vs ds->aK K H (vs.take n) (ds.take n)
 | _,_,0,_=>by simpa using aK.nil
 | _,_,n+1,.nil=>by simpa using aK.nil
 | _,_,n+1,.cons h t=>.cons h<|aK.take n t
theorem aK.drop:∀ {vs:Qa V} {ds:Qa D} (n:Nat),aK K H vs ds->aK K H (vs.drop n) (ds.drop n)
 | _,_,0,q=>q
 | _,_,n+1,.nil=>by simpa using aK.nil
 | _,_,n+1,.cons h t=>aK.drop n t
theorem aK.set{d:D}(h:DF K H v d):∀ {vs:Qa V} {ds:Qa D} (n:Nat),aK K H vs ds->aK K H (vs.set n v) (ds.set n d)
 | _,_,_,.nil=>.nil
 | _,_,0,.cons _ t=>.cons h t
 | _,_,n+1,.cons a t=>.cons a<|aK.set h n t
end
inductive PU where
 | d (x:D) | l (xs:Qa D) | t (kvs:Qa (Qa Key×D)) | x (kvs:Qa (Qa K3×D))
inductive U where
 | d (x:D)
 | l (xs:Qa D) | t (kvs:Qa (Qa Key×D)) | k (kvs:Qa (Key×D))
 | o (c:Str) (fs:Qa (Str×PU))
def U.own:U->Bool
 | .d _=>false
 | _=>true
def bB(K:qc)(H:Hp):Qa (κ×V)->Qa (κ×D)->Prop:=Paired λp q=>p.1=q.1/\DF K H p.2 q.2
def yz(C dx:Qg)(vs:Qa (Str×V)):Qa (Qg×HO)->HO
 | []=>.ins C dx vs
 | (b,p)::r=>.sub b p<|yz C dx vs r
inductive FO (K:qc) (H:Hp):Qa (Str×V)->Qa (Qg×HO)->Qa (Str×PU)->Prop
 | nil:FO K H [] [] []
 | d {n:Str} {v:V} {x:D} {vs:Qa (Str×V)} {ps:Qa (Qg×HO)} {fs:Qa (Str×PU)} (h:DF K H v x) (t:FO K H vs ps fs):FO K H ((n,v)::vs) ps ((n,.d x)::fs)
 | l {n:Str} {b:Qg} {us:Qa V} {xs:Qa D} {vs:Qa (Str×V)} {ps:Qa (Qg×HO)} {fs:Qa (Str×PU)} (h:aK K H us xs) (t:FO K H vs ps fs):FO K H ((n,.ref b)::vs) ((b,.lst us)::ps) ((n,.l xs)::fs)
 | t {n:Str} {b:Qg} {us:Qa (Qa Key×V)} {xs:Qa (Qa Key×D)} {vs:Qa (Str×V)} {ps:Qa (Qg×HO)} {fs:Qa (Str×PU)} (h:bB K H us xs) (t:FO K H vs ps fs):FO K H ((n,.ref b)::vs) ((b,.dT us)::ps) ((n,.t xs)::fs)
 | x {n:Str} {b:Qg} {us:Qa (Qa K3×V)} {xs:Qa (Qa K3×D)} {vs:Qa (Str×V)} {ps:Qa (Qg×HO)} {fs:Qa (Str×PU)} (h:bB K H us xs) (t:FO K H vs ps fs):FO K H ((n,.ref b)::vs) ((b,.dX us)::ps) ((n,.x xs)::fs)
def Rp(K:qc)(H:Hp)(v:V):U->Prop
 | .d x=>DF K H v x
 | .l xs=>∃ a us,v=.ref a/\H a=some (.lst us)/\aK K H us xs
 | .t kvs=>∃ a ws,v=.ref a/\H a=some (.dT ws)/\bB K H ws kvs
 | .k kvs=>∃ a ws,v=.ref a/\H a=some (.dK ws)/\bB K H ws kvs
 | .o c fs=>∃ a C dx vs ps,v=.ref a/\H a=some (yz C dx vs ps)/\ps≠[]/\XN K c C/\(ps.map (·.1)).Nodup/\FO K H vs ps fs/\dx∉ps.map (·.1)/\∀ q∈ps,H q.1=some (.own a)
def Mo:HO->Prop
 | .lst _=>True
 | .dT _=>True
 | .dK _=>True
 | .sub _ _ _=>True
 | _=>False
theorem Mo.yz{C:Qg}{ps:Qa (Qg×HO)}(h:ps≠[]):Mo (yz C dx vs ps):=by
 cases ps with
 | nil=>exact absurd rfl h
 | cons p r=>trivial
theorem Rp.own{u:U}(h:Rp K H v u)(o:u.own=true):∃ a c,v=.ref a/\H a=some c/\Mo c:=by
 cases u with
 | d x=>cases o
 | l xs=>have(a,us,e,q,_):=h; exact⟨a,_,e,q,trivial⟩
 | t xs=>have(a,us,e,q,_):=h; exact⟨a,_,e,q,trivial⟩
 | k xs=>have(a,us,e,q,_):=h; exact⟨a,_,e,q,trivial⟩
 | o c fs=>have(a,C,dx,vs,ps,e,q,n,_):=h; exact⟨a,_,e,q,Mo.yz n⟩
theorem bB.kp(e:Kp H H'){ws:Qa (κ×V)}{kvs:Qa (κ×D)}(h:bB K H ws kvs):bB K H' ws kvs:=Paired.g6 h λ_ _ z=>⟨z.1,z.2.kp e⟩
theorem FO.kp(e:Kp H H'){ps:Qa (Qg×HO)}{fs:Qa (Str×PU)}(h:FO K H vs ps fs):FO K H' vs ps fs:=by
 induction h with
 | nil=>exact .nil
 | d h _ ih=>exact .d (h.kp e) ih
 | l h _ ih=>exact .l (h.kp e) ih
 | t h _ ih=>exact .t (h.kp e) ih
 | x h _ ih=>exact .x (h.kp e) ih
theorem Rp.kp{u:U}(h:Rp K H v u)(e:Kp H H')(o:u.own=true->∀ a c,v=.ref a->H a=some c->H' a=some c):Rp K H' v u:=by
 cases u with
 | d x=>exact DF.kp e h
 | l xs=>have(a,us,ev,q,t):=h; exact⟨a,us,ev,o rfl a _ ev q,t.kp e⟩
 | t xs=>have(a,us,ev,q,t):=h; exact⟨a,us,ev,o rfl a _ ev q,t.kp e⟩
 | k xs=>have(a,us,ev,q,t):=h; exact⟨a,us,ev,o rfl a _ ev q,t.kp e⟩
 | o c fs=>have(a,C,dx,vs,ps,ev,q,n,x,nd,t,d,w):=h; exact⟨a,C,dx,vs,ps,ev,o rfl a _ ev q,n,x,nd,t.kp e,d,λz hz=>e.own _ _<|w z hz⟩
abbrev En:=Qa (Qb U)
def Ow(ρ:En)(σ:St)(a:Qg):Prop:=∃ (i:Nat) (u:U),ρ[i]?=some (some u)/\u.own=true/\σ[i]?=some (some<|.ref a)
structure Rs (K:qc) (ρ:En) (σ:St) (H:Hp):Prop where
 len:ρ.length=σ.length
 rep:∀ (i:Nat) (u:U),ρ[i]?=some (some u)->∃ v,σ[i]?=some (some v)/\Rp K H v u
 apart:∀ (i j:Nat) (u w:U),ρ[i]?=some (some u)->ρ[j]?=some (some w)->u.own=true->w.own=true->σ[i]?=σ[j]?->i=j
def yE(A:Qg->Prop)(H H':Hp):Prop:=∀ a o,H a=some o->¬A a->H' a=some o
structure dE (ρ ai:En):Prop where
 len:ai.length=ρ.length
 own:∀ (i:Nat) (u:U),ai[i]?=some (some u)->u.own=true->∃ w,ρ[i]?=some (some w)/\w.own=true
 live:∀ (i:Nat) (u:U),ρ[i]?=some (some u)->∃ w,ai[i]?=some (some w)
def Nw(H:Hp)(v:V)(u:U):Prop:=u.own=true->∃ a,v=.ref a/\H a=none
structure Go (K:qc) (ρ:En) (σ:St) (H:Hp) (ai:En) (H':Hp):Prop where
 rs:Rs K ai σ H'
 fr:yE (Ow ρ σ) H H'
 shr:dE ρ ai
 dm:∀ a,H' a=none->H a=none
section
variable{ρ ai cp:En}{qN:Hp}
theorem Rs.ow(r:Rs K ρ σ H)(o:Ow ρ σ a):∃ c,H a=some c/\Mo c:=by
 have(i,u,e,ou,es):=o;have(v,ev,p):=r.rep i u e;rw[es]at ev;cases ev;have(b,c,eb,q,m):=p.own ou;cases eb;exact⟨c,q,m⟩
theorem yE.kp(r:Rs K ρ σ H)(f:yE (Ow ρ σ) H H'):Kp H H':=by
 refine⟨λb xs h=>f b _ h λo=>?_,λb ob u h=>f b _ h λo=>?_,λb x h=>f b _ h λo=>?_⟩
 all_goals
  have(c,q,m):=r.ow o;rw[h]at q;cases q;exact m
theorem dE.refl(ρ:En):dE ρ ρ:=⟨rfl,λi u e o=>⟨u,e,o⟩,λi u e=>⟨u,e⟩⟩
theorem dE.trans(a:dE ρ ai)(b:dE ai cp):dE ρ cp:=⟨b.1.trans a.1,λi u e o=>let ⟨w,e',o'⟩:=b.2 i u e o; a.2 i w e' o',λi u e=>let ⟨w,e'⟩:=a.3 i u e; b.3 i w e'⟩
theorem dE.ow(s:dE ρ ai)(o:Ow ai σ a):Ow ρ σ a:=by
 have(i,u,e,ou,es):=o;have(w,e',o'):=s.2 i u e ou;exact⟨i,w,e',o',es⟩
theorem Go.refl(r:Rs K ρ σ H):Go K ρ σ H ρ H:=⟨r,λ_ _ h _=>h,dE.refl _,λ_ h=>h⟩
theorem Go.trans(a:Go K ρ σ H ai H')(b:Go K ai σ H' cp qN):Go K ρ σ H cp qN :=
 ⟨b.rs,λc o h n=>b.fr c o (a.fr c o h n) λz=>n<|a.shr.ow z,a.shr.trans b.shr,λc h=>a.dm c<|b.dm c h⟩
theorem Go.kp(r:Rs K ρ σ H)(g:Go K ρ σ H ai H'):Kp H H':=g.fr.kp r
theorem Go.dS{u:U}(r:Rs K ρ σ H)(g:Go K ρ σ H ai H')(h:Rp K H v u)(n:u.own=true->∃ a,v=.ref a/\¬Ow ρ σ a):Rp K H' v u:=by
 refine h.kp (g.kp r) λo a c ev q=>?_;have(b,eb,nb):=n o;cases ev;cases eb;exact g.fr _ _ q nb
theorem Nw.out{u:U}(r:Rs K ρ σ H)(n:Nw H v u):u.own=true->∃ a,v=.ref a/\¬Ow ρ σ a:=λo=>by
 have(a,e,h):=n o;refine⟨a,e,λz=>?_⟩;have(c,q,_):=r.ow z;rw[h]at q;cases q
theorem b9.dm(s:b9 H H'):∀ a,H' a=none->H a=none:=λa h=>by
 cases e:H a with
 | none=>rfl
 | some o=>rw[s a o e]at h; cases h
theorem Go.grow(r:Rs K ρ σ H)(s:b9 H H'):Go K ρ σ H ρ H' :=
 ⟨⟨r.len,λi u e=>let ⟨v,ev,p⟩:=r.rep i u e; ⟨v,ev,p.kp s.kp λ_ a c _ q=>s a c q⟩,r.apart⟩,λa o h _=>s a o h,dE.refl _,s.dm⟩
end
inductive Ar where
 | s (i:Nat) | u (x:U)
def Ar.get(ρ:En):Ar->Qb U
 | .s i=>(ρ[i]?).join
 | .u x=>some x
def kU(K:qc)(ρ:En)(σ:St)(H H':Hp)(v:V):Ar->Prop
 | .s i=>σ[i]?=some (some v)/\∃ u,ρ[i]?=some (some u)
 | .u x=>Rp K H' v x/\Nw H v x
abbrev ME:=En->Qb (Ar×En)
abbrev MA:=En->Qb (Qa Ar×En)
abbrev MT:=En->Qb (Bool×En)
def VE(K:qc)(t:TE)(m:ME):Prop :=
 ∀ (ρ:En) (σ:St) (H:Hp) (a:Ar) (ai:En) (Q:VK),Rs K ρ σ H->m ρ=some (a,ai)->(∀ v H',Go K ρ σ H ai H'->kU K ai σ H H' v a->Q v H')->t σ H Q
def VT(K:qc)(t:TT)(m:MT):Prop :=
 ∀ (ρ:En) (σ:St) (H:Hp) (b:Bool) (ai:En) (Q:Bool->Hp->Prop),Rs K ρ σ H->m ρ=some (b,ai)->(∀ H',Go K ρ σ H ai H'->Q b H')->t σ H Q
structure CO (K:qc) (ρ:En) (σ:St) (H H':Hp) (vs:Qa V) (as:Qa Ar):Prop where
 len:vs.length=as.length
 ar:∀ (i:Nat) (a:Ar),as[i]?=some a->∃ v,vs[i]?=some v/\kU K ρ σ H H' v a
 ap:∀ (i j:Nat) (x y:U),as[i]?=some (.u x)->as[j]?=some (.u y)->x.own=true->y.own=true->vs[i]?=vs[j]?->i=j
def jA(K:qc)(t:TA)(m:MA):Prop :=
 ∀ (ρ:En) (σ:St) (H:Hp) (as:Qa Ar) (ai:En) (Q:Qa V->Hp->Prop),Rs K ρ σ H->m ρ=some (as,ai)->(∀ vs H',Go K ρ σ H ai H'->CO K ai σ H H' vs as->Q vs H')->t σ H Q
section
variable{ρ ai cp:En}{qN:Hp}{a:Ar}{u:U}
theorem Nw.mono(n:Nw H' v u)(h:∀ a,H' a=none->H a=none):Nw H v u:=λo=>let ⟨a,e,q⟩:=n o; ⟨a,e,h a q⟩
theorem Nw.m3(r:Rs K ρ σ H)(g:Go K ρ σ H ai H')(n:Nw H v u):u.own=true->∃ a,v=.ref a/\¬Ow ai σ a:=λo=>by
 have(b,e,q):=n.out r o;exact⟨b,e,λz=>q<|g.shr.ow z⟩
theorem kU.later(r:Rs K ρ σ H)(g1:Go K ρ σ H ai H')(g2:Go K ai σ H' cp qN)(h:kU K ai σ H H' v a)(e:a.get cp=some u):Rp K qN v u:=by
 cases a with
 | s i=>
  have(es,_):=h;have e':cp[i]?=some (some u):=by
   cases q:cp[i]? with
   | none=>rw[show Ar.get cp (.s i)=(cp[i]?).join from rfl,q]at e; cases e
   | some o=>
    rw[show Ar.get cp (.s i)=(cp[i]?).join from rfl,q]at e;cases o with
    | none=>cases e
    | some x=>cases e; rfl
  have(w,ew,p):=g2.rs.rep i u e';rw[es]at ew;cases ew;exact p
 | u x=>
  cases(show some x=some u from e);exact g2.dS g1.rs h.1<|h.2.m3 r g1
theorem kU.now(r:Rs K ρ σ H)(g1:Go K ρ σ H ai H')(h:kU K ai σ H H' v a)(e:a.get ai=some u):Rp K H' v u:=h.later r g1 (Go.refl g1.rs) e
theorem Nw.data{x:D}:Nw H v (.d x):=λo=>by cases o
def zk(i:Nat):ME:=λρ=>match ρ[i]? with
 | some (some _)=>some (.s i,ρ)
 | _=>none
theorem zi:VE K (mq i) (zk i):=by
 intro ρ σ H a ai Q r e q;unfold zk at e;split at e
 .rename_i u eu
  cases e;have(v,ev,p):=r.rep i u eu;exact⟨v,ev,q v H (Go.refl r) ⟨ev,u,eu⟩⟩
 .cases e
def mC(x:D):ME:=λρ=>some (.u<|.d x,ρ)
theorem Gn{c:V}{x:D}(h:∀ H,DF K H c x):VE K (tC c) (mC x):=by
 intro ρ σ H a ai Q r e q;cases e;exact q _ _ (Go.refl r) ⟨h H,Nw.data⟩
theorem zr{n:Int}:VE K (tC<|.int n) (mC<|.int n):=Gn λ_=>.int n
theorem qY{n:Bool}:VE K (tC<|.bl n) (mC<|.bool n):=Gn λ_=>.bl n
theorem rh:VE K (tC .aT) (mC .none):=Gn λ_=>.aT
def VO(K:qc)(r:R2)(f:U->U->Qb U):Prop :=
 ∀ (x y:V) (a b u:U) (H:Hp) (Q:VK),Rp K H x a->Rp K H y b->f a b=some u->(∀ v H',b9 H H'->Rp K H' v u->Nw H v u->Q v H')->r x y H Q
def au(f:U->U->Qb U)(ma mb:ME):ME:=λρ=>(ma ρ).bind λp=>(mb p.2).bind λq=>(p.1.get q.2).bind λx=>(q.1.get q.2).bind λy=>(f x y).bind λu=>some (.u u,q.2)
theorem zd{o:Qb α}{f:α->Qb β}{b:β}(h:o.bind f=some b):∃ a,o=some a/\f a=some b:=Option.bind_eq_some_iff.mp h
theorem zw{r:R2}{f:U->U->Qb U}{tb:TE}{ma mb:ME}(h:VO K r f)(ha:VE K ta ma)(hb:VE K tb mb):VE K (mX r ta tb) (au f ma mb):=by
 intro ρ σ H a ai Q rs e q;obtain⟨⟨a1,aj⟩,e1,e⟩:=zd e;obtain⟨⟨b1,aw⟩,e2,e⟩:=zd e;have(x,ex,e):=zd e;have(y,ey,e):=zd e;have(u,eu,e):=zd e;cases e;refine ha ρ σ H a1 aj _ rs e1 λv1 H1 g1 k1=>hb aj σ H1 b1 aw _ g1.rs e2 λv2 H2 g2 k2=>?_;refine h _ _ x y u H2 _ (k1.later rs g1 g2 ex) (k2.now g1.rs g2 ey) eu λv H3 s p n=>?_;exact q v H3 ((g1.trans g2).trans<|Go.grow g2.rs s) ⟨p,n.mono (g1.trans g2).dm⟩
def VU(K:qc)(r:V->Hp->VK->Prop)(f:U->Qb U):Prop :=
 ∀ (x:V) (a u:U) (H:Hp) (Q:VK),Rp K H x a->f a=some u->(∀ v H',b9 H H'->Rp K H' v u->Nw H v u->Q v H')->r x H Q
def m7(f:U->Qb U)(ma:ME):ME:=λρ=>(ma ρ).bind λp=>(p.1.get p.2).bind λx=>(f x).bind λu=>some (.u u,p.2)
theorem vM{r:V->Hp->VK->Prop}{f:U->Qb U}{ma:ME}(h:VU K r f)(ha:VE K ta ma):VE K (Gu r ta) (m7 f ma):=by
 intro ρ σ H a ai Q rs e q;obtain⟨⟨a1,aj⟩,e1,e⟩:=zd e;have(x,ex,e):=zd e;have(u,eu,e):=zd e;cases e;refine ha ρ σ H a1 aj _ rs e1 λv1 H1 g1 k1=>?_;refine h _ x u H1 _ (k1.now rs g1 ex) eu λv H3 s p n=>?_;exact q v H3 (g1.trans<|Go.grow g1.rs s) ⟨p,n.mono g1.dm⟩
def zu:MA:=λρ=>some ([],ρ)
def zj(me:ME)(ma:MA):MA:=λρ=>(me ρ).bind λp=>(ma p.2).bind λq=>some (p.1::q.1,q.2)
theorem zn:jA K mn zu:=by
 intro ρ σ H as ai Q r e q;cases e;exact q [] H (Go.refl r) ⟨rfl,λi a e=>by simp at e,λi j x y e=>by simp at e⟩
theorem ze{t:TA}{me:ME}{ma:MA}(he:VE K te me)(ha:jA K t ma):jA K (mG te t) (zj me ma):=by
 intro ρ σ H as ai Q r e q;obtain⟨⟨a1,aj⟩,e1,e⟩:=zd e;obtain⟨⟨Cy,aw⟩,e2,e⟩:=zd e;cases e;refine he ρ σ H a1 aj _ r e1 λv1 H1 g1 k1=>ha aj σ H1 Cy _ _ g1.rs e2 λvs H2 g2 s2=>?_;have GK:∀ x,a1=.u x->x.own=true->∃ b c,v1=.ref b/\H1 b=some c:=λx ea o=>by
  subst ea;have(b,c,eb,hb,_):=k1.1.own o;exact⟨b,c,eb,hb⟩
 have j3:∀ (j:Nat) (y:U),Cy[j]?=some (.u y)->y.own=true->∃ b,vs[j]?=some (.ref b)/\H1 b=none:=λj y ej o=>by
  have(v,ev,k):=s2.ar j _ ej;have(b,eb,hb):=k.2 o;subst eb;exact⟨b,ev,hb⟩
 have ne:∀ (x:U) (j:Nat) (y:U),a1=.u x->x.own=true->Cy[j]?=some (.u y)->y.own=true->some v1≠vs[j]?:=λx j y ea ox ej oy z=>by
  have(b,c,e1,h1):=GK x ea ox;have(b',e2,h2):=j3 j y ej oy;rw[e2,e1]at z;cases z;rw[h1]at h2;cases h2
 refine q (v1::vs) H2 (g1.trans g2) ⟨by simp[s2.len],λi a ei=>?_,λi j x y ei ej ox oy ev=>?_⟩
 .cases i with
  | zero=>
   cases(show some a1=some a from ei);refine⟨v1,rfl,?_⟩;cases a1 with
   | s k=>
    have(es,w,ew):=k1;exact⟨es,g2.shr.live k w ew⟩
   | u x=>exact⟨g2.dS g1.rs k1.1<|k1.2.m3 r g1,k1.2⟩
  | succ i=>
   have(v,ev,k):=s2.ar i a ei;refine⟨v,ev,?_⟩;cases a with
   | s k'=>exact k
   | u x=>exact⟨k.1,k.2.mono g1.dm⟩
 .cases i with
  | zero=>
   cases j with
   | zero=>rfl
   | succ j=>exact absurd ev<|ne x j y (qy ei) ox ej oy
  | succ i=>
   cases j with
   | zero=>exact absurd ev.symm<|ne y i x (qy ej) oy ei ox
   | succ j=>exact congrArg (·+1)<|s2.ap i j x y ei ej ox oy ev
end
end L2
namespace L2
open PySem PySem.Spec PyProof.Rows
open Classical in
def kD(c:Int->Int->Prop)(g:Int->Int->D):U->U->Qb U
 | .d (.int i),.d (.int j)=>if c i j then some (.d<|g i j)else none
 | _,_=>none
def fI(g:Int->Int->D):U->U->Qb U
 | .d (.int i),.d (.int j)=>some<|.d<|g i j
 | _,_=>none
section
theorem DF.int_inv{i:Int}(h:DF K H v (.int i)):v=.int i:=by cases h; rfl
theorem DF.str_inv(h:DF K H v (.str x)):v=.str x:=by cases h; rfl
theorem DF.ik{b:Bool}(h:DF K H v (.bool b)):v=.bl b:=by cases h; rfl
theorem DF.aJ{ds:Qa D}(h:DF K H v (.tuple ds)):∃ a xs,v=.ref a/\aM K H a xs/\aK K H xs ds:=by cases h with|tup h t=>exact⟨_,_,rfl,h,t⟩
theorem DF.lst_inv{ds:Qa D}(h:DF K H v (.list ds)):∃ a xs,v=.ref a/\PL K H a xs/\aK K H xs ds:=by cases h with|lst h t=>exact⟨_,_,rfl,h,t⟩
theorem DF.bX{ds:Qa (D×D)}(h:DF K H v (.dict ds))(nx:gZ ds=true):∃ a o ws,v=.ref a/\H a=some (.aZ o<|.dT ws)/\gE K H ws ds:=by
 cases h with
 | ic h t=>exact⟨_,_,_,rfl,h,t⟩
 | exc h n t=>cases nx
 | obj h n t=>cases nx
theorem rg{c:Int->Int->Prop}{g:Int->Int->V}{gd:Int->Int->D}(h:∀ i j H,DF K H (g i j)<|gd i j):VO K (rI c g) (kD c gd):=by
 intro x y a b u H Q ha hb e q;unfold kD at e;split at e
 .rename_i i j
  split at e
  .rename_i hc
   cases e;exact⟨i,j,DF.int_inv ha,DF.int_inv hb,hc,q _ _ (λ_ _ z=>z) (h i j H) Nw.data⟩
  .cases e
 .cases e
theorem vL{g:Int->Int->V}{gd:Int->Int->D}(h:∀ i j H,DF K H (g i j)<|gd i j):VO K (jd g) (fI gd):=by
 intro x y a b u H Q ha hb e q;unfold fI at e;split at e
 .rename_i i j
  cases e;exact⟨i,j,DF.int_inv ha,DF.int_inv hb,q _ _ (λ_ _ z=>z) (h i j H) Nw.data⟩
 .cases e
def eW:=fI λi j=>.int<|i+j
def jt:=fI λi j=>.int<|i - j
def iR:=kD tU λi j=>.int<|i * j
def iQ:=kD (λ_ j=>0 < j) λi j=>.int<|i % j
def mF:=kD oM λi j=>.int<|i / j
def uc:=kD uh λi j=>.int<|i.fdiv j
def yN:=kD yR λi j=>.int<|i^j.toNat
def tH:=fI λi j=>.bool<|decide<|i < j
def qG:=fI λi j=>.bool<|decide<|j < i
def HZ:=fI λi j=>.bool<|decide<|j<=i
theorem fQ:VO K (jd λi j=>.int<|i+j) eW:=vL λi j H=>.int _
theorem k9:VO K (jd λi j=>.int<|i - j) jt:=vL λi j H=>.int _
theorem mN:VO K (rI tU λi j=>.int<|i * j) iR:=rg λi j H=>.int _
theorem k8:VO K (rI (λ_ j=>0 < j) λi j=>.int<|i % j) iQ:=rg λi j H=>.int _
theorem uR:VO K (rI oM λi j=>.int<|i / j) mF:=rg λi j H=>.int _
theorem Be:VO K (rI uh λi j=>.int<|i.fdiv j) uc:=rg λi j H=>.int _
theorem U4:VO K (rI yR λi j=>.int<|i^j.toNat) yN:=rg λi j H=>.int _
theorem v9:VO K (jd λi j=>.bl<|decide<|i < j) tH:=vL λi j H=>.bl _
theorem ua:VO K (jd λi j=>.bl<|decide<|j < i) qG:=vL λi j H=>.bl _
theorem Tc:VO K (jd λi j=>.bl<|decide<|j<=i) HZ:=vL λi j H=>.bl _
def oA:U->Qb U
 | .d (.int i)=>some<|.d<|.int (-i)
 | _=>none
theorem wk:VU K (rU λi=>.int (-i)) oA:=by
 intro x a u H Q ha e q;unfold oA at e;split at e
 .rename_i i
  cases e;exact⟨i,DF.int_inv ha,q _ _ (λ_ _ z=>z) (.int _) Nw.data⟩
 .cases e
def U.py:U->Qb D
 | .d x=>some x
 | .l xs=>some<|.list xs
 | _=>none
mutual
theorem DF.dv:∀ {v:V} {d:D},DF K H v d->d.hasDict=false->DV K H v d
 | _,_,.aT,_=>.aT
 | _,_,.bl b,_=>.bl b
 | _,_,.int i,_=>.int i
 | _,_,.str x,_=>.str x
 | _,_,.tup h t,q=>.tup ((aM.sq h))<|aK.dv t (by simpa [PyData.hasDict] using q)
 | _,_,.lst h t,q=>.lst h.sq<|aK.dv t (by simpa [PyData.hasDict] using q)
 | _,_,.ic h t,q=>by simp[PyData.hasDict]at q
 | _,_,.exc h n t,q=>by simp[PyData.hasDict]at q
 | _,_,.obj h n t,q=>by simp[PyData.hasDict]at q
theorem aK.dv:∀ {v:Qa V} {d:Qa D},aK K H v d->PyData.hasDictAll d=false->eh K H v d
 | _,_,.nil,_=>.nil
 | _,_,.cons h t,q=>by
  simp only[PyData.hasDictAll,Bool.or_eq_false_iff]at q;exact .cons (DF.dv h q.1)<|aK.dv t q.2
end
theorem Rp.dv{u:U}{x:D}(h:Rp K H v u)(e:u.py=some x)(q:x.hasDict=false):DV K H v x:=by
 cases u with
 | d y=>cases e; exact DF.dv h q
 | l xs=>
  cases e;have(a,us,rfl,h1,h2):=h;exact .lst (bq.of h1)<|aK.dv h2 (by simpa [PyData.hasDict] using q)
 | t=>cases e
 | k=>cases e
 | o=>cases e
mutual
theorem BC:∀ (x:D),x.canLay0=true->x.hasDict=false
 | .none,_=>rfl
 | .bool _,_=>rfl
 | .int _,_=>rfl
 | .str _,_=>rfl
 | .list xs,h=>by simp only[PyData.hasDict]; exact bh xs (by simpa [PyData.canLay0] using h)
 | .tuple xs,h=>by simp only[PyData.hasDict]; exact bh xs (by simpa [PyData.canLay0] using h)
 | .dict _,h=>by simp[PyData.canLay0]at h
theorem bh:∀ (xs:Qa D),PyData.canLayAll0 xs=true->PyData.hasDictAll xs=false
 | [],_=>rfl
 | x::xs,h=>by
  simp only[PyData.canLayAll0,Bool.and_eq_true]at h;simp only[PyData.hasDictAll,BC x h.1,bh xs h.2];rfl
end
def Jg(K:qc)(neg:Bool):R2:=λx y H Q=>∃ a b,DV K H x a/\DV K H y b/\SeqAt.shaped a=true/\SeqAt.shaped b=true/\Q (.bl (if neg=true then !PyData.eqv a b else PyData.eqv a b)) H
theorem U3{X:Cx}(K:qc)(hK:X.K=K){k:Nat}(hr:aD k X.A):cC X (compareOp .Eq) (Jg K false):=by
 subst hK;intro pins s σ H x y v u Q I rx ry h;have(a,b,da,db,sa,sb,q):=h;have(as,ra):=DV.reads I da rx;have(bs,rb):=DV.reads I db ry;exact SeqAt.compareEq_shaped ra rb sa sb hr.units ⟨.bl _,H,I,rfl,q⟩
def vK(neg:Bool)(a b:U):Qb U:=a.py.bind λx=>b.py.bind λy=>if SeqAt.shaped x=true/\SeqAt.shaped y=true then some (.d<|.bool (if neg=true then !PyData.eqv x y else PyData.eqv x y))else none
theorem U2(neg:Bool):VO K (Jg K neg) (vK neg):=by
 intro x y a b u H Q ha hb e q;have(dx,ex,e):=zd e;have(dy,ey,e):=zd e;split at e
 .rename_i hs
  cases e;exact⟨dx,dy,ha.dv ex<|BC _<|SeqAt.canLay_of_shaped hs.1,hb.dv ey<|BC _<|SeqAt.canLay_of_shaped hs.2,hs.1,hs.2,q _ _ (λ_ _ z=>z) (.bl _) Nw.data⟩
 .cases e
theorem aK.cP{xs:Qa V}{ds:Qa D}{i:Int}{d:D}(h:aK K H xs ds)(e:L2.cP ds i=some d):∃ v,L2.cP xs i=some v/\DF K H v d:=by
 unfold L2.cP at e ⊢;have(j,ej,e):=zd e;have(v,ev,k):=h.get e;refine⟨v,?_,k⟩;rw[h.len,ej];exact ev
def gX:U->U->Qb U
 | .l ds,.d (.int i)=>(cP ds i).map .d
 | .d (.list ds),.d (.int i)=>(cP ds i).map .d
 | _,_=>none
def bP:U->U->Qb U
 | .d (.tuple ds),.d (.int i)=>(cP ds i).map .d
 | _,_=>none
theorem jP:VO K (Dg K) gX:=by
 intro x y a b u H Q ha hb e q;unfold gX at e;split at e
 .rename_i ds i
  have(d,ed,rfl):=qr.mp e;have(p,us,rfl,h1,h2):=ha;have(v,ev,k):=h2.cP ed;exact⟨p,us,i,v,rfl,DF.int_inv hb,bq.of h1,ev,q _ _ (λ_ _ z=>z) k Nw.data⟩
 .rename_i ds i
  have(d,ed,rfl):=qr.mp e;have(p,us,rfl,h1,h2):=DF.lst_inv ha;have(v,ev,k):=h2.cP ed;exact⟨p,us,i,v,rfl,DF.int_inv hb,h1.sq,ev,q _ _ (λ_ _ z=>z) k Nw.data⟩
 .cases e
theorem cF:VO K (Df K) bP:=by
 intro x y a b u H Q ha hb e q;unfold bP at e;split at e
 .rename_i ds i
  have(d,ed,rfl):=qr.mp e;have(p,us,rfl,h1,h2):=DF.aJ ha;have(v,ev,k):=h2.cP ed;exact⟨p,us,i,v,rfl,DF.int_inv hb,(aM.sq h1),ev,q _ _ (λ_ _ z=>z) k Nw.data⟩
 .cases e
end
end L2
namespace L2
open PySem PySem.Spec PyProof.Rows
section
variable{ρ ai:En}
theorem i3{c:HO}(h:H a=some c)(m:Mo c)(o:HO):Kp H (upd H a o):=by
 refine⟨λb xs e=>?_,λb ob u e=>?_,λb x e=>?_⟩
 all_goals
  rw[zx<|oP e h (by rintro rfl; exact m)];exact e
theorem Go.own{u u':U}{o:HO}(r:Rs K ρ σ H)(e:ρ[i]?=some (some u))(ou:u.own=true)(es:σ[i]?=some (some<|.ref a))(p:Rp K (upd H a o) (.ref a) u'):Go K ρ σ H (ρ.set i<|some u') (upd H a o):=by
 have hi:i < ρ.length:=(ql.mp e).1;have(c,hc,mc):=r.ow ⟨i,u,e,ou,es⟩;have kp:=i3 hc mc o;refine⟨⟨by rw[List.length_set]; exact r.len,λj w ej=>?_,λj k w w' ej ek oj ok nQ=>?_⟩,λb ob hb n=>?_,⟨List.length_set,λj w ej oj=>?_,λj w ej=>?_⟩,λb hb=>?_⟩
 .by_cases hj:i=j
  .subst hj
   rw[List.getElem?_set_self hi]at ej;cases ej;exact⟨_,es,p⟩
  .rw[qE hj]at ej
   have(v,ev,q):=r.rep j w ej;refine⟨v,ev,q.kp kp λow b c' eb hb=>?_⟩;have ne:b≠a:=by
    rintro rfl;exact hj<|r.apart i j u w e ej ou ow (by rw[es,ev,eb])
   rw[zx ne];exact hb
 .have own:∀ (j:Nat) (w:U),(ρ.set i<|some u')[j]?=some (some w)->w.own=true->∃ w',ρ[j]?=some (some w')/\w'.own=true:=λj w ej oj=>by
   by_cases hj:i=j
   .subst hj; exact⟨u,e,ou⟩
   .rw[qE hj]at ej; exact⟨w,ej,oj⟩
  have(x,ex,ox):=own j w ej oj;have(y,ey,oy):=own k w' ek ok;exact r.apart j k x y ex ey ox oy nQ
 .have ne:b≠a:=by
   rintro rfl;exact n ⟨i,u,e,ou,es⟩
  rw[zx ne];exact hb
 .by_cases hj:i=j
  .subst hj; exact⟨u,e,ou⟩
  .rw[qE hj]at ej; exact⟨w,ej,oj⟩
 .by_cases hj:i=j
  .subst hj; exact⟨u',Ā hi⟩
  .exact⟨w,by rw[qE hj]; exact ej⟩
 .by_cases dD:b=a
  .subst dD; rw[zy]at hb; cases hb
  .rw[zx dD]at hb; exact hb
theorem Rp.iG{u:U}(h:Rp K H v u)(o:u.own=true):∃ a,v=.ref a:=let ⟨a,_,e,_⟩:=h.own o; ⟨a,e⟩
def Fz(K:qc)(H:Hp)(v:V)(H':Hp):Prop :=
 (∃ a xs o,v=.ref a/\K.lookup a=none/\H a=some (.lst xs)/\H'=upd H a (.aZ o<|.lst xs))\/(∃ a xs o,v=.ref a/\K.lookup a=none/\H a=some (.dT xs)/\H'=upd H a (.aZ o<|.dT xs))\/
  ((∀ a,v=.ref a->(∀ xs,H a≠some (.lst xs))/\∀ xs,H a≠some (.dT xs))/\H'=H)
def Gx(K:qc)(t:TE):TE:=λσ H Q=>t σ H λv H1=>∀ H2,Fz K H1 v H2->Q v H2
theorem Inv.nP{X:Cx}{xs:Qa V}(I:Inv X pins σ H s)(e:H a=some (.lst xs)):∃ o,s.heap.get? a=some o/\Inv X pins σ (upd H a<|.aZ o<|.lst xs) s:=by
 have ok:=(show be X.prog X.w X.K H s.heap a (.lst xs) from I.az a _ e);have(z,ae,n,r,h1):=id ok;refine⟨_,h1,?_⟩;have GP:be X.prog X.w X.K (upd H a<|.aZ {cls:=.type "list",data:=.seq ae.toArray n}<|.lst xs) s.heap a (.lst xs):=⟨z,ae,n,r,h1⟩;exact I.write (t':=s.toks) (h':=s.heap) (by rw[e]; trivial) (.inl rfl) (λ_ _ _ q=>q) ⟨_,h1⟩ ⟨h1,GP⟩
theorem Tb{X:Cx}{t:TE}(h:PE X e t):PE X e (Gx X.K t):=by
 intro pins s σ H Q I q;refine aF (h pins s σ H _ I q) λu s1 hZ=>?_;have(v,H1,I1,r,k):=hZ;have nk:∀ a c,H1 a=some c->X.K.lookup a=none:=λa c ea=>by
  cases q:X.K.lookup a with
  | none=>rfl
  | some o=>rw[(I1.bs a o<|I1.ok.mod.gv a o q).2]at ea; cases ea
 by_cases c1:∃ a xs,v=.ref a/\H1 a=some (.lst xs)
 .have(a,xs,ev,ea):=c1
  have(o,_,I2):=I1.nP ea;exact⟨v,_,I2,r,k _<|.inl ⟨a,xs,o,ev,nk a _ ea,ea,rfl⟩⟩
 .by_cases c2:∃ a xs,v=.ref a/\H1 a=some (.dT xs)
  .have(a,xs,ev,ea):=c2
   have(o,_,I2):=I1.freeze ea;exact⟨v,_,I2,r,k _<|.inr<|.inl ⟨a,xs,o,ev,nk a _ ea,ea,rfl⟩⟩
  .exact⟨v,H1,I1,r,k _<|.inr<|.inr ⟨λa ev=>⟨λxs z=>c1 ⟨a,xs,ev,z⟩,λxs z=>c2 ⟨a,xs,ev,z⟩⟩,rfl⟩⟩
theorem fZ{X:Cx}{t:TE}(h:Wr (PE X e t))(hK:X.K=K:=by rfl):Wr (PE X e<|Gx K t):=hK▸⟨Tb h.run⟩
def U.fz:U->Qb D
 | .d x=>some x
 | .l xs=>some<|.list xs
 | .t kvs=>some<|.dict<|kvs.map λp=>(gN p.1,p.2)
 | .k _=>none
 | .o _ _=>none
def eO(me:ME):ME:=λρ=>(me ρ).bind λp=>(p.1.get p.2).bind λu=>u.fz.bind λx=>some (.u<|.d x,match p.1 with | .s i=>p.2.set i (some<|.d x) | .u _=>p.2)
theorem U1{kvs:Qa (Qa Key×D)}(h:bB K H ws kvs):gE K H ws (kvs.map λp=>(gN p.1,p.2)):=by
 induction h with
 | nil=>exact .nil
 | @cons p q ps qs hq t ih=>
  have(k,v):=p;have(k',d):=q;have(e,hd):=hq;cases(show k=k' from e);exact .cons hd ih
theorem Fz.rp{u:U}{x:D}(h:Fz K H v H')(p:Rp K H v u)(e:u.fz=some x):DF K H' v x/\(u.own=false->H'=H)/\(u.own=true->∃ a o,v=.ref a/\H'=upd H a o):=by
 cases u with
 | d y=>
  cases e;have k:H'=H:=by
   rcases h with⟨a,xs,o,rfl,nk,ea,_⟩|⟨a,xs,o,rfl,nk,ea,_⟩|⟨_,rfl⟩
   .exfalso
    cases(show DF K H _ _ from p)with
    | tup h _=>
     rcases h with h|⟨ob,ae,n,hk,_⟩
     .rw[ea]at h; cases h
     .rw[nk]at hk; cases hk
    | lst h _=>
     rcases h with⟨o,h⟩|⟨ob,ae,n,hk,_⟩
     .rw[ea]at h; cases h
     .rw[nk]at hk; cases hk
    | ic h _=>rw[ea]at h; cases h
    | exc h _ _=>have(_,h,_):=h; rw[ea]at h; cases h
    | obj h _ _=>rw[ea]at h; cases h
   .exfalso
    cases(show DF K H _ _ from p)with
    | tup h _=>
     rcases h with h|⟨ob,ae,n,hk,_⟩
     .rw[ea]at h; cases h
     .rw[nk]at hk; cases hk
    | lst h _=>
     rcases h with⟨o,h⟩|⟨ob,ae,n,hk,_⟩
     .rw[ea]at h; cases h
     .rw[nk]at hk; cases hk
    | ic h _=>rw[ea]at h; cases h
    | exc h _ _=>have(_,h,_):=h; rw[ea]at h; cases h
    | obj h _ _=>rw[ea]at h; cases h
   .rfl
  subst k;exact⟨p,λ_=>rfl,λz=>by cases z⟩
 | l xs=>
  cases e;have(a,us,rfl,ea,ds):=p;rcases h with⟨a',i9,o,ev,_,eU,rfl⟩|⟨a',i9,o,ev,_,eU,_⟩|⟨z,_⟩
  .cases ev
   rw[ea]at eU;cases eU;exact⟨.lst (.inl ⟨o,zy⟩)<|ds.kp<|i3 ea trivial _,(λz=>by cases z),λ_=>⟨a,_,rfl,rfl⟩⟩
  .cases ev
   rw[ea]at eU;cases eU
  .exact absurd ea ((z a rfl).1 us)
 | t xs=>
  cases e;have(a,us,rfl,ea,ds):=p;rcases h with⟨a',i9,o,ev,_,eU,_⟩|⟨a',i9,o,ev,_,eU,rfl⟩|⟨z,_⟩
  .cases ev
   rw[ea]at eU;cases eU
  .cases ev
   rw[ea]at eU;cases eU;exact⟨.ic zy<|U1<|ds.kp<|i3 ea trivial _,(λz=>by cases z),λ_=>⟨a,_,rfl,rfl⟩⟩
  .exact absurd ea ((z a rfl).2 us)
 | k xs=>cases e
 | o=>cases e
theorem fY{t:TE}{m:ME}(h:VE K t m):VE K (Gx K t) (eO m):=by
 intro ρ σ H a ai Q r e q;obtain⟨⟨b,aj⟩,e1,e⟩:=zd e;have(u,eu,e):=zd e;have(x,ex,e):=zd e;cases e;refine h ρ σ H b aj _ r e1 λv H1 g1 k1=>λH2 fz=>?_;have p:=k1.now r g1 eu;have(d,f1,f2):=fz.rp p ex;cases b with
 | s i=>
  have ei:aj[i]?=some (some u):=by
   have z:(aj[i]?).join=some u:=eu;cases q:aj[i]? with
   | none=>rw[q]at z; cases z
   | some o=>rw[q]at z; cases o with
    | none=>cases z
    | some w=>cases z; rfl
  have hi:i < aj.length:=(ql.mp ei).1
  by_cases ou:u.own=true
  .have(a,o,rfl,rfl):=f2 ou
   exact q _ _ (g1.trans<|Go.own (u':=.d x) g1.rs ei ou k1.1 d) ⟨d,Nw.data⟩
  .have m6:u.own=false:=by simpa using ou
   cases f1 m6;cases u with
   | d y=>
    cases ex;have es:aj.set i (some<|.d x)=aj:=by
     apply List.ext_getElem?;intro j
     by_cases hj:i=j
     .subst hj; rw[List.getElem?_set_self hi,ei]
     .rw[qE hj]
    show Q v H1;refine q v H1 ?_ ⟨d,Nw.data⟩;show Go K ρ σ H (aj.set i<|some<|.d x) H1;rw[es];exact g1
   | l=>cases m6
   | t=>cases m6
   | k=>cases m6
   | o=>cases m6
 | u w=>
  cases(show some w=some u from eu)
  by_cases ou:u.own=true
  .have(a,o,rfl,rfl):=f2 ou
   have(a',eU,B6):=k1.2 ou;cases eU;obtain⟨c,hc,mc⟩:∃ c,H1 a=some c/\Mo c:=by
    have(b,c,eb,hb,m):=p.own ou;cases eb;exact⟨c,hb,m⟩
   have nw:¬Ow aj σ a:=by
    have(b,eb,nb):=k1.2.m3 r g1 ou;cases eb;exact nb
   have kp:=i3 hc mc o;refine q _ _ ⟨⟨g1.rs.len,λj y ej=>?_,g1.rs.apart⟩,λb ob hb n=>?_,g1.shr,λb hb=>?_⟩ ⟨d,Nw.data⟩
   .have(v,ev,p'):=g1.rs.rep j y ej
    refine⟨v,ev,p'.kp kp λoy b c' eb hb=>?_⟩;have ne:b≠a:=by
     rintro rfl;subst eb;exact nw ⟨j,y,ej,oy,ev⟩
    rw[zx ne];exact hb
   .have ne:b≠a:=by
     rintro rfl;rw[B6]at hb;cases hb
    rw[zx ne];exact g1.fr b ob hb n
   .by_cases dD:b=a
    .subst dD; exact B6
    .rw[zx dD]at hb; exact g1.dm b hb
  .have m6:u.own=false:=by simpa using ou
   cases f1 m6;exact q v H1 g1 ⟨d,Nw.data⟩
end
section
variable{ρ ai:En}
def bz(ρ:En):Qa Ar->Qb (Qa U)
 | []=>some []
 | a::as=>(a.get ρ).bind λu=>(bz ρ as).bind λus=>some<|u::us
def ju:Qa U->Qb (Qa D)
 | []=>some []
 | .d x::us=>(ju us).bind λxs=>some<|x::xs
 | _::_=>none
def tN(K:qc)(H:Hp):Qa V->Qa U->Prop:=Paired λv u=>Rp K H v u
theorem KD{vs:Qa V}{as:Qa Ar}{us:Qa U}(len:vs.length=as.length)(h:∀ (i:Nat) (a:Ar),as[i]?=some a->∃ v,vs[i]?=some v/\∀ u,a.get ρ=some u->Rp K H v u)(e:bz ρ as=some us):tN K H vs us:=by
 induction as generalizing vs us with
 | nil=>
  cases e;cases vs with
  | nil=>exact .nil
  | cons=>simp at len
 | cons a as ih=>
  have(u,eu,e):=zd e;have(O4,yu,e):=zd e;cases e;cases vs with
  | nil=>simp at len
  | cons v vs=>
   have(v',ev,k):=h 0 a rfl;cases(show some v=some v' from ev);exact .cons (k u eu)<|ih (by simpa using len) (λi b eb=>h (i+1) b eb) yu
theorem CO.pP{vs:Qa V}{as:Qa Ar}{us:Qa U}(r:Rs K ρ σ H)(g:Go K ρ σ H ai H')(s:CO K ai σ H H' vs as)(e:bz ai as=some us):tN K H' vs us :=
 KD s.len (λi a ea=>let ⟨v,ev,k⟩:=s.ar i a ea; ⟨v,ev,λu eu=>k.now r g eu⟩) e
theorem KC{vs:Qa V}{us:Qa U}{ds:Qa D}(h:tN K H vs us)(e:ju us=some ds):aK K H vs ds:=by
 induction h generalizing ds with
 | nil=>cases e; exact .nil
 | @cons v u vs us hv t ih=>
  cases u with
  | d x=>
   have(xs,ex,e):=zd (show(ju us).bind (λxs=>some<|x::xs)=some ds from e);cases e;exact .cons hv<|ih ex
  | l=>cases e
  | t=>cases e
  | k=>cases e
  | o=>cases e
def cz(ma:MA):ME:=λρ=>(ma ρ).bind λp=>(bz p.2 p.1).bind λus=>(ju us).bind λds=>if ds.length<=sizeLine then some (.u<|.d<|.tuple ds,p.2)else none
def oz(ma:MA):ME:=λρ=>(ma ρ).bind λp=>(bz p.2 p.1).bind λus=>(ju us).bind λds=>if ds.length<=sizeLine then some (.u<|.l ds,p.2)else none
theorem cR{t:TA}{m:MA}(h:jA K t m):VE K (Dh t) (cz m):=by
 intro ρ σ H a ai Q r e q;obtain⟨⟨as,aj⟩,e1,e⟩:=zd e;have(us,eu,e):=zd e;have(ds,ed,e):=zd e;split at e
 .rename_i hz
  cases e;refine h ρ σ H as _ _ r e1 λvs H1 g1 s1=>?_;have dd:=KC (s1.pP r g1 eu) ed;refine⟨by rw[dd.len]; exact hz,λp hp=>?_⟩;have sm:=zU hp (.tup vs);exact q _ _ (g1.trans<|Go.grow g1.rs sm) ⟨.tup (.inl zy)<|dd.kp sm.kp,Nw.data⟩
 .cases e
theorem v8{t:TA}{m:MA}(h:jA K t m):VE K (yP t) (oz m):=by
 intro ρ σ H a ai Q r e q;obtain⟨⟨as,aj⟩,e1,e⟩:=zd e;have(us,eu,e):=zd e;have(ds,ed,e):=zd e;split at e
 .rename_i hz
  cases e;refine h ρ σ H as _ _ r e1 λvs H1 g1 s1=>?_;have dd:=KC (s1.pP r g1 eu) ed;refine⟨by rw[dd.len]; exact hz,λp hp=>?_⟩;have sm:=zU hp (.lst vs);exact q _ _ (g1.trans<|Go.grow g1.rs sm) ⟨⟨p,_,rfl,zy,dd.kp sm.kp⟩,λ_=>⟨p,rfl,g1.dm p hp⟩⟩
 .cases e
def VC(K:qc)(r:Qa V->Hp->VK->Prop)(f:Qa U->Qb U):Prop :=
 ∀ (vs:Qa V) (us:Qa U) (u:U) (H:Hp) (Q:VK),tN K H vs us->f us=some u->(∀ v H',b9 H H'->Rp K H' v u->Nw H v u->Q v H')->r vs H Q
def bf(f:Qa U->Qb U)(ma:MA):ME:=λρ=>(ma ρ).bind λp=>(bz p.2 p.1).bind λus=>(f us).bind λu=>some (.u u,p.2)
theorem bC{f:Qa U->Qb U}{t:TA}{m:MA}(hc:VC K r f)(h:jA K t m):VE K (pO r t) (bf f m):=by
 intro ρ σ H a ai Q rs e q;obtain⟨⟨as,aj⟩,e1,e⟩:=zd e;have(us,eu,e):=zd e;have(u,ef,e):=zd e;cases e;refine h ρ σ H as _ _ rs e1 λvs H1 g1 s1=>hc vs us u H1 _ (s1.pP rs g1 eu) ef λv H2 s p n=>?_;exact q v H2 (g1.trans<|Go.grow g1.rs s) ⟨p,n.mono g1.dm⟩
def f1(f:U->Qb U):Qa U->Qb U
 | [u]=>f u
 | _=>none
theorem gH{f:U->Qb U}(h:∀ (v:V) (a u:U) (H:Hp) (Q:VK),Rp K H v a->f a=some u->(∀ v H',b9 H H'->Rp K H' v u->Nw H v u->Q v H')->r [v] H Q):VC K r (f1 f):=by
 intro vs us u H Q hr e q;cases hr with
 | nil=>cases e
 | cons h1 t=>
  cases t with
  | nil=>exact h _ _ _ _ _ h1 e q
  | cons=>cases e
def U.items:U->Qb (Qa D)
 | .d (.tuple xs)=>some xs
 | .d (.list xs)=>some xs
 | .l xs=>some xs
 | _=>none
theorem Rp.items{u:U}{xs:Qa D}(h:Rp K H v u)(e:u.items=some xs):∃ p ys,v=.ref p/\(bq K H p ys\/bg K H p ys)/\aK K H ys xs:=by
 cases u with
 | d x=>
  cases x with
  | tuple ds=>cases e; have(a,ys,rfl,h1,h2):=DF.aJ h; exact⟨a,ys,rfl,.inr<|(aM.sq h1),h2⟩
  | list ds=>cases e; have(a,ys,rfl,h1,h2):=DF.lst_inv h; exact⟨a,ys,rfl,.inl h1.sq,h2⟩
  | _=>cases e
 | l ds=>cases e; have(a,ys,rfl,h1,h2):=h; exact⟨a,ys,rfl,.inl<|bq.of h1,h2⟩
 | t=>cases e
 | k=>cases e
 | o=>cases e
def qX(u:U):Qb U:=u.items.map λxs=>.d<|.int xs.length
theorem AG:VC K (IZ K) (f1 qX):=gH λv a u H Q h e q=>by
 have(xs,ex,rfl):=qr.mp e;have(p,ys,rfl,s,d):=h.items ex;exact⟨p,ys,rfl,s,q _ _ (λ_ _ z=>z) (by rw[d.len]; exact .int _) Nw.data⟩
def k7(u:U):Qb U:=u.items.map λxs=>.d<|.tuple xs
theorem pC:VC K (ML K) (f1 k7):=gH λv a u H Q h e q=>by
 have(xs,ex,rfl):=qr.mp e;cases a with
 | d x=>
  cases x with
  | tuple ds=>
   cases ex;have(a,ys,rfl,h1,h2):=DF.aJ h;exact⟨a,ys,rfl,.inr ⟨(aM.sq h1),q _ _ (λ_ _ z=>z) (.tup h1 h2) Nw.data⟩⟩
  | list ds=>
   cases ex;have(a,ys,rfl,h1,h2):=DF.lst_inv h;refine⟨a,ys,rfl,.inl ⟨h1.sq,λl hl=>?_⟩⟩;have sm:=zU hl (.tup ys);exact q _ _ sm (.tup (.inl zy)<|h2.kp sm.kp) Nw.data
  | _=>cases ex
 | l ds=>
  cases ex;have(a,ys,rfl,h1,h2):=h;refine⟨a,ys,rfl,.inl ⟨bq.of h1,λl hl=>?_⟩⟩;have sm:=zU hl (.tup ys);exact q _ _ sm (.tup (.inl zy)<|h2.kp sm.kp) Nw.data
 | t=>cases ex
 | k=>cases ex
 | o=>cases ex
def qW:U->Qb U
 | .d (.int i)=>some<|.d<|.int (if i < 0 then -i else i)
 | _=>none
theorem AF:VC K (λxs H Q=>∃ i,xs=[.int i]/\Q (.int (if i < 0 then -i else i)) H) (f1 qW):=gH λv a u H Q h e q=>by
 unfold qW at e;split at e
 .rename_i i
  cases e;cases DF.int_inv h;exact⟨i,rfl,q _ _ (λ_ _ z=>z) (.int _) Nw.data⟩
 .cases e
def Al:U->Qb U
 | .d (.int i)=>some<|.d<|.int i
 | .d (.bool k)=>some<|.d<|.int (if k then 1 else 0)
 | _=>none
theorem Xx:VC K (λxs H Q=>(∃ i,xs=[.int i]/\Q (.int i) H)\/∃ k,xs=[.bl k]/\Q (.int (if k then 1 else 0)) H) (f1 Al):=gH λv a u H Q h e q=>by
 unfold Al at e;split at e
 .rename_i i
  cases e;cases DF.int_inv h;exact .inl ⟨i,rfl,q _ _ (λ_ _ z=>z) (.int _) Nw.data⟩
 .rename_i i
  cases e;cases DF.ik h;exact .inr ⟨i,rfl,q _ _ (λ_ _ z=>z) (.int _) Nw.data⟩
 .cases e
def iV:Qa D->Qb (Qa Int)
 | []=>some []
 | .int i::xs=>(iV xs).bind λis=>some<|i::is
 | _::_=>none
theorem wU{ys:Qa V}{xs:Qa D}(h:aK K H ys xs)(e:iV xs=some ns):ys=ns.map V.int:=by
 induction xs generalizing ys ns with
 | nil=>cases e; cases h; rfl
 | cons x xs ih=>
  cases h with
  | cons h1 t=>
   cases x with
   | int i=>
    have(is,ei,e):=zd (show(iV xs).bind (λis=>some<|i::is)=some ns from e);cases e;rw[ih t ei,DF.int_inv h1];rfl
   | _=>cases e
def kR(u:U):Qb U:=u.items.bind λxs=>(iV xs).map λns=>.d<|.int ns.sum
theorem AE:VC K (Jj K) (f1 kR):=gH λv a u H Q h e q=>by
 have(xs,ex,e):=zd e;have(ns,en,rfl):=qr.mp e;have(p,ys,rfl,s,d):=h.items ex;cases wU d en;exact⟨p,ns,rfl,s,q _ _ (λ_ _ z=>z) (.int _) Nw.data⟩
def t9(u:U):Qb U:=u.py.bind λx=>if x.hasDict=false/\x.showable=true/\x.shown.length<=sizeLine/\x.depth<=60 then some (.d<|.str x.shown)else none
theorem LA:VC K (DU K) (f1 t9):=gH λv a u H Q h e q=>by
 have(x,ex,e):=zd e;split at e
 .rename_i hc
  cases e;exact⟨v,x,rfl,h.dv ex hc.1,hc.2.1,hc.2.2.1,hc.2.2.2,q _ _ (λ_ _ z=>z) (.str _) Nw.data⟩
 .cases e
def mB(me:ME):MT:=λρ=>(me ρ).bind λp=>(p.1.get p.2).bind λu=>match u with | .d (.bool b)=>some (b,p.2) | _=>none
theorem kQ{t:TE}{m:ME}(h:VE K t m):VT K (tB t) (mB m):=by
 intro ρ σ H b ai Q r e q;obtain⟨⟨a,aj⟩,e1,e⟩:=zd e;have(u,eu,e):=zd e;split at e
 .cases e
  refine h ρ σ H a _ _ r e1 λv H1 g1 k1=>?_;exact⟨_,DF.ik<|k1.now r g1 eu,q _ g1⟩
 .cases e
theorem d4{t:TE}{m:ME}(h:VE K t m):VT K (D3 t) (mB m):=kQ h
def y0(ma mb:MT):MT:=λρ=>(ma ρ).bind λp=>if p.1=true then mb p.2 else some (false,p.2)
def sC(ma mb:MT):MT:=λρ=>(ma ρ).bind λp=>if p.1=true then some (true,p.2)else mb p.2
def jH(ma:MT):MT:=λρ=>(ma ρ).bind λp=>some (!p.1,p.2)
theorem U0{ta tb:TT}{ma mb:MT}(ha:VT K ta ma)(hb:VT K tb mb):VT K (Dw ta tb) (y0 ma mb):=by
 intro ρ σ H b ai Q r e q;obtain⟨⟨c,aj⟩,e1,e⟩:=zd e;refine ha ρ σ H c aj _ r e1 λH1 g1=>?_;dsimp only at e;split at e
 .rename_i hc
  rw[if_pos hc];exact hb aj σ H1 b ai _ g1.rs e λH2 g2=>q H2<|g1.trans g2
 .rename_i hc
  rw[if_neg hc];cases e;exact q H1 g1
theorem Ak{ta tb:TT}{ma mb:MT}(ha:VT K ta ma)(hb:VT K tb mb):VT K (Gw ta tb) (sC ma mb):=by
 intro ρ σ H b ai Q r e q;obtain⟨⟨c,aj⟩,e1,e⟩:=zd e;refine ha ρ σ H c aj _ r e1 λH1 g1=>?_;dsimp only at e;split at e
 .rename_i hc
  rw[if_pos hc];cases e;exact q H1 g1
 .rename_i hc
  rw[if_neg hc];exact hb aj σ H1 b ai _ g1.rs e λH2 g2=>q H2<|g1.trans g2
theorem oS{ta:TT}{ma:MT}(ha:VT K ta ma):VT K (Du ta) (jH ma):=by
 intro ρ σ H b ai Q r e q;obtain⟨⟨c,aj⟩,e1,e⟩:=zd e;cases e;exact ha ρ σ H c _ _ r e1 λH1 g1=>q H1 g1
def Aj(ma mb:ME):ME:=λρ=>(mB ma ρ).bind λp=>if p.1=true then mb p.2 else some (.u<|.d<|.bool false,p.2)
theorem zAh{a:Ar}{H2:Hp}{aj aw:En}(g1:Go K ρ σ H aj H1)(h:kU K aw σ H1 H2 v a):kU K aw σ H H2 v a:=by
 cases a with
 | s i=>exact h
 | u x=>exact⟨h.1,h.2.mono g1.dm⟩
theorem UZ{tb:TE}{ma mb:ME}(ha:VE K ta ma)(hb:VE K tb mb):VE K (D8 ta tb) (Aj ma mb):=by
 intro ρ σ H a ai Q r e q;obtain⟨⟨c,aj⟩,e1,e⟩:=zd e;refine kQ ha ρ σ H c aj (λc H1=>if c=true then tb σ H1 Q else Q (.bl false) H1) r e1 λH1 g1=>?_;dsimp only at e;split at e
 .rename_i hc
  rw[if_pos hc];exact hb aj σ H1 a ai _ g1.rs e λv H2 g2 k=>q v H2 (g1.trans g2)<|zAh g1 k
 .rename_i hc
  rw[if_neg hc];cases e;exact q _ H1 g1 ⟨.bl _,Nw.data⟩
def U.xw:U->Qb Bool
 | .d .none=>some false
 | .d (.bool b)=>some b
 | .d (.int i)=>some<|i != 0
 | .d (.str x)=>if x.length<=sizeLine then some ((x.length:Int) != 0)else none
 | .d (.tuple xs)=>some (!xs.isEmpty)
 | .d (.list xs)=>some (!xs.isEmpty)
 | .l xs=>some (!xs.isEmpty)
 | _=>none
theorem F8{ys:Qa V}{xs:Qa D}(h:aK K H ys xs):(!xs.isEmpty)=!ys.isEmpty:=by cases h<;>rfl
def vJ(ma:ME):MT:=λρ=>(ma ρ).bind λp=>(p.1.get p.2).bind λu=>u.xw.bind λb=>some (b,p.2)
theorem KA{ma:ME}(ha:VE K ta ma):VT K (I0 K ta) (vJ ma):=by
 intro ρ σ H b ai Q r e q;obtain⟨⟨a,aj⟩,e1,e⟩:=zd e;have(u,eu,e):=zd e;have(c,ec,e):=zd e;cases e;refine ha ρ σ H a _ _ r e1 λv H1 g1 k1=>⟨_,?_,q _ g1⟩;have p:=k1.now r g1 eu;cases u with
 | d x=>
  cases(show DF K H1 v x from p)with
  | aT=>cases ec; rfl
  | bl=>cases ec; rfl
  | int=>cases ec; rfl
  | str x=>
   unfold U.xw at ec;dsimp only at ec;split at ec
   .cases ec; exact⟨by assumption,rfl⟩
   .cases ec
  | tup h t=>cases ec; exact .inr<|.inl ⟨_,(aM.sq h),F8 t⟩
  | lst h t=>cases ec; exact .inl ⟨_,h.sq,F8 t⟩
  | ic=>cases ec
  | exc=>cases ec
  | obj=>cases ec
 | l xs=>cases ec; have(a,us,rfl,h1,h2):=p; exact .inl ⟨_,bq.of h1,F8 h2⟩
 | t=>cases ec
 | k=>cases ec
 | o=>cases ec
end
section
variable{ρ ai:En}
abbrev FD:=Qa U->Qb (U×Qa U)
def sm(xs:Qa U):En:=xs.map some
def cT(vs:Qa V):St:=vs.map some
def lP(K:qc)(n:Nat)(f:FD):Sp:=λvs H Q _=>∃ us r outs,us.length=n/\Rs K (sm us) (cT vs) H/\f us=some (r,outs)/\
 ∀ v H',Go K (sm us) (cT vs) H (sm outs) H'->Rp K H' v r->Nw H v r->Q v H'
def wb:En->Qa Ar->Qa U->En
 | ρ,.s j::as,o::os=>wb (ρ.set j<|some o) as os
 | ρ,.u _::as,_::os=>wb ρ as os
 | ρ,_,_=>ρ
def eV(ρ:En):Qa Ar->Bool
 | []=>true
 | .s j::as=>(match ρ[j]? with|some (some u)=>!u.own || !(as.any λa=>match a with | .s k=>decide (k=j) | _=>false) | _=>true) && eV ρ as
 | .u _::as=>eV ρ as
def aO(f:FD)(ma:MA):ME:=λρ=>(ma ρ).bind λp=>if eV p.2 p.1=true then(bz p.2 p.1).bind λus=>(f us).bind λo=>some (.u o.1,wb p.2 p.1 o.2)else none
theorem Bw:∀ {as:Qa Ar} {us:Qa U},bz ρ as=some us->us.length=as.length
 | [],us,e=>by cases e; rfl
 | a::as,us,e=>by
  have(u,eu,e):=zd e;have(O4,yu,e):=zd e;cases e;simp[Bw yu]
theorem Lz:∀ {as:Qa Ar} {us:Qa U} {i:Nat} {a:Ar},bz ρ as=some us->as[i]?=some a->∃ u,us[i]?=some u/\a.get ρ=some u
 | [],us,i,a,e,ea=>by simp at ea
 | b::as,us,i,a,e,ea=>by
  have(u,eu,e):=zd e;have(O4,yu,e):=zd e;cases e;cases i with
  | zero=>cases(show some b=some a from ea); exact⟨u,rfl,eu⟩
  | succ i=>exact Lz (i:=i) yu ea
theorem Fs:∀ {as:Qa Ar} {us:Qa U} {i:Nat} {u:U},bz ρ as=some us->us[i]?=some u->∃ a,as[i]?=some a/\a.get ρ=some u:=λ{as us i u} e eu=>by
 have hi:i < as.length:=by rw[<-Bw e]; exact(ql.mp eu).1
 have(u',e1,e2):=Lz e (qm hi);rw[eu]at e1;cases e1;exact⟨_,qm hi,e2⟩
theorem JH{u:U}(e:Ar.get ρ (.s j)=some u):ρ[j]?=some (some u):=by
 have z:(ρ[j]?).join=some u:=e;cases q:ρ[j]? with
 | none=>rw[q]at z; cases z
 | some o=>
  rw[q]at z;cases o with
  | none=>cases z
  | some w=>cases z; rfl
theorem Ly:∀ {as:Qa Ar} {p q j:Nat} {u:U},eV ρ as=true->as[p]?=some (.s j)->as[q]?=some (.s j)->ρ[j]?=some (some u)->u.own=true->p=q
 | [],p,q,j,u,_,e,_,_,_=>by simp at e
 | a::as,p,q,j,u,d,ep,eq,ej,ou=>by
  have dd:eV ρ as=true:=by
   cases a with
   | s k=>unfold eV at d; rw[Bool.and_eq_true]at d; exact d.2
   | u=>exact d
  have xJ:∀ {q':Nat},a=.s j->as[q']?=some (.s j)->False:=λ{q'} ea Cs=>by
   subst ea;unfold eV at d;rw[Bool.and_eq_true,ej]at d;have d1:=d.1;dsimp only at d1;rw[ou]at d1;have m:(as.any λa=>match a with | .s k=>decide (k=j) | _=>false)=true:=æ.mpr ⟨.s j,Ê Cs,by simp⟩;rw[m]at d1;cases d1
  cases p with
  | zero=>
   cases q with
   | zero=>rfl
   | succ q=>exact(xJ (qy ep) eq).elim
  | succ p=>
   cases q with
   | zero=>exact(xJ (qy eq) ep).elim
   | succ q=>exact congrArg (·+1)<|Ly dd ep eq ej ou
theorem fx{us:Qa U}{u:U}:(sm us)[i]?=some (some u)↔us[i]?=some u:=by
 unfold sm;rw[List.getElem?_map];cases us[i]?<;>simp
theorem uG{vs:Qa V}:(cT vs)[i]?=some (some v)↔vs[i]?=some v:=by
 unfold cT;rw[List.getElem?_map];cases vs[i]?<;>simp
theorem Ai:∀ {as:Qa Ar} {os:Qa U} {ρ:En} {j:Nat} {w:U},(wb ρ as os)[j]?=some (some w)->as.length=os.length->(∃ p:Nat,as[p]?=some (Ar.s j)/\os[p]?=some w)\/(ρ[j]?=some (some w)/\∀ p:Nat,as[p]?≠some (Ar.s j))
 | [],os,ρ,j,w,e,_=>.inr ⟨by cases os<;>exact e,λp z=>by simp at z⟩
 | a::as,[],ρ,j,w,e,l=>by simp at l
 | .u x::as,o::os,ρ,j,w,e,l=>by
  rcases Ai (as:=as) (os:=os) (ρ:=ρ) (show(wb ρ as os)[j]?=some (some w) from e) (by simpa using l)with⟨p,h1,h2⟩|⟨h1,h2⟩
  .exact .inl ⟨p+1,h1,h2⟩
  .refine .inr ⟨h1,λp z=>?_⟩
   cases p with
   | zero=>cases(show some (Ar.u x)=some (.s j) from z)
   | succ p=>exact h2 p z
 | .s k::as,o::os,ρ,j,w,e,l=>by
  rcases Ai (as:=as) (os:=os) (ρ:=ρ.set k (some o)) (show(wb (ρ.set k<|some o) as os)[j]?=some (some w) from e) (by simpa using l)with⟨p,h1,h2⟩|⟨h1,h2⟩
  .exact .inl ⟨p+1,h1,h2⟩
  .by_cases hk:k=j
   .subst hk
    have hl:k < (ρ.set k<|some o).length:=(ql.mp h1).1;rw[List.length_set]at hl;rw[List.getElem?_set_self hl]at h1;exact .inl ⟨0,rfl,by cases h1; rfl⟩
   .rw[qE hk]at h1
    refine .inr ⟨h1,λp z=>?_⟩;cases p with
    | zero=>cases(show some (Ar.s k)=some (.s j) from z); exact hk rfl
    | succ p=>exact h2 p z
theorem AD:∀ (ρ:En) (as:Qa Ar) (os:Qa U),(wb ρ as os).length=ρ.length
 | ρ,[],os=>by cases os<;>rfl
 | ρ,.s k::as,[]=>rfl
 | ρ,.u k::as,[]=>rfl
 | ρ,.s k::as,o::os=>by show(wb (ρ.set k<|some o) as os).length=_; rw[AD]; exact List.length_set
 | ρ,.u k::as,o::os=>AD ρ as os
theorem Bc:∀ {as:Qa Ar} {os:Qa U} {ρ:En} {j:Nat} {w:U},ρ[j]?=some (some w)->∃ w',(wb ρ as os)[j]?=some (some w')
 | [],os,ρ,j,w,e=>⟨w,by cases os<;>exact e⟩
 | .s k::as,[],ρ,j,w,e=>⟨w,e⟩
 | .u k::as,[],ρ,j,w,e=>⟨w,e⟩
 | .u k::as,o::os,ρ,j,w,e=>Bc (as:=as) (os:=os) e
 | .s k::as,o::os,ρ,j,w,e=>by
  by_cases hk:k=j
  .subst hk
   exact Bc (as:=as) (os:=os) (w:=o)<|Ā (ql.mp e).1
  .exact Bc (as:=as) (os:=os) (w:=w) (by rw[qE hk]; exact e)
theorem UY{as:Qa Ar}{us:Qa U}{vs:Qa V}{aj:En}(rs:Rs K ρ σ H)(g1:Go K ρ σ H aj H1)(s1:CO K aj σ H H1 vs as)(dj:eV aj as=true)(eu:bz aj as=some us):
  Rs K (sm us) (cT vs) H1/\∀ (outs:Qa U) (H2:Hp),Go K (sm us) (cT vs) H1 (sm outs) H2->Go K ρ σ H (wb aj as outs) H2:=by
 have rp:=s1.pP rs g1 eu;have lus:=Bw eu;have B7:=s1.len;have adr:∀ (i:Nat) (u:U),us[i]?=some u->u.own=true->∃ b,vs[i]?=some (.ref b)/\((∃ j,as[i]?=some (.s j)/\σ[j]?=some (some<|.ref b)/\aj[j]?=some (some u))\/(as[i]?=some (.u u)/\H b=none)):=λi u ei ou=>by
  have(a,ea,eg):=Fs eu ei;have(v,ev,k):=s1.ar i a ea;have p:=k.now rs g1 eg;have(b,rfl):=p.iG ou;refine⟨b,ev,?_⟩;cases a with
  | s j=>exact .inl ⟨j,ea,k.1,JH eg⟩
  | u x=>
   cases(show some x=some u from eg);have(b',eb,hb):=k.2 ou;cases eb;exact .inr ⟨ea,hb⟩
 have apart:∀ (i j:Nat) (u w:U),us[i]?=some u->us[j]?=some w->u.own=true->w.own=true->vs[i]?=vs[j]?->i=j:=λi j u w ei ej ou ow ev=>by
  have(b,vb,hb):=adr i u ei ou;have(c,vc,hc):=adr j w ej ow;have bc:b=c:=by rw[vb,vc]at ev; cases ev; rfl
  subst bc;rcases hb with⟨x,ax,sx,rx⟩|⟨ax,nx⟩
  .rcases hc with⟨y,ay,sy,ry⟩|⟨ay,ny⟩
   .have xy:x=y:=g1.rs.apart x y u w rx ry ou ow (by rw[sx,sy])
    subst xy;exact Ly dj ax ay rx ou
   .exfalso
    have(w',cK,rX):=g1.shr.own x u rx ou;have(c',hJ,_):=rs.ow ⟨x,w',cK,rX,sx⟩;rw[ny]at hJ;cases hJ
  .rcases hc with⟨y,ay,sy,ry⟩|⟨ay,ny⟩
   .exfalso
    have(w',cK,rX):=g1.shr.own y w ry ow;have(c',hJ,_):=rs.ow ⟨y,w',cK,rX,sy⟩;rw[nx]at hJ;cases hJ
   .exact s1.ap i j u w ax ay ou ow ev
 have B2:Rs K (sm us) (cT vs) H1:=by
  refine⟨by unfold sm cT; rw[List.length_map,List.length_map]; omega,λi u ei=>?_,λi j u w ei ej ou ow ev=>?_⟩
  .have qH:=fx.mp ei
   have(a,ea,eg):=Fs eu qH;have(v,ev,k):=s1.ar i a ea;exact⟨v,uG.mpr ev,k.now rs g1 eg⟩
  .have qH:=fx.mp ei
   have nU:=fx.mp ej;refine apart i j u w qH nU ou ow ?_;have(b,vb,_):=adr i u qH ou;have(c,vc,_):=adr j w nU ow;rw[uG.mpr vb,uG.mpr vc]at ev;rw[vb,vc];exact qy ev
 refine⟨B2,λouts H2 g2=>?_⟩;have lo:outs.length=us.length:=by have:=g2.shr.len; unfold sm at this; simpa using this
 have kp2:=g2.kp B2;have owA:∀ b,Ow (sm us) (cT vs) b->Ow aj σ b\/H b=none:=λb ⟨i,u,ei,ou,es⟩=>by
  have(c,vc,hc):=adr i u (fx.mp ei) ou;rw[uG.mp es]at vc;cases vc;rcases hc with⟨j,_,sj,rj⟩|⟨_,nb⟩
  .exact .inl ⟨j,u,rj,ou,sj⟩
  .exact .inr nb
 have rY:∀ (i:Nat) (w:U),outs[i]?=some w->∃ x,vs[i]?=some x/\Rp K H2 x w:=λi w ei=>by
  have(x,ex,px):=g2.rs.rep i w (fx.mpr ei);exact⟨x,uG.mp ex,px⟩
 have PV:as.length=outs.length:=by omega
 have fE:∀ (j:Nat) (w:U),(wb aj as outs)[j]?=some (some w)->w.own=true->∃ w',aj[j]?=some (some w')/\w'.own=true:=λj w ej ow=>by
  rcases Ai ej PV with⟨p,ap,op⟩|⟨h1,_⟩
  .have(w',cK,rX):=g2.shr.own p w (fx.mpr op) ow
   have(a,ea,eg):=Fs eu (fx.mp cK);rw[ap]at ea;cases ea;exact⟨w',JH eg,rX⟩
  .exact⟨w,h1,ow⟩
 refine⟨⟨by rw[AD]; exact g1.rs.len,λj w ej=>?_,λi j u w ei ej ou ow es=>?_⟩,λb ob hb nb=>?_,?_,λb hb=>g1.dm b<|g2.dm b hb⟩
 .rcases Ai ej PV with⟨p,ap,op⟩|⟨h1,h2⟩
  .have(x,vx,px):=rY p w op
   have(v',tK,k'):=s1.ar p _ ap;rw[vx]at tK;cases tK;exact⟨x,k'.1,px⟩
  .have(x,ex,px):=g1.rs.rep j w h1
   refine⟨x,ex,px.kp kp2 λow b c eb hb=>?_⟩;refine g2.fr b c hb λ⟨i,u,ei,ou,es⟩=>?_;have(c',O3,hJ):=adr i u (fx.mp ei) ou;rw[uG.mp es]at O3;cases O3;subst eb;rcases hJ with⟨k,ak,sk,rk⟩|⟨_,nb⟩
   .have:k=j:=g1.rs.apart k j u w rk h1 ou ow (by rw[sk,ex])
    subst this;exact h2 i ak
   .have(w',cK,rX):=g1.shr.own j w h1 ow
    have(c'',yi,_):=rs.ow ⟨j,w',cK,rX,ex⟩;rw[nb]at yi;cases yi
 .have(x,ex,ox):=fE i u ei ou
  have(y,ey,oy):=fE j w ej ow;exact g1.rs.apart i j x y ex ey ox oy es
 .refine g2.fr b ob (g1.fr b ob hb nb) λz=>?_
  rcases owA b z with z|z
  .exact nb (g1.shr.ow z)
  .rw[z]at hb; cases hb
 .refine⟨by rw[AD]; exact g1.shr.len,λj w ej ow=>?_,λj w ej=>?_⟩
  .have(x,ex,ox):=fE j w ej ow
   exact g1.shr.own j x ex ox
  .have(x,ex):=g1.shr.live j w ej
   exact Bc ex
theorem Ta:∀ ρ as ai,zu ρ=some (as,ai)->as.length=0:=λρ as ai e=>by cases e; rfl
theorem UX{me:ME}{ma:MA}(h:∀ ρ as ai,ma ρ=some (as,ai)->as.length=n):∀ ρ as ai,zj me ma ρ=some (as,ai)->as.length=n+1:=λρ as ai e=>by
 obtain⟨⟨a1,aj⟩,e1,e⟩:=zd e;obtain⟨⟨Cy,aw⟩,e2,e⟩:=zd e;cases e;simp[h _ _ _ e2]
theorem zI{f:FD}{t:TA}{m:MA}(n:Nat)(h:jA K t m)(hn:∀ ρ as ai,m ρ=some (as,ai)->as.length=n:=by repeat (first|exact Ta|refine UX ?_)):VE K (Dr (lP K n f) t) (aO f m):=by
 intro ρ σ H a ai Q rs e q;obtain⟨⟨as,aj⟩,e1,e⟩:=zd e;dsimp only at e;split at e
 .rename_i dj
  have(us,eu,e):=zd e;obtain⟨⟨r,outs⟩,ef,e⟩:=zd e;cases e;refine h ρ σ H as aj _ rs e1 λvs H1 g1 s1=>?_;have(B2,back):=UY rs g1 s1 dj eu;exact⟨us,r,outs,by rw[Bw eu]; exact hn _ _ _ e1,B2,ef,λv H2 g2 p n2=>q v H2 (back outs H2 g2) ⟨p,n2.mono g1.dm⟩⟩
 .cases e
end
inductive Fl where
 | nx (ρ:En) | bk (ρ:En) | ct (ρ:En) | rt (u:U) (ρ:En) | ex (x:D) (ρ:En)
def Jf(K:qc)(H:Hp)(a:Qg)(x:D):Prop:=∃ n C fs ds,x=.dict ((.none,.str n)::ds)/\zAg H a C fs/\XN K n C/\jB K H fs ds
structure Sn (K:qc) (pn:Qa Nat) (ah:St) (A:Qg->Prop) (aq av:Hp) (ρ:En) (σ:St) (H:Hp):Prop where
 rs:Rs K ρ σ H
 fr:yE A aq H
 ow:∀ (i:Nat) (u:U) (a:Qg),ρ[i]?=some (some u)->u.own=true->σ[i]?=some (some<|.ref a)->(i∈pn/\A a)\/aq a=none
 pin:∀ i∈pn,σ[i]?=ah[i]?
 dm:∀ a,H a=none->aq a=none
 kp:Kp av H
def Rv:fK:=λ_ _ _=>False
def zAi(K:qc)(pn:Qa Nat)(EX:fK)(ah:St)(A:Qg->Prop)(aq av:Hp)(D:Ends):Fl->Prop
 | .nx ρ=>∀ σ H,Sn K pn ah A aq av ρ σ H->D.nx σ H
 | .bk ρ=>∀ σ H,Sn K pn ah A aq av ρ σ H->D.bk σ H
 | .ct ρ=>∀ σ H,Sn K pn ah A aq av ρ σ H->D.ct σ H
 | .rt u ρ=>∀ v σ H,Sn K pn ah A aq av ρ σ H->Rp K H v u->Nw aq v u->D.rt v H
 | .ex x ρ=>∀ a σ H,Sn K pn ah A aq av ρ σ H->aq a=none->Jf K H a x->EX σ a H
abbrev MS:=En->Qb Fl
def VS(K:qc)(pn:Qa Nat)(EX:fK)(t:TS)(m:MS):Prop :=
 ∀ (ah:St) (A:Qg->Prop) (aq av:Hp) (ρ:En) (σ:St) (H:Hp) (f:Fl) (D:Ends),Sn K pn ah A aq av ρ σ H->m ρ=some f->zAi K pn EX ah A aq av D f->t D σ H
section
variable{EX:fK}{A:Qg->Prop}{kH:Hp}{ρ ai:En}
theorem Sn.go(s:Sn K pn ah A aq av ρ σ H)(g:Go K ρ σ H ai H'):Sn K pn ah A aq av ai σ H':=by
 refine⟨g.rs,λa o h n=>g.fr a o (s.fr a o h n) λ⟨i,u,e,ou,es⟩=>?_,λi u a e o es=>?_,s.pin,λa h=>s.dm a<|g.dm a h,s.kp.trans<|g.kp s.rs⟩
 .rcases s.ow i u a e ou es with z|z
  .exact n z.2
  .rw[z]at h; cases h
 .have(w,e',o'):=g.shr.own i u e o
  exact s.ow i w a e' o' es
theorem Sn.re(s:Sn K pn ah A aq kH ρ σ H)(k:Kp av kH):Sn K pn ah A aq av ρ σ H:=⟨s.rs,s.fr,s.ow,s.pin,s.dm,k.trans s.kp⟩
theorem Sn.at(s:Sn K pn ah A aq av ρ σ H):Sn K pn ah A aq H ρ σ H:=⟨s.rs,s.fr,s.ow,s.pin,s.dm,Kp.refl H⟩
theorem Sn.set{u:U}(s:Sn K pn ah A aq av ρ σ H)(hi:i∉pn)(p:Rp K H v u)(n:u.own=true->∃ a,v=.ref a/\aq a=none/\¬Ow ρ σ a):Sn K pn ah A aq av (ρ.set i<|some u) (σ.set i<|some v) H:=by
 have ll:=s.rs.len;have inv:∀ (j:Nat) (w:U),(ρ.set i<|some u)[j]?=some (some w)->(j=i/\w=u/\i < ρ.length)\/(j≠i/\ρ[j]?=some (some w)):=λj w e=>by
  by_cases hj:i=j
  .subst hj
   have hl:=(ql.mp e).1;rw[List.length_set]at hl;rw[List.getElem?_set_self hl]at e;cases e;exact .inl ⟨rfl,rfl,hl⟩
  .rw[qE hj]at e
   exact .inr ⟨Ne.symm hj,e⟩
 have sat:∀ j,j≠i->(σ.set i<|some v)[j]?=σ[j]?:=λj h=>qE<|Ne.symm h;have iF:i < ρ.length->(σ.set i<|some v)[i]?=some (some v):=λh=>Ā (by omega);refine⟨⟨by rw[List.length_set,List.length_set]; exact ll,λj w e=>?_,λj k x y ej ek ox oy es=>?_⟩,s.fr,λj w a e o es=>?_,λj hj=>?_,s.dm,s.kp⟩
 .rcases inv j w e with⟨rfl,rfl,hl⟩|⟨hj,e'⟩
  .exact⟨v,iF hl,p⟩
  .rw[sat j hj]
   exact s.rs.rep j w e'
 .rcases inv j x ej with⟨rfl,rfl,hl⟩|⟨hj,nU⟩
  .rcases inv k y ek with⟨rfl,rfl,_⟩|⟨hk,yw⟩
   .rfl
   .exfalso
    have(a,rfl,_,na):=n ox;rw[iF hl,sat k hk]at es;exact na ⟨k,y,yw,oy,es.symm⟩
  .rcases inv k y ek with⟨rfl,rfl,hl⟩|⟨hk,yw⟩
   .exfalso
    have(a,rfl,_,na):=n oy;rw[iF hl,sat j hj]at es;exact na ⟨j,x,nU,ox,es⟩
   .rw[sat j hj,sat k hk]at es
    exact s.rs.apart j k x y nU yw ox oy es
 .rcases inv j w e with⟨rfl,rfl,hl⟩|⟨hj,e'⟩
  .rw[iF hl]at es
   cases es;have(b,eb,hb,_):=n o;cases eb;exact .inr hb
  .rw[sat j hj]at es
   exact s.ow j w a e' o es
 .rw[sat j λz=>hi<|z▸hj]
  exact s.pin j hj
theorem kU.own{a:Ar}{u:U}(r:Rs K ρ σ H)(g:Go K ρ σ H ai H')(k:kU K ai σ H H' v a)(e:a.get ai=some u)(nc:∀ j,a=.s j->u.own=false):Nw H v u/\(u.own=true->∃ b,v=.ref b/\¬Ow ai σ b):=by
 cases a with
 | s j=>exact⟨(λo=>by rw[nc j rfl]at o; cases o),λo=>by rw[nc j rfl]at o; cases o⟩
 | u x=>
  cases(show some x=some u from e);exact⟨k.2,k.2.m3 r g⟩
def put(p:Ar×En):Qb (U×En):=match p.1 with
 | .s i=>match p.2[i]? with
  | some (some<|.d x)=>some (.d x,p.2)
  | _=>none
 | .u u=>some (u,p.2)
theorem Kz{a:Ar}{u:U}{aj aw:En}(e:put (a,aj)=some (u,aw)):aw=aj/\a.get aj=some u/\∀ j,a=.s j->u.own=false:=by
 cases a with
 | s i=>
  unfold put at e;dsimp only at e;split at e
  .rename_i x ex
   cases e;refine⟨rfl,?_,λ_ _=>rfl⟩;show(aj[i]?).join=_;rw[ex];rfl
  .cases e
 | u x=>
  cases e;exact⟨rfl,rfl,λj z=>by cases z⟩
def aS(i:Nat)(me:ME):MS:=λρ=>(me ρ).bind λp=>(put p).bind λq=>some<|.nx<|q.2.set i<|some q.1
theorem zM{me:ME}(h:VE K te me)(hi:i∉pn:=by decide):VS K pn EX (om te<|jv i) (aS i me):=by
 intro ah A aq av ρ σ H f D s e k;obtain⟨⟨a,aj⟩,e1,e⟩:=zd e;obtain⟨⟨u,aw⟩,e2,e3⟩:=zd e;clear e;have(rfl,eg,nc):=Kz e2;cases e3;refine h ρ σ H a aw _ s.rs e1 λv H1 g1 k1=>?_;have(n1,n2):=k1.own s.rs g1 eg nc;have s1:=s.go g1;refine k _ _<|s1.set hi (k1.now s.rs g1 eg) λo=>?_;have(b,rfl,hb):=n2 o;have(b',eb,dD):=n1 o;cases eb;exact⟨b,rfl,s.dm b dD,hb⟩
def zK(m1 m2:MS):MS:=λρ=>(m1 ρ).bind λf=>match f with
 | .nx ai=>m2 ai
 | f=>some f
theorem zz{t1 t2:TS}{m1 m2:MS}(h1:VS K pn EX t1 m1)(h2:VS K pn EX t2 m2):VS K pn EX (Dz t1 t2) (zK m1 m2):=by
 intro ah A aq av ρ σ H f D s e k;have(f1,e1,e):=zd e;refine h1 ah A aq av ρ σ H f1 _ s e1 ?_;cases f1 with
 | nx aj=>exact λc9 H1 s1=>h2 ah A aq av aj c9 H1 f D s1 e k
 | bk aj=>cases e; exact k
 | ct aj=>cases e; exact k
 | rt u aj=>cases e; exact k
 | ex x aj=>cases e; exact k
def cN:MS:=λρ=>some<|.nx ρ
theorem eE:VS K pn EX D7 cN:=λah A aq av ρ σ H f D s e k=>by cases e; exact k σ H s
def cy(mt:MT)(m1 m2:MS):MS:=λρ=>(mt ρ).bind λp=>if p.1=true then m1 p.2 else m2 p.2
theorem dN{t1 t2:TS}{mt:MT}{m1 m2:MS}(ht:VT K tt mt)(h1:VS K pn EX t1 m1)(h2:VS K pn EX t2 m2):VS K pn EX (Dy tt t1 t2) (cy mt m1 m2):=by
 intro ah A aq av ρ σ H f D s e k;obtain⟨⟨c,aj⟩,e1,e⟩:=zd e;refine ht ρ σ H c aj _ s.rs e1 λH1 g1=>?_;dsimp only at e;split at e
 .rename_i hc
  rw[if_pos hc];exact h1 ah A aq av aj σ H1 f D (s.go g1) e k
 .rename_i hc
  rw[if_neg hc];exact h2 ah A aq av aj σ H1 f D (s.go g1) e k
theorem AB{t:TS}{m:MS}(h:VS K pn EX t m):VS K pn EX (Ea t) m:=by
 intro ah A aq av ρ σ H f D s e k;cases f with
 | nx aj=>exact⟨λaE H'=>Sn K pn ah A aq av aj aE H',h ah A aq av ρ σ H _ _ s e λaE H' s'=>s',λaE H' s'=>k aE H' s'⟩
 | bk aj=>exact⟨D.nx,h ah A aq av ρ σ H _ _ s e k,λ_ _ z=>z⟩
 | ct aj=>exact⟨D.nx,h ah A aq av ρ σ H _ _ s e k,λ_ _ z=>z⟩
 | rt u aj=>exact⟨D.nx,h ah A aq av ρ σ H _ _ s e k,λ_ _ z=>z⟩
 | ex x aj=>exact⟨D.nx,h ah A aq av ρ σ H _ _ s e k,λ_ _ z=>z⟩
def t8(me:ME):MS:=λρ=>(me ρ).bind λp=>some<|.nx p.2
theorem Ky{me:ME}(h:VE K te me):VS K pn EX (D6 te) (t8 me):=by
 intro ah A aq av ρ σ H f D s e k;obtain⟨⟨a,aj⟩,e1,e⟩:=zd e;cases e;exact h ρ σ H a _ _ s.rs e1 λv H1 g1 k1=>k σ H1<|s.go g1
def bY(me:ME):MS:=λρ=>(me ρ).bind λp=>(put p).bind λq=>some<|.rt q.1 q.2
theorem cn{me:ME}(h:VE K te me):VS K pn EX (y9 te) (bY me):=by
 intro ah A aq av ρ σ H f D s e k;obtain⟨⟨a,aj⟩,e1,e⟩:=zd e;obtain⟨⟨u,aw⟩,e2,e3⟩:=zd e;clear e;have(rfl,eg,nc):=Kz e2;cases e3;refine h ρ σ H a _ _ s.rs e1 λv H1 g1 k1=>?_;have(n1,n2):=k1.own s.rs g1 eg nc;exact k v σ H1 (s.go g1) (k1.now s.rs g1 eg)<|n1.mono s.dm
def jK(pn:Qa Nat)(i:Nat):MS:=λρ=>if i∈pn then none else(match ρ[i]? with
 | some (some u)=>some<|.rt u<|ρ.set i none
 | _=>none)
theorem uF:VS K pn EX (y9<|mq i) (jK pn i):=by
 intro ah A aq av ρ σ H f D s e k;unfold jK at e;split at e
 .cases e
 rename_i hi;split at e
 .rename_i u eu
  cases e;have(v,ev,p):=s.rs.rep i u eu;have back:∀ (j:Nat) (w:U),(ρ.set i none)[j]?=some (some w)->ρ[j]?=some (some w):=λj w e=>by
   by_cases hj:i=j
   .subst hj
    have hl:=(ql.mp e).1;rw[List.length_set]at hl;rw[List.getElem?_set_self hl]at e;cases e
   .rw[qE hj]at e
    exact e
  refine⟨v,ev,k v σ H ⟨⟨by rw[List.length_set]; exact s.rs.len,λj w e=>s.rs.rep j w<|back j w e,λa b x y ea eb=>s.rs.apart a b x y (back a x ea)<|back b y eb⟩,s.fr,λj w a e=>s.ow j w a<|back j w e,s.pin,s.dm,s.kp⟩ p λo=>?_⟩;have(a,rfl):=p.iG o;rcases s.ow i u a eu o ev with z|z
  .exact absurd z.1 hi
  .exact⟨a,rfl,z⟩
 .cases e
end
section
variable{EX:fK}{A:Qg->Prop}{kH:Hp}{ρ ai:En}
def Kx(K:qc)(J:It)(av:Hp)(ds:Qa D):Prop:=∀ H,Kp av H->∀ i:Nat,(∀ d,ds[i]?=some d->J.go i H/\∀ x H',J.u9 i H x H'->b9 H H'/\DF K H' x d)/\(i=ds.length->J.stop i H)
abbrev MI:=En->Qb (Qa D×En)
def VI(K:qc)(wi:TI)(mi:MI):Prop :=
 ∀ (ρ:En) (σ:St) (H:Hp) (ds:Qa D) (ai:En) (R:It->Hp->Prop),Rs K ρ σ H->mi ρ=some (ds,ai)->(∀ J H',Go K ρ σ H ai H'->Kx K J H' ds->R J H')->wi σ H R
def tT:U->Qb (Qa D)
 | .d (.list xs)=>some xs
 | _=>none
def tS:U->Qb (Qa D)
 | .d (.tuple xs)=>some xs
 | _=>none
def d9(f:U->Qb (Qa D))(me:ME):MI:=λρ=>(me ρ).bind λp=>(p.1.get p.2).bind λu=>(f u).bind λds=>some (ds,p.2)
theorem EO{me:ME}(h:VE K te me):VI K (D5 K te) (d9 tT me):=by
 intro ρ σ H ds ai R r e q;obtain⟨⟨a,aj⟩,e1,e⟩:=zd e;have(u,eu,e):=zd e;have(xs,ex,e):=zd e;cases e;refine h ρ σ H a _ _ r e1 λv H1 g1 k1=>?_;have p:=k1.now r g1 eu;unfold tT at ex;split at ex
 .cases ex
  have(b,ys,rfl,h1,h2):=DF.lst_inv p;refine⟨b,rfl,⟨ys,h1.sq⟩,q _ _ g1 λH2 k i=>⟨λd ed=>?_,λei=>?_⟩⟩
  .have(v,ev,dv):=(h2.kp k).get ed
   refine⟨⟨ys,v,(h1.kp k).sq,ev⟩,λx H' y=>?_⟩;have(rfl,y):=y;have:=y ys (h1.kp k).sq;rw[ev]at this;cases this;exact⟨λ_ _ z=>z,dv⟩
  .exact⟨ys,(h1.kp k).sq,by rw[h2.len]; omega⟩
 .cases ex
theorem Ej{me:ME}(h:VE K te me):VI K (Dm K te) (d9 tS me):=by
 intro ρ σ H ds ai R r e q;obtain⟨⟨a,aj⟩,e1,e⟩:=zd e;have(u,eu,e):=zd e;have(xs,ex,e):=zd e;cases e;refine h ρ σ H a _ _ r e1 λv H1 g1 k1=>?_;have p:=k1.now r g1 eu;unfold tS at ex;split at ex
 .cases ex
  have(b,ys,rfl,h1,h2):=DF.aJ p;refine⟨b,rfl,⟨ys,(aM.sq h1)⟩,q _ _ g1 λH2 k i=>⟨λd ed=>?_,λei=>?_⟩⟩
  .have(v,ev,dv):=(h2.kp k).get ed
   refine⟨⟨ys,v,(aM.kp k h1).sq,ev⟩,λx H' y=>?_⟩;have(rfl,y):=y;have:=y ys ((aM.kp k h1).sq);rw[ev]at this;cases this;exact⟨λ_ _ z=>z,dv⟩
  .exact⟨ys,(aM.kp k h1).sq,by rw[h2.len]; omega⟩
 .cases ex
def gK(lo:Int)(n:Nat):Qa D:=(List.range n).map λi=>.int<|lo+(i:Nat)
theorem w6(lo:Int)(n:Nat):(gK lo n).length=n:=by simp[gK]
theorem FQ{lo:Int}{d:D}(h:(gK lo n)[i]?=some d):i < n/\d=.int (lo+(i:Nat)):=by
 have hl:=(ql.mp h).1;rw[w6]at hl;refine⟨hl,?_⟩;unfold gK at h;rw[List.getElem?_map,List.getElem?_range hl]at h;cases h;rfl
theorem zmb{lo:Int}:Kx K (CH lo n) av (gK lo n):=λH k i=>⟨λd ed=>by
  have(hi,rfl):=FQ ed;refine⟨hi,λx H' y=>?_⟩;have(rfl,rfl):=y;exact⟨λ_ _ z=>z,.int _⟩,λei=>by rw[w6]at ei; exact Nat.le_of_eq ei.symm⟩
def oK(ma:MA):MI:=λρ=>(ma ρ).bind λp=>(bz p.2 p.1).bind λus=>match us with
 | [.d<|.int j]=>if -(2^62)<=j/\j < 2^62 then some (gK 0 j.toNat,p.2)else none
 | _=>none
theorem wI{ta:TA}{ma:MA}(h:jA K ta ma):VI K (D4 ta) (oK ma):=by
 intro ρ σ H ds ai R r e q;obtain⟨⟨as,aj⟩,e1,e⟩:=zd e;have(us,eu,e):=zd e;refine h ρ σ H as aj _ r e1 λvs H1 g1 s1=>?_;have rp:=s1.pP r g1 eu;dsimp only at e;split at e
 .split at e
  .rename_i j hc
   cases e;cases rp with
   | cons h1 t=>
    cases t;cases DF.int_inv h1;exact⟨j,rfl,hc.1,hc.2,q _ _ g1 zmb⟩
  .cases e
 .cases e
abbrev MG:=D->En->Qb En
def zAj(pn:Qa Nat)(mg:MG):Prop:=∀ d ρ ai,mg d ρ=some ai->ai.length=ρ.length/\∀ i∈pn,ai[i]?=ρ[i]?
def S9(pn:Qa Nat)(mg:Qa D->En->Qb En):Prop:=∀ ds ρ ai,mg ds ρ=some ai->ai.length=ρ.length/\∀ i∈pn,ai[i]?=ρ[i]?
structure qK (K:qc) (pn:Qa Nat) (g:TG) (mg:MG):Prop where
 run:∀ (ah:St) (A:Qg->Prop) (aq av:Hp) (ρ:En) (σ:St) (H:Hp) (v:V) (d:D) (ai:En) (Q:St->Hp->Prop),Sn K pn ah A aq av ρ σ H->DF K H v d->mg d ρ=some ai->(∀ aE,Sn K pn ah A aq av ai aE H->Q aE H)->g v σ H Q
 ok:zAj pn mg
structure CA (K:qc) (pn:Qa Nat) (g:gS) (mg:Qa D->En->Qb En):Prop where
 run:∀ (ah:St) (A:Qg->Prop) (aq av:Hp) (ρ:En) (σ:St) (H:Hp) (vs:Qa V) (ds:Qa D) (ai:En) (Q:St->Hp->Prop),Sn K pn ah A aq av ρ σ H->aK K H vs ds->mg ds ρ=some ai->(∀ aE,Sn K pn ah A aq av ai aE H->Q aE H)->g vs σ H Q
 ok:S9 pn mg
def zE(i:Nat):MG:=λd ρ=>some<|ρ.set i<|some<|.d d
theorem zD(hi:i∉pn:=by decide):qK K pn (jv i) (zE i) where
 run:=by
  intro ah A aq av ρ σ H v d ai Q s h e q;cases e;exact q _ (s.set hi (u:=.d d) h λo=>by cases o)
 ok:=λd ρ ai e=>by
  cases e;exact⟨List.length_set,λj hj=>qE (by rintro rfl; exact hi hj)⟩
def gq:Qa D->En->Qb En:=λds ρ=>match ds with | []=>some ρ|_=>none
def bZ(g:MG)(gs:Qa D->En->Qb En):Qa D->En->Qb En:=λds ρ=>match ds with
 | d::ds=>(g d ρ).bind λaj=>gs ds aj
 | []=>none
theorem iz:CA K pn y7 gq where
 run:=by
  intro ah A aq av ρ σ H vs ds ai Q s h e q;cases h with
  | nil=>cases e; exact⟨rfl,q σ s⟩
  | cons=>cases e
 ok:=λds ρ ai e=>by
  cases ds with
  | nil=>cases e; exact⟨rfl,λ_ _=>rfl⟩
  | cons=>cases e
theorem zW{gs:gS}{mg:MG}{si:Qa D->En->Qb En}(h1:qK K pn g mg)(h2:CA K pn gs si):CA K pn (v5 g gs) (bZ mg si) where
 run:=by
  intro ah A aq av ρ σ H vs ds ai Q s h e q;cases h with
  | nil=>cases e
  | @cons v d vs ds hv t=>
   have(aj,e1,e):=zd (show(mg d ρ).bind (λaj=>si ds aj)=some ai from e);exact⟨v,vs,rfl,h1.run ah A aq av ρ σ H v d aj _ s hv e1 λc9 s1=>h2.run ah A aq av aj c9 H vs ds ai Q s1 t e q⟩
 ok:=λds ρ ai e=>by
  cases ds with
  | nil=>cases e
  | cons d ds=>
   have(aj,e1,e):=zd (show(mg d ρ).bind (λaj=>si ds aj)=some ai from e);have(a1,a2):=h1.ok d ρ aj e1;have(b1,b2):=h2.ok ds aj ai e;exact⟨b1.trans a1,λi hi=>(b2 i hi).trans<|a2 i hi⟩
def fu(n:Nat)(gs:Qa D->En->Qb En):MG:=λd ρ=>match d with
 | .tuple ds=>if ds.length=n then gs ds ρ else none
 | _=>none
theorem iy{gs:gS}{si:Qa D->En->Qb En}(h:CA K pn gs si):qK K pn (yS K n gs) (fu n si) where
 run:=by
  intro ah A aq av ρ σ H v d ai Q s hd e q;unfold fu at e;split at e
  .split at e
   .rename_i ds hl
    have(a,xs,rfl,h1,h2):=DF.aJ hd;exact⟨a,xs,rfl,(aM.sq h1),by rw[h2.len]; exact hl,h.run ah A aq av ρ σ H xs ds ai Q s h2 e q⟩
   .cases e
  .cases e
 ok:=λd ρ ai e=>by
  unfold fu at e;split at e
  .split at e
   .exact h.ok _ _ _ e
   .cases e
  .cases e
def qS(me:ME)(mg:MG):MS:=λρ=>(me ρ).bind λp=>(p.1.get p.2).bind λu=>match u with
 | .d d=>(mg d p.2).bind λai=>some<|.nx ai
 | _=>none
theorem DT{me:ME}{mg:MG}(h:VE K te me)(hg:qK K pn g mg):VS K pn EX (om te g) (qS me mg):=by
 intro ah A aq av ρ σ H f D s e k;obtain⟨⟨a,aj⟩,e1,e⟩:=zd e;have(u,eu,e):=zd e;refine h ρ σ H a aj _ s.rs e1 λv H1 g1 k1=>?_;have p:=k1.now s.rs g1 eu;dsimp only at e;split at e
 .have(aw,e2,e3):=zd e
  cases e3;exact hg.run ah A aq av aj σ H1 v _ aw _ (s.go g1) p e2 λaE s'=>k aE H1 s'
 .cases e
def tR(i j:Nat)(ma:MA):MS:=λρ=>(ma ρ).bind λp=>(bz p.2 p.1).bind λus=>match us with
 | [.d x,.d y]=>some<|.nx<|(p.2.set i<|some<|.d x).set j<|some<|.d y
 | _=>none
theorem DS{ta:TA}{ma:MA}(h:jA K ta ma)(hi:i∉pn:=by decide)(hj:j∉pn:=by decide):VS K pn EX (Dp i j ta) (tR i j ma):=by
 intro ah A aq av ρ σ H f D s e k;obtain⟨⟨as,aj⟩,e1,e⟩:=zd e;have(us,eu,e):=zd e;refine h ρ σ H as aj _ s.rs e1 λvs H1 g1 s1=>?_;have rp:=s1.pP s.rs g1 eu;dsimp only at e;split at e
 .rename_i x y
  cases e;cases rp with
  | @cons v _ vs _ h1 t=>
   cases t with
   | @cons w _ _ _ h2 t=>
    cases t;have sn:=(s.go g1).set hi (u:=.d x) h1 λo=>by cases o
    exact⟨v,w,rfl,k _ _ (sn.set hj (u:=.d y) h2 λo=>by cases o)⟩
 .cases e
def gm(mg:MG)(mb:MS):Qa D->En->Qb Fl
 | [],ρ=>some<|.nx ρ
 | d::ds,ρ=>(mg d ρ).bind λaj=>(mb aj).bind λf=>match f with
  | .nx aw=>gm mg mb ds aw
  | .ct aw=>gm mg mb ds aw
  | .bk aw=>some<|.nx aw
  | .rt u aw=>some<|.rt u aw
  | .ex x aw=>some<|.ex x aw
def gG(mi:MI)(mg:MG)(mb:MS):MS:=λρ=>(mi ρ).bind λp=>gm mg mb p.1 p.2
theorem iU{tb:TS}{mi:MI}{mg:MG}{mb:MS}(hi:VI K wi mi)(hg:qK K pn g mg)(hb:VS K pn EX tb mb):VS K pn EX (Dl wi g tb) (gG mi mg mb):=by
 intro ah A aq av ρ σ H f D s e k;obtain⟨⟨ds,aj⟩,e1,e⟩:=zd e;refine hi ρ σ H ds aj _ s.rs e1 λJ H1 g1 run=>?_;have s1:=(s.go g1).at;have m8:Kp av H1:=(s.go g1).kp;refine⟨λi m aE H'=>m=ds.length - i/\i<=ds.length/\∃ ai,Sn K pn ah A aq H1 ai aE H'/\gm mg mb (ds.drop i) ai=some f,⟨ds.length,by simp,Ð _,aj,s1,e⟩,?_⟩;rintro i m aE H' ⟨rfl,fH,ai,s',el⟩
 by_cases dC:i < ds.length
 .rw[List.drop_eq_getElem_cons dC]at el
  have(aw,e2,el):=zd (show(mg ds[i] ai).bind _=some f from el);have(fb,eb,el):=zd el;have(go,yl):=(run H' s'.kp i).1 ds[i] (qm dC);refine .inr ⟨go,λcL H3=>∃ jq,Sn K pn ah A aq H1 jq cL H3/\gm mg mb (ds.drop<|i+1) jq=some f,λcL H3 ⟨jq,s3,e3⟩=>⟨ds.length - (i+1),by omega,rfl,dC,jq,s3,e3⟩,λx H2 y=>?_⟩;have(sm,dx):=yl x H2 y;have s2:=s'.go (Go.grow s'.rs sm);refine hg.run ah A aq H1 ai aE H2 x ds[i] aw _ s2 dx e2 λcL s3=>?_;refine hb ah A aq H1 aw cL H2 fb _ s3 eb ?_;cases fb with
  | nx b5=>exact λgT H4 s4=>⟨b5,s4,el⟩
  | ct b5=>exact λgT H4 s4=>⟨b5,s4,el⟩
  | bk b5=>cases el; exact λgT H4 s4=>k gT H4<|s4.re m8
  | rt u b5=>cases el; exact λv gT H4 s4 p n=>k v gT H4 (s4.re m8) p n
  | ex x b5=>cases el; exact λa gT H4 s4 p n=>k a gT H4 (s4.re m8) p n
 .have ei:i=ds.length:=by omega
  subst ei;rw[List.drop_length]at el;cases el;exact .inl ⟨(run H' s'.kp _).2 rfl,k aE H'<|s'.re m8⟩
def f9(mt:MT)(mb:MS):Nat->En->Qb Fl
 | 0,_=>none
 | n+1,ρ=>(mt ρ).bind λp=>if p.1=true then(mb p.2).bind λf=>match f with
  | .nx aw=>f9 mt mb n aw
  | .ct aw=>f9 mt mb n aw
  | .bk aw=>some<|.nx aw
  | .rt u aw=>some<|.rt u aw
  | .ex x aw=>some (.ex x aw)else some (.nx p.2)
open Classical in
def mM(mt:MT)(mb:MS):MS:=λρ=>if h:∃ n,(f9 mt mb n ρ).isSome=true then f9 mt mb h.choose ρ else none
theorem Bb{tb:TS}{mt:MT}{mb:MS}(ht:VT K tt mt)(hb:VS K pn EX tb mb):VS K pn EX (EI tt tb) (mM mt mb):=by
 intro ah A aq av ρ σ H f D s e k;unfold mM at e;split at e
 .rename_i hn
  generalize hn.choose=n at e;refine⟨λm aE H'=>∃ ai,Sn K pn ah A aq av ai aE H'/\f9 mt mb m ai=some f,⟨n,ρ,s,e⟩,?_⟩;rintro m aE H' ⟨ai,s',el⟩;cases m with
  | zero=>cases el
  | succ m=>
   obtain⟨⟨b,aj⟩,e1,el⟩:=zd (show(mt ai).bind _=some f from el);refine ht ai aE H' b aj _ s'.rs e1 λH1 g1=>?_;dsimp only at el;split at el
   .rename_i hc
    rw[if_pos hc];have(fb,eb,el):=zd el;refine⟨λdG H2=>∃ aw,Sn K pn ah A aq av aw dG H2/\f9 mt mb m aw=some f,λdG H2 ⟨aw,s2,e2⟩=>⟨m,ò m,aw,s2,e2⟩,?_⟩;refine hb ah A aq av aj aE H1 fb _ (s'.go g1) eb ?_;cases fb with
    | nx b5=>exact λgT H4 s4=>⟨b5,s4,el⟩
    | ct b5=>exact λgT H4 s4=>⟨b5,s4,el⟩
    | bk b5=>cases el; exact λgT H4 s4=>k gT H4 s4
    | rt u b5=>cases el; exact λv gT H4 s4 p n=>k v gT H4 s4 p n
    | ex x b5=>cases el; exact λa gT H4 s4 p n=>k a gT H4 s4 p n
   .rename_i hc
    rw[if_neg hc];cases el;exact k aE H1<|s'.go g1
 .cases e
theorem BE{mt:MT}{mb:MS}:∀ {n:Nat} {ρ:En} {f:Fl},f9 mt mb n ρ=some f->∀ k,f9 mt mb (n+k) ρ=some f
 | 0,_,_,e,_=>by cases e
 | n+1,ρ,f,e,k=>by
  rw[show n+1+k=(n+k)+1 by omega];obtain⟨⟨b,aj⟩,e1,e⟩:=zd (show(mt ρ).bind _=some f from e);show(mt ρ).bind _=some f;rw[e1];show(if b=true then _ else _)=_;dsimp only at e;split at e
  .rename_i hc
   rw[if_pos hc];have(fb,eb,e):=zd e;rw[eb];cases fb with
   | nx aw=>exact BE (n:=n) e k
   | ct aw=>exact BE (n:=n) e k
   | bk aw=>exact e
   | rt u aw=>exact e
   | ex x aw=>exact e
  .rename_i hc
   rw[if_neg hc];exact e
theorem YT{mt:MT}{mb:MS}{ρ:En}{f:Fl}(e:f9 mt mb n ρ=some f):mM mt mb ρ=some f:=by
 have h:∃ n,(f9 mt mb n ρ).isSome=true:=⟨n,by rw[e]; rfl⟩;unfold mM;rw[dif_pos h];have(f',QU):=Option.isSome_iff_exists.mp h.choose_spec;rw[QU];have a:=BE e h.choose;have b:=BE QU n;rw[Nat.add_comm,b]at a;exact a
end
section
variable{A:Qg->Prop}{kH:Hp}{ρ ai:En}
def cY(nt:Nat)(js:Qa Nat)(ρ:En):En:=List.replicate nt none++js.map λj=>ρ.getD j none
def reset(nt:Nat)(ρ:En):En:=List.replicate nt none++ρ.drop nt
def back:Qa Nat->Qa (Qb U)->En->En
 | j::js,some u::us,ρ=>back js us<|ρ.set j<|some u
 | _::js,none::us,ρ=>back js us ρ
 | _,_,ρ=>ρ
def g7(nt:Nat)(mg:MG)(mt:MT)(me:ME):Qa D->En->Qa D->Qb (Qa D×En)
 | [],ρ,ys=>some (ys,ρ)
 | d::ds,ρ,ys=>if ys.length < sizeLine then(mg d ρ).bind λaj=>(mt aj).bind λb=>if b.1=true then(me b.2).bind λp=>(p.1.get p.2).bind λu=>(match u with
   | .d y=>g7 nt mg mt me ds (reset nt p.2)<|ys++[y]
   | _=>none)else g7 nt mg mt me ds (reset nt b.2) ys else none
def iI(mi:MI)(nt:Nat)(js:Qa Nat)(mg:MG)(mt:MT)(me:ME):ME:=λρ=>(mi ρ).bind λp=>(g7 nt mg mt me p.1 (cY nt js p.2) []).bind λq=>some (.u<|.l q.1,back js (q.2.drop nt) p.2)
def fL(nt n:Nat):Qa Nat:=(List.range n).map (nt+·)
theorem pd:i∈fL nt n↔nt<=i/\i < nt+n:=by
 unfold fL;rw[List.mem_map];constructor
 .rintro⟨a,ha,rfl⟩
  have:=ã.mp ha;omega
 .intro h
  exact⟨i - nt,ã.mpr (by omega),by omega⟩
theorem uE{u:U}(h:(cY nt js ρ)[i]?=some (some u)):∃ p j,i=nt+p/\js[p]?=some j/\ρ[j]?=some (some u):=by
 unfold cY at h
 by_cases hi:i < nt
 .rw[List.getElem?_append_left (by simpa using hi),List.getElem?_replicate,if_pos hi]at h
  cases h
 .rw[List.getElem?_append_right (by simp; omega),List.length_replicate,List.getElem?_map]at h
  have(j,ej,e):=qr.mp h;refine⟨i - nt,j,by omega,ej,?_⟩;rw[qC]at e;cases q:ρ[j]? with
  | none=>rw[q]at e; cases e
  | some o=>rw[q]at e; exact congrArg some e
theorem DR{p:Nat}(h:js[p]?=some j):(c0 nt js σ)[nt+p]?=some (σ.getD j none):=by
 unfold c0;rw[List.getElem?_append_right (by simp),List.length_replicate,Nat.add_sub_cancel_left,List.getElem?_map,h];rfl
theorem Ei:(c0 nt js σ).length=nt+js.length:=by unfold c0; simp
theorem Fg:(cY nt js ρ).length=nt+js.length:=by unfold cY; simp
def jG(ρ:En)(σ:St)(js:Qa Nat)(a:Qg):Prop:=∃ (p j:Nat) (u:U),js[p]?=some j/\ρ[j]?=some (some u)/\u.own=true/\σ[j]?=some (some<|.ref a)
theorem Lx(r:Rs K ρ σ H)(nd:js.Nodup):Sn K (fL nt js.length) (c0 nt js σ) (jG ρ σ js) H H (cY nt js ρ) (c0 nt js σ) H:=by
 have sat:∀ {p j:Nat} {v:V},js[p]?=some j->σ[j]?=some (some v)->(c0 nt js σ)[nt+p]?=some (some v):=λ{p j v} hp hv=>by
  rw[DR hp,qC,hv];rfl
 refine⟨⟨by rw[Fg,Ei],λi u e=>?_,λi k u w ei ek ou ow es=>?_⟩,λ_ _ h _=>h,λi u a e o es=>?_,λ_ _=>rfl,λ_ h=>h,Kp.refl H⟩
 .have(p,j,rfl,hj,hr):=uE e
  have(v,ev,q):=r.rep j u hr;exact⟨v,sat hj ev,q⟩
 .have(p,j,rfl,hj,hr):=uE ei
  have(p',j',rfl,kA,Cg):=uE ek;have(v,ev,_):=r.rep j u hr;have(v',tK,_):=r.rep j' w Cg;rw[sat hj ev,sat kA tK]at es;have:j=j':=r.apart j j' u w hr Cg ou ow (by rw[ev,tK]; exact es);subst this;have l1:=(ql.mp hj);have l2:=(ql.mp kA);have(h1,e1):=l1;have(h2,e2):=l2;have:=(List.getElem_inj nd).mp (e1.trans e2.symm);omega
 .have(p,j,rfl,hj,hr):=uE e
  have(v,ev,_):=r.rep j u hr;rw[sat hj ev]at es;cases es;exact .inl ⟨pd.mpr ⟨by omega,by have:=(ql.mp hj).1; omega⟩,p,j,u,hj,hr,o,ev⟩
theorem Sn.reset{ir:St}{aw:En}{dG:St}(s:Sn K (fL nt n) ir A aq av aw dG H)(l1:aw.length=nt+n)(l2:ir.length=nt+n):Sn K (fL nt n) ir A aq av (L2.reset nt aw) ir H:=by
 have bk:∀ (i:Nat) (u:U),(L2.reset nt aw)[i]?=some (some u)->nt<=i/\i < nt+n/\aw[i]?=some (some u):=λi u e=>by
  unfold L2.reset at e
  by_cases hi:i < nt
  .rw[List.getElem?_append_left (by simpa using hi),List.getElem?_replicate,if_pos hi]at e
   cases e
  .rw[List.getElem?_append_right (by simp; omega),List.length_replicate,List.getElem?_drop,show nt+(i - nt)=i by omega]at e
   have:=(ql.mp e).1;exact⟨by omega,by omega,e⟩
 have pin:∀ i,nt<=i->i < nt+n->ir[i]?=dG[i]?:=λi h1 h2=>(s.pin i<|pd.mpr ⟨h1,h2⟩).symm;have ll:(L2.reset nt aw).length=nt+n:=by unfold L2.reset; simp; omega
 refine⟨⟨by omega,λi u e=>?_,λi j u w ei ej ou ow es=>?_⟩,s.fr,λi u a e o es=>?_,λ_ _=>rfl,s.dm,s.kp⟩
 .have(h1,h2,e'):=bk i u e
  rw[pin i h1 h2];exact s.rs.rep i u e'
 .have(h1,h2,qH):=bk i u ei
  have(h3,h4,nU):=bk j w ej;rw[pin i h1 h2,pin j h3 h4]at es;exact s.rs.apart i j u w qH nU ou ow es
 .have(h1,h2,e'):=bk i u e
  rw[pin i h1 h2]at es;exact s.ow i u a e' o es
theorem Ba:∀ {js:Qa Nat} {us:Qa (Qb U)} {ρ:En} {j:Nat} {w:U},(back js us ρ)[j]?=some (some w)->(∃ p:Nat,js[p]?=some j/\us[p]?=some (some w))\/(ρ[j]?=some (some w)/\∀ p:Nat,js[p]?=some j->∀ x,us[p]?≠some (some x))
 | [],us,ρ,j,w,e=>.inr ⟨by cases us<;>exact e,λp z=>by simp at z⟩
 | k::js,[],ρ,j,w,e=>.inr ⟨e,λp z x=>by simp⟩
 | k::js,none::us,ρ,j,w,e=>by
  rcases Ba (js:=js) (us:=us) (ρ:=ρ) (show(back js us ρ)[j]?=some (some w) from e)with⟨p,h1,h2⟩|⟨h1,h2⟩
  .exact .inl ⟨p+1,h1,h2⟩
  .refine .inr ⟨h1,λp z x=>?_⟩
   cases p with
   | zero=>intro q; cases q
   | succ p=>exact h2 p z x
 | k::js,some u::us,ρ,j,w,e=>by
  rcases Ba (js:=js) (us:=us) (ρ:=ρ.set k (some u)) (show(back js us<|ρ.set k<|some u)[j]?=some (some w) from e)with⟨p,h1,h2⟩|⟨h1,h2⟩
  .exact .inl ⟨p+1,h1,h2⟩
  .by_cases hk:k=j
   .subst hk
    have hl:k < (ρ.set k<|some u).length:=(ql.mp h1).1;rw[List.length_set]at hl;rw[List.getElem?_set_self hl]at h1;exact .inl ⟨0,rfl,by cases h1; rfl⟩
   .rw[qE hk]at h1
    refine .inr ⟨h1,λp z x=>?_⟩;cases p with
    | zero=>cases(show some k=some j from z); exact absurd rfl hk
    | succ p=>exact h2 p z x
theorem Bv:∀ (js:Qa Nat) (us:Qa (Qb U)) (ρ:En),(back js us ρ).length=ρ.length
 | [],us,ρ=>by cases us<;>rfl
 | _::js,[],ρ=>rfl
 | _::js,none::us,ρ=>Bv js us ρ
 | j::js,some u::us,ρ=>by show(back js us<|ρ.set j<|some u).length=_; rw[Bv]; exact List.length_set
theorem Bt:∀ {js:Qa Nat} {us:Qa (Qb U)} {ρ:En} {j:Nat} {w:U},ρ[j]?=some (some w)->∃ w',(back js us ρ)[j]?=some (some w')
 | [],us,ρ,j,w,e=>⟨w,by cases us<;>exact e⟩
 | _::js,[],ρ,j,w,e=>⟨w,e⟩
 | _::js,none::us,ρ,j,w,e=>Bt (js:=js) (us:=us) e
 | k::js,some u::us,ρ,j,w,e=>by
  by_cases hk:k=j
  .subst hk
   exact Bt (js:=js) (us:=us) (w:=u)<|Ā (ql.mp e).1
  .exact Bt (js:=js) (us:=us) (w:=w) (by rw[qE hk]; exact e)
theorem Sn.comp_back{aw:En}(r:Rs K ρ σ H)(s:Sn K (fL nt js.length) (c0 nt js σ) (jG ρ σ js) H av aw (c0 nt js σ) H')(l:aw.length=nt+js.length)(sh:dE (cY nt js ρ) aw):
  Go K ρ σ H (back js (aw.drop nt) ρ) H':=by
 have xt:∀ (p:Nat) (w:U),(aw.drop nt)[p]?=some (some w)->aw[nt+p]?=some (some w):=λp w e=>by rw[List.getElem?_drop]at e; exact e
 have kp:Kp H H':=by
  refine⟨λb xs h=>s.fr b _ h λ⟨p,j,u,hj,hr,ou,es⟩=>?_,λb ob u h=>s.fr b _ h λ⟨p,j,u,hj,hr,ou,es⟩=>?_,λb x h=>s.fr b _ h λ⟨p,j,u,hj,hr,ou,es⟩=>?_⟩
  all_goals
   have(c,q,m):=r.ow ⟨j,u,hr,ou,es⟩;rw[h]at q; cases q; exact m
 have GL:∀ (p j:Nat) (w:U),js[p]?=some j->(aw.drop nt)[p]?=some (some w)->w.own=true->∃ x,ρ[j]?=some (some x)/\x.own=true:=λp j w hj e o=>by
  have(x,ex,ox):=sh.own (nt+p) w (xt p w e) o;have(p',j',ep,kA,hr):=uE ex;have:p'=p:=by omega
  subst this;rw[hj]at kA;cases kA;exact⟨x,hr,ox⟩
 have own:∀ (j:Nat) (w:U),(back js (aw.drop nt) ρ)[j]?=some (some w)->w.own=true->∃ x,ρ[j]?=some (some x)/\x.own=true:=λj w e o=>by
  rcases Ba e with⟨p,hj,hu⟩|⟨h1,_⟩
  .exact GL p j w hj hu o
  .exact⟨w,h1,o⟩
 refine⟨⟨by rw[Bv]; exact r.len,λj w e=>?_,λi j u w ei ej ou ow es=>?_⟩,λa o h n=>s.fr a o h λ⟨p,j,u,hj,hr,ou,es⟩=>n ⟨j,u,hr,ou,es⟩,⟨Bv _ _ _,own,λj w e=>Bt e⟩,s.dm⟩
 .rcases Ba e with⟨p,hj,hu⟩|⟨h1,h2⟩
  .have(v,ev,q):=s.rs.rep (nt+p) w (xt p w hu)
   rw[DR hj]at ev;refine⟨v,?_,q⟩;rw[qC]at ev;cases z:σ[j]? with
   | none=>rw[z]at ev; cases ev
   | some o=>rw[z]at ev; exact congrArg some<|qy ev
  .have(v,ev,q):=r.rep j w h1
   refine⟨v,ev,q.kp kp λow a c ea hc=>s.fr a c hc λ⟨p,j',u,hj,hr,ou,es⟩=>?_⟩;subst ea;have:j'=j:=r.apart j' j u w hr h1 ou ow (by rw[es,ev]);subst this;have e1:(cY nt js ρ)[nt+p]?=some (some u):=by
    unfold cY;rw[List.getElem?_append_right (by simp),List.length_replicate,Nat.add_sub_cancel_left,List.getElem?_map,hj];show some (ρ.getD j' none)=_;rw[qC,hr];rfl
   have(w',cK):=sh.live _ _ e1;exact h2 p hj w' (by rw[List.getElem?_drop]; exact cK)
 .have(x,ex,ox):=own i u ei ou
  have(y,ey,oy):=own j w ej ow;exact r.apart i j x y ex ey ox oy es
theorem dE.jZ{eA aj:En}(l:eA.length=nt+n)(h0:∀ i,i < nt->eA[i]?=some none)(l1:aj.length=nt+n)(own:∀ (i:Nat) (u:U),nt<=i->aj[i]?=some (some u)->u.own=true->∃ w,eA[i]?=some (some w)/\w.own=true)(live:∀ (i:Nat) (u:U),nt<=i->eA[i]?=some (some u)->∃ w,aj[i]?=some (some w)):dE eA (L2.reset nt aj):=by
 have at':∀ i,nt<=i->(L2.reset nt aj)[i]?=aj[i]?:=λi hi=>by
  unfold L2.reset;rw[List.getElem?_append_right (by simp; omega),List.length_replicate,List.getElem?_drop,show nt+(i - nt)=i by omega]
 have lo:∀ i,i < nt->(L2.reset nt aj)[i]?=some none:=λi hi=>by
  unfold L2.reset;rw[List.getElem?_append_left (by simpa using hi),List.getElem?_replicate,if_pos hi]
 refine⟨by unfold L2.reset; simp; omega,λi u e o=>?_,λi u e=>?_⟩
 .by_cases hi:i < nt
  .rw[lo i hi]at e; cases e
  .rw[at' i (by omega)]at e
   exact own i u (by omega) e o
 .by_cases hi:i < nt
  .rw[h0 i hi]at e; cases e
  .rw[at' i (by omega)]
   exact live i u (by omega) e
theorem Bq{aj:En}(h:i < nt):(L2.reset nt aj)[i]?=some none:=by
 unfold L2.reset;rw[List.getElem?_append_left (by simpa using h),List.getElem?_replicate,if_pos h]
theorem Kw(h:i < nt):(cY nt js ρ)[i]?=some none:=by
 unfold cY;rw[List.getElem?_append_left (by simpa using h),List.getElem?_replicate,if_pos h]
def VIA(K:qc)(js:Qa Nat)(wi:TI)(mi:MI):Prop :=
 ∀ (ρ:En) (σ:St) (H:Hp) (ds:Qa D) (ai:En) (R:It->Hp->Prop),Rs K ρ σ H->mi ρ=some (ds,ai)->(∀ J H',Go K ρ σ H ai H'->(∀ H2,Kp H' H2->yE (jG ai σ js) H' H2->∀ i:Nat,(∀ d,ds[i]?=some d->J.go i H2/\∀ x H3,J.u9 i H2 x H3->b9 H2 H3/\DF K H3 x d)/\(i=ds.length->J.stop i H2))->R J H')->wi σ H R
theorem S8{mi:MI}{mg:MG}{mt:MT}{me:ME}(hi:VIA K js wi mi)(hg:qK K (fL nt js.length) g mg)(ht:VT K tt mt)(he:VE K te me)(nd:js.Nodup:=by decide):
  VE K (xA wi nt js g tt te) (iI mi nt js mg mt me):=by
 intro ρ σ H a ai Q r e q;obtain⟨⟨ds,aj⟩,e1,e⟩:=zd e;obtain⟨⟨zs,qO⟩,e2,e⟩:=zd e;cases e;refine hi ρ σ H ds aj _ r e1 λJ H1 g1 run=>?_;have s1:=Lx (nt:=nt) (js:=js) g1.rs nd;refine⟨λi m ys H'=>m=ds.length - i/\i<=ds.length/\∃ eA yd,Sn K (fL nt js.length) (c0 nt js σ) (jG aj σ js) H1 H1 eA (c0 nt js σ) H'/\dE (cY nt js aj) eA/\(∀ k,k < nt->eA[k]?=some none)/\aK K H' ys yd/\g7 nt mg mt me (ds.drop i) eA yd=some (zs,qO),
  ⟨ds.length,by simp,Ð _,_,[],s1,dE.refl _,λk hk=>Kw hk,.nil,e2⟩,?_⟩
 rintro i m ys H' ⟨rfl,fH,eA,yd,s',sh,lo,dy,el⟩;have lc:eA.length=nt+js.length:=by rw[sh.len,Fg]
 by_cases dC:i < ds.length
 .rw[List.drop_eq_getElem_cons dC]at el
  unfold g7 at el;split at el
  .rename_i hz
   have(aw,e3,el):=zd el;obtain⟨⟨b,jq⟩,e4,el⟩:=zd el;have(l2,p2):=hg.ok _ _ _ e3;have(go,yl):=(run H' s'.kp s'.fr i).1 ds[i] (qm dC);refine .inr ⟨go,by rw[dy.len]; exact hz,λi8 H2=>∃ cE BV,Sn K (fL nt js.length) (c0 nt js σ) (jG aj σ js) H1 H1 cE (c0 nt js σ) H2/\dE (cY nt js aj) cE/\(∀ k,k < nt->cE[k]?=some none)/\aK K H2 i8 BV/\g7 nt mg mt me (ds.drop<|i+1) cE BV=some (zs,qO),
    λi8 H2 ⟨cE,BV,z⟩=>⟨ds.length - (i+1),by omega,rfl,dC,cE,BV,z⟩,λx H2 y=>?_⟩
   have(sm,dx):=yl x H2 y;have s2:=s'.go (Go.grow s'.rs sm);refine hg.run _ _ _ _ eA _ H2 x ds[i] aw _ s2 dx e3 λcL s3=>?_;have toEnd:∀ {b5:En} {H4:Hp},Go K aw cL H2 b5 H4->Sn K (fL nt js.length) (c0 nt js σ) (jG aj σ js) H1 H1 (L2.reset nt b5) (c0 nt js σ) H4/\dE (cY nt js aj) (L2.reset nt b5):=λ{b5 H4} g4=>by
    have l4:b5.length=nt+js.length:=by rw[g4.shr.len,l2,lc]
    refine⟨(s3.go g4).reset l4 Ei,sh.trans<|dE.jZ lc lo l4 (λk u hk ek ou=>?_) λk u hk ek=>?_⟩
    .have(w,ew,ow):=g4.shr.own k u ek ou
     have lk:k < nt+js.length:=by rw[<-l2.trans lc]; exact(ql.mp ew).1
     rw[p2 k<|pd.mpr ⟨hk,lk⟩]at ew;exact⟨w,ew,ow⟩
    .have lk:k < nt+js.length:=by rw[<-lc]; exact(ql.mp ek).1
     rw[<-p2 k (pd.mpr ⟨hk,lk⟩)]at ek;exact g4.shr.live k u ek
   refine ht aw cL H2 b jq _ s3.rs e4 λH3 g3=>?_;dsimp only at el;split at el
   .rename_i hb
    rw[if_pos hb];obtain⟨⟨a4,b5⟩,e5,el⟩:=zd el;have(u,e6,el):=zd el;refine he jq cL H3 a4 b5 _ g3.rs e5 λv H4 g4 k4=>?_;have pv:=k4.now g3.rs g4 e6;dsimp only at el;split at el
    .rename_i yv
     have(sn,sr):=toEnd (g3.trans g4);exact⟨_,_,sn,sr,λk hk=>Bq hk,((dy.kp sm.kp).kp<|(g3.trans g4).kp s3.rs).snoc pv,el⟩
    .cases el
   .rename_i hb
    rw[if_neg hb];have(sn,sr):=toEnd g3;exact⟨_,_,sn,sr,λk hk=>Bq hk,(dy.kp sm.kp).kp<|g3.kp s3.rs,el⟩
  .cases el
 .have ei:i=ds.length:=by omega
  subst ei;rw[List.drop_length]at el;cases el;refine .inl ⟨(run H' s'.kp s'.fr _).2 rfl,λDa hD=>?_⟩;have gb:=Sn.comp_back g1.rs s' lc sh;have sm:=zU hD (.lst ys);exact q _ _ ((g1.trans gb).trans<|Go.grow gb.rs sm) ⟨⟨Da,ys,rfl,zy,dy.kp sm.kp⟩,λ_=>⟨Da,rfl,(g1.trans gb).dm _ hD⟩⟩
theorem kP{mi:MI}{mg:MG}{mt:MT}{me:ME}(hi:VI K wi mi)(hg:qK K (fL nt js.length) g mg)(ht:VT K tt mt)(he:VE K te me)(nd:js.Nodup:=by decide):
  VE K (xA wi nt js g tt te) (iI mi nt js mg mt me):=S8 (λρ σ H ds ai R r e q=>hi ρ σ H ds ai R r e λJ H' g run=>q J H' g λH2 k _=>run H2 k) hg ht he nd
end
section
variable{EX:fK}{A:Qg->Prop}{kH:Hp}{ρ ai:En}
def fP(pn:Qa Nat)(ρ:En):Nat->Qa U->Qb (Qa U)
 | _,[]=>some []
 | i,u::us=>(if i∈pn then(ρ[i]?).join.bind λo=>if o.own=true/\u.own=false then none else some o else if u.own=true then none else some u).bind λo=>(fP pn ρ (i+1) us).bind λos=>some<|o::os
def b8(n:Nat)(pn:Qa Nat)(m:MS):FD:=λus=>(m<|sm us++List.replicate (n - us.length) none).bind λf=>match f with
 | .rt u ρ=>(fP pn ρ 0 us).bind λos=>some (u,os)
 | .nx ρ=>(fP pn ρ 0 us).bind λos=>some (.d .none,os)
 | _=>none
theorem MC:∀ {us os:Qa U} {i:Nat},fP pn ρ i us=some os->os.length=us.length
 | [],os,i,e=>by cases e; rfl
 | u::us,os,i,e=>by
  have(o,e1,e):=zd e;have(B3,e2,e):=zd e;cases e;simp[MC e2]
theorem wH:∀ {us os:Qa U} {i p:Nat} {o:U},fP pn ρ i us=some os->os[p]?=some o->∃ u,us[p]?=some u/\((i+p∈pn/\ρ[i+p]?=some (some o)/\(o.own=true->u.own=true))\/(i+p∉pn/\o=u/\u.own=false))
 | [],os,i,p,o,e,ep=>by cases e; simp at ep
 | u::us,os,i,p,o,e,ep=>by
  have(o1,e1,e):=zd e;have(B3,e2,e):=zd e;cases e;cases p with
  | zero=>
   cases(show some o1=some o from ep);refine⟨u,rfl,?_⟩;rw[Nat.add_zero];split at e1
   .rename_i hi
    have(o2,e3,e1):=zd e1;split at e1
    .cases e1
    .rename_i hc
     cases e1;refine .inl ⟨hi,?_,λoo=>?_⟩
     .cases q:ρ[i]? with
      | none=>rw[q]at e3; cases e3
      | some x=>rw[q]at e3; cases x with
       | none=>cases e3
       | some y=>cases e3; rfl
     .cases hu:u.own with
      | true=>rfl
      | false=>exact absurd ⟨oo,hu⟩ hc
   .rename_i hi
    split at e1
    .cases e1
    .rename_i hc
     cases e1;exact .inr ⟨hi,rfl,by simpa using hc⟩
  | succ p=>
   have(u',eu,h):=wH (i:=i+1) (p:=p) e2 ep;refine⟨u',eu,?_⟩;rw[show i+(p+1)=i+1+p by omega];exact h
theorem MB:∀ {us os:Qa U} {i p:Nat} {u:U},fP pn ρ i us=some os->us[p]?=some u->u.own=true->i+p∈pn
 | [],os,i,p,u,e,ep,_=>by simp at ep
 | u::us,os,i,p,u',e,ep,o=>by
  have(o1,e1,e):=zd e;have(B3,e2,e):=zd e;cases p with
  | zero=>
   cases(show some u=some u' from ep);rw[Nat.add_zero];split at e1
   .assumption
   .first|cases e1 | (rw[if_pos o]at e1; cases e1)
  | succ p=>
   rw[show i+(p+1)=i+1+p by omega];exact MB (i:=i+1) (p:=p) e2 ep o
theorem wR{vs:Qa V}(h:i < vs.length):(gf N vs)[i]?=(cT vs)[i]?:=by
 unfold gf cT;rw[List.getElem?_append_left (by simpa using h)]
theorem YS{us os:Qa U}{vs:Qa V}{vG:En}(r:Rs K (sm us) (cT vs) H)(hl:us.length<=N.length)(ho:fP pn vG 0 us=some os):
  Sn K pn (gf N vs) (Ow (sm us)<|cT vs) H H (sm us++List.replicate (N.length - us.length) none) (gf N vs) H:=by
 have lv:us.length=vs.length:=by have:=r.len; unfold sm cT at this; simpa using this
 have inv:∀ (i:Nat) (u:U),(sm us++List.replicate (N.length - us.length) none)[i]?=some (some u)->i < us.length/\(sm us)[i]?=some (some u):=λi u e=>by
  by_cases hi:i < us.length
  .rw[List.getElem?_append_left (by unfold sm; simpa using hi)]at e
   exact⟨hi,e⟩
  .rw[List.getElem?_append_right (by unfold sm; simp; omega),List.getElem?_replicate]at e
   split at e<;>cases e
 refine⟨⟨?_,λi u e=>?_,λi j u w ei ej ou ow es=>?_⟩,λ_ _ h _=>h,λi u a e o es=>?_,λ_ _=>rfl,λ_ h=>h,Kp.refl H⟩
 .unfold gf sm; simp; omega
 .have(hi,e'):=inv i u e
  rw[wR (by omega)];exact r.rep i u e'
 .have(hi,qH):=inv i u ei
  have(hj,nU):=inv j w ej;rw[wR (by omega),wR (by omega)]at es;exact r.apart i j u w qH nU ou ow es
 .have(hi,e'):=inv i u e
  rw[wR (by omega)]at es;have:=MB ho (fx.mp e') o;rw[Nat.zero_add]at this;exact .inl ⟨this,i,u,e',o,es⟩
theorem Kv{us os:Qa U}{vs:Qa V}{aE:St}(r:Rs K (sm us) (cT vs) H)(s:Sn K pn (gf N vs) (Ow (sm us)<|cT vs) H H ai aE H')(ho:fP pn ai 0 us=some os):Go K (sm us) (cT vs) H (sm os) H':=by
 have lv:us.length=vs.length:=by have:=r.len; unfold sm cT at this; simpa using this
 have lo:=MC ho;have vD:∀ {p:Nat} {o:U},os[p]?=some o->p < vs.length:=λ{p o} e=>by have:=(ql.mp e).1; omega
 have pin:∀ {p:Nat} {o:U},os[p]?=some o->p∈pn->aE[p]?=(cT vs)[p]?:=λ{p o} e hp=>by rw[s.pin p hp,wR<|vD e]
 refine⟨⟨by unfold sm cT; simp; omega,λp o e=>?_,λp q o o' ep eq oo GO es=>?_⟩,s.fr,⟨by unfold sm; simp; omega,λp o e oo=>?_,λp u e=>?_⟩,s.dm⟩
 .have e':=fx.mp e
  have(u,eu,h):=wH ho e';rw[Nat.zero_add]at h;rcases h with⟨hp,hr,_⟩|⟨_,rfl,ou⟩
  .have(v,ev,q):=s.rs.rep p o hr
   rw[pin e' hp]at ev;exact⟨v,ev,q⟩
  .have(v,ev,q):=r.rep p o (fx.mpr eu)
   exact⟨v,ev,q.kp s.kp λoo=>by rw[ou]at oo; cases oo⟩
 .have eS:=fx.mp ep
  have Cs:=fx.mp eq;have(u,eu,h):=wH ho eS;have(u',QP,h'):=wH ho Cs;rw[Nat.zero_add]at h h';rcases h with⟨hp,hr,_⟩|⟨_,rfl,ou⟩
  .rcases h' with⟨hq,Cg,_⟩|⟨_,rfl,m6⟩
   .rw[<-pin eS hp,<-pin Cs hq]at es
    exact s.rs.apart p q o o' hr Cg oo GO es
   .rw[m6]at GO; cases GO
  .rw[ou]at oo; cases oo
 .have e':=fx.mp e
  have(u,eu,h):=wH ho e';rcases h with⟨_,_,h⟩|⟨_,rfl,ou⟩
  .exact⟨u,fx.mpr eu,h oo⟩
  .rw[ou]at oo; cases oo
 .have e':=fx.mp e
  have hp:p < os.length:=by have:=(ql.mp e').1; omega
  exact⟨os[p],fx.mpr<|qm hp⟩
theorem jo.okV{base:Heap}{f:Qg}{ps:Qa Str}{k nn:Nat}{m:MS}(F:jo K x qual st f fd)(S:bE N ps (fy st))(Ci:ps.length=n)(hN:N.length=nn)(Ck:n<=nn)
  (bU:∀ (bo:Qc) (A:Qf) (outer:Qa Env) (s:Qd) (H:Hp) (E:XK),aD k (A.deeper<|envOfC qual (fy st) s.heap.objs.size f bo)->
   ∃ t,Wr (dF (l9 gF P w K mg base N qual (fy st) f bo A outer s H E).r9 (lK st) t)/\VS K pn Rv t m):bW P w K mg base gF (k+1) f fd ps (lP K n<|b8 nn pn m):=by
 refine F.okW S (λvs H Q E h=>?_) λbo A outer s H vs Q E hr h=>?_
 .have(us,r,outs,hl,rs,_):=h
  have:=rs.len;unfold sm cT at this;simp at this;omega
 have(us,r,outs,hl,rs,ef,q):=h;have(t,wt,vt):=bU bo A outer s H E hr;refine⟨t,wt,?_⟩;have(fl,em,ef):=zd ef;have go:∀ (ai:En),fP pn ai 0 us=some outs->Sn K pn (gf N vs) (Ow (sm us)<|cT vs) H H (sm us++List.replicate (N.length - us.length) none) (gf N vs) H:=λai ho=>YS rs (by omega) ho;subst hN;cases fl with
 | nx ai=>
  have(os,eo,ef):=zd (show(fP pn ai 0 us).bind _=_ from ef);cases ef;refine vt _ _ _ _ _ _ _ (.nx ai) _ (go ai eo) em λaE H' s'=>?_;exact q _ _ (Kv rs s' eo) .aT Nw.data
 | rt u ai=>
  have(os,eo,ef):=zd (show(fP pn ai 0 us).bind _=_ from ef);cases ef;refine vt _ _ _ _ _ _ _ (.rt r ai) _ (go ai eo) em λv aE H' s' p n'=>?_;exact q _ _ (Kv rs s' eo) p n'
 | bk=>cases ef
 | ct=>cases ef
 | ex=>cases ef
end
section
variable{EX:fK}{ρ ai:En}
def zAv(i:Nat)(me:ME):ME:=λρ=>match ρ[i]? with
 | some (some<|.l _)=>(me ρ).bind λp=>(p.1.get p.2).bind λu=>match u,p.2[i]? with
  | .d x,some (some<|.l xs)=>if xs.length < sizeLine then some (.u<|.d .none,p.2.set i<|some<|.l<|xs++[x])else none
  | _,_=>none
 | _=>none
theorem rO{o:Qb (Qb U)}{u:U}(e:o.join=some u):o=some (some u):=by
 cases o with
 | none=>cases e
 | some x=>cases x with
  | none=>cases e
  | some y=>cases e; rfl
def rH(i:Nat)(me mi:ME):MS:=λρ=>(ρ[i]?).join.bind λ_=>(me ρ).bind λp=>(mi p.2).bind λq=>(p.1.get q.2).bind λu=>(q.1.get q.2).bind λw=>match u,w,q.2[i]? with
 | .d x,.d<|.int k,some (some<|.l xs)=>(fV xs.length k).bind λj=>some<|.nx<|q.2.set i<|some<|.l<|xs.set j x
 | _,_,_=>none
theorem Ff{ti:TE}{me mi:ME}(h:VE K te me)(hi:VE K ti mi):VS K pn EX (om te<|Dq (mq i) ti JM) (rH i me mi):=by
 intro ah A aq av ρ σ H f D s e k;replace e:=zd e;have(w0,e0,e):=e;replace e:=zd e;obtain⟨⟨a,aj⟩,e1,e⟩:=e;replace e:=zd e;obtain⟨⟨b,aw⟩,e2,e⟩:=e;replace e:=zd e;have(u,eu,e):=e;replace e:=zd e;have(w,ew,e):=e;have(v0,gC,_):=s.rs.rep i w0 (rO e0);refine h ρ σ H a aj _ s.rs e1 λv H1 g1 k1=>⟨v0,gC,?_⟩;refine hi aj σ H1 b aw _ g1.rs e2 λy H2 g2 k2=>?_;have pv:=k1.later s.rs g1 g2 eu;have py:=k2.now g1.rs g2 ew;dsimp only at e;split at e
 .rename_i x n xs ex
  replace e:=zd e;have(j,ej,e):=e;cases e;have(w',cK,p1):=g2.rs.rep i _ ex;have(l,us,rfl,hl,ds):=p1;rw[gC]at cK;cases cK;refine⟨l,us,n,j,rfl,DF.int_inv py,hl,by rw[ds.len]; exact ej,k _ _<|(s.go<|g1.trans g2).go<|Go.own (u':=.l (xs.set j x)) g2.rs ex rfl gC ?_⟩;have kp:=i3 hl trivial (.lst<|us.set j v);exact⟨l,_,rfl,zy,(ds.kp kp).set (DF.kp kp pv) j⟩
 .cases e
def keys:Qa D->Qb (Qa Key)
 | []=>some []
 | .int i::ds=>(keys ds).bind λks=>some<|.inl i::ks
 | .str x::ds=>(keys ds).bind λks=>some<|.inr x::ks
 | _::_=>none
def bN:D->Qb (Qa Key)
 | .tuple ds=>keys ds
 | _=>none
def qR:D->Qb Key
 | .int i=>some<|.inl i
 | .str x=>some<|.inr x
 | _=>none
theorem Fe:∀ ks:Qa Key,keys (ks.map xU)=some ks
 | []=>rfl
 | .inl i::ks=>by show(keys<|ks.map xU).bind _=_; rw[Fe ks]; rfl
 | .inr x::ks=>by show(keys<|ks.map xU).bind _=_; rw[Fe ks]; rfl
theorem Bo(ks:Qa Key):bN (gN ks)=some ks:=Fe ks
theorem Eh:∀ {ds:Qa D} {ks:Qa Key} {xs:Qa V},aK K H xs ds->keys ds=some ks->xs=ks.map kV
 | [],ks,xs,h,e=>by cases e; cases h; rfl
 | d::ds,ks,xs,h,e=>by
  cases h with
  | cons h1 t=>
   cases d with
   | int i=>
    have(fU,e1,e):=zd (show(keys ds).bind (λks=>some<|Sum.inl i::ks)=some ks from e);cases e;rw[Eh t e1,DF.int_inv h1];rfl
   | str x=>
    have(fU,e1,e):=zd (show(keys ds).bind (λks=>some<|Sum.inr x::ks)=some ks from e);cases e;rw[Eh t e1,DF.str_inv h1];rfl
   | _=>cases e
theorem oZ{d:D}{ks:Qa Key}(h:DF K H v d)(e:bN d=some ks):∃ b,v=.ref b/\aM K H b (ks.map kV):=by
 cases d with
 | tuple ds=>
  have(b,xs,rfl,h1,h2):=DF.aJ h;exact⟨b,rfl,by rw[<-Eh h2 e]; exact h1⟩
 | _=>cases e
theorem KO{d:D}{k:Key}(h:DF K H v d)(e:qR d=some k):v=kV k:=by
 cases d with
 | int i=>cases e; exact DF.int_inv h
 | str x=>cases e; exact DF.str_inv h
 | _=>cases e
theorem wG:∀ {ks:Qa Key},aK K H (ks.map kV)<|ks.map xU
 | []=>.nil
 | .inl i::ks=>.cons (.int i) wG
 | .inr x::ks=>.cons (.str x) wG
section
variable[DecidableEq κ]
def mf(kvs:Qa (κ×D))(k:κ):Qb D:=(kvs.find? λkv=>decide<|kv.1=k).map (·.2)
def dI(kvs:Qa (κ×D))(k:κ)(d:D):Qa (κ×D):=if(kvs.any λkv=>decide<|kv.1=k)=true then kvs.map (λkv=>if kv.1=k then(kv.1,d)else kv)else kvs++[(k,d)]
theorem bB.val{ws:Qa (κ×V)}{kvs:Qa (κ×D)}(h:bB K H ws kvs)(k:κ):(∃ v d,ft ws k=some v/\mf kvs k=some d/\DF K H v d)\/(ft ws k=none/\mf kvs k=none):=by
 induction h with
 | nil=>exact .inr ⟨rfl,rfl⟩
 | @cons p q ps qs hq t ih=>
  unfold ft mf at ih ⊢;rw[List.find?_cons,List.find?_cons]
  by_cases hk:p.1=k
  .have eQ:q.1=k:=hq.1▸hk
   rw[decide_eq_true hk,decide_eq_true eQ];exact .inl ⟨_,_,rfl,rfl,hq.2⟩
  .have eQ:¬q.1=k:=λz=>hk<|hq.1.trans z
   rw[decide_eq_false hk,decide_eq_false eQ];exact ih
theorem bB.any{ws:Qa (κ×V)}{kvs:Qa (κ×D)}(h:bB K H ws kvs)(k:κ):(ws.any λkv=>decide<|kv.1=k)=(kvs.any λkv=>decide<|kv.1=k):=by
 induction h with
 | nil=>rfl
 | @cons p q ps qs hq t ih=>rw[List.any_cons,List.any_cons,ih,hq.1]
theorem bB.j0{ws:Qa (κ×V)}{kvs:Qa (κ×D)}(h:bB K H ws kvs)(k:κ){d:D}(hd:DF K H v d):bB K H (ws.map λkv=>if kv.1=k then(kv.1,v)else kv) (kvs.map λkv=>if kv.1=k then(kv.1,d)else kv):=by
 induction h with
 | nil=>exact .nil
 | @cons p q ps qs hq t ih=>
  refine .cons ?_ ih;dsimp only
  by_cases hk:p.1=k
  .have eQ:q.1=k:=hq.1▸hk
   rw[if_pos hk,if_pos eQ];exact⟨hq.1,hd⟩
  .have eQ:¬q.1=k:=λz=>hk<|hq.1.trans z
   rw[if_neg hk,if_neg eQ];exact hq
theorem bB.put{ws:Qa (κ×V)}{kvs:Qa (κ×D)}(h:bB K H ws kvs)(k:κ){d:D}(hd:DF K H v d):bB K H (cc ws k v) (dI kvs k d):=by
 unfold cc dI;rw[h.any k];split
 .exact h.j0 k hd
 .exact Paired.snoc h ⟨rfl,hd⟩
theorem bB.len{ws:Qa (κ×V)}{kvs:Qa (κ×D)}(h:bB K H ws kvs):ws.length=kvs.length:=Paired.length h
end
def t7(kvs:Qa (D×D))(k:Qa Key):Qb D:=(kvs.find? λkv=>decide<|bN kv.1=some k).map (·.2)
theorem gE.val{kvs:Qa (D×D)}(h:gE K H ws kvs)(k:Qa Key):(∃ v d,ft ws k=some v/\t7 kvs k=some d/\DF K H v d)\/(ft ws k=none/\t7 kvs k=none):=by
 induction ws generalizing kvs with
 | nil=>cases h; exact .inr ⟨rfl,rfl⟩
 | cons p ws ih=>
  cases h with
  | @cons k' v d _ ds hv t=>
   unfold ft t7 at ih ⊢;rw[List.find?_cons,List.find?_cons]
   by_cases hk:k'=k
   .have eQ:bN (gN k')=some k:=by rw[Bo,hk]
    rw[decide_eq_true hk,decide_eq_true eQ];exact .inl ⟨_,_,rfl,rfl,hv⟩
   .have eQ:¬bN (gN k')=some k:=by rw[Bo]; exact λz=>hk<|qy z
    rw[decide_eq_false hk,decide_eq_false eQ];exact ih t
def kN(u y:U):Qb (Qb D):=match u,y with
 | .t kvs,.d y=>(bN y).map λk=>mf kvs k
 | .k kvs,.d y=>(qR y).map λk=>mf kvs k
 | .d (.dict kvs),.d y=>if gZ kvs=true then(bN y).map λk=>t7 kvs k else none
 | _,_=>none
theorem Lv{u y:U}{o:Qb D}{x:V}(hu:Rp K H x u)(hy:Rp K H v y)(e:kN u y=some o):∃ a,x=.ref a/\((∃ w d,o=some d/\qV K H a v (some w)/\DF K H w d)\/(o=none/\qV K H a v none)):=by
 unfold kN at e;split at e
 .rename_i kvs y
  have(k,ek,rfl):=qr.mp e;have(a,ws,rfl,h1,h2):=hu;have(b,rfl,hb):=oZ hy ek;refine⟨a,rfl,?_⟩;rcases h2.val k with⟨w,d,e1,e2,p⟩|⟨e1,e2⟩
  .exact .inl ⟨w,d,e2,.inr ⟨ws,k,b,.inl h1,rfl,hb,e1.symm⟩,p⟩
  .exact .inr ⟨e2,.inr ⟨ws,k,b,.inl h1,rfl,hb,e1.symm⟩⟩
 .rename_i kvs y
  have(k,ek,rfl):=qr.mp e;have(a,ws,rfl,h1,h2):=hu;cases KO hy ek;refine⟨a,rfl,?_⟩;rcases h2.val k with⟨w,d,e1,e2,p⟩|⟨e1,e2⟩
  .exact .inl ⟨w,d,e2,.inl ⟨ws,k,.inl h1,rfl,e1.symm⟩,p⟩
  .exact .inr ⟨e2,.inl ⟨ws,k,.inl h1,rfl,e1.symm⟩⟩
 .rename_i kvs y
  split at e
  rotate_left
  .cases e
  rename_i nx;have(k,ek,rfl):=qr.mp e;have(a,ob,ws,rfl,h1,h2):=DF.bX hu nx;have(b,rfl,hb):=oZ hy ek;refine⟨a,rfl,?_⟩;rcases h2.val k with⟨w,d,e1,e2,p⟩|⟨e1,e2⟩
  .exact .inl ⟨w,d,e2,.inr ⟨ws,k,b,.inr ⟨ob,h1⟩,rfl,hb,e1.symm⟩,p⟩
  .exact .inr ⟨e2,.inr ⟨ws,k,b,.inr ⟨ob,h1⟩,rfl,hb,e1.symm⟩⟩
 .cases e
def dn(md my:ME):ME:=λρ=>(md ρ).bind λp=>(my p.2).bind λq=>(p.1.get q.2).bind λu=>(q.1.get q.2).bind λy=>(kN u y).bind λo=>o.bind λd=>some (.u<|.d d,q.2)
theorem fA{md my:ME}(hd:VE K td md)(hy:VE K ty my):VE K (DZ K td ty) (dn md my):=by
 intro ρ σ H a ai Q r e q;obtain⟨⟨a1,aj⟩,e1,e⟩:=zd e;obtain⟨⟨b1,aw⟩,e2,e⟩:=zd e;have(u,eu,e):=zd e;have(y,ey,e):=zd e;have(o,eo,e):=zd e;have(d,ed,e):=zd e;cases e;refine hd ρ σ H a1 aj _ r e1 λv1 H1 g1 k1=>hy aj σ H1 b1 _ _ g1.rs e2 λv2 H2 g2 k2=>?_;have(b,rfl,h):=Lv (k1.later r g1 g2 eu) (k2.now g1.rs g2 ey) eo;rcases h with⟨w,d',rfl,g,p⟩|⟨rfl,_⟩
 .cases ed
  exact⟨b,w,rfl,g,q w H2 (g1.trans g2) ⟨p,Nw.data⟩⟩
 .cases ed
def iZ:ME:=λρ=>some (.u<|.t [],ρ)
theorem lD:VE K AL iZ:=by
 intro ρ σ H a ai Q r e q;cases e;intro p hp;have sm:=zU hp (.dT []);exact q _ _ (Go.grow r sm) ⟨⟨p,[],rfl,zy,.nil⟩,λ_=>⟨p,rfl,hp⟩⟩
def iw(i:Nat)(my mv:ME):MS:=λρ=>(ρ[i]?).join.bind λ_=>(mv ρ).bind λp=>(my p.2).bind λq=>(p.1.get q.2).bind λx=>(q.1.get q.2).bind λy=>match x,y,q.2[i]? with
 | .d x,.d y,some (some<|.t kvs)=>(bN y).bind λk=>if kvs.length < sizeLine then some (.nx<|q.2.set i<|some<|.t<|dI kvs k x)else none
 | .d x,.d y,some (some<|.k kvs)=>(qR y).bind λk=>if kvs.length < sizeLine then some (.nx<|q.2.set i<|some<|.k<|dI kvs k x)else none
 | _,_,_=>none
theorem mL{my mv:ME}(hy:VE K ty my)(hv:VE K tv mv):VS K pn EX (DY K (mq i) ty tv) (iw i my mv):=by
 intro ah A aq av ρ σ H f D s e k;replace e:=zd e;have(w0,e0,e):=e;replace e:=zd e;obtain⟨⟨a,aj⟩,e1,e⟩:=e;replace e:=zd e;obtain⟨⟨b,aw⟩,e2,e⟩:=e;replace e:=zd e;have(u,eu,e):=e;replace e:=zd e;have(w,ew,e):=e;have(v0,gC,_):=s.rs.rep i w0 (rO e0);refine hv ρ σ H a aj _ s.rs e1 λv H1 g1 k1=>⟨v0,gC,?_⟩;refine hy aj σ H1 b aw _ g1.rs e2 λy H2 g2 k2=>?_;have pv:=k1.later s.rs g1 g2 eu;have py:=k2.now g1.rs g2 ew;dsimp only at e;split at e
 .rename_i x yd kvs ex
  replace e:=zd e;have(ks,ek,e):=e;split at e
  .rename_i hz
   cases e;have(w',cK,p1):=g2.rs.rep i _ ex;have(l,us,rfl,hl,ds):=p1;rw[gC]at cK;cases cK;have(kb,rfl,sS):=oZ py ek;refine⟨l,_,rfl,og.t hl sS (by rw[ds.len]; exact hz),k _ _<|(s.go<|g1.trans g2).go<|Go.own (u':=.t (dI kvs ks x)) g2.rs ex rfl gC ?_⟩;have kp:=i3 hl trivial (.dT<|cc us ks v);exact⟨l,_,rfl,zy,(ds.kp kp).put ks<|DF.kp kp pv⟩
  .cases e
 .rename_i x yd kvs ex
  replace e:=zd e;have(ks,ek,e):=e;split at e
  .rename_i hz
   cases e;have(w',cK,p1):=g2.rs.rep i _ ex;have(l,us,rfl,hl,ds):=p1;rw[gC]at cK;cases cK;cases KO py ek;refine⟨l,_,rfl,og.k hl (by rw[ds.len]; exact hz),k _ _<|(s.go<|g1.trans g2).go<|Go.own (u':=.k (dI kvs ks x)) g2.rs ex rfl gC ?_⟩;have kp:=i3 hl trivial (.dK<|cc us ks v);exact⟨l,_,rfl,zy,(ds.kp kp).put ks<|DF.kp kp pv⟩
  .cases e
 .cases e
def kY:U->Qb (Qa D)
 | .d (.dict kvs)=>if gZ kvs=true then some (kvs.map (·.1))else none
 | _=>none
theorem Mz:∀ {ws:Qa (Qa Key×V)} {kvs:Qa (D×D)},gE K H ws kvs->kvs.map (·.1)=ws.map λp=>gN p.1
 | [],_,.nil=>rfl
 | _::_,_,.cons _ t=>by rw[List.map_cons,List.map_cons,Mz t]
theorem rK{me:ME}(h:VE K te me):VI K (KE K te) (d9 kY me):=by
 intro ρ σ H ds ai R r e q;obtain⟨⟨a,aj⟩,e1,e⟩:=zd e;have(u,eu,e):=zd e;have(xs,ex,e):=zd e;cases e;refine h ρ σ H a _ _ r e1 λv H1 g1 k1=>?_;have p:=k1.now r g1 eu;unfold kY at ex;split at ex
 .split at ex
  rotate_left
  .cases ex
  rename_i nx;cases ex;have(b,o,ws,rfl,h1,h2):=DF.bX p nx;refine⟨b,ws,rfl,.inr ⟨o,h1,q _ _ g1 λH2 k i=>?_⟩⟩;rw[Mz h2];have gQ:=k.aZ _ _ _ h1;refine⟨λd ed=>?_,λei=>?_⟩
  .rw[List.getElem?_map]at ed
   obtain⟨⟨ks,w⟩,ew,rfl⟩:=qr.mp ed;refine⟨⟨gQ,(ql.mp ew).1⟩,λx H' y=>?_⟩;have(rfl,y):=y;have(kb,rfl,sS):=y ks w ew;exact⟨λ_ _ z=>z,.tup sS wG⟩
  .rw[List.length_map]at ei
   exact⟨gQ,Nat.le_of_eq ei.symm⟩
 .cases ex
end
section
variable{ρ ai:En}
abbrev MO:=En->Qb (Qb Int×En)
def yZ(K:qc)(t:TO)(m:MO):Prop :=
 ∀ (ρ:En) (σ:St) (H:Hp) (o:Qb Int) (ai:En) (Q:Qb Int->Hp->Prop),Rs K ρ σ H->m ρ=some (o,ai)->(∀ H',Go K ρ σ H ai H'->Q o H')->t σ H Q
def wF:MO:=λρ=>some (none,ρ)
def v7(me:ME):MO:=λρ=>(me ρ).bind λp=>(p.1.get p.2).bind λu=>match u with | .d (.int i)=>some (some i,p.2) | _=>none
theorem Lu:yZ K E2 wF:=λρ σ H o ai Q r e q=>by cases e; exact q H<|Go.refl r
theorem Ls{me:ME}(h:VE K te me):yZ K (D1 te) (v7 me):=by
 intro ρ σ H o ai Q r e q;replace e:=zd e;obtain⟨⟨a,aj⟩,e1,e⟩:=e;replace e:=zd e;have(u,eu,e):=e;refine h ρ σ H a aj _ r e1 λv H1 g1 k1=>?_;have p:=k1.now r g1 eu;dsimp only at e;split at e
 .rename_i i
  cases e;exact⟨i,DF.int_inv p,q _ g1⟩
 .cases e
def jF(xs:Qa D)(lo hi:Qb Int):Qa D:=(xs.drop<|HT.dU xs.length 0 lo).take (HT.dU xs.length xs.length hi - HT.dU xs.length 0 lo)
theorem aK.cut{xs:Qa V}{ds:Qa D}(h:aK K H xs ds)(lo hi:Qb Int):aK K H (oh xs lo hi) (jF ds lo hi):=by
 unfold oh jF;rw[h.len];exact(h.drop _).take _
def Rl(K:qc)(r:V->Qb Int->Qb Int->Hp->VK->Prop)(f:U->Qb Int->Qb Int->Qb U):Prop :=
 ∀ (x:V) (a u:U) (lo hi:Qb Int) (H:Hp) (Q:VK),Rp K H x a->f a lo hi=some u->(∀ v H',b9 H H'->Rp K H' v u->Nw H v u->Q v H')->r x lo hi H Q
def xN(f:U->Qb Int->Qb Int->Qb U)(me:ME)(ml mh:MO):ME:=λρ=>(me ρ).bind λp=>(ml p.2).bind λl=>(mh l.2).bind λh=>(p.1.get h.2).bind λx=>(f x l.1 h.1).bind λu=>some (.u u,h.2)
theorem Je{r:V->Qb Int->Qb Int->Hp->VK->Prop}{f:U->Qb Int->Qb Int->Qb U}{tl th:TO}{me:ME}{ml mh:MO}(hs:Rl K r f)(he:VE K te me)(hl:yZ K tl ml)(hh:yZ K th mh):VE K (Gv r te tl th) (xN f me ml mh):=by
 intro ρ σ H a ai Q rs e q;obtain⟨⟨a1,aj⟩,e1,e⟩:=zd e;obtain⟨⟨lo,aw⟩,e2,e⟩:=zd e;obtain⟨⟨hi,jq⟩,e3,e⟩:=zd e;have(x,ex,e):=zd e;have(u,eu,e):=zd e;cases e;refine he ρ σ H a1 aj _ rs e1 λv1 H1 g1 k1=>hl aj σ H1 lo aw _ g1.rs e2 λH2 g2=>hh aw σ H2 hi _ _ g2.rs e3 λH3 g3=>?_;refine hs _ x u lo hi H3 _ (k1.later rs g1 (g2.trans g3) ex) eu λv H4 s p n=>?_;have g:=g1.trans (g2.trans g3);exact q v H4 (g.trans<|Go.grow g.rs s) ⟨p,n.mono g.dm⟩
def tQ(u:U)(lo hi:Qb Int):Qb U:=match u with
 | .l xs=>some<|.l<|jF xs lo hi
 | .d (.list xs)=>some<|.l<|jF xs lo hi
 | _=>none
theorem Lr:Rl K (De K) tQ:=by
 intro x a u lo hi H Q p e q;unfold tQ at e;split at e
 .cases e
  have(b,us,rfl,h1,h2):=p;refine⟨b,us,rfl,bq.of h1,λl hl=>?_⟩;have sm:=zU hl (.lst<|oh us lo hi);exact q _ _ sm ⟨l,_,rfl,zy,(h2.cut lo hi).kp sm.kp⟩ λ_=>⟨l,rfl,hl⟩
 .cases e
  have(b,us,rfl,h1,h2):=DF.lst_inv p;refine⟨b,us,rfl,h1.sq,λl hl=>?_⟩;have sm:=zU hl (.lst<|oh us lo hi);exact q _ _ sm ⟨l,_,rfl,zy,(h2.cut lo hi).kp sm.kp⟩ λ_=>⟨l,rfl,hl⟩
 .cases e
def zAw(u:U)(lo hi:Qb Int):Qb U:=match u with
 | .d (.tuple xs)=>some<|.d<|.tuple<|jF xs lo hi
 | _=>none
def rf:Qa Int->Int->Int
 | [],d=>d
 | n::ns,_=>ns.foldl (λa b=>if a < b then b else a) n
theorem Fq(ns:Qa Int)(d:Int):(ns=[]/\rf ns d=d)\/(rf ns d∈ns/\∀ x∈ns,x<=rf ns d):=by
 cases ns with
 | nil=>exact .inl ⟨rfl,rfl⟩
 | cons n ns=>
  refine .inr ?_;show List.foldl _ n ns∈n::ns/\∀ x∈n::ns,x<=List.foldl _ n ns;have key:∀ (ns:Qa Int) (n:Int),(ns.foldl (λa b=>if a < b then b else a) n=n\/ns.foldl (λa b=>if a < b then b else a) n∈ns)/\n<=ns.foldl (λa b=>if a < b then b else a) n/\∀ x∈ns,x<=ns.foldl (λa b=>if a < b then b else a) n:=by
   intro ns
   induction ns with
   | nil=>intro n; exact⟨.inl rfl,Ò _,λx hx=>by cases hx⟩
   | cons m ns ih=>
    intro n;rw[List.foldl_cons];have(a1,a2,a3):=ih (if n < m then m else n);refine⟨?_,?_,λx hx=>?_⟩
    .rcases a1 with z|z
     .rw[z]
      split
      .exact .inr qp
      .exact .inl rfl
     .exact .inr (qo _ z)
    .split at a2<;>rename_i h<;>(try rw[if_pos h])<;>(try rw[if_neg h])<;>omega
    .rcases qw.mp hx with rfl|hx
     .split at a2<;>rename_i h<;>(try rw[if_pos h])<;>(try rw[if_neg h])<;>omega
     .exact a3 x hx
  have(a1,a2,a3):=key ns n;refine⟨?_,λx hx=>?_⟩
  .rcases a1 with z|z
   .rw[z]; exact qp
   .exact qo _ z
  .rcases qw.mp hx with rfl|hx
   .exact a2
   .exact a3 x hx
def Rm(K:qc)(r:Qa V->Qa V->Hp->VK->Prop)(f:Qa U->Qa U->Qb U):Prop :=
 ∀ (vs zs:Qa V) (us ws:Qa U) (u:U) (H:Hp) (Q:VK),tN K H vs us->tN K H zs ws->f us ws=some u->(∀ v H',b9 H H'->Rp K H' v u->Nw H v u->Q v H')->r vs zs H Q
def yY(f:Qa U->Qa U->Qb U)(ma mk:MA):ME:=λρ=>(ma ρ).bind λp=>(mk p.2).bind λq=>(bz q.2 p.1).bind λus=>(bz q.2 q.1).bind λws=>(f us ws).bind λu=>some (.u u,q.2)
theorem S7{r:Qa V->Qa V->Hp->VK->Prop}{f:Qa U->Qa U->Qb U}{t tk:TA}{m mk:MA}(hc:Rm K r f)(h:jA K t m)(hk:jA K tk mk):VE K (Ji r t tk) (yY f m mk):=by
 intro ρ σ H a ai Q rs e q;obtain⟨⟨as,aj⟩,e1,e⟩:=zd e;obtain⟨⟨bs,aw⟩,e2,e⟩:=zd e;have(us,eu,e):=zd e;have(ws,ew,e):=zd e;have(u,ef,e):=zd e;cases e;refine h ρ σ H as aj _ rs e1 λvs H1 g1 s1=>hk aj σ H1 bs _ _ g1.rs e2 λzs H2 g2 s2=>?_;have r1:tN K H2 vs us:=KD s1.len (λi a ea=>let ⟨v,ev,k⟩:=s1.ar i a ea; ⟨v,ev,λu eu=>k.later rs g1 g2 eu⟩) eu;refine hc vs zs us ws u H2 _ r1 (s2.pP g1.rs g2 ew) ef λv H3 s p n=>?_;have g:=g1.trans g2;exact q v H3 (g.trans<|Go.grow g.rs s) ⟨p,n.mono g.dm⟩
def Ah:Qa U->Qa U->Qb U
 | [u],[.d<|.int d]=>u.items.bind λxs=>(iV xs).map λns=>.d<|.int<|rf ns d
 | _,_=>none
theorem Xw:Rm K (JI K) Ah:=by
 intro vs zs us ws u H Q h1 h2 e q;unfold Ah at e;split at e
 .rename_i w d
  cases h1 with
  | cons h1 t=>
   cases t;cases h2 with
   | cons h2 t=>
    cases t;have(xs,ex,e):=zd e;have(ns,en,rfl):=qr.mp e;have(p,ys,rfl,s,dd):=h1.items ex;cases wU dd en;cases DF.int_inv h2;exact⟨p,ns,d,rf ns d,rfl,rfl,s,Fq ns d,q _ _ (λ_ _ z=>z) (.int _) Nw.data⟩
 .cases e
theorem F7{r:α->α->Prop}(as:∀ a b,r a b->¬r b a):∀ {L M:Qa α},L.Perm M->L.Pairwise r->M.Pairwise r->L=M
 | [],M,p,_,_=>(List.nil_perm.mp p).symm▸rfl
 | a::L,[],p,_,_=>by have:=p.length_eq; simp at this
 | a::L,b::M,p,h1,h2=>by
  have(a1,a2):=Ü.mp h1;have(b1,b2):=Ü.mp h2;have e:a=b:=by
   rcases qw.mp (p.mem_iff.mp<|qp (a:=a) (l:=L))with z|z
   .exact z
   .rcases qw.mp (p.mem_iff.mpr<|qp (a:=b) (l:=M))with y|y
    .exact y.symm
    .exact absurd (b1 a z) (as a b<|a1 b y)
  subst e;rw[F7 as p.cons_inv a2 b2]
noncomputable def pk:D->Qb (Qa Int)
 | .tuple [.tuple ks,_]=>iV ks
 | _=>none
noncomputable def vf:Qa D->Qb (Qa<|Qa Int)
 | []=>some []
 | d::ds=>(pk d).bind λk=>(vf ds).bind λks=>some<|k::ks
def qM(a b:D):Prop:=∃ k m,pk a=some k/\pk b=some m/\aV k m=true
theorem qM.Ip(a b:D)(h:qM a b):¬qM b a:=by
 rintro⟨k',m',e1,e2,h'⟩;have(k,m,e3,e4,h):=h;rw[e3]at e2;rw[e4]at e1;cases e1;cases e2;have:=jU h h';rw[jR]at this;cases this
open Classical in
noncomputable def Ag(xs:Qa D):Qa D:=if h:∃ L,L.Perm xs/\L.Pairwise qM then h.choose else []
theorem My{xs L:Qa D}(p:L.Perm xs)(s:L.Pairwise qM):Ag xs=L:=by
 have h:∃ L:Qa D,L.Perm xs/\L.Pairwise qM:=⟨L,p,s⟩;unfold Ag;rw[dif_pos h];exact F7 qM.Ip (h.choose_spec.1.trans p.symm) h.choose_spec.2 s
noncomputable def U.lst:U->Qb (Qa D)
 | .l xs=>some xs
 | .d (.list xs)=>some xs
 | _=>none
theorem Rp.lst{u:U}{xs:Qa D}(h:Rp K H v u)(e:u.lst=some xs):∃ p ys,v=.ref p/\bq K H p ys/\aK K H ys xs:=by
 cases u with
 | d x=>
  cases x with
  | list ds=>cases e; have(a,ys,rfl,h1,h2):=DF.lst_inv h; exact⟨a,ys,rfl,h1.sq,h2⟩
  | _=>cases e
 | l ds=>cases e; have(a,ys,rfl,h1,h2):=h; exact⟨a,ys,rfl,bq.of h1,h2⟩
 | t=>cases e
 | k=>cases e
 | o=>cases e
noncomputable def wj(u:U):Qb U:=u.lst.bind λxs=>(vf xs).bind λks=>if xs.length < 64/\ks.Nodup then some (.l<|Ag xs)else none
theorem Lp:∀ {xs:Qa D} {ks:Qa (Qa Int)},vf xs=some ks->ks.length=xs.length
 | [],ks,e=>by cases e; rfl
 | x::xs,ks,e=>by
  have(k,e1,e):=zd e;have(fU,e2,e):=zd e;cases e;simp[Lp e2]
theorem AV:∀ {xs:Qa D} {ks:Qa (Qa Int)} {i:Nat} {x:D},vf xs=some ks->xs[i]?=some x->pk x=some (ks.getD i [])
 | [],ks,i,x,e,ex=>by simp at ex
 | y::xs,ks,i,x,e,ex=>by
  have(k,e1,e):=zd e;have(fU,e2,e):=zd e;cases e;cases i with
  | zero=>cases(show some y=some x from ex); exact e1
  | succ i=>exact AV (i:=i) e2 ex
theorem Mx:VC K (KG K) (f1 wj):=gH λv a u H Q h e q=>by
 have(xs,ex,e):=zd e;have(ks,ek,e):=zd e;split at e
 .rename_i hc
  cases e;have(p,ys,rfl,sq,ds):=h.lst ex;have ly:=ds.len;have lk:=Lp ek;refine⟨p,ys,ks,rfl,sq,by omega,⟨by omega,λi v ev=>?_⟩,hc.2,λis r hp hs hr=>?_⟩
  .have(d,ed,dv):=ds.get' ev
   have kd:=AV ek ed;unfold pk at kd;split at kd
   .rename_i kk y
    have(a,zs,rfl,h1,h2):=DF.aJ dv;cases h2 with
    | @cons z1 _ _ _ h3 t=>
     cases t with
     | @cons z2 _ _ _ h4 t=>
      cases t;have(b,ns,rfl,h5,h6):=DF.aJ h3;exact⟨a,b,z2,rfl,(aM.sq h1),by rw[<-wU h6 kd]; exact(aM.sq h5)⟩
   .cases kd
  .have sm:=zU hr (.lst<|is.map λi=>ys.getD i .aT)
   have lt:∀ i∈is,i < xs.length:=λi hi=>by
    have:=ã.mp (hp.mem_iff.mp hi);omega
   have ext:(List.range xs.length).map (λi=>xs.getD i .none)=xs:=by
    apply List.ext_getElem?;intro j;rw[List.getElem?_map]
    by_cases hj:j < xs.length
    .rw[List.getElem?_range hj,Option.map_some,qC,qm hj]
     rfl
    .rw[List.getElem?_eq_none (by simpa using hj),List.getElem?_eq_none (by omega)]
     rfl
   have pY:(is.map λi=>xs.getD i .none).Perm xs:=by
    have:=hp.map λi=>xs.getD i .none;rw[ly,ext]at this;exact this
   have pW:(is.map λi=>xs.getD i .none).Pairwise qM:=by
    rw[List.pairwise_map]at hs ⊢;refine hs.imp_of_mem λ{i j} hi hj ff=>?_;have gi:=qm (lt i hi);have gj:=qm (lt j hj);refine⟨_,_,?_,?_,ff⟩
    .rw[qC,gi]
     exact AV ek gi
    .rw[qC,gj]
     exact AV ek gj
   rw[My pY pW]at q;refine q _ _ sm ⟨r,_,rfl,zy,?_⟩ λ_=>⟨r,rfl,hr⟩;refine aK.kp sm.kp ?_;clear hs hp pY pW q sm
   induction is with
   | nil=>exact .nil
   | cons i is ih=>
    refine .cons ?_<|ih λj hj=>lt j<|qo _ hj;have gi:=qm (lt i qp);have(v,ev,dv):=ds.get gi;dsimp only;rw[qC,qC,gi,ev];exact dv
 .cases e
end
theorem Nn:∀ {xs:Qa V} {us:Qa Qc},xs.length=us.length->(∀ (j:Nat) x u,xs[j]?=some x->us[j]?=some u->zV x u)->zO xs us
 | [],[],_,_=>.nil
 | [],_::_,h,_=>by simp at h
 | _::_,[],h,_=>by simp at h
 | x::xs,u::us,h,a=>.cons (a 0 x u rfl rfl)<|Nn (by simpa using h) λj y v e1 e2=>a (j+1) y v e1 e2
section
variable{ρ ai:En}
noncomputable def zyO(ma:MA):ME:=λρ=>(ma ρ).bind λp=>(bz p.2 p.1).bind λus=>match us with
 | [.d<|.int j]=>if(-(2^62)<=j/\j < 2^62)/\j.toNat<=sizeLine then some (.u<|.l<|gK 0 j.toNat,p.2)else none
 | _=>none
noncomputable def gW:MT:=λρ=>some (true,ρ)
theorem jO:VT K Ds gW:=λρ σ H b ai Q r e q=>by cases e; exact q H<|Go.refl r
noncomputable def sV:D->Qb V
 | .none=>some .aT
 | .bool b=>some<|.bl b
 | .int i=>some<|.int i
 | .str x=>some<|.str x
 | _=>none
theorem yX{x:D}{w:V}(h:DF K H v x)(e:sV x=some w):v=w:=by
 cases h<;>cases e<;>rfl
noncomputable def gU(neg:Bool):U->U->Qb U
 | .d x,.d y=>(sV x).bind λv=>(sV y).bind λw=>if yQ v w=true then some (.d<|.bool (if neg=true then !decide (v=w)else decide (v=w)))else none
 | _,_=>none
theorem UW:VO K Pl (gU false):=by
 intro x y a b u H Q ha hb e q;unfold gU at e;split at e
 .have(v,ev,e):=zd e
  have(w,ew,e):=zd e;split at e
  .rename_i hs
   cases e;cases yX ha ev;cases yX hb ew;exact⟨hs,q _ _ (λ_ _ z=>z) (.bl _) Nw.data⟩
  .cases e
 .cases e
theorem uD:VO K Pj (gU true):=by
 intro x y a b u H Q ha hb e q;unfold gU at e;split at e
 .have(v,ev,e):=zd e
  have(w,ew,e):=zd e;split at e
  .rename_i hs
   cases e;cases yX ha ev;cases yX hb ew;exact⟨hs,q _ _ (λ_ _ z=>z) (.bl _) Nw.data⟩
  .cases e
 .cases e
noncomputable def oJ:U->Bool
 | .d .none=>true
 | _=>false
noncomputable def jE(neg:Bool):U->U->Qb U
 | a,.d .none=>some<|.d<|.bool (if neg=true then !oJ a else oJ a)
 | _,_=>none
theorem Xv{a:U}(h:Rp K H v a):decide (v=.aT)=oJ a:=by
 cases a with
 | d x=>cases(show DF K H v x from h)<;>simp[oJ]
 | l=>have(_,_,rfl,_):=h; simp[oJ]
 | t=>have(_,_,rfl,_):=h; simp[oJ]
 | k=>have(_,_,rfl,_):=h; simp[oJ]
 | o=>have(_,_,_,_,_,rfl,_):=h; simp[oJ]
theorem Eg:VO K (λx y H Q=>y=.aT/\Q (.bl<|decide<|x=.aT) H) (jE false):=by
 intro x y a b u H Q ha hb e q;unfold jE at e;split at e
 .cases e
  refine⟨by cases hb; rfl,?_⟩;rw[Xv ha];exact q _ _ (λ_ _ z=>z) (.bl _) Nw.data
 .cases e
theorem UU{F:FD}{E:XK}(hO:yO H)(hS:bq K H a (ns.map V.int))(h:∃ outs,F [.d<|.list<|ns.map .int]=some (.d<|.bool true,outs)):lP K 1 F [.ref a] H (λv _=>v=.bl true) E:=by
 have(outs,ho):=h;have pl:PL K H a (ns.map V.int):=by
  rcases hS with (h|⟨o,h⟩) | h
  .rcases hO a with z|⟨o,xs,z⟩
   .rw[z]at h; cases h
   .rw[z]at h; cases h
  .exact .inl ⟨o,h⟩
  .exact .inr h
 have dd:aK K H (ns.map V.int) (ns.map PyData.int):=by
  clear ho hS pl
  induction ns with
  | nil=>exact .nil
  | cons n ns ih=>exact .cons (.int n) ih
 refine⟨[.d<|.list<|ns.map .int],.d<|.bool true,outs,rfl,⟨rfl,λi u e=>?_,λi j u w ei ej ou ow es=>?_⟩,ho,λv H' g p n=>DF.ik p⟩
 .have e':=fx.mp e
  cases i with
  | zero=>cases e'; exact⟨.ref a,rfl,DF.lst pl dd⟩
  | succ i=>simp at e'
 .have e':=fx.mp ei
  cases i with
  | zero=>cases e'; cases ou
  | succ i=>simp at e'
end
section
variable{ρ:En}{me ma mb mk mi md my mv:ME}{mA mK:MA}{mt mu:MT}{m1 m2:MS}{u:U}{x:D}{f:U->U->Qb U}
theorem bd{a:α}{f:α->Qb β}:(some a).bind f=f a:=rfl
theorem WK{u:U}:Ar.get ρ (.u u)=some u:=rfl
theorem Zg:Ar.get ρ (.s i)=(ρ[i]?).join:=rfl
theorem znA{u:U}:(some<|some u).join=some u:=rfl
theorem UT:zk i ρ=(ρ[i]?).join.bind λ_=>some (.s i,ρ):=by
 unfold zk;cases ρ[i]? with
 | none=>rfl
 | some o=>cases o<;>rfl
theorem zAk:mC x ρ=some (.u<|.d x,ρ):=rfl
theorem S6:au f ma mb ρ=(ma ρ).bind λp=>(mb p.2).bind λq=>(p.1.get q.2).bind λx=>(q.1.get q.2).bind λy=>(f x y).bind λu=>some (.u u,q.2):=rfl
theorem S5{f:U->Qb U}:m7 f ma ρ=(ma ρ).bind λp=>(p.1.get p.2).bind λx=>(f x).bind λu=>some (.u u,p.2):=rfl
theorem US:zu ρ=some ([],ρ):=rfl
theorem Xu:zj me mA ρ=(me ρ).bind λp=>(mA p.2).bind λq=>some (p.1::q.1,q.2):=rfl
theorem zkP:bz ρ []=some []:=rfl
theorem N7{a:Ar}{as:Qa Ar}:bz ρ (a::as)=(a.get ρ).bind λu=>(bz ρ as).bind λus=>some (u::us):=rfl
theorem ziP:ju []=some []:=rfl
theorem zho{us:Qa U}:ju (.d x::us)=(ju us).bind λxs=>some (x::xs):=rfl
theorem UR:cz mA ρ=(mA ρ).bind λp=>(bz p.2 p.1).bind λus=>(ju us).bind λds=>if ds.length<=sizeLine then some (.u<|.d<|.tuple ds,p.2)else none:=rfl
theorem UQ:oz mA ρ=(mA ρ).bind λp=>(bz p.2 p.1).bind λus=>(ju us).bind λds=>if ds.length<=sizeLine then some (.u<|.l ds,p.2)else none:=rfl
theorem S4{f:Qa U->Qb U}:bf f mA ρ=(mA ρ).bind λp=>(bz p.2 p.1).bind λus=>(f us).bind λu=>some (.u u,p.2):=rfl
theorem UP{f:Qa U->Qa U->Qb U}:yY f mA mK ρ=(mA ρ).bind λp=>(mK p.2).bind λq=>(bz q.2 p.1).bind λus=>(bz q.2 q.1).bind λws=>(f us ws).bind λu=>some (.u u,q.2):=rfl
theorem UO{f:FD}:aO f mA ρ=(mA ρ).bind λp=>if eV p.2 p.1=true then(bz p.2 p.1).bind λus=>(f us).bind λo=>some (.u o.1,wb p.2 p.1 o.2)else none:=rfl
theorem zkQ:eV ρ []=true:=rfl
theorem Zf{as:Qa Ar}:eV ρ (.u u::as)=eV ρ as:=rfl
theorem Vl{as:Qa Ar}:eV ρ (.s j::as)=((match ρ[j]? with|some (some u)=>!u.own || !(as.any λa=>match a with | .s k=>decide (k=j) | _=>false) | _=>true) && eV ρ as):=rfl
theorem S3{as:Qa Ar}{o:U}{os:Qa U}:wb ρ (.s j::as) (o::os)=wb (ρ.set j<|some o) as os:=rfl
theorem S2{as:Qa Ar}{o:U}{os:Qa U}:wb ρ (.u u::as) (o::os)=wb ρ as os:=rfl
theorem Ze:wb ρ [] []=ρ:=rfl
noncomputable def kM(m2:MS):Fl->Qb Fl
 | .nx ai=>m2 ai
 | f=>some f
theorem eC{o:Qb α}{f g:α->Qb β}(h:∀ a,f a=g a):o.bind f=o.bind g:=by cases o with|none=>rfl|some a=>exact h a
theorem Vk:zK m1 m2 ρ=(m1 ρ).bind (kM m2):=eC λf=>by cases f<;>rfl
theorem znB:kM m2 (.nx ρ)=m2 ρ:=rfl
theorem znC:kM m2 (.rt u ρ)=some (.rt u ρ):=rfl
noncomputable def U.dat:U->Qb U
 | .d x=>some<|.d x
 | _=>none
theorem WJ:U.dat (.d x)=some (.d x):=rfl
theorem WI:put (.s i,ρ)=(ρ[i]?).join.bind λu=>u.dat.bind λd=>some (d,ρ):=by
 unfold put;dsimp only;cases ρ[i]? with
 | none=>rfl
 | some o=>
  cases o with
  | none=>rfl
  | some u=>cases u<;>rfl
theorem WH:put (.u u,ρ)=some (u,ρ):=rfl
theorem Vj:aS i me ρ=(me ρ).bind λp=>(put p).bind λq=>some (.nx<|q.2.set i<|some q.1):=rfl
theorem Vi:bY me ρ=(me ρ).bind λp=>(put p).bind λq=>some (.rt q.1 q.2):=rfl
theorem Xt:jK pn i ρ=if i∈pn then none else(ρ[i]?).join.bind λu=>some (.rt u<|ρ.set i none):=by
 unfold jK;split
 .rfl
 .cases ρ[i]? with
  | none=>rfl
  | some o=>cases o<;>rfl
theorem Xs:cN ρ=some (.nx ρ):=rfl
theorem Xr:t8 me ρ=(me ρ).bind λp=>some (.nx p.2):=rfl
theorem Vh:cy mt m1 m2 ρ=(mt ρ).bind λp=>if p.1=true then m1 p.2 else m2 p.2:=rfl
noncomputable def U.yA:U->Qb Bool
 | .d (.bool b)=>some b
 | _=>none
theorem WG{b:Bool}:U.yA (.d<|.bool b)=some b:=rfl
theorem zAl:mB me ρ=(me ρ).bind λp=>(p.1.get p.2).bind λu=>u.yA.bind λb=>some (b,p.2):=by
 unfold mB;congr 1
 funext p
 congr 1
 funext u
 cases u with
 | d x=>cases x<;>rfl
 | l=>rfl
 | t=>rfl
 | k=>rfl
 | o=>rfl
theorem Vg:y0 mt mu ρ=(mt ρ).bind λp=>if p.1=true then mu p.2 else some (false,p.2):=rfl
theorem S1:sC mt mu ρ=(mt ρ).bind λp=>if p.1=true then some (true,p.2)else mu p.2:=rfl
theorem Vf:jH mt ρ=(mt ρ).bind λp=>some (!p.1,p.2):=rfl
theorem Xq:Aj ma mb ρ=(mB ma ρ).bind λp=>if p.1=true then mb p.2 else some (.u<|.d<|.bool false,p.2):=rfl
theorem Ve:vJ ma ρ=(ma ρ).bind λp=>(p.1.get p.2).bind λu=>u.xw.bind λb=>some (b,p.2):=rfl
theorem znD{n:Int}:U.xw (.d<|.int n)=some (n != 0):=rfl
theorem Vd:gW ρ=some (true,ρ):=rfl
noncomputable def U.lo:U->Qb (Qa D)
 | .l xs=>some xs
 | _=>none
theorem S0{xs:Qa D}:U.lo (.l xs)=some xs:=rfl
noncomputable def U.da:U->Qb D
 | .d x=>some x
 | _=>none
theorem SY:U.da (.d x)=some x:=rfl
noncomputable def U.num:U->Qb Int
 | .d (.int i)=>some i
 | _=>none
theorem WE{n:Int}:U.num (.d<|.int n)=some n:=rfl
theorem Zd:rH i me mi ρ=(ρ[i]?).join.bind λ_=>(me ρ).bind λp=>(mi p.2).bind λq=>(p.1.get q.2).bind λu=>(q.1.get q.2).bind λw=>u.da.bind λx=>w.num.bind λk=>(q.2[i]?).join.bind λz=>z.lo.bind λxs=>(fV xs.length k).bind λj=>some (.nx<|q.2.set i<|some<|.l<|xs.set j x):=by
 unfold rH;congr 1; funext _; congr 1; funext p; congr 1; funext q; congr 1; funext u; congr 1; funext w;cases u with
 | d x=>
  cases w with
  | d y=>
   cases y with
   | int k=>
    show(match U.d x,U.d<|.int k,q.2[i]? with | .d x,.d<|.int k,some (some<|.l xs)=>_|_,_,_=>none)=((q.2[i]?).join.bind _);cases q.2[i]? with
    | none=>rfl
    | some o=>
     cases o with
     | none=>rfl
     | some w=>cases w<;>rfl
   | _=>rfl
  | l=>rfl
  | t=>rfl
  | k=>rfl
  | o=>rfl
 | l=>rfl
 | t=>rfl
 | k=>rfl
 | o=>rfl
theorem Xp:dn md my ρ=(md ρ).bind λp=>(my p.2).bind λq=>(p.1.get q.2).bind λu=>(q.1.get q.2).bind λy=>(kN u y).bind λo=>o.bind λd=>some (.u<|.d d,q.2):=rfl
theorem Zc:iZ ρ=some (.u<|.t [],ρ):=rfl
noncomputable def Cb(x:D):Ar×En->En
 | (.s i,ρ)=>ρ.set i<|some<|.d x
 | (.u _,ρ)=>ρ
theorem SX:eO me ρ=(me ρ).bind λp=>(p.1.get p.2).bind λu=>u.fz.bind λx=>some (.u<|.d x,Cb x p):=by
 unfold eO;congr 1; funext p; congr 1; funext u; congr 1; funext x;have(a,aj):=p;cases a<;>rfl
theorem WD:Cb x (.s i,ρ)=ρ.set i (some<|.d x):=rfl
theorem WC:Cb x (.u u,ρ)=ρ:=rfl
theorem SW:U.fz (.d x)=some x:=rfl
theorem SV{xs:Qa D}:U.fz (.l xs)=some (.list xs):=rfl
theorem Tr{kvs:Qa (Qa Key×D)}:U.fz (.t kvs)=some (.dict<|kvs.map λp=>(gN p.1,p.2)):=rfl
theorem Tq{g:U->Qb (Qa D)}:d9 g me ρ=(me ρ).bind λp=>(p.1.get p.2).bind λu=>(g u).bind λds=>some (ds,p.2):=rfl
theorem Zb{xs:Qa D}:tT (.d<|.list xs)=some xs:=rfl
theorem Za{xs:Qa D}:tS (.d<|.tuple xs)=some xs:=rfl
theorem znE{kvs:Qa (D×D)}:kY (.d<|.dict kvs)=if gZ kvs=true then some (kvs.map (·.1))else none:=rfl
noncomputable def yW:Qa U->Qb (Qa D)
 | [.d<|.int j]=>if -(2^62)<=j/\j < 2^62 then some (gK 0 j.toNat)else none
 | _=>none
theorem Vc{n:Int}:yW [.d<|.int n]=if -(2^62)<=n/\n < 2^62 then some (gK 0 n.toNat)else none:=rfl
theorem Xo:oK mA ρ=(mA ρ).bind λp=>(bz p.2 p.1).bind λus=>(yW us).bind λds=>some (ds,p.2):=eC λp=>eC λus=>match us with
 | []=>rfl
 | [.d<|.int j]=>by
  show(if _ then _ else _)=(if _ then _ else _:Qb (Qa D)).bind _;split<;>rfl
 | [.d .none]=>rfl
 | [.d<|.bool _]=>rfl
 | [.d<|.str _]=>rfl
 | [.d<|.list _]=>rfl
 | [.d<|.tuple _]=>rfl
 | [.d<|.dict _]=>rfl
 | [.l _]=>rfl
 | [.t _]=>rfl
 | [.k _]=>rfl
 | [.o _ _]=>rfl
 | .d x::b::us=>by cases x<;>rfl
 | .l x::b::us=>rfl
 | .t x::b::us=>rfl
 | .k x::b::us=>rfl
 | .o x y::b::us=>rfl
theorem TV{mI:MI}{mg:MG}:gG mI mg m1 ρ=(mI ρ).bind λp=>gm mg m1 p.1 p.2:=rfl
theorem Tp{mI:MI}{mg:MG}:iI mI nt js mg mt me ρ=(mI ρ).bind λp=>(g7 nt mg mt me p.1 (cY nt js p.2) []).bind λq=>some (.u<|.l q.1,back js (q.2.drop nt) p.2):=rfl
theorem To{f:U->Qb Int->Qb Int->Qb U}{ml mh:MO}:xN f me ml mh ρ=(me ρ).bind λp=>(ml p.2).bind λl=>(mh l.2).bind λh=>(p.1.get h.2).bind λx=>(f x l.1 h.1).bind λu=>some (.u u,h.2):=rfl
theorem ZH:wF ρ=some (none,ρ):=rfl
theorem Xn:v7 me ρ=(me ρ).bind λp=>(p.1.get p.2).bind λu=>u.num.bind λi=>some (some i,p.2):=eC λp=>eC λu=>by
 cases u with
 | d x=>cases x<;>rfl
 | l=>rfl
 | t=>rfl
 | k=>rfl
 | o=>rfl
noncomputable def CY:Qa U->Qb (D×D)
 | [.d x,.d y]=>some (x,y)
 | _=>none
theorem Y9{y:D}:CY [.d x,.d y]=some (x,y):=rfl
theorem TU:tR i j mA ρ=(mA ρ).bind λp=>(bz p.2 p.1).bind λus=>(CY us).bind λz=>some (.nx<|(p.2.set i<|some<|.d z.1).set j<|some<|.d z.2):=by
 refine eC λp=>eC λus=>?_
 match us with
 | []=>rfl
 | [a]=>cases a<;>rfl
 | [.d x,.d y]=>rfl
 | [.d x,.l y]=>rfl
 | [.d x,.t y]=>rfl
 | [.d x,.k y]=>rfl
 | [.d x,.o _ _]=>rfl
 | [.l x,b]=>rfl
 | [.t x,b]=>rfl
 | [.k x,b]=>rfl
 | [.o _ _,b]=>rfl
 | a::b::c::us=>cases a<;>(try rfl)<;>(cases b<;>rfl)
theorem TR{mg:MG}:qS me mg ρ=(me ρ).bind λp=>(p.1.get p.2).bind λu=>u.da.bind λd=>(mg d p.2).bind λai=>some (.nx ai):=by
 unfold qS;congr 1; funext p; congr 1; funext u;cases u<;>rfl
theorem Y8:zE i x ρ=some (ρ.set i<|some<|.d x):=rfl
theorem Xm{gs:Qa D->En->Qb En}{ds:Qa D}:fu n gs (.tuple ds) ρ=if ds.length=n then gs ds ρ else none:=rfl
theorem Y7{g:MG}{gs:Qa D->En->Qb En}{ds:Qa D}:bZ g gs (x::ds) ρ=(g x ρ).bind λaj=>gs ds aj:=rfl
theorem Xl:gq [] ρ=some ρ:=rfl
theorem q5{c:Int->Int->Prop}{g:Int->Int->D}{a:Int}(h:c a b):kD c g (.d<|.int a) (.d<|.int b)=some (.d<|g a b):=by
 unfold kD;dsimp only;rw[if_pos h]
theorem WB{a:Int}:eW (.d<|.int a) (.d<|.int b)=some (.d<|.int<|a+b):=rfl
theorem WA{a:Int}:jt (.d<|.int a) (.d<|.int b)=some (.d<|.int<|a - b):=rfl
theorem JG{a:Int}(h:tU a b):iR (.d<|.int a) (.d<|.int b)=some (.d<|.int<|a * b):=q5 h
theorem Tn{a:Int}(h:0 < b):iQ (.d<|.int a) (.d<|.int b)=some (.d<|.int<|a % b):=q5 (c:=λ_ j=>0 < j) h
theorem we{a:Int}(h:oM a b):mF (.d<|.int a) (.d<|.int b)=some (.d<|.int<|a / b):=q5 h
theorem uC{a:Int}(h:uh a b):uc (.d<|.int a) (.d<|.int b)=some (.d<|.int<|a.fdiv b):=q5 h
theorem Tj{a:Int}(h:yR a b):yN (.d<|.int a) (.d<|.int b)=some (.d<|.int<|a^b.toNat):=q5 h
theorem Ti{a:Int}:tH (.d<|.int a) (.d<|.int b)=some (.d<|.bool<|decide<|a < b):=rfl
theorem Th{a:Int}:qG (.d<|.int a) (.d<|.int b)=some (.d<|.bool<|decide<|b < a):=rfl
theorem Tg{a:Int}:HZ (.d<|.int a) (.d<|.int b)=some (.d<|.bool<|decide<|b<=a):=rfl
theorem Wz{a:Int}:oA (.d<|.int a)=some (.d<|.int (-a)):=rfl
theorem Wy{a:Int}:qW (.d<|.int a)=some (.d<|.int (if a < 0 then -a else a)):=rfl
theorem Y6{b:Bool}:Al (.d<|.bool b)=some (.d<|.int (if b then 1 else 0)):=rfl
theorem Tf{f:U->Qb U}:f1 f [u]=f u:=rfl
theorem Wx{xs:Qa D}:qX (.l xs)=some (.d<|.int xs.length):=rfl
theorem Ww{xs:Qa D}:qX (.d<|.list xs)=some (.d<|.int xs.length):=rfl
theorem znF{xs:Qa D}:k7 (.l xs)=some (.d<|.tuple xs):=rfl
theorem Wv{xs:Qa D}{k:Int}:gX (.l xs) (.d<|.int k)=(cP xs k).map .d:=rfl
theorem Wu{xs:Qa D}{k:Int}:gX (.d<|.list xs) (.d<|.int k)=(cP xs k).map .d:=rfl
theorem Wt{xs:Qa D}{k:Int}:bP (.d<|.tuple xs) (.d<|.int k)=(cP xs k).map .d:=rfl
theorem WV{xs:Qa D}{lo hi:Qb Int}:tQ (.l xs) lo hi=some (.l<|jF xs lo hi):=rfl
theorem WU{a:Int}:gU true (.d<|.int a) (.d<|.int b)=some (.d<|.bool (!decide (a=b))):=by
 show some (U.d<|.bool (!decide (V.int a=V.int b)))=_;congr 4;exact decide_eq_decide.mpr ⟨λh=>by cases h; rfl,λh=>by rw[h]⟩
noncomputable def yV(pn:Qa Nat)(us:Qa U):Fl->Qb (U×Qa U)
 | .rt u ρ=>(fP pn ρ 0 us).bind λos=>some (u,os)
 | .nx ρ=>(fP pn ρ 0 us).bind λos=>some (.d .none,os)
 | _=>none
theorem TQ{us:Qa U}:b8 n pn m1 us=(m1<|sm us++List.replicate (n - us.length) none).bind (yV pn us):=by
 exact eC λf=>by cases f<;>rfl
theorem znG{us:Qa U}:yV pn us (.rt u ρ)=(fP pn ρ 0 us).bind λos=>some (u,os):=rfl
theorem znH{us:Qa U}:yV pn us (.nx ρ)=(fP pn ρ 0 us).bind λos=>some (.d .none,os):=rfl
theorem zkR:fP pn ρ n []=some []:=rfl
theorem ziQ{us:Qa U}:fP pn ρ n (u::us)=(if n∈pn then(ρ[n]?).join.bind λo=>if o.own=true/\u.own=false then none else some o else if u.own=true then none else some u).bind λo=>(fP pn ρ (n+1) us).bind λos=>some (o::os):=rfl
theorem WT:U.own (.d x)=false:=rfl
theorem WS{xs:Qa D}:U.own (.l xs)=true:=rfl
theorem WR{xs:Qa (Qa Key×D)}:U.own (.t xs)=true:=rfl
theorem Y5:sm []=[]:=rfl
theorem znI{us:Qa U}:sm (u::us)=some u::sm us:=rfl
theorem RY{a:α}{xs:Qa α}:cP (a::xs) 0=some a:=by
 unfold cP fV;rw[if_pos (by decide),if_pos (by simp only[qv]; omega)];rfl
theorem RW{a b:α}{xs:Qa α}:cP (a::b::xs) 1=some b:=by
 unfold cP fV;rw[if_pos (by decide),if_pos (by simp only[qv]; omega)];rfl
theorem RV:fV (n+1) 0=some 0:=by
 unfold fV;rw[if_pos (by decide),if_pos (by omega)];rfl
theorem RU:fV (n+1+1) 1=some 1:=by
 unfold fV;rw[if_pos (by decide),if_pos (by omega)];rfl
theorem RT{a:Int}(h:b.natAbs < 18446744073709551616):iR (.d<|.int a) (.d<|.int b)=some (.d<|.int<|a * b):=JG (.inr ⟨by omega,by omega⟩)
theorem RS{a:Int}(h:a.natAbs < 18446744073709551616):iR (.d<|.int a) (.d<|.int b)=some (.d<|.int<|a * b):=JG (.inl ⟨by omega,by omega⟩)
theorem RQ{a:Int}(h:0 < b):iQ (.d<|.int a) (.d<|.int b)=some (.d<|.int<|a % b):=Tn h
theorem RP{a:Int}(h:0 < b)(h2:b<=340282366920938463463374607431768211456):mF (.d<|.int a) (.d<|.int b)=some (.d<|.int<|a / b):=we (W0 h (by omega))
theorem RO{a:Int}(h:0<=b)(h2:b<=1000000)(h3:a.natAbs < 18446744073709551616):yN (.d<|.int a) (.d<|.int b)=some (.d<|.int<|a^b.toNat):=Tj ⟨h,h2,by omega⟩
theorem zl:sizeLine=16777216:=rfl
theorem znJ:reset nt ρ=List.replicate nt none++ρ.drop nt:=rfl
theorem WQ:cY nt js ρ=List.replicate nt none++js.map λj=>ρ.getD j none:=rfl
noncomputable def pR(j:Nat):Qa Ar->Bool
 | []=>true
 | .u _::as=>pR j as
 | .s k::as=>!decide (k=j) && pR j as
theorem Ef:∀ {as:Qa Ar},pR j as=!(as.any λa=>match a with | .s k=>decide (k=j) | _=>false)
 | []=>rfl
 | .u _::as=>by rw[List.any_cons]; exact Ef (as:=as)
 | .s k::as=>by
  unfold pR;rw[List.any_cons,Ef (as:=as),Bool.not_or]
noncomputable def vC:Qb U->Bool
 | some u=>!u.own
 | none=>true
theorem WO:vC (some<|.d x)=true:=rfl
theorem WN{xs:Qa (Qa Key×D)}:vC (some<|.t xs)=false:=rfl
theorem znK:pR j []=true:=rfl
theorem WM{k:Nat}{as:Qa Ar}:pR j (.s k::as)=(!decide (k=j) && pR j as):=rfl
theorem znL{as:Qa Ar}:eV ρ (.s j::as)=((pR j as || vC (ρ[j]?).join) && eV ρ as):=by
 rw[Vl,Ef];congr 1;cases ρ[j]? with
 | none=>simp[vC]
 | some o=>
  cases o with
  | none=>simp[vC]
  | some u=>simp[vC,Bool.or_comm]
theorem Y4{us:Qa (Qb U)}:back (j::js) (some u::us) ρ=back js us (ρ.set j<|some u):=rfl
theorem Y3{us:Qa (Qb U)}:back [] us ρ=ρ:=by cases us<;>rfl
theorem rN:∀ ks:Qa Int,iV (ks.map PyData.int)=some ks
 | []=>rfl
 | k::ks=>by show(iV<|ks.map PyData.int).bind _=_; rw[rN ks]; rfl
theorem AA{ks:Qa Int}:kR (.d<|.tuple<|ks.map PyData.int)=some (.d<|.int ks.sum):=by
 show(some _).bind _=_;rw[bd,rN];rfl
theorem KN{ks:Qa Int}:kR (.l<|ks.map PyData.int)=some (.d<|.int ks.sum):=by
 show(some _).bind _=_;rw[bd,rN];rfl
theorem LX{ks:Qa Int}{d:Int}:Ah [.l<|ks.map PyData.int] [.d<|.int d]=some (.d<|.int<|rf ks d):=by
 show(iV<|ks.map PyData.int).map _=_;rw[rN];rfl
end
structure XT (K:qc) (tab:Qa (Str×Qa Str)) (fl:Qa Str):Prop where
 cl:∀ n ups C,tab.lookup n=some ups->XN K n C->XI K C/\∀ f∈fl,UG K C f
 is:∀ n ups C,tab.lookup n=some ups->XN K n C->∀ c C',(tab.lookup c).isSome=true->XN K c C'->PySem.W.kitOne K (.ref C) (.ref C')=some (decide (c=n) || ups.contains c)
 vk:∀ n ups C,tab.lookup n=some ups->XN K n C->PySem.W.kitOne K (.ref C) (.type "ValueError")=some (ups.contains ("ValueError":Str))
section
variable{fl:Qa Str}{n:Str}
end
section
variable{fl:Qa Str}{n:Str}
end
section
variable{X:Cx}{fl:Qa Str}{n:Str}
end
section
end
noncomputable def CW(K:qc)(C:Qg):Bool:=match K.lookup C with
 | some ⟨.type "type",_,.cls cd,sl⟩=>(match cd.mro,sl.toList with
  | .ref C'::bm,[_,_,_,_,some<|.builtin m,_]=>C'==C && m == "ValueError.__new__" && !cd.hasDel && cd.hasDict && PySem.W.tailIn K Gm bm
  | _,_=>false)
 | _=>false
noncomputable def yU(K:qc)(C:Qg):Bool:=CW K C && PySem.W.findIn K (.ref C) "__getattribute__"==some (some<|.builtin "BaseException.__getattribute__") && PySem.W.findIn K (.ref C) "__getattr__"==some none &&
 PySem.W.findIn K (.ref C) "__setattr__"==some (some<|.builtin "object.__setattr__") && PySem.W.findIn K (.ref C) "__class__"==some (some<|.builtin "object.__class__") &&
 PySem.W.specialIn K (.builtin "object.__class__") "__get__"==some (some<|.builtin "getset_descriptor.__get__") && PySem.W.takesIn K (.builtin "object.__class__")==some true && PySem.W.mroIn K C (.type "object")==some true
theorem RN{C:Qg}(q:CW K C=true):∃ nm qn N bs bm sn sub ab col dd k0 k1 k2 k3 k5,K.lookup C=some (excClassObj nm qn C N bs bm true sn sub ab col dd k0 k1 k2 k3 k5 "ValueError.__new__")/\PySem.W.tailIn K Gm bm=true:=by
 unfold CW at q;split at q
 .rename_i dd cd sl ho
  split at q
  .rename_i C' bm k0 k1 k2 k3 m k5 hm hs
   simp only[Bool.and_eq_true,beq_iff_eq,Bool.not_eq_true']at q;obtain⟨⟨⟨⟨rfl,rfl⟩,yh⟩,sZ⟩,ht⟩:=q;have(nm,bs,mro,ns,qn,hd,sn,sub,ab,col,del):=cd;dsimp only at hm yh sZ;subst hm yh sZ;obtain⟨l⟩:=sl;dsimp only at hs;subst hs;exact⟨nm,qn,ns,bs,bm,sn,sub,ab,col,dd,k0,k1,k2,k3,k5,ho,ht⟩
  .cases q
 .cases q
theorem RM{C:Qg}(q:yU K C=true):XI K C:=by
 unfold yU at q;simp only[Bool.and_eq_true,beq_iff_eq]at q;obtain⟨⟨⟨⟨⟨⟨⟨h1,h2⟩,h3⟩,h4⟩,h5⟩,h6⟩,h7⟩,h8⟩:=q;exact⟨⟨RN h1,h2,h3,h4⟩,h5,h6,h7,h8⟩
noncomputable def vO(K:qc)(n:Str):Qb Qg:=match PySem.W.nsIn K mainGlobals n with
 | some (some<|.ref C)=>some C
 | _=>none
theorem LM{n:Str}{C:Qg}(h:XN K n C):vO K n=some C:=by
 unfold vO;rw[show PySem.W.nsIn K mainGlobals n=some (some<|.ref C) from h]
noncomputable def CV(K:qc)(tab:Qa (Str×Qa Str))(fl:Qa Str):Bool:=tab.all λp=>match vO K p.1 with
 | some C=>yU K C && fl.all (λf=>PySem.W.findIn K (.ref C) f==some none) && PySem.W.kitOne K (.ref C) (.type "ValueError")==some (p.2.contains ("ValueError":Str)) &&
   tab.all λp'=>match vO K p'.1 with
    | some C'=>PySem.W.kitOne K (.ref C) (.ref C')==some (decide (p'.1=p.1) || p.2.contains p'.1)
    | none=>false
 | none=>false
theorem F2:∀ {l:Qa (Str×β)} {n:Str} {b:β},l.lookup n=some b->(n,b)∈l
 | [],_,_,e=>by cases e
 | (m,c)::l,n,b,e=>by
  rw[List.lookup_cons]at e;cases q:(n==m)with
  | true=>
   rw[q]at e;cases e;rw[beq_iff_eq.mp q];exact qp
  | false=>
   rw[q]at e;exact qo _<|F2 e
theorem RL{fl:Qa Str}(h:CV K tab fl=true):XT K tab fl:=by
 unfold CV at h;have one:∀ n ups C,tab.lookup n=some ups->XN K n C->(yU K C && fl.all (λf=>PySem.W.findIn K (.ref C) f==some none) && PySem.W.kitOne K (.ref C) (.type "ValueError")==some (ups.contains ("ValueError":Str)) &&
   tab.all λp'=>match vO K p'.1 with
    | some C'=>PySem.W.kitOne K (.ref C) (.ref C')==some (decide (p'.1=n) || ups.contains p'.1)
    | none=>false)=true:=λn ups C hn xn=>by
  have z:=Ø.mp h (n,ups) (F2 hn);dsimp only at z;rw[LM xn]at z;exact z
 refine⟨λn ups C hn xn=>?_,λn ups C hn xn c C' hc xc=>?_,λn ups C hn xn=>?_⟩
 .have z:=one n ups C hn xn
  simp only[Bool.and_eq_true]at z;refine⟨RM z.1.1.1,λf hf=>?_⟩;exact beq_iff_eq.mp<|Ø.mp z.1.1.2 f hf
 .have z:=one n ups C hn xn
  simp only[Bool.and_eq_true]at z;have(Gp,Ho):=Option.isSome_iff_exists.mp hc;have y:=Ø.mp z.2 (c,Gp) (F2 Ho);dsimp only at y;rw[LM xc]at y;exact beq_iff_eq.mp y
 .have z:=one n ups C hn xn
  simp only[Bool.and_eq_true]at z;exact beq_iff_eq.mp z.1.2
section
variable{X:Cx}{C:Qg}{p:Pos}{es:Qa Expr}{t:TA}
end
abbrev RX(α:Type):=(α×En) ⊕ (D×En)
abbrev MX:=En->Qb (RX Ar)
abbrev MXA:=En->Qb (RX<|Qa Ar)
section
variable{EX:fK}{ρ ai:En}{A:Qg->Prop}
end
abbrev FX:=Qa U->Qb ((U×Qa U) ⊕ (D×Qa U))
noncomputable def spX(K:qc)(n:Nat)(f:FX):Sp:=λvs H Q E=>∃ us r,us.length=n/\Rs K (sm us) (cT vs) H/\f us=some r/\match r with
 | .inl o=>∀ v H',Go K (sm us) (cT vs) H (sm o.2) H'->Rp K H' v o.1->Nw H v o.1->Q v H'
 | .inr o=>∀ a H',Go K (sm us) (cT vs) H (sm o.2) H'->H a=none->Jf K H' a o.1->E (.ref a) none H'
structure IC (P:Qe) (w:Qh) (K:qc) (mg:Str->Qb Qc) (base:Heap) (x:Str) (k:Nat) (ps:Qa Str) (sp:Sp):Prop where
 ex:∃ (f:Qg) (fd:FuncData),bW P w K mg base (CXv P w K) k f fd ps sp/\kZ K fd ps []/\PySem.W.keepIn K (.ref f)=true/\mg x=some (.ref f)
section
variable{X:Cx}{EX:fK}{k:Nat}{ps:Qa Str}{p:Pos}{es:Qa Expr}{t:TA}
end
section
variable{EX:fK}{ρ ai:En}{A:Qg->Prop}
end
section
variable{X:Cx}{C:Qg}{p:Pos}{es:Qa Expr}{t:TA}{EX:fK}
end
noncomputable def vk(t T:String):Bool:=t==T || (t == "bool" && T == "int")
section
end
section
variable{X:Cx}
end
section
variable{I:Qg}{fp wr:Qa Qg}{ks:Qa Key}{P:Nat->Qc->Prop}{St:Nat->Qd->Prop}
end
section
end
section
variable{X:Cx}
end
section
variable{X:Cx}
end
section
variable{X:Cx}
end
theorem nr{α:Sort _}{a b:α}(h:a=b):a=b:=h
structure Ph {α:Type} (a:α):Type where
 n:Nat
def Wo(o:Qb α)(Q:α->Prop):Prop:=∃ a,o=some a/\Q a
def Co(f:α->Qb β)(t:Ph f)(Q:β->Prop)(a:α):Prop:=Wo (f a) Q
section
variable{a:α}{o:Qb α}{f:α->Qb β}{Q:α->Prop}{R:β->Prop}
theorem dM:Wo (some a) Q=Q a:=propext ⟨λ⟨_,e,h⟩=>(by cases e; exact h),λh=>⟨a,rfl,h⟩⟩
theorem zt:Wo (o.bind f) R=Wo o (Co f ⟨0⟩ R):=propext (by
 cases o with
 | none=>exact⟨λ⟨_,e,_⟩=>(by cases e),λ⟨_,e,_⟩=>(by cases e)⟩
 | some a=>rw[dM]; exact Iff.rfl)
theorem iT{t:Ph f}:Co f t R a=Wo (f a) R:=rfl
theorem Wo.mono(h:Wo o Q){Q':α->Prop}(k:∀ a,Q a->Q' a):Wo o Q':=h.elim λa z=>⟨a,z.1,k a z.2⟩
theorem kX{c:Prop}[Decidable c]{x y:Qb α}(h:c->Wo x Q)(h':¬c->Wo y Q):Wo (if c then x else y) Q:=by
 split
 .exact h ‹_›
 .exact h' ‹_›
end
section
variable{ρ:En}{me ma mb mc mk mi md my mv mo:ME}{mA mK:MA}{mt mu:MT}{mI:MI}{mg:MG}{m1 m2:MS}{u:U}{x:D}{mx:MX}{mXA:MXA}
variable{QE:Ar×En->Prop}{QA:Qa Ar×En->Prop}{QT:Bool×En->Prop}{QS:Fl->Prop}{QI:Qa D×En->Prop}{QO:Qb Int×En->Prop}{QG:En->Prop}{QX:RX Ar->Prop}{QXA:RX (Qa Ar)->Prop}{QR:D×En->Prop}{QF:U×Qa U->Prop}{QFX:(U×Qa U) ⊕ (D×Qa U)->Prop}
theorem LW:Wo (zk i ρ) QE=Wo (ρ[i]?).join (Co (λ_=>some (.s i,ρ)) ⟨0⟩ QE):=by rw[UT,zt]
theorem Jk:Wo (mC x ρ) QE=QE (.u<|.d x,ρ):=by rw[zAk,dM]
noncomputable def yT(f:U->U->Qb U)(a:Ar)(q:Ar×En):Qb (Ar×En):=(a.get q.2).bind λx=>(q.1.get q.2).bind λy=>(f x y).bind λu=>some (.u u,q.2)
noncomputable def G9(f:U->U->Qb U)(mb:ME)(p:Ar×En):Qb (Ar×En):=(mb p.2).bind (yT f p.1)
theorem WL{f:U->U->Qb U}:Wo (au f ma mb ρ) QE=Wo (ma ρ) (Co (G9 f mb) ⟨0⟩ QE):=by rw[S6,zt]; rfl
theorem Y2{f:U->U->Qb U}{p:Ar×En}:Wo (G9 f mb p) QE=Wo (mb p.2) (Co (yT f p.1) ⟨0⟩ QE):=by unfold G9; rw[zt]
theorem RK{f:U->Qb U}:Wo (m7 f ma ρ) QE=Wo (ma ρ) (Co (λp=>(p.1.get p.2).bind λx=>(f x).bind λu=>some (.u u,p.2)) ⟨0⟩ QE):=by rw[S5,zt]
theorem LV:Wo (zu ρ) QA=QA ([],ρ):=by rw[US,dM]
theorem Xk:Wo (zj me mA ρ) QA=Wo (me ρ) (Co (λp=>(mA p.2).bind λq=>some (p.1::q.1,q.2)) ⟨0⟩ QA):=by rw[Xu,zt]
theorem Y1:Wo (cz mA ρ) QE=Wo (mA ρ) (Co (λp=>(bz p.2 p.1).bind λus=>(ju us).bind λds=>if ds.length<=sizeLine then some (.u<|.d<|.tuple ds,p.2)else none) ⟨0⟩ QE):=by rw[UR,zt]
theorem Y0:Wo (oz mA ρ) QE=Wo (mA ρ) (Co (λp=>(bz p.2 p.1).bind λus=>(ju us).bind λds=>if ds.length<=sizeLine then some (.u<|.l ds,p.2)else none) ⟨0⟩ QE):=by rw[UQ,zt]
theorem RJ{f:Qa U->Qb U}:Wo (bf f mA ρ) QE=Wo (mA ρ) (Co (λp=>(bz p.2 p.1).bind λus=>(f us).bind λu=>some (.u u,p.2)) ⟨0⟩ QE):=by rw[S4,zt]
theorem YZ{f:Qa U->Qa U->Qb U}:Wo (yY f mA mK ρ) QE=Wo (mA ρ) (Co (λp=>(mK p.2).bind λq=>(bz q.2 p.1).bind λus=>(bz q.2 q.1).bind λws=>(f us ws).bind λu=>some (.u u,q.2)) ⟨0⟩ QE):=by rw[UP,zt]
theorem TN{f:FD}:Wo (aO f mA ρ) QE=Wo (mA ρ) (Co (λp=>if eV p.2 p.1=true then(bz p.2 p.1).bind λus=>(f us).bind λo=>some (.u o.1,wb p.2 p.1 o.2)else none) ⟨0⟩ QE):=by rw[UO,zt]
theorem YY:Wo (zK m1 m2 ρ) QS=Wo (m1 ρ) (Co (kM m2) ⟨0⟩ QS):=by rw[Vk,zt]
theorem TM:Wo (aS i me ρ) QS=Wo (me ρ) (Co (λp=>(put p).bind λq=>some<|.nx<|q.2.set i<|some q.1) ⟨0⟩ QS):=by rw[Vj,zt]
theorem YX:Wo (bY me ρ) QS=Wo (me ρ) (Co (λp=>(put p).bind λq=>some<|.rt q.1 q.2) ⟨0⟩ QS):=by rw[Vi,zt]
theorem znN:Wo (jK pn i ρ) QS=Wo (if i∈pn then none else(ρ[i]?).join.bind λu=>some<|.rt u<|ρ.set i none) QS:=by rw[Xt]
theorem MZ:Wo (cN ρ) QS=QS (.nx ρ):=by rw[Xs,dM]
theorem Xj:Wo (t8 me ρ) QS=Wo (me ρ) (Co (λp=>some<|.nx p.2) ⟨0⟩ QS):=by rw[Xr,zt]
theorem TL:Wo (cy mt m1 m2 ρ) QS=Wo (mt ρ) (Co (λp=>if p.1=true then m1 p.2 else m2 p.2) ⟨0⟩ QS):=by rw[Vh,zt]
theorem zAm:Wo (mB me ρ) QT=Wo (me ρ) (Co (λp=>(p.1.get p.2).bind λu=>u.yA.bind λb=>some (b,p.2)) ⟨0⟩ QT):=by rw[zAl,zt]
theorem YW:Wo (y0 mt mu ρ) QT=Wo (mt ρ) (Co (λp=>if p.1=true then mu p.2 else some (false,p.2)) ⟨0⟩ QT):=by rw[Vg,zt]
theorem VG:Wo (sC mt mu ρ) QT=Wo (mt ρ) (Co (λp=>if p.1=true then some (true,p.2)else mu p.2) ⟨0⟩ QT):=by rw[S1,zt]
theorem YV:Wo (jH mt ρ) QT=Wo (mt ρ) (Co (λp=>some (!p.1,p.2)) ⟨0⟩ QT):=by rw[Vf,zt]
theorem znO:Wo (Aj ma mb ρ) QE=Wo (mB ma ρ) (Co (λp=>if p.1=true then mb p.2 else some (.u<|.d<|.bool false,p.2)) ⟨0⟩ QE):=by rw[Xq,zt]
theorem YU:Wo (vJ ma ρ) QT=Wo (ma ρ) (Co (λp=>(p.1.get p.2).bind λu=>u.xw.bind λb=>some (b,p.2)) ⟨0⟩ QT):=by rw[Ve,zt]
theorem Zp:Wo (gW ρ) QT=QT (true,ρ):=by rw[Vd,dM]
theorem zkT:Wo (rH i me mi ρ) QS=Wo (ρ[i]?).join (Co (λ_=>(me ρ).bind λp=>(mi p.2).bind λq=>(p.1.get q.2).bind λu=>(q.1.get q.2).bind λw=>u.da.bind λx=>w.num.bind λk=>(q.2[i]?).join.bind λz=>z.lo.bind λxs=>(fV xs.length k).bind λj=>some<|.nx<|q.2.set i<|some<|.l<|xs.set j x) ⟨0⟩ QS):=by rw[Zd,zt]
noncomputable def As(w:U)(y x:D):Qb U:=match w with
 | .t kvs=>(bN y).bind λk=>if kvs.length < sizeLine then some (.t<|dI kvs k x)else none
 | .k kvs=>(qR y).bind λk=>if kvs.length < sizeLine then some (.k<|dI kvs k x)else none
 | _=>none
theorem Xi:iw i my mv ρ=(ρ[i]?).join.bind λ_=>(mv ρ).bind λp=>(my p.2).bind λq=>(p.1.get q.2).bind λx=>(q.1.get q.2).bind λy=>x.da.bind λx=>y.da.bind λy=>(q.2[i]?).join.bind λw=>(As w y x).bind λz=>some (.nx<|q.2.set i<|some z):=by
 unfold iw;refine eC λ_=>eC λp=>eC λq=>eC λx=>eC λy=>?_;cases x with
 | l=>rfl
 | t=>rfl
 | k=>rfl
 | o=>rfl
 | d x=>
  cases y with
  | l=>rfl
  | t=>rfl
  | k=>rfl
  | o=>rfl
  | d y=>
   show _=((q.2[i]?).join.bind _);cases q.2[i]? with
   | none=>rfl
   | some o=>
    cases o with
    | none=>rfl
    | some w=>
     cases w with
     | l=>rfl
     | d=>rfl
     | o=>rfl
     | t kvs=>
      show(bN y).bind _=((bN y).bind _).bind _;cases bN y with
      | none=>rfl
      | some k=>
       show(if _ then _ else _)=(if _ then _ else _:Qb U).bind _;split<;>rfl
     | k kvs=>
      show(qR y).bind _=((qR y).bind _).bind _;cases qR y with
      | none=>rfl
      | some k=>
       show(if _ then _ else _)=(if _ then _ else _:Qb U).bind _;split<;>rfl
theorem znQ:Wo (iw i my mv ρ) QS=Wo (ρ[i]?).join (Co (λ_=>(mv ρ).bind λp=>(my p.2).bind λq=>(p.1.get q.2).bind λx=>(q.1.get q.2).bind λy=>x.da.bind λx=>y.da.bind λy=>(q.2[i]?).join.bind λw=>(As w y x).bind λz=>some<|.nx<|q.2.set i<|some z) ⟨0⟩ QS):=by rw[Xi,zt]
theorem znR:Wo (dn md my ρ) QE=Wo (md ρ) (Co (λp=>(my p.2).bind λq=>(p.1.get q.2).bind λu=>(q.1.get q.2).bind λy=>(kN u y).bind λo=>o.bind λd=>some (.u<|.d d,q.2)) ⟨0⟩ QE):=by rw[Xp,zt]
theorem zkU:Wo (iZ ρ) QE=QE (.u<|.t [],ρ):=by rw[Zc,dM]
theorem VF:Wo (eO me ρ) QE=Wo (me ρ) (Co (λp=>(p.1.get p.2).bind λu=>u.fz.bind λx=>some (.u<|.d x,Cb x p)) ⟨0⟩ QE):=by rw[SX,zt]
theorem VD{g:U->Qb (Qa D)}:Wo (d9 g me ρ) QI=Wo (me ρ) (Co (λp=>(p.1.get p.2).bind λu=>(g u).bind λds=>some (ds,p.2)) ⟨0⟩ QI):=by rw[Tq,zt]
theorem VB{n:Int}(h:-4611686018427387904<=n)(h2:n < 4611686018427387904):yW [.d<|.int n]=some (gK 0 n.toNat):=by rw[Vc,if_pos ⟨by omega,by omega⟩]
theorem znS:Wo (oK mA ρ) QI=Wo (mA ρ) (Co (λp=>(bz p.2 p.1).bind λus=>(yW us).bind λds=>some (ds,p.2)) ⟨0⟩ QI):=by rw[Xo,zt]
noncomputable def zAx:Qa U->Qb (Qa D)
 | [.d<|.int i,.d<|.int j]=>if -(2^62)<=i/\i < 2^62/\-(2^62)<=j/\j < 2^62 then some (gK i (j - i).toNat)else none
 | _=>none
theorem Zo:Wo (gG mI mg m1 ρ) QS=Wo (mI ρ) (Co (λp=>gm mg m1 p.1 p.2) ⟨0⟩ QS):=by rw[TV,zt]
theorem Zn:Wo (iI mI nt js mg mt me ρ) QE=Wo (mI ρ) (Co (λp=>(g7 nt mg mt me p.1 (cY nt js p.2) []).bind λq=>some (.u<|.l q.1,back js (q.2.drop nt) p.2)) ⟨0⟩ QE):=by rw[Tp,zt]
theorem VA{f:U->Qb Int->Qb Int->Qb U}{ml mh:MO}:Wo (xN f me ml mh ρ) QE=Wo (me ρ) (Co (λp=>(ml p.2).bind λl=>(mh l.2).bind λh=>(p.1.get h.2).bind λx=>(f x l.1 h.1).bind λu=>some (.u u,h.2)) ⟨0⟩ QE):=by rw[To,zt]
theorem ziR:Wo (wF ρ) QO=QO (none,ρ):=by rw[ZH,dM]
theorem znT:Wo (v7 me ρ) QO=Wo (me ρ) (Co (λp=>(p.1.get p.2).bind λu=>u.num.bind λi=>some (some i,p.2)) ⟨0⟩ QO):=by rw[Xn,zt]
theorem Zm:Wo (tR i j mA ρ) QS=Wo (mA ρ) (Co (λp=>(bz p.2 p.1).bind λus=>(CY us).bind λz=>some<|.nx<|(p.2.set i<|some<|.d z.1).set j<|some<|.d z.2) ⟨0⟩ QS):=by rw[TU,zt]
theorem Zl:Wo (qS me mg ρ) QS=Wo (me ρ) (Co (λp=>(p.1.get p.2).bind λu=>u.da.bind λd=>(mg d p.2).bind λai=>some<|.nx ai) ⟨0⟩ QS):=by rw[TR,zt]
theorem zkV:Wo (zE i x ρ) QG=QG (ρ.set i<|some<|.d x):=by rw[Y8,dM]
theorem znU{gs:Qa D->En->Qb En}{ds:Qa D}:Wo (fu n gs (.tuple ds) ρ) QG=Wo (if ds.length=n then gs ds ρ else none) QG:=by rw[Xm]
theorem zkW{g:MG}{gs:Qa D->En->Qb En}{ds:Qa D}:Wo (bZ g gs (x::ds) ρ) QG=Wo (g x ρ) (Co (λaj=>gs ds aj) ⟨0⟩ QG):=by rw[Y7,zt]
theorem znV:Wo (gq [] ρ) QG=QG ρ:=by rw[Xl,dM]
noncomputable def x1:Qa D->Qb D
 | [x]=>some x
 | _=>none
theorem Zk{us:Qa U}:Wo (b8 n pn m1 us) QF=Wo (m1<|sm us++List.replicate (n - us.length) none) (Co (yV pn us) ⟨0⟩ QF):=by rw[TQ,zt]
noncomputable def oI(Q:Fl->Prop)(P:En->Prop):Fl->Prop
 | .nx ρ=>P ρ
 | .ct ρ=>P ρ
 | .bk ρ=>Q<|.nx ρ
 | .rt u ρ=>Q<|.rt u ρ
 | .ex x ρ=>Q<|.ex x ρ
theorem zkX{Q:Fl->Prop}{P:En->Prop}:oI Q P (.nx ρ)=P ρ:=rfl
theorem zkY{Q:Fl->Prop}{P:En->Prop}:oI Q P (.rt u ρ)=Q (.rt u ρ):=rfl
theorem LL{Q:Fl->Prop}(P:Nat->En->Prop){ds:Qa D}(h0:P 0 ρ)(st:∀ i d ρ,ds[i]?=some d->P i ρ->Wo (mg d ρ) (Co m1 ⟨0⟩<|oI Q<|P<|i+1))(hQ:∀ ρ,P ds.length ρ->Q (.nx ρ)):Wo (gm mg m1 ds ρ) Q:=by
 have main:∀ (es:Qa D) (n:Nat) (ρ:En),n+es.length=ds.length->(∀ i,es[i]?=ds[n+i]?)->P n ρ->Wo (gm mg m1 es ρ) Q:=by
  intro es
  induction es with
  | nil=>
   intro n ρ hn _ hp;show Wo (some _) Q;rw[dM];rw[List.length_nil,Nat.add_zero]at hn;exact hQ ρ<|hn▸hp
  | cons d es ih=>
   intro n ρ hn he hp;have e0:=he 0;rw[List.getElem?_cons_zero,Nat.add_zero]at e0;have(aj,e1,f,e2,k):=st n d ρ e0.symm hp;have j5:∀ aw,P (n+1) aw->Wo (gm mg m1 es aw) Q:=λaw z=>ih (n+1) aw (by rw[qv]at hn; omega) (λi=>by
    have:=he (i+1);rw[List.getElem?_cons_succ]at this;rw[this,show n+(i+1)=n+1+i by omega]) z
   unfold gm;rw[zt];refine⟨aj,e1,?_⟩;rw[iT,zt];refine⟨f,e2,?_⟩;rw[iT];cases f with
   | nx aw=>exact j5 aw k
   | ct aw=>exact j5 aw k
   | bk aw=>exact⟨_,rfl,k⟩
   | rt u aw=>exact⟨_,rfl,k⟩
   | ex x aw=>exact⟨_,rfl,k⟩
 exact main ds 0 ρ (by omega) (λi=>by rw[Nat.zero_add]) h0
theorem mS{g:α->D}{Q:Fl->Prop}(P:Qa α->Qa α->En->Prop)(h0:P [] as ρ)(st:∀ bs a cs ρ,as=bs++a::cs->P bs (a::cs) ρ->Wo (mg (g a) ρ) (Co m1 ⟨0⟩<|oI Q<|P (bs++[a]) cs))(hQ:∀ ρ,P as [] ρ->Q (.nx ρ)):Wo (gm mg m1 (as.map g) ρ) Q:=by
 have main:∀ (cs bs:Qa α) (ρ:En),as=bs++cs->P bs cs ρ->Wo (gm mg m1 (cs.map g) ρ) Q:=by
  intro cs
  induction cs with
  | nil=>
   intro bs ρ e hp;rw[List.append_nil]at e;subst e;exact⟨_,rfl,hQ ρ hp⟩
  | cons a cs ih=>
   intro bs ρ e hp;have(aj,e1,f,e2,k):=st bs a cs ρ e hp;have j5:∀ aw,P (bs++[a]) cs aw->Wo (gm mg m1 (cs.map g) aw) Q:=λaw z=>ih (bs++[a]) aw (by rw[e,List.append_assoc]; rfl) z;rw[List.map_cons];unfold gm;rw[zt];refine⟨aj,e1,?_⟩;rw[iT,zt];refine⟨f,e2,?_⟩;rw[iT];cases f with
   | nx aw=>exact j5 aw k
   | ct aw=>exact j5 aw k
   | bk aw=>exact⟨_,rfl,k⟩
   | rt u aw=>exact⟨_,rfl,k⟩
   | ex x aw=>exact⟨_,rfl,k⟩
 exact main as [] ρ rfl h0
def xT(nt:Nat)(me:ME)(ys:Qa D)(P:En->Qa D->Prop)(p:Bool×En):Prop:=if p.1=true then Wo (me p.2) (Co (λq=>(q.1.get q.2).bind λu=>u.da.bind λy=>some (reset nt q.2,ys++[y])) ⟨0⟩ λz=>P z.1 z.2)else P (reset nt p.2) ys
theorem Vz{ys:Qa D}{P:En->Qa D->Prop}:xT nt me ys P (true,ρ)=Wo (me ρ) (Co (λq=>(q.1.get q.2).bind λu=>u.da.bind λy=>some (reset nt q.2,ys++[y])) ⟨0⟩ λz=>P z.1 z.2):=rfl
theorem Vy{ys:Qa D}{P:En->Qa D->Prop}:xT nt me ys P (false,ρ)=P (reset nt ρ) ys:=rfl
theorem Jr{Q:Qa D×En->Prop}(P:Nat->En->Qa D->Prop){ds:Qa D}(hz:ds.length<=sizeLine)(hP:∀ i ρ ys,P i ρ ys->ys.length<=i)(h0:P 0 ρ [])(st:∀ i d ρ ys,ds[i]?=some d->P i ρ ys->Wo (mg d ρ) (Co mt ⟨0⟩<|xT nt me ys<|P<|i+1))(hQ:∀ ρ ys,P ds.length ρ ys->Q (ys,ρ)):Wo (g7 nt mg mt me ds ρ []) Q:=by
 have main:∀ (es:Qa D) (n:Nat) (ρ:En) (ys:Qa D),n+es.length=ds.length->(∀ i,es[i]?=ds[n+i]?)->P n ρ ys->Wo (g7 nt mg mt me es ρ ys) Q:=by
  intro es
  induction es with
  | nil=>
   intro n ρ ys hn _ hp;rw[List.length_nil,Nat.add_zero]at hn;exact⟨_,rfl,hQ ρ ys<|hn▸hp⟩
  | cons d es ih=>
   intro n ρ ys hn he hp;have e0:=he 0;rw[List.getElem?_cons_zero,Nat.add_zero]at e0;obtain⟨aj,e1,⟨b,aw⟩,e2,k⟩:=st n d ρ ys e0.symm hp;have hl:=hP _ _ _ hp;rw[qv]at hn;have j5:∀ aw BU,P (n+1) aw BU->Wo (g7 nt mg mt me es aw BU) Q:=λaw BU z=>ih (n+1) aw BU (by omega) (λi=>by
    have:=he (i+1);rw[List.getElem?_cons_succ]at this;rw[this,show n+(i+1)=n+1+i by omega]) z
   unfold g7;rw[if_pos (by omega),zt];refine⟨aj,e1,?_⟩;rw[iT,zt];refine⟨_,e2,?_⟩;rw[iT];cases b with
   | false=>rw[if_neg qf]; exact j5 _ _ k
   | true=>
    rw[if_pos rfl,zt];have(q,e3,k):=k;refine⟨q,e3,?_⟩;rw[iT,zt]at k ⊢;have(u,e4,k):=k;refine⟨u,e4,?_⟩;rw[iT,zt]at k;have(y,e5,z,e6,k):=k;cases u with
    | d y'=>cases e5; cases e6; exact j5 _ _ k
    | l=>cases e5
    | t=>cases e5
    | k=>cases e5
    | o=>cases e5
 exact main ds 0 ρ [] (by omega) (λi=>by rw[Nat.zero_add]) h0
theorem Bn{Q:Fl->Prop}(P:Nat->En->Prop)(k:Nat)(h0:P k ρ)(st:∀ k ρ,P k ρ->Wo (mt ρ) λp=>if p.1=true then Wo (m1 p.2) (oI Q λai=>∃ k',k' < k/\P k' ai)else Q (.nx p.2)):Wo (mM mt m1 ρ) Q:=by
 have main:∀ (k:Nat) (ρ:En),P k ρ->∃ n f,f9 mt m1 n ρ=some f/\Q f:=by
  intro k
  induction k using Nat.strongRecOn with
  | ind k ih=>
   intro ρ hp;obtain⟨⟨b,aj⟩,e1,z⟩:=st k ρ hp;cases b with
   | false=>
    rw[if_neg qf]at z;exact⟨1,_,by unfold f9; rw[e1]; rfl,z⟩
   | true=>
    rw[if_pos rfl]at z;have(f,e2,z):=z;have j5:∀ aw,(∃ k',k' < k/\P k' aw)->f=.nx aw\/f=.ct aw->∃ n f,f9 mt m1 n ρ=some f/\Q f:=by
     rintro aw ⟨k',hk,xX⟩ hf;have(n,f',e3,q):=ih k' hk aw xX;refine⟨n+1,f',?_,q⟩;unfold f9;rw[e1,bd,if_pos rfl,e2,bd];rcases hf with rfl|rfl<;>exact e3
    cases f with
    | nx aw=>exact j5 aw z<|.inl rfl
    | ct aw=>exact j5 aw z<|.inr rfl
    | bk aw=>exact⟨1,_,by unfold f9; rw[e1,bd,if_pos rfl,e2]; rfl,z⟩
    | rt u aw=>exact⟨1,_,by unfold f9; rw[e1,bd,if_pos rfl,e2]; rfl,z⟩
    | ex u aw=>exact⟨1,_,by unfold f9; rw[e1,bd,if_pos rfl,e2]; rfl,z⟩
 have(n,f,e,q):=main k ρ h0;exact⟨f,YT e,q⟩
end
theorem i7{o:Qb α}{b:α}(h:Wo o (λa=>a=b)):o=some b:=by
 have(a,e,rfl):=h;exact e
theorem qZ:sizeLine=16777216:=Eq.trans zl (Eq.symm<|Eq.symm<|Nat.add_zero _)
theorem RI{lo:Int}{d:D}(h:(gK lo n)[i]?=some d):i < n/\d=.int (lo+(i:Nat)):=FQ h
theorem TJ{lo:Int}:(gK lo n).length=n:=by
 unfold gK;rw[List.length_map,List.length_range]
theorem DX{ρ:En}{mg:MG}{m1:MS}{Q:Fl->Prop}(P:Nat->En->Prop)(h0:P 0 ρ)(st:∀ i ρ,i < n->P i ρ->Wo (mg (.int<|0+(i:Nat)) ρ) (Co m1 ⟨0⟩<|oI Q<|P<|i+1))(hQ:∀ ρ,P n ρ->Q (.nx ρ)):Wo (gm mg m1 (gK 0 n) ρ) Q :=
 LL P h0 (λi d ρ hd hp=>by
  have(hi,rfl):=RI hd;exact st i ρ hi hp) λρ hp=>hQ ρ (by rw[TJ]at hp; exact hp)
theorem TH{xs:Qa D}{k:Int}(h:0<=k):jF xs none (some k)=xs.take k.toNat:=by
 have e:k=((k.toNat:Nat):Int):=by omega
 unfold jF;rw[e,HT.mZ,HT.jY,List.drop_zero,Nat.sub_zero];rw[show((k.toNat:Nat):Int).toNat=k.toNat by omega];rw[Nat.min_def];split
 .rfl
 .rw[List.take_of_length_le<|qe _,List.take_of_length_le (by omega)]
structure fX (k M:Nat) (d:D):Prop where
 lay:d.canLay0=true
 fW:d.depth<=k
 Pb:d.showable=true
 len:d.shown.length<=M
theorem fX.mono{k M k' M':Nat}{d:D}(h:fX k M d)(h1:k<=k')(h2:M<=M'):fX k' M' d:=⟨h.lay,qA h.fW h1,h.Pb,qA h.len h2⟩
theorem Fd{i:Int}(h:i.natAbs < 10^n)(h0:0 < n:=by decide)(h1:n<=470:=by decide):fX 0 (n+1) (.int i):=by
 refine⟨rfl,by simp[PyData.depth],?_,?_⟩
 .show decide (i.natAbs.log2 < 1920)=true
  refine decide_eq_true ?_
  by_cases z:i.natAbs=0
  .rw[z]; decide
  .have e1:10^n<=16^n:=Ĉ (by decide) n
   have e2:16^n=2^(4 * n):=by rw[Nat.pow_mul]
   have e3:i.natAbs < 2^(4 * n):=by rw[<-e2]; exact qj h e1
   exact qj ((Nat.log2_lt z).mpr e3) (by omega)
 .show(PySem.Str.ofString<|toString i).length<=n+1
  rw[PySem.ofString_length];exact PySem.int_text_length_le10 h0 h
theorem LK{k M:Nat}:∀ {ds:Qa D},(∀ d∈ds,fX k M d)->PyData.canLayAll0 ds=true/\PyData.depthAll ds<=k/\PyData.showableAll ds=true/\((PyData.shownAll ds).map (·.length)).sum+2 * ds.length<=ds.length * (M+2)
 | [],_=>⟨rfl,by simp[PyData.depthAll],rfl,by simp[PyData.shownAll]⟩
 | d::ds,h=>by
  have(a0,a1,a2,a3):=LK (ds:=ds) λx hx=>h x<|qo _ hx;have(b0,b1,b2,b3):=h d qp;refine⟨?_,?_,?_,?_⟩
  .show(d.canLay0 && PyData.canLayAll0 ds)=true
   rw[a0,b0];rfl
  .simp only[PyData.depthAll]
   omega
  .show(d.showable && PyData.showableAll ds)=true
   rw[a2,b2];rfl
  .show((d.shown::PyData.shownAll ds).map (·.length)).sum+_<=_
   rw[List.map_cons,List.sum_cons,qv,Nat.add_mul,Nat.one_mul];omega
theorem A9{k M:Nat}{ds:Qa D}(h:∀ d∈ds,fX k M d)(hn:ds.length<=n):fX (k+1) (n * (M+2)+3) (.tuple ds):=by
 have(a0,a1,a2,a3):=LK h;refine⟨a0,?_,a2,?_⟩
 .simp only[PyData.depth]
  omega
 .have:=tupleText_len_le (PyData.shownAll ds)
  have e:=PyData.shownAll_length ds;have m:ds.length * (M+2)<=n * (M+2):=Ã _ hn;show(tupleText<|PyData.shownAll ds).length<=_;omega
theorem fX.repr{k M:Nat}{d:D}(h:fX k M d)(hM:M<=16777216)(hk:k<=60):t9 (.d d)=some (.d<|.str d.shown):=by
 unfold t9;show(some d).bind _=_;rw[bd,if_pos ⟨BC d h.lay,h.Pb,by rw[zl]; exact qA h.len hM,qA h.fW hk⟩]
theorem fX.shaped{k M:Nat}{d:D}(h:fX k M d)(hk:k<=64):SeqAt.shaped d=true:=by
 unfold SeqAt.shaped;rw[h.lay,Bool.true_and];exact decide_eq_true<|qA h.fW hk
theorem fX.eqD{k M k' M':Nat}{a b:D}{neg:Bool}(ha:fX k M a)(hb:fX k' M' b)(hk:k<=64)(eQ:k'<=64):vK neg (.d a) (.d b)=some (.d<|.bool (if neg=true then !PyData.eqv a b else PyData.eqv a b)):=by
 have ea:U.py (.d a)=some a:=rfl;have eb:U.py (.d b)=some b:=rfl;unfold vK;rw[ea,bd,eb,bd,if_pos ⟨ha.shaped hk,hb.shaped eQ⟩]
section
variable{X:Cx}
end
section
variable{X:Cx}
end
section
noncomputable def zAy:U->Qb U
 | .d (.int i)=>if i.natAbs.log2 < 1920 then some (.d<|.str<|toString i)else none
 | .d (.str z)=>if z.length<=sizeLine then some (.d<|.str z)else none
 | _=>none
abbrev MJ:=En->Str->Qb (Str×En)
noncomputable def U.sr:U->Qb Str
 | .d (.str z)=>some z
 | _=>none
end
section
variable{ρ:En}{me:ME}{mj:MJ}{QE:Ar×En->Prop}{QJ:Str×En->Prop}{acc z y:Str}{i:Int}
end
end L2
namespace L2
open PySem PySem.Spec PyProof.Rows PySem.NumText
abbrev ts(n:Int):Str:=PySem.Str.ofString (toString n)
end L2
namespace L2
open PySem PySem.Spec PyProof.Rows
section
variable{X:Cx}{f:Expr}{tx:TE}{k:Nat}
theorem Fc(hr:aD k X.A)(ho:Wr (PE X o td))(he:Wr (PE X e ty))(hf:Wr (PE X f tx))(m:M2 X o "get" apos e f bM):Wr (PE X (.Call (.Attribute o "get" apos) [e,f] [] bM)<|EE X.K td ty tx):=⟨Z5 (ui hr) ho.run he.run hf.run m⟩
end
section
noncomputable def oH:U->Bool
 | .t _=>true
 | .k _=>true
 | .d (.dict kvs)=>gZ kvs
 | _=>false
theorem MW{x:V}{u:U}(h:Rp K H x u)(e:oH u=true):∃ a,x=.ref a/\CJ H a:=by
 unfold oH at e;split at e
 .have(a,ws,rfl,h1,_):=h
  exact⟨a,rfl,.inr ⟨_,.inl h1⟩⟩
 .have(a,ws,rfl,h1,_):=h
  exact⟨a,rfl,.inl ⟨_,.inl h1⟩⟩
 .have(a,ob,ws,rfl,h1,_):=DF.bX h e
  exact⟨a,rfl,.inr ⟨_,.inr ⟨ob,h1⟩⟩⟩
 .cases e
noncomputable def rG(md my mx:ME):ME:=λρ=>(md ρ).bind λp=>(p.1.get p.2).bind λu0=>if oH u0=true then(my p.2).bind λq=>(mx q.2).bind λz=>(p.1.get z.2).bind λu=>(q.1.get z.2).bind λy=>(z.1.get z.2).bind λx=>(kN u y).bind λo=>match x with
 | .d x=>some (.u<|.d<|o.getD x,z.2)
 | _=>none else none
theorem Fb{tx:TE}{md my mx:ME}(hd:VE K td md)(hy:VE K ty my)(hx:VE K tx mx):VE K (EE K td ty tx) (rG md my mx):=by
 intro ρ σ H a ai Q r e q;obtain⟨⟨a1,aj⟩,e1,e⟩:=zd e;have(u0,e0,e):=zd e;split at e
 rotate_left
 .cases e
 rename_i Hn;obtain⟨⟨b1,aw⟩,e2,e⟩:=zd e;obtain⟨⟨c1,jq⟩,e3,e⟩:=zd e;have(u,eu,e):=zd e;have(y,ey,e):=zd e;have(x,ex,e):=zd e;have(o,eo,e):=zd e;split at e
 rotate_left
 .cases e
 cases e;refine hd ρ σ H a1 aj _ r e1 λv1 H1 g1 k1=>?_;have(b,rfl,hb):=MW (k1.now r g1 e0) Hn;refine⟨b,rfl,hb,hy aj σ H1 b1 _ _ g1.rs e2 λv2 H2 g2 k2=>hx aw σ H2 c1 _ _ g2.rs e3 λv3 H3 g3 k3=>?_⟩;have(b',eb,h):=Lv (k1.later r g1 (g2.trans g3) eu) (k2.later g1.rs g2 g3 ey) eo;cases eb;have p3:=k3.now g2.rs g3 ex;rcases h with⟨w,d',rfl,g,p⟩|⟨rfl,g⟩
 .exact⟨_,g,q w H3 ((g1.trans g2).trans g3) ⟨p,Nw.data⟩⟩
 .exact⟨_,g,q v3 H3 ((g1.trans g2).trans g3) ⟨p3,Nw.data⟩⟩
end
theorem Zj:Manifest.canonical (String.map (λc=>if(c.isAlphanum || c=='_' || c=='.')=true then c else '_') "dict_itemiterator.__iter__") ++ "" = "dict_keyiterator.__iter__":=by decide +kernel
theorem Zi:entryFor table "dict_itemiterator.__iter__"=some Builtin.«dict_keyiterator.__iter__»:=entryFor_alias (by kernel_rfl) (by kernel_rfl) Zj (by kernel_rfl)
section
variable{ok ov:Qc}
theorem kW{T:Qc}{vs:Array Qc}{x:Qc}{Q:Unit->Qd->Prop}(e:s.heap.get? it=some {cls:=T,data:=.fields vs})(hj:j < vs.size)
  (q:∀ h':Heap,h'.get? it=some {cls:=T,data:=.fields (vs.setIfInBounds j x)}->h'.objs.size=s.heap.objs.size->(∀ b o,b≠it->s.heap.get? b=some o->h'.get? b=some o)->Q () {s with heap:=h'}):wpAny (model prog w) A (setField (.ref it) j x) Q E s:=by
 refine wpAny_setField e rfl hj<|q _ ?_ ?_ λb o hb z=>?_
 .exact Å _ e (Obj.isFreed_of_fields<|Obj.data_mapFields rfl _)
 .exact Heap.size_update ..
 .exact((È ..).2 b hb).trans z
theorem ZG{Q:Qb Qc->Qd->Prop}(k:IsItemIter s.heap it d i es.size ep ok ov)(r:eY s.heap d es ep){x:DictEntry}(hx:es[i]?=some x)
  (q:∀ h':Heap,IsItemIterOut h' it d (i+1) es.size ep x.key x.val s.heap.objs.size->h'.get? s.heap.objs.size=some {cls:=.type "tuple",data:=.seq #[x.key,x.val]}->(∀ b o,b≠it->s.heap.get? b=some o->h'.get? b=some o)->Q (some<|.ref s.heap.objs.size) {s with heap:=h'}):wpAny (model prog w) A (pyNext<|.ref it) Q E s:=by
 have kT:s.TypeIs (.ref it) "dict_itemiterator":=⟨_,k,rfl⟩;have(o,e,_,dat):=r;have je:s.heap.objs.size≠it:=Ne.symm (qk<|qi k);unfold pyNext;refine qa<|wpAny_attempt (wpAny_callSpecial?_slot (name:=Str.ofString "__next__") kT Ù
  (wpAny_call_entry Ù kT F.entry_dict_itemiterator_next ?_<|F.args_dict_itemiterator_next_1 _))
 refine qa<|qb<|qa<|qa ?_;refine qa<|wpAny_typeNameOfWhole_itemiter kT<|qb<|qa<|wpAny_fieldsOf k rfl ?_;simp only[show Builtin.Dict_items.ownsTuple "dict_itemiterator"=true by decide,if_true];show wpAny _ _ (if(Value.ref d==Value.none)=true then _ else _) _ _ s;rw[if_neg (show ¬((Value.ref d==Value.none)=true) from qf)];refine qa<|qb<|qa<|wpAny_dictEntries e dat ?_;rw[if_neg (by simp)];refine qa<|qb<|qa<|wpAny_dictEpoch e dat ?_;rw[if_neg (by simp)];refine qb ?_;simp only[show ¬((i:Int) < 0) from by omega,if_false,Int.toNat_natCast,hx];refine qa<|qa<|wpAny_typeNameOfWhole_itemiter kT<|qb<|qa<|wpAny_isOneOf_itemiter kT ?_;show wpAny _ _ (setField (.ref it) 3 (rawInt<|(i:Int)+1) >>= _) _ _ s;refine qa<|kW k (by simp) λh1 k1 z1 f1=>?_;refine qa<|wpAny_holding ?_;have P5:Shared.TypeIs {s with heap:=h1} (.ref it) "dict_itemiterator":=⟨_,k1,rfl⟩;refine qa<|wpAny_isOneOf_itemiter P5 ?_;show wpAny _ _ (Builtin.Dict_items.isOneOf (.ref it) _ >>= _) _ _ _;refine qa<|wpAny_isOneOf_itemiter P5 ?_;show wpAny _ _ (Builtin.Dict_items.pairFromOwner (.ref it) 6 x.key x.val) _ _ _;unfold Builtin.Dict_items.pairFromOwner;simp only[newTuple];refine qa<|qB ?_ (by show(2:Nat)<=sizeLine; decide);have k2:(h1.push {cls:=.type "tuple",data:=.seq #[x.key,x.val]}).get? it=_:=qd _ k1;have t2:(h1.push {cls:=.type "tuple",data:=.seq #[x.key,x.val]}).get? h1.objs.size=_:=qg _ rfl;have f2:∀ b o,b≠it->s.heap.get? b=some o->(h1.push {cls:=.type "tuple",data:=.seq #[x.key,x.val]}).get? b=some o:=λb o hb z=>qd _<|f1 b o hb z;rw[z1]at t2;show wpAny _ _ _ _ _ {s with heap:=h1.push {cls:=.type "tuple",data:=.seq #[x.key,x.val]}};generalize h1.push {cls:=.type "tuple",data:=.seq #[x.key,x.val]}=h2 at k2 t2 f2 ⊢;rw[z1];unfold Builtin.Dict_items.ownedTupleIsFree;refine qa<|qa<|wpAny_field k2 rfl (x:=.none) rfl<|qb ?_;show wpAny _ _ (if true=true then _ else _) _ _ _;rw[if_pos rfl];show wpAny _ _ (field (.ref it) 6 >>= _) _ _ _;refine qa<|wpAny_field k2 rfl (x:=ok) rfl ?_;refine qa<|wpAny_field k2 rfl (x:=ov) rfl ?_;refine qa<|kW k2 (by simp) λh3 k3 z3 f3=>?_;refine qa<|kW k3 (by simp) λh4 k4 z4 f4=>?_;refine qa<|kW k4 (by simp) λh5 k5 z5 f5=>?_;refine qa<|kW k5 (by simp) λh6 k6 z6 f6=>?_;refine qa<|wpAny_letGo<|qb<|qb ⟨_,rfl,qb<|q _ ?_ ?_ λb o hb z=>?_⟩
 .show h6.get? it=_
  rw[k6];rfl
 .exact f6 _ _ je (f5 _ _ je<|f4 _ _ je<|f3 _ _ je t2)
 .exact f6 b o hb (f5 b o hb<|f4 b o hb<|f3 b o hb<|f2 b o hb z)
theorem Zh{Q:Qb Qc->Qd->Prop}(hh:A.handled=none)(k:IsItemIter s.heap it d i es.size ep ok ov)(r:eY s.heap d es ep)(hx:es.size<=i)
  (q:∀ h':Heap,Heap.ExtBut it s.heap h'->Q none {s with heap:=h'}):wpAny (model prog w) A (pyNext<|.ref it) Q E s:=by
 have kT:s.TypeIs (.ref it) "dict_itemiterator":=⟨_,k,rfl⟩;have(o,e,_,dat):=r;unfold pyNext;refine qa<|wpAny_attempt (wpAny_callSpecial?_slot (name:=Str.ofString "__next__") kT Ù
  (wpAny_call_entry Ù kT F.entry_dict_itemiterator_next ?_<|F.args_dict_itemiterator_next_1 _))
 refine qa<|qb<|qa<|qa ?_;refine qa<|wpAny_typeNameOfWhole_itemiter kT<|qb<|qa<|wpAny_fieldsOf k rfl ?_;simp only[show Builtin.Dict_items.ownsTuple "dict_itemiterator"=true by decide,if_true];show wpAny _ _ (if(Value.ref d==Value.none)=true then _ else _) _ _ s;rw[if_neg (show ¬((Value.ref d==Value.none)=true) from qf)];refine qa<|qb<|qa<|wpAny_dictEntries e dat ?_;rw[if_neg (by simp)];refine qa<|qb<|qa<|wpAny_dictEpoch e dat ?_;rw[if_neg (by simp)];refine qb ?_;simp only[show ¬((i:Int) < 0) from by omega,if_false,Int.toNat_natCast,Array.getElem?_eq_none hx];refine qa<|qa<|wpAny_typeNameOfWhole_itemiter kT<|qb ?_;show wpAny _ _ (setField (.ref it) 2 .none >>= _) _ _ s;refine qa<|wpAny_setField k rfl (by simp) ?_;show wpAny _ _ (newExc (.type "StopIteration") [] >>= _) _ _ _;refine qa ?_;simp only[newExc,newTuple];refine qa<|qB ?_ (by show(0:Nat)<=sizeLine; exact Ð _);refine qa (m:=firstArgMember _ _)<|wpAny_of_eq (a:=Value.none) (by first|rfl | (simp only[firstArgMember]; rfl)) ?_;refine qB ?_ (by first|trivial|size_fits);simp only[raiseNew];refine qa<|wpAny_handled ?_;rw[show A.in1.handled=none from hh];refine qa<|qb<|wpAny_throw ?_;refine qa<|wpAny_isInstance (T := "StopIteration") (b:=true) ⟨_,qg _ rfl,rfl⟩ isSubtype_stop ?_;exact qb<|q _<|((È ..).extBut.push _).push _
theorem ZF(hd:(d==sysModules)=false)(r:eY s.heap d es ep)
  (q:Q (.ref s.heap.objs.size) {s with heap:=s.heap.push {cls:=.type "dict_items",data:=.fields #[.ref d]}}):wpAny (model prog w) A (call (.builtin "dict.items") [.ref d]) Q E s:=by
 have hT:=r.typeIs;have(o,e,_,dat):=r;refine wpAny_call_entry F.slot_dict_items hT F.entry_dict_items ?_<|F.args_dict_items_1 _;unfold Builtin.«dict.items» Builtin.Dict.noArgs;refine qa<|qa<|wpAny_notOrdered_dict hT ?_;refine qa<|qb ?_;refine qa<|qb<|qb ?_;unfold Builtin.Dict.showsAll;rw[hd,if_neg qf];refine qa<|qb ?_;unfold newFields;exact qa<|qB<|qb ⟨_,rfl,q⟩
theorem ZE{v:Qg}(hv:s.heap.IsItemsView v d)(r:eY s.heap d es ep)
  (q:∀ h':Heap,IsItemIter h' s.heap.objs.size d 0 es.size ep .none .none->(∀ b o,s.heap.get? b=some o->h'.get? b=some o)->Q (.ref s.heap.objs.size) {s with heap:=h'}):wpAny (model prog w) A (pyIter<|.ref v) Q E s:=by
 have(o,e,_,dat):=r;have(o2,e2,c2,d2):=id hv;have hT:=hv.typeIs (s:=s);refine wpAny_pyIter_slot hT F.slot_dict_items_iter<|wpAny_call_entry F.slot_dict_items_iter hT F.entry_dict_items_iter ?_<|F.args_dict_items_iter_1 _;unfold Builtin.«dict_items.__iter__»;refine qa<|qb ?_;unfold Builtin.Dict_items.dictOf;refine qa<|qa<|wpAny_field e2 d2 (x:=.ref d) rfl<|qb ?_;unfold Builtin.Dict_items.newIterator;refine qa<|qa<|wpAny_dictEntries e dat<|qa<|wpAny_dictEpoch e dat ?_;unfold newFields;refine qB (qb ⟨_,rfl, "dict_itemiterator",_,⟨_,qg _ rfl,rfl⟩,Ù.lookup,?_⟩) (by rw[show Builtin.Dict_items.ownsTuple "dict_itemiterator"=true by decide,if_pos rfl]; show(8:Nat)<=sizeLine+2; decide);exact q _ (qg _ rfl) λb o z=>qd _ z
end
theorem Fp{X:Cx}{o:Obj}(I:Inv X pins σ H s)(e:H a=some (.aZ o<|.dT kvs)):
  (a==sysModules)=false/\∃ (es:Array DictEntry) (ep:Nat),s.heap.get? a=some o/\o.ExactDict/\o.data=.dict es ep/\es.size=kvs.length/\∀ (i:Nat) (k:Qa Key) (v:V),kvs[i]?=some (k,v)->∃ (b:Qg) (x:DictEntry),es[i]?=some x/\x.key=.ref b/\aM X.K H b (k.map kV)/\zV v x.val:=by
 have(ea,z,y,xs,r,o',es,ep,h1,h2,h3,h4,h5):=(show be X.prog X.w X.K H s.heap a (.aZ o<|.dT kvs) from I.az a _ e);rw[ea]at h1;cases h1;refine⟨y,es,ep,ea,h2,h3,?_,λi k v hi=>?_⟩
 .have:=congrArg List.length h4
  rw[Array.length_toList,List.length_map,<-i4 r]at this;exact this
 .have(q,hq,r1,r2,r3):=w9 r i (k,v) hi
  refine⟨q.2.1,entryOfKey (tupleKind<|zA X.prog X.w) q,?_,rfl,r2,r3⟩;have:es.toList[i]?=some (entryOfKey (tupleKind<|zA X.prog X.w) q):=by rw[h4,List.getElem?_map,hq]; rfl
  simpa using this
noncomputable def Ru(K:qc)(a:Qg)(o:Obj)(kvs:Qa (Qa Key×V)):It :=
 ⟨λi H=>H a=some (.aZ o<|.dT kvs)/\i < kvs.length,λi H x H'=>∃ T,H T=none/\x=.ref T/\∀ k v,kvs[i]?=some (k,v)->∃ b,aM K H b (k.map kV)/\H'=upd H T (.tup [.ref b,v]),λi H=>H a=some (.aZ o<|.dT kvs)/\kvs.length<=i⟩
theorem zml{k:Nat}(a it:Qg)(o:Obj)(kvs:Qa (Qa Key×V))(ep:Nat)(yf:∃ es,o.data=.dict es ep):Turn P w K (.Tuple elts k pos) (Ru K a o kvs) [it] it (λi h=>∃ ok ov,IsItemIter h it a i kvs.length ep ok ov) where
 mem:=by simp
 obj:=λi h st b hb=>by
  have e:b=it:=by simpa using hb
  subst e;have(ok,ov,e):=st;exact⟨_,e,λv z=>by
   have z':Data.fields _=Data.cell v:=z;cases z'⟩
 keep:=λi h h' st k=>by
  have(ok,ov,e):=st;exact⟨ok,ov,k it (by simp) _ e⟩
 item:=by
  intro X hP hw hK hc i pins s σ H E I hf st hg;subst hP hw hK;have(e,hi):=hg;have(ok,ov,st):=st;have(sM,es,eS,ea,xd,dat,hsz,ent):=Fp I e;have tL:eS=ep:=by
   have(nQ,z):=yf;rw[dat]at z;injection z
  subst tL;have(b,x,ex,kx,hb,rv):=ent i kvs[i].1 kvs[i].2 (qm hi);refine ZG (es:=es) (by rw[hsz]; exact st) ⟨o,ea,xd,dat⟩ ex λh1 gM vk kk=>?_;refine⟨_,rfl,wpAny_letOwnedTupleGo_items (s:={s with heap:=h1}) gM λh2 jw sb=>?_⟩;have je:s.heap.objs.size≠it:=Ne.symm (qk<|qi st);have I2:Inv X pins σ H {s with heap:=h2}:=I.fD (t':=s.toks) (wr:=[it]) (λb o hb q=>(sb.2 b (by simpa using hb)).trans<|kk b o (by simpa using hb) q) hf;have fT:cu X pins H s.heap.objs.size:=I.cX (qe _) (I.az.fresh<|qe _);rw[kx]at vk;have I3:Inv X pins σ (upd H s.heap.objs.size<|.tup [.ref b,kvs[i].2]) {s with heap:=h2}:=I2.pN fT I.sz ⟨by show 2<=sizeLine; decide,[.ref b,x.val],.cons rfl<|.cons rv .nil,_,(sb.2 _ je).trans vk,rfl,⟨_,rfl⟩,.inl rfl⟩;refine⟨.ref s.heap.objs.size,_,I3,rfl,⟨_,I.az.fresh<|qe _,rfl,λk v jh=>⟨b,?_,?_⟩⟩,⟨_,_,by rw[<-hsz]; exact jw⟩,λc hc=>?_⟩
  .rw[qm hi]at jh
   rw[qy jh]at hb;exact hb
  .rw[qm hi]at jh
   rw[qy jh]
  .have e:c=it:=by simpa using hc
   subst e;rw[zx<|Ne.symm je];exact(hf c hc).1
 done:=by
  intro X hP hw hK hc i pins s σ H E I hf st hg;subst hP hw hK;have(e,hi):=hg;have(ok,ov,st):=st;have(sM,es,eS,ea,xd,dat,hsz,ent):=Fp I e;have tL:eS=ep:=by
   have(nQ,z):=yf;rw[dat]at z;injection z
  subst tL;have(f0,f1,f2,f3,f4,f5):=hf it (by simp);exact Zh (es:=es) (I.ok.hd hc) (by rw[hsz]; exact st) ⟨o,ea,xd,dat⟩ (by omega) λh' eb=>⟨rfl,I.turned (t':=s.toks) (λb o hb e=>eb b o hb e) f0 f1 f3 f4 f5⟩
 self:=λ_ _ _ _ _ st h=>by
  have(ok,ov,st):=st;exact wpAny_pyIter_slot ⟨_,st,rfl⟩ F.slot_dict_itemiterator_iter<|wpAny_call_entry F.slot_dict_itemiterator_iter ⟨_,st,rfl⟩ Zi (qb ⟨_,rfl, "dict_itemiterator",_,⟨_,st,rfl⟩,Ù.lookup,h⟩)<|F.args_dict_itemiterator_iter_1 _
section
variable{X:Cx}{kk:Nat}
noncomputable def Kn(K:qc)(td:TE):TI:=λσ H R=>td σ H λx H1=>∃ a o kvs,x=.ref a/\H1 a=some (.aZ o<|.dT kvs)/\R (Ru K a o kvs) H1
theorem E9{d:Expr}(hd:Wr (PE X d td))(ym:attributeBase d "items" X.env (eval d X.env)=eval d X.env:=by rfl)(x9:(apos.endLine==bM.line)=true:=by rfl):Wr (PI X (.Tuple elts kk mW) (.Call (.Attribute d "items" apos) [] [] bM)<|Kn X.K td):=by
 refine⟨?_⟩;intro pins s σ H R I h;refine wpAny_Call_method0_late ym x9<|aF (hd.run pins s σ H _ I h) λv s1 hZ=>?_;have(x,H1,I1,r1,q1):=hZ;have(a,o,kvs,rfl,e,q):=q1;cases r1;have(sM,es,ep,ea,xd,dat,hsz,_):=Fp I1 e;have Pc:eY s1.heap a es ep:=⟨o,ea,xd,dat⟩;refine⟨"dict", "dict.items",F.plainAttrs_dict,F.slot_dict_items,F.type_dict_items,Pc.typeIs,λb hb=>?_,Calls.callWith_builtin rfl<|PySem.evalArgs_none<|ZF sM Pc ?_⟩
 .cases hb
  exact⟨o,ea,xd.2.1⟩
 have I2:Inv X pins σ H1 {s1 with heap:=s1.heap.push {cls:=.type "dict_items",data:=.fields #[.ref a]}}:=I1.kept (t':=s1.toks) λb o z=>qd _ z;refine ZE (v:=s1.heap.objs.size) (s:={s1 with heap:=s1.heap.push {cls:=.type "dict_items",data:=.fields #[.ref a]}}) ⟨_,qg _ rfl,rfl,rfl⟩ ⟨o,qd _ ea,xd,dat⟩ λh' hit m9=>?_;refine⟨_,_,_,_,H1,rfl,I2.kept (t':=s1.toks) m9,zml a _ o kvs ep ⟨es,dat⟩,⟨_,_,by rw[<-hsz]; exact hit⟩,λb hb=>?_,q⟩;rw[qq.mp hb];exact I2.cX (qe _)<|I2.az.fresh<|qe _
end
noncomputable def uB:U->Qb (Qa D)
 | .d (.dict kvs)=>if gZ kvs=true then some (kvs.map λp=>.tuple [p.1,p.2])else none
 | _=>none
theorem LJ:∀ {ws:Qa (Qa Key×V)} {kvs:Qa (D×D)},gE K H ws kvs->∀ {i:Nat} {p:D×D},kvs[i]?=some p->∃ k v,ws[i]?=some (k,v)/\p.1=gN k/\DF K H v p.2
 | _,_,.nil,i,p,h=>by simp at h
 | _,_,.cons hv t,0,p,h=>by cases h; exact⟨_,_,rfl,rfl,hv⟩
 | _,_,.cons hv t,i+1,p,h=>LJ t (i:=i) h
theorem LI:∀ {ws:Qa (Qa Key×V)} {kvs:Qa (D×D)},gE K H ws kvs->ws.length=kvs.length
 | _,_,.nil=>rfl
 | _,_,.cons hv t=>congrArg (·+1)<|LI t
theorem Fo{me:ME}(h:VE K te me):VI K (Kn K te) (d9 uB me):=by
 intro ρ σ H ds ai R r e q;obtain⟨⟨a,aj⟩,e1,e⟩:=zd e;have(u,eu,e):=zd e;have(xs,ex,e):=zd e;cases e;refine h ρ σ H a _ _ r e1 λv H1 g1 k1=>?_;have p:=k1.now r g1 eu;unfold uB at ex;split at ex
 .split at ex
  rotate_left
  .cases ex
  rename_i nx;cases ex;have(b,o,ws,rfl,h1,h2):=DF.bX p nx;refine⟨b,o,ws,rfl,h1,q _ _ g1 λH2 k i=>?_⟩;have gQ:=k.aZ _ _ _ h1;refine⟨λd ed=>?_,λei=>?_⟩
  .rw[List.getElem?_map]at ed
   obtain⟨⟨kd,vd⟩,ew,rfl⟩:=qr.mp ed;have(ks,w,cK,rfl,dv):=LJ h2 ew;refine⟨⟨gQ,(ql.mp cK).1⟩,λx H' y=>?_⟩;have(T,nT,rfl,y):=y;have(kb,sS,rfl):=y ks w cK;have sm:=zU nT (.tup [.ref kb,w]);exact⟨sm,.tup (.inl zy)<|.cons (DF.kp sm.kp<|.tup sS wG)<|.cons ((dv.kp k).kp sm.kp) .nil⟩
  .rw[List.length_map,<-LI h2]at ei
   exact⟨gQ,Nat.le_of_eq ei.symm⟩
 .cases ex
abbrev ur(h:Heap)(t1:Qg):Heap:=h.push {cls:=.type "tuple_iterator",data:=.fields #[.ref t1,.int 0 0]}
abbrev wu(h:Heap)(t1 t2:Qg):Heap:=(ur h t1).push {cls:=.type "tuple_iterator",data:=.fields #[.ref t2,.int 0 0]}
abbrev uq(h:Heap)(t1 t2:Qg):Heap:=(wu h t1 t2).push {cls:=.type "tuple",data:=.seq #[.ref h.objs.size,.ref (ur h t1).objs.size]}
abbrev AZ(h:Heap)(t1 t2:Qg):Heap:=(uq h t1 t2).push {cls:=.type "tuple",data:=.seq #[.none,.none]}
abbrev FA(h:Heap)(t1 t2:Qg):Heap:=(AZ h t1 t2).push {cls:=.type "zip",data:=.fields #[.none,.bool false,.bool false,.ref (wu h t1 t2).objs.size,.ref (uq h t1 t2).objs.size]}
theorem Ys(t1 t2:Qg)(xs ys:Array Qc):
  Meets (Builtin.«zip.__new__» ⟨[.type "zip",.ref t1,.ref t2],[]⟩) (λ_ R s=>s.heap.IsTuple t1 xs/\s.heap.IsTuple t2 ys/\
   R (.ok<|.ret<|.ref (AZ s.heap t1 t2).objs.size) {s with heap:=FA s.heap t1 t2}):=
 .of_wp λprog w A R s h=>by
  have(hp,g,d,tk,os):=s;have(h1,h2,h):=h;have gz:Heap.IsTuple (ur hp t1) t2 ys:=by
   have(o,e,r):=h2;exact⟨o,qd _ e,r⟩
  have hsub:=sub_zip
  wp_walk using wpAny_pyIter_tuple h1,wpAny_pyIter_tuple gz
  exact⟨_,rfl,h⟩
section
variable{z TI TO i1 i2 t1 t2:Qg}{k:Nat}{xs ys:Array Qc}{x y a b:Qc}
theorem ZD{Q:Qb Qc->Qd->Prop}(ap:ZipApart z TI TO i1 i2 t1 t2)(hz:IsZip s.heap z TI TO .none)(hI:IsPair s.heap TI (.ref i1) (.ref i2))(hO:IsPair s.heap TO a b)
  (h1:s.heap.IsTupleIter i1 t1 k) (h2:s.heap.IsTupleIter i2 t2 k) (g1:s.heap.IsTuple t1 xs) (g2:s.heap.IsTuple t2 ys) (ex:xs[k]?=some x) (ey:ys[k]?=some y)
  (q:∀ h':Heap,IsZip h' z TI TO (rawInt s.heap.objs.size)->IsPair h' TO x y->h'.IsTupleIter i1 t1 (k+1)->h'.IsTupleIter i2 t2 (k+1)->IsPair h' s.heap.objs.size x y->
   (∀ c o,c≠z->c≠TO->c≠i1->c≠i2->s.heap.get? c=some o->h'.get? c=some o)->Q (some<|.ref s.heap.objs.size) {s with heap:=h'}):wpAny (model prog w) A (pyNext<|.ref z) Q E s:=by
 have kT:s.TypeIs (.ref z) "zip":=⟨_,hz,rfl⟩;unfold pyNext;refine qa<|wpAny_attempt<|wpAny_callSpecial?_slot (name:=Str.ofString "__next__") kT F.slot_zip_next<|wpAny_call_entry F.slot_zip_next kT F.entry_zip_next ?_<|F.args_zip_next_1 _;unfold Builtin.«zip.__next__»;refine qa<|qb ?_;refine qa<|wpAny_field hz rfl (x:=.bool false) rfl ?_;refine qa<|wpAny_field hz rfl (x:=.ref TI) rfl ?_;refine qa<|wpAny_seqItems hI rfl ?_;show wpAny _ _ (Builtin.SmallTypes.ownedTupleIsFree (.ref z) >>= _) _ _ s;unfold Builtin.SmallTypes.ownedTupleIsFree;refine qa<|qa<|wpAny_field hz rfl (x:=.none) rfl<|qb ?_;show wpAny _ _ (if true=true then _ else _) _ _ _;rw[if_pos rfl];refine qa<|wpAny_rule<|qa<|wpAny_field hz rfl (x:=.ref TO) rfl ?_;refine qa<|kW hz (by simp) λha ka za fa=>?_;have Qx:IsPair ha TO a b:=fa _ _ ap.TOz hO;have Cq:ha.IsTupleIter i1 t1 k:=by
  have(o,e,r):=h1;exact⟨o,fa _ _ ap.i1z e,r⟩
 have HU:ha.IsTuple t1 xs:=by
  have(o,e,r):=g1;exact⟨o,fa _ _ ap.l1z e,r⟩
 refine qa ?_;show wpAny _ _ (forIn [(Value.ref i1,0),(Value.ref i2,1)] (none,()) _) _ _ _;rw[List.forIn_cons];refine qa<|qa<|wpAny_onRaise ?_;show wpAny _ _ (Builtin.SmallTypes.nextOf (.ref i1) >>= _) _ _ _;refine qa<|NX (s:={s with heap:=ha}) Cq HU ex λhb kb sb=>qb ?_;refine qa<|wpAny_seqItems (s:={s with heap:=hb}) (o:=_) ((sb.2 _ ap.TOi1).trans Qx) rfl ?_;refine qa<|wpAny_updateSeq_pair (s:={s with heap:=hb}) ((sb.2 _ ap.TOi1).trans Qx) λhc kc sc=>?_;refine qa<|wpAny_letGo<|qb ?_;show wpAny _ _ (forIn [(Value.ref i2,1)] (none,()) _) _ _ _;rw[List.forIn_cons];have km:∀ c o,c≠z->c≠TO->c≠i1->s.heap.get? c=some o->hc.get? c=some o:=λc o n1 n2 n3 e=>(sc.2 c n2).trans<|(sb.2 c n3).trans<|fa c o n1 e;have h22:hc.IsTupleIter i2 t2 k:=by
  have(o,e,r):=h2;exact⟨o,km _ _ ap.i2z (Ne.symm ap.TOi2) (Ne.symm ap.i12) e,r⟩
 have g22:hc.IsTuple t2 ys:=by
  have(o,e,r):=g2;exact⟨o,km _ _ ap.l2z ap.l2TO ap.l2i1 e,r⟩
 refine qa<|qa<|wpAny_onRaise ?_;show wpAny _ _ (Builtin.SmallTypes.nextOf (.ref i2) >>= _) _ _ _;refine qa<|NX (s:={s with heap:=hc}) h22 g22 ey λhd kd sd=>qb ?_;have Qw:IsPair hd TO x b:=(sd.2 _ ap.TOi2).trans kc;refine qa<|wpAny_seqItems (s:={s with heap:=hd}) Qw rfl ?_;refine qa<|wpAny_updateSeq_pair (s:={s with heap:=hd}) Qw λhe ke se=>?_;refine qa<|wpAny_letGo<|qb ?_;show wpAny _ _ (forIn ([]:Qa (Qc×Nat)) (none,()) _) _ _ _;rw[List.forIn_nil];refine qb ?_;have Qv:IsPair he TO x y:=ke;show wpAny _ _ (seqItems? (.ref TO) >>= _) _ _ _;refine qa<|wpAny_seqItems (s:={s with heap:=he}) Qv rfl ?_;simp only[newTuple];refine qa<|qB ?_ (by show(2:Nat)<=sizeLine; decide);have sz:he.objs.size=s.heap.objs.size:=by rw[se.1,sd.1,sc.1,sb.1]; exact za
 show wpAny _ _ (Builtin.SmallTypes.ownedTupleHandOut (.ref z) (.ref he.objs.size) >>= _) _ _ {s with heap:=he.push {cls:=.type "tuple",data:=.seq #[x,y]}};have kz:(he.push {cls:=.type "tuple",data:=.seq #[x,y]}).get? z=some {cls:=.type "zip",data:=.fields #[.ellipsis,.bool false,.bool false,.ref TI,.ref TO]}:=
  qd _ ((se.2 _<|Ne.symm ap.TOz).trans<|(sd.2 _<|Ne.symm ap.i2z).trans<|(sc.2 _<|Ne.symm ap.TOz).trans<|(sb.2 _<|Ne.symm ap.i1z).trans ka)
 have kt:(he.push {cls:=.type "tuple",data:=.seq #[x,y]}).get? he.objs.size=some {cls:=.type "tuple",data:=.seq #[x,y]}:=qg _ rfl;have kO:(he.push {cls:=.type "tuple",data:=.seq #[x,y]}).get? TO=_:=qd _ Qv;have k1:Heap.IsTupleIter (he.push {cls:=.type "tuple",data:=.seq #[x,y]}) i1 t1 (k+1):=by
  have(o,e,r):=kb;exact⟨o,qd _<|(se.2 _<|Ne.symm ap.TOi1).trans<|(sd.2 _ ap.i12).trans<|(sc.2 _<|Ne.symm ap.TOi1).trans e,r⟩
 have k2:Heap.IsTupleIter (he.push {cls:=.type "tuple",data:=.seq #[x,y]}) i2 t2 (k+1):=by
  have(o,e,r):=kd;exact⟨o,qd _<|(se.2 _<|Ne.symm ap.TOi2).trans e,r⟩
 have kk:∀ c o,c≠z->c≠TO->c≠i1->c≠i2->s.heap.get? c=some o->(he.push {cls:=.type "tuple",data:=.seq #[x,y]}).get? c=some o:=λc o n1 n2 n3 n4 e=>
  qd _ ((se.2 c n2).trans<|(sd.2 c n4).trans<|km c o n1 n2 n3 e)
 have nz:he.objs.size≠z:=by
  rw[sz];exact Ne.symm<|qk<|qi hz
 generalize he.push {cls:=.type "tuple",data:=.seq #[x,y]}=hf at kz kt kO k1 k2 kk ⊢;unfold Builtin.SmallTypes.ownedTupleHandOut;refine qa<|qa<|kW (s:={s with heap:=hf}) kz (by simp) λhg kg zg fg=>?_;refine kW (s:={s with heap:=hg}) kg (by simp) λhh kh zh fh=>?_;have up:∀ c o,c≠z->hf.get? c=some o->hh.get? c=some o:=λc o n e=>fh c o n<|fg c o n e;refine qb ⟨_,rfl,qb ?_⟩;rw[sz]at kt kh nz ⊢;refine q hh kh (up _ _ ap.TOz kO) ?_ ?_ (up _ _ nz kt) λc o n1 n2 n3 n4 e=>up _ _ n1<|kk c o n1 n2 n3 n4 e
 .have(o,e,r):=k1
  exact⟨o,up _ _ ap.i1z e,r⟩
 .have(o,e,r):=k2
  exact⟨o,up _ _ ap.i2z e,r⟩
theorem Yr{Q:Qb Qc->Qd->Prop}(hh:A.handled=none)(ap:ZipApart z TI TO i1 i2 t1 t2)(hz:IsZip s.heap z TI TO .none)(hI:IsPair s.heap TI (.ref i1) (.ref i2))(hO:IsPair s.heap TO a b)
  (h1:s.heap.IsTupleIter i1 t1 k) (h2:s.heap.IsTupleIter i2 t2 k) (g1:s.heap.IsTuple t1 xs) (g2:s.heap.IsTuple t2 ys) (en:xs[k]?=none)
  (q:∀ h':Heap,(∀ c o,c≠z->c≠TO->c≠i1->c≠i2->s.heap.get? c=some o->h'.get? c=some o)->Q none {s with heap:=h'}):wpAny (model prog w) A (pyNext<|.ref z) Q E s:=by
 have kT:s.TypeIs (.ref z) "zip":=⟨_,hz,rfl⟩;unfold pyNext;refine qa<|wpAny_attempt<|wpAny_callSpecial?_slot (name:=Str.ofString "__next__") kT F.slot_zip_next<|wpAny_call_entry F.slot_zip_next kT F.entry_zip_next ?_<|F.args_zip_next_1 _;unfold Builtin.«zip.__next__»;refine qa<|qb ?_;refine qa<|wpAny_field hz rfl (x:=.bool false) rfl ?_;refine qa<|wpAny_field hz rfl (x:=.ref TI) rfl ?_;refine qa<|wpAny_seqItems hI rfl ?_;show wpAny _ _ (Builtin.SmallTypes.ownedTupleIsFree (.ref z) >>= _) _ _ s;unfold Builtin.SmallTypes.ownedTupleIsFree;refine qa<|qa<|wpAny_field hz rfl (x:=.none) rfl<|qb ?_;show wpAny _ _ (if true=true then _ else _) _ _ _;rw[if_pos rfl];refine qa<|wpAny_rule<|qa<|wpAny_field hz rfl (x:=.ref TO) rfl ?_;refine qa<|kW hz (by simp) λha ka za fa=>?_;have Cq:ha.IsTupleIter i1 t1 k:=by
  have(o,e,r):=h1;exact⟨o,fa _ _ ap.i1z e,r⟩
 have HU:ha.IsTuple t1 xs:=by
  have(o,e,r):=g1;exact⟨o,fa _ _ ap.l1z e,r⟩
 refine qa ?_;show wpAny _ _ (forIn [(Value.ref i1,0),(Value.ref i2,1)] (none,()) _) _ _ _;rw[List.forIn_cons];refine qa<|qa<|wpAny_onRaise ?_;show wpAny _ _ (Builtin.SmallTypes.nextOf (.ref i1) >>= _) _ _ _;refine qa<|ZL (s:={s with heap:=ha}) hh Cq HU en λhb e sb hZ=>?_;have(oe,ge,ce):=hZ;have kb:=sb z _ (Ne.symm ap.i1z) ka;refine kW (s:={s with heap:=hb}) kb (by simp) λhc kc zc fc=>?_;have nez:e≠z:=λh=>by
  rw[h]at ge;have z1:=qy (ge.symm.trans kb);rw[z1]at ce;have z2 : "zip" = "StopIteration":=Value.type.inj ce;exact absurd z2 (by decide)
 show wpAny _ _ (isInstance (.ref e) (.type "StopIteration") >>= _) _ _ _;refine qa<|wpAny_isInstance (T := "StopIteration") (b:=true) ⟨oe,fc _ _ nez ge,ce⟩ isSubtype_stop ?_;exact qb<|q hc λc o n1 n2 n3 n4 e=>fc c o n1<|sb c o n3<|fa c o n1 e
end
noncomputable def Rq(K:qc)(a b:Qg):It :=
 ⟨λi H=>∃ xs ys x y,bg K H a xs/\bg K H b ys/\xs[i]?=some x/\ys[i]?=some y,λi H x H'=>∃ T,H T=none/\x=.ref T/\∀ xs ys v u,bg K H a xs->bg K H b ys->xs[i]?=some v->ys[i]?=some u->H'=upd H T (.tup [v,u]),λi H=>∃ xs ys,bg K H a xs/\bg K H b ys/\xs.length=i⟩
abbrev Rk(z TI TO i1 i2 t1 t2:Qg)(i:Nat)(h:Heap):Prop:=IsZip h z TI TO .none/\IsPair h TI (.ref i1) (.ref i2)/\(∃ a b,IsPair h TO a b)/\h.IsTupleIter i1 t1 i/\h.IsTupleIter i2 t2 i
theorem Yq{k:Nat}(z TI TO i1 i2 t1 t2:Qg)(ap:ZipApart z TI TO i1 i2 t1 t2):
  Turn P w K (.Tuple elts k pos) (Rq K t1 t2) [z,TI,TO,i1,i2] z (Rk z TI TO i1 i2 t1 t2) where
 mem:=by simp
 obj:=λi h st c hc=>by
  obtain⟨hz,hI,⟨a,b,hO⟩,⟨o1,e1,_,d1⟩,⟨o2,e2,_,d2⟩⟩:=st;simp only[qw,List.not_mem_nil,or_false]at hc;rcases hc with rfl|rfl|rfl|rfl|rfl
  .exact⟨_,hz,λv q=>by
    have q':Data.fields _=Data.cell v:=q;cases q'⟩
  .exact⟨_,hI,λv q=>by
    have q':Data.seq _ _=Data.cell v:=q;cases q'⟩
  .exact⟨_,hO,λv q=>by
    have q':Data.seq _ _=Data.cell v:=q;cases q'⟩
  .exact⟨o1,e1,λv q=>by rw[d1]at q; cases q⟩
  .exact⟨o2,e2,λv q=>by rw[d2]at q; cases q⟩
 keep:=λi h h' st kk=>by
  obtain⟨hz,hI,⟨a,b,hO⟩,⟨o1,e1,r1⟩,⟨o2,e2,r2⟩⟩:=st;exact⟨kk z (by simp) _ hz,kk TI (by simp) _ hI,⟨a,b,kk TO (by simp) _ hO⟩,⟨o1,kk i1 (by simp) _ e1,r1⟩,⟨o2,kk i2 (by simp) _ e2,r2⟩⟩
 item:=by
  intro X hP hw hK hc i pins s σ H E I hf st hg;subst hP hw hK;have(xs,ys,x,y,nu,pX,hx,hy):=hg;obtain⟨hz,hI,⟨a,b,hO⟩,h1,h2⟩:=st;have(sG,B1,vo,_):=I.tuple nu;have(cU,xE,vn,_):=I.tuple pX;have(u1,eu1,r1):=B1.get hx;have(u2,eu2,r2):=xE.get hy;refine ZD ap hz hI hO h1 h2 vo vn (by simpa using eu1) (by simpa using eu2) λh' z' O' k1 k2 vk kk=>?_;refine⟨_,rfl,wpAny_letOwnedTupleGo_zip (s:={s with heap:=h'}) z' λgz z2 sb=>?_⟩;have nm:s.heap.objs.size∉[z,TI,TO,i1,i2]:=λhm=>by
   have:s.heap.objs.size < s.heap.objs.size:=by
    simp only[qw,List.not_mem_nil,or_false]at hm;have(_,e1,_):=h1;have(_,e2,_):=h2;rcases hm with h|h|h|h|h
    .exact qj (h▸qi hz) (qe _)
    .exact qj (h▸qi hI) (qe _)
    .exact qj (h▸qi hO) (qe _)
    .exact qj (h▸qi e1) (qe _)
    .exact qj (h▸qi e2) (qe _)
   exact Ç _ this
  have nz:s.heap.objs.size≠z:=λh=>nm (by rw[h]; simp);have I2:Inv X pins σ H {s with heap:=gz}:=I.fD (t':=s.toks) (wr:=[z,TI,TO,i1,i2]) (λc o hc q=>by
   simp only[qw,List.not_mem_nil,or_false,not_or]at hc;exact(sb.2 c hc.1).trans<|kk c o hc.1 hc.2.2.1 hc.2.2.2.1 hc.2.2.2.2 q) hf
  have fT:cu X pins H s.heap.objs.size:=I.cX (qe _) (I.az.fresh<|qe _);have I3:Inv X pins σ (upd H s.heap.objs.size<|.tup [x,y]) {s with heap:=gz}:=I2.pN fT I.sz ⟨by show 2<=sizeLine; decide,[u1,u2],.cons r1<|.cons r2 .nil,_,(sb.2 _ nz).trans vk,rfl,⟨_,rfl⟩,.inl rfl⟩;refine⟨.ref s.heap.objs.size,_,I3,rfl,⟨_,I.az.fresh<|qe _,rfl,λi9 i8 v u Hs Hr hv hu=>?_⟩,⟨z2,(sb.2 _ ap.TIz).trans<|kk _ _ ap.TIz ap.TITO ap.TIi1 ap.TIi2 hI,⟨_,_,(sb.2 _ ap.TOz).trans O'⟩,?_,?_⟩,λc hc=>?_⟩
  .cases I.cH nu Hs
   cases I.cH pX Hr;rw[hx]at hv;rw[hy]at hu;cases hv;cases hu;rfl
  .have(o,e,r):=k1
   exact⟨o,(sb.2 _ ap.i1z).trans e,r⟩
  .have(o,e,r):=k2
   exact⟨o,(sb.2 _ ap.i2z).trans e,r⟩
  .have ne:c≠s.heap.objs.size:=λh=>nm<|h▸hc
   rw[zx ne];exact(hf c hc).1
 done:=by
  intro X hP hw hK hc i pins s σ H E I hf st hg;subst hP hw hK;have(xs,ys,nu,pX,hl):=hg;obtain⟨hz,hI,⟨a,b,hO⟩,h1,h2⟩:=st;have(sG,B1,vo,_):=I.tuple nu;have(cU,xE,vn,_):=I.tuple pX;refine Yr (I.ok.hd hc) ap hz hI hO h1 h2 vo vn (by
   have:=B1.length;simp;omega) λh' kk=>⟨rfl,I.fD (t':=s.toks) (wr:=[z,TI,TO,i1,i2]) (λc o hc q=>by
   simp only[qw,List.not_mem_nil,or_false,not_or]at hc;exact kk c o hc.1 hc.2.2.1 hc.2.2.2.1 hc.2.2.2.2 q) hf⟩
 self:=λ_ _ _ _ _ st h=>wpAny_pyIter_zip st.1 h
section
theorem ZC{t1 t2:Qg}{xs ys:Array Qc}(h1:s.heap.IsTuple t1 xs)(h2:s.heap.IsTuple t2 ys)
  (h:∀ h':Heap,Rk (s.heap.objs.size+4) (s.heap.objs.size+2) (s.heap.objs.size+3) s.heap.objs.size (s.heap.objs.size+1) t1 t2 0 h'->(∀ b o,s.heap.get? b=some o->h'.get? b=some o)->Q (.ref<|s.heap.objs.size+4) {s with heap:=h'}):
  wpAny (model prog w) A (call (.type "zip") [.ref t1,.ref t2]) Q E s:=by
 refine callType_new F.called_zip (by decide) (F.typeCall_zip_2 _ _) (F.newCall_zip_2 _ _) (λobj=>F.args_object_init_3 obj _ _) F.entry_zip_new (Ys t1 t2 xs ys) ⟨h1,h2,?_⟩;have z1:(ur s.heap t1).objs.size=s.heap.objs.size+1:=Heap.size_push ..;have z2:(wu s.heap t1 t2).objs.size=s.heap.objs.size+2:=by rw[Heap.size_push,z1]
 have z3:(uq s.heap t1 t2).objs.size=s.heap.objs.size+3:=by rw[Heap.size_push,z2]
 have z4:(AZ s.heap t1 t2).objs.size=s.heap.objs.size+4:=by rw[Heap.size_push,z3]
 show _/\_;rw[z4];have ez:(FA s.heap t1 t2).get? (s.heap.objs.size+4)=some {cls:=.type "zip",data:=.fields #[.none,.bool false,.bool false,.ref<|s.heap.objs.size+2,.ref<|s.heap.objs.size+3]}:=by
  have:=qg (AZ s.heap t1 t2) (o:={cls:=.type "zip",data:=.fields #[.none,.bool false,.bool false,.ref (wu s.heap t1 t2).objs.size,.ref (uq s.heap t1 t2).objs.size]}) rfl;rw[z4,z2,z3]at this;rw[<-this];unfold FA;rw[z2,z3]
 refine⟨⟨_,ez,rfl⟩,h _ ⟨ez,?_,⟨.none,.none,?_⟩,⟨{cls:=.type "tuple_iterator",data:=.fields #[.ref t1,.int 0 0]},?_,rfl,rfl⟩,⟨{cls:=.type "tuple_iterator",data:=.fields #[.ref t2,.int 0 0]},?_,rfl,rfl⟩⟩ λb o x=>?_⟩
 .have:=qg (wu s.heap t1 t2) (o:={cls:=.type "tuple",data:=.seq #[.ref s.heap.objs.size,.ref (ur s.heap t1).objs.size]}) rfl
  rw[z2,z1]at this;refine qd _<|qd _ ?_;unfold uq;rw[z1];exact this
 .have:=qg (uq s.heap t1 t2) (o:={cls:=.type "tuple",data:=.seq #[.none,.none]}) rfl
  rw[z3]at this;exact qd _ this
 .exact qd _ (qd _<|qd _<|qd _<|qg _ rfl)
 .have:=qg (ur s.heap t1) (o:={cls:=.type "tuple_iterator",data:=.fields #[.ref t2,.int 0 0]}) rfl
  rw[z1]at this;exact qd _<|qd _<|qd _ this
 .exact qd _ (qd _<|qd _<|qd _<|qd _ x)
end
section
variable{X:Cx}{k:Nat}
noncomputable def IM(K:qc)(ta:TA):TI:=λσ H R=>ta σ H λvs H1=>∃ a b,vs=[.ref a,.ref b]/\(∃ xs,bg K H1 a xs)/\(∃ ys,bg K H1 b ys)/\R (Rq K a b) H1
theorem AU{a b:Expr}{ta:TA}{p:Pos}(ha:Wr (PA X [a,b] ta))(hK:X.K=K:=by rfl)(hg:Gl X "zip":=by exact rfl)(hm:X.mg "zip"=none:=by exact ue ‹Bl _ _› (by decide))(hs:d5 a=true:=by rfl)(hs2:[b].all d5=true:=by rfl):
  Wr (PI X (.Tuple elts k mW) (.Call (.Name "zip" p) [a,b] [] pos)<|IM K ta):=by
 subst hK;refine⟨?_⟩;intro pins s σ H R I h;refine Call_<|uI I hg hm boot_zip<|Ć (aF (ha.run pos pins s σ H _ I h) λus s1 hZ=>?_) (mP hs)<|rM hs2;have(vs,H1,I1,r1,q1):=hZ;obtain⟨t1,t2,e,⟨xs,nu⟩,⟨ys,pX⟩,q⟩:=q1;subst e;have(u1,u2,rfl,ru1,ru2):=D2 r1;cases ru1;cases ru2;have(sG,B1,vo,hz1):=I1.tuple nu;have(cU,xE,vn,hz2):=I1.tuple pX;have tl1:t1 < s1.heap.objs.size:=by
  have(o,e,_):=vo;exact qi e
 have tl2:t2 < s1.heap.objs.size:=by
  have(o,e,_):=vn;exact qi e
 have j9:∀ {x y:Nat},x < y->x≠y:=λh=>qk h;refine ZC (show s1.heap.IsTuple t1 sG.toArray from vo) (show s1.heap.IsTuple t2 cU.toArray from vn) λh' vp kk=>?_;have I2:Inv X pins σ H1 {s1 with heap:=h'}:=I1.kept (t':=s1.toks) kk;refine wpAny_pyIter_zip vp.1 ?_;have f:∀ j:Nat,cu X pins H1 (s1.heap.objs.size+j):=λj=>I1.cX (Nat.le_add_right _ _)<|I1.az.fresh<|Nat.le_add_right _ _;have ap:ZipApart (s1.heap.objs.size+4) (s1.heap.objs.size+2) (s1.heap.objs.size+3) s1.heap.objs.size (s1.heap.objs.size+1) t1 t2:=by
  generalize s1.heap.objs.size=n at tl1 tl2;constructor<;>(simp only[Qg]at *; omega)
 refine⟨_,_,_,_,H1,rfl,I2,Yq _ _ _ _ _ t1 t2 ap,vp,λc hc=>?_,q⟩;simp only[qw,List.not_mem_nil,or_false]at hc;rcases hc with rfl|rfl|rfl|rfl|rfl
 .exact f 4
 .exact f 2
 .exact f 3
 .exact f 0
 .exact f 1
end
noncomputable def qQ:Qa D->Qa D->Qa D
 | x::xs,y::ys=>.tuple [x,y]::qQ xs ys
 | _,_=>[]
theorem LS:∀ {xs ys:Qa D} {i:Nat} {d:D},(qQ xs ys)[i]?=some d->∃ x y,xs[i]?=some x/\ys[i]?=some y/\d=.tuple [x,y]
 | [],ys,i,d,h=>by simp[qQ]at h
 | x::xs,[],i,d,h=>by simp[qQ]at h
 | x::xs,y::ys,0,d,h=>by cases h; exact⟨x,y,rfl,rfl,rfl⟩
 | x::xs,y::ys,i+1,d,h=>LS (xs:=xs) (ys:=ys) (i:=i) h
theorem MV:∀ (xs ys:Qa D),xs.length=ys.length->(qQ xs ys).length=xs.length
 | [],[],_=>rfl
 | [],y::ys,h=>by cases h
 | x::xs,[],h=>by cases h
 | x::xs,y::ys,h=>congrArg (·+1)<|MV xs ys<|Nat.succ.inj h
noncomputable def vH:Qa U->Qb (Qa D)
 | [.d<|.tuple xs,.d<|.tuple ys]=>if xs.length=ys.length then some (qQ xs ys)else none
 | _=>none
noncomputable def tP(ma:MA):MI:=λρ=>(ma ρ).bind λp=>(bz p.2 p.1).bind λus=>(vH us).bind λds=>some (ds,p.2)
theorem AS{ta:TA}{ma:MA}(h:jA K ta ma):VI K (IM K ta) (tP ma):=by
 intro ρ σ H ds ai R r e q;obtain⟨⟨as,aj⟩,e1,e⟩:=zd e;have(us,eu,e):=zd e;have(zs,ez,e):=zd e;cases e;refine h ρ σ H as aj _ r e1 λvs H1 g1 s1=>?_;have rp:=s1.pP r g1 eu;unfold vH at ez;split at ez
 .split at ez
  rotate_left
  .cases ez
  rename_i xs ys hl;cases ez;cases rp with
  | cons p1 t=>
   cases t with
   | cons p2 t=>
    cases t;have(a,vx,rfl,h1,d1):=DF.aJ p1;have(b,vy,rfl,h2,d2):=DF.aJ p2;refine⟨a,b,rfl,⟨vx,(aM.sq h1)⟩,⟨vy,(aM.sq h2)⟩,q _ _ g1 λH2 kk i=>⟨λd ed=>?_,λei=>?_⟩⟩
    .have(x,y,ex,ey,rfl):=LS ed
     have(v,ev,dv):=(d1.kp kk).get ex;have(w,ew,dw):=(d2.kp kk).get ey;refine⟨⟨vx,vy,v,w,(aM.kp kk h1).sq,(aM.kp kk h2).sq,ev,ew⟩,λz H' y=>?_⟩;have(T,nT,rfl,y):=y;cases y vx vy v w ((aM.kp kk h1).sq) ((aM.kp kk h2).sq) ev ew;have sm:=zU nT (.tup [v,w]);exact⟨sm,.tup (.inl zy)<|.cons (dv.kp sm.kp)<|.cons (dw.kp sm.kp) .nil⟩
    .exact⟨vx,vy,(aM.kp kk h1).sq,(aM.kp kk h2).sq,by rw[MV _ _ hl]at ei; rw[d1.len]; exact ei.symm⟩
 .cases ez
section
theorem zk2{b:Qg}{Q:Bool->Qd->Prop}(hT:s.TypeIs (.ref b) "tuple")(h:Q false s):wpAny (model prog w) A (Builtin.Dict.quietEq<|.ref b) Q E s:=by
 unfold Builtin.Dict.quietEq;refine qa<|wpAny_specialOf hT F.slot_tuple_eq.lookup<|qb ?_;exact h
theorem NT{id:String}{o:Obj}{Q:Array DictEntry->Qd->Prop}(ho:s.heap.get? d=some o)(hd:o.data=.dict es ep)
  (hk:∀ e∈es.toList,∃ b,e.key=.ref b/\s.TypeIs (.ref b) "tuple") (hh:∀ e∈es.toList,¬(es.filter (·.hash==e.hash)).size > 1) (h:Q es s):
  wpAny (model prog w) A (Builtin.Dict.entriesForEmpty id d) Q E s:=by
 unfold Builtin.Dict.entriesForEmpty;refine qa<|wpAny_dictEntries ho hd ?_;refine qa ?_;rw[<-Array.forIn_toList];refine wpAny_forIn_list _ (λrest _ s'=>s'=s/\∀ e∈rest,e∈es.toList) _ ?_ ?_ _ _ ⟨rfl,λe h=>h⟩
 .rintro e rest b s' ⟨rfl,hr⟩
  have(c,ec,tc):=hk e (hr e qp);rw[ec];refine qa<|zk2 tc ?_;simp only[Bool.not_false,if_true];rw[if_neg<|hh e<|hr e qp];exact qb ⟨rfl,λe h=>hr e<|qo _ h⟩
 .rintro b s' ⟨rfl,_⟩
  exact qb h
theorem Km(ne:es.isEmpty=false)(hk:∀ e∈es.toList,∃ b,e.key=.ref b):(decide (es.size<=8) && es.all λe=>(keyPart e.key).isSome)=false:=by
 have:(es.all λe=>(keyPart e.key).isSome)=false:=by
  rw[<-Array.all_toList];cases h:es.toList with
  | nil=>
   have:es=#[]:=by
    apply Array.ext';rw[h]
   rw[this]at ne;cases ne
  | cons e r=>
   have(b,eb):=hk e (by rw[h]; exact qp);rw[List.all_cons,eb];rfl
 rw[this,Bool.and_false]
theorem zih{o:Obj}(hdS:(d==sysModules)=false)(ho:s.heap.get? d=some o)(hx:o.ExactDict)(hd:o.data=.dict es ep)(hz:es.size<=sizeLine)
  (hk:∀ e∈es.toList,∃ b,e.key=.ref b/\s.TypeIs (.ref b) "tuple") (hh:∀ e∈es.toList,¬(es.filter (·.hash==e.hash)).size > 1)
  (h:∀ h':Heap,(∃ o' eS,h'.get? s.heap.objs.size=some o'/\o'.ExactDict/\o'.data=.dict es eS)->(∀ b u,s.heap.get? b=some u->h'.get? b=some u)->Q (.ref s.heap.objs.size) {s with heap:=h'}):
  wpAny (model prog w) A (call (.type "dict") [.ref d]) Q E s:=by
 refine callType_codes (Q₁:=λobj aC=>obj=.ref s.heap.objs.size/\aC={s with heap:=s.heap.push {cls:=.type "dict",data:=.dict #[]}}) F.kt_called_dict (F.kt_typeCall_dict_1 _) F.entry_dict_init (kt_code_dict_new _ ⟨rfl,rfl⟩) ?_;rintro obj aC ⟨rfl,rfl⟩;have nd:s.heap.objs.size≠d:=Ne.symm (qk<|qi ho);have hn:(s.heap.push {cls:=.type "dict",data:=.dict #[]}).get? s.heap.objs.size=some {cls:=.type "dict",data:=.dict #[]}:=qg _ rfl;have dB:(s.heap.push {cls:=.type "dict",data:=.dict #[]}).get? d=some o:=qd _ ho;have kk:∀ b u,s.heap.get? b=some u->(s.heap.push {cls:=.type "dict",data:=.dict #[]}).get? b=some u:=λb u e=>qd _ e;generalize s.heap.push {cls:=.type "dict",data:=.dict #[]}=h1 at hn dB kk ⊢;have tn:Shared.TypeIs {s with heap:=h1} (.ref s.heap.objs.size) "dict":=⟨_,hn,rfl⟩;have to:Shared.TypeIs {s with heap:=h1} (.ref d) "dict":=⟨_,dB,hx.1⟩;refine⟨tn,F.args_dict_init_2 _ _,?_⟩;unfold Builtin.«dict.__init__»;refine qa ?_;unfold Builtin.Dict.selfAndRest;refine qa<|wpAny_notOrdered_dict tn ?_;show wpAny _ _ (pure (s.heap.objs.size,[Value.ref d])) _ _ _;refine qb ?_;show wpAny _ _ (Builtin.Dict.updateFrom "dict.__init__" s.heap.objs.size (.ref d) [] .none) _ _ _;unfold Builtin.Dict.updateFrom;refine qa<|wpAny_typeOf to ?_;rw[if_neg (by decide)];refine qa ?_;unfold Builtin.Dict.merge;refine qa ?_;unfold Builtin.Dict.readDirectly;refine qa<|wpAny_isInstance to isSubtype_dict_dict ?_;simp only[Bool.not_true,Bool.false_eq_true,if_false];refine qa<|wpAny_specialOf to F.slot_dict_iter.lookup<|qb ?_;simp only[beq_self_eq_true,if_true];refine qa<|qb ?_;unfold Builtin.Dict.mergeDict;rw[if_neg (by simpa using nd)];unfold Builtin.Dict.showsAll;rw[if_neg (by rw[hdS]; exact qf)];refine qa<|qb ?_;refine qa<|wpAny_dictEntries dB hd ?_;cases ne:es.isEmpty with
 | true=>
  have e0:es=#[]:=Array.isEmpty_iff.mp ne;subst e0;have fw:(decide ((#[]:Array DictEntry).size<=8) && (#[]:Array DictEntry).all λe=>(keyPart e.key).isSome)=true:=by rw[<-Array.all_toList]; rfl
  simp only[fw,Bool.not_true,Bool.false_eq_true,if_false];refine qa<|wpAny_dictEpoch (s:={s with heap:=h1}) dB hd ?_;refine qa<|wpAny_dictEntries (s:={s with heap:=h1}) dB hd ?_;refine qa ?_;rw[Std.Legacy.Range.forIn_eq_forIn_range'];simp only[Std.Legacy.Range.size,Nat.sub_zero,Nat.add_sub_cancel,Nat.div_one,Array.size_empty,List.range'_zero,List.forIn_nil];refine qb<|qb ?_;exact qa<|qb<|qb ⟨rfl,h h1 ⟨_,0,hn,⟨rfl,rfl,rfl⟩,rfl⟩ kk⟩
 | false=>
  have fw:=Km ne λe he=>let ⟨b,eb,_⟩:=hk e he; ⟨b,eb⟩;simp only[fw,Bool.not_false,if_true];refine qa<|wpAny_dictEntries hn rfl ?_;simp only[Array.isEmpty_empty,if_true];refine qa<|NT (s:={s with heap:=h1}) dB hd (λe he=>?_) hh ?_
  .have(b,eb,o2,eo,ec):=hk e he
   exact⟨b,eb,o2,kk _ _ eo,ec⟩
  simp only[ne,Bool.not_false,if_true];refine qa<|wpAny_updateDictKeysTo hn rfl ?_ (by show es.size<=_; omega);refine qb<|qa<|qb<|qb ⟨rfl,h _ ⟨_,_,Å _ hn rfl,⟨rfl,rfl,rfl⟩,rfl⟩ λb u e=>?_⟩;exact((È ..).2 b<|qk<|qi e).trans<|kk b u e
end
noncomputable def hK:Key->Int
 | .inl i=>hashInt i
 | .inr _=>0
noncomputable def hT(ks:Qa Key):Int:=reduceHash (Builtin.Tuple.tupleHashOf<|ks.map hK)
noncomputable def CU(ks:Qa Key):Bool:=ks.all λk=>match k with | .inl _=>true | .inr _=>false
noncomputable def rF(PZ:Qa (Qa Key)):Bool:=PZ.all CU && decide ((PZ.map hT).Nodup)
theorem RH:∀ {ks:Qa Key},CU ks=true->(tupleKind<|zA P w).hash ks=hT ks:=λ{ks} h=>by
 show reduceHash (Builtin.Tuple.tupleHashOf<|ks.map<|Jd w)=_;unfold hT;congr 2;refine Û λk hk=>?_;have:=Ø.mp h k hk;cases k with
 | inl i=>rfl
 | inr x=>cases this
theorem zmn{es:Qa DictEntry}(hn:(es.map (·.hash)).Nodup){e:DictEntry}(he:e∈es):(es.filter (·.hash==e.hash)).length<=1:=by
 induction es with
 | nil=>cases he
 | cons x es ih=>
  rw[List.map_cons,List.nodup_cons]at hn;rw[List.filter_cons];rcases qw.mp he with rfl|sY
  .rw[if_pos (by simp)]
   have:es.filter (·.hash==e.hash)=[]:=List.filter_eq_nil_iff.mpr λy hy z=>hn.1<|À.mpr ⟨y,hy,by simpa using z⟩;rw[this];simp
  .have:¬((x.hash==e.hash)=true):=λz=>hn.1<|À.mpr ⟨e,sY,by simpa using (beq_iff_eq.mp z).symm⟩
   rw[if_neg this];exact ih hn.2 sY
section
variable{X:Cx}
theorem Xh{l:Qa (Qa Key×V)}{m:Qa (Qa Key×Qg×Qc)}(r:KT X.K H l m):m.map (·.1)=l.map (·.1):=by
 induction r with
 | nil=>rfl
 | cons hq t ih=>rw[List.map_cons,List.map_cons,ih,hq.1]
theorem Xg(I:Inv X pins σ H s)(e:Rd H a (.dT kvs))(hh:rF (kvs.map (·.1))=true)(h:∀ p s',H p=none->Inv X pins σ (upd H p<|.dT kvs) s'->Q (.ref p) s'):wpAny (model X.prog X.w) A (call (.type "dict") [.ref a]) Q E s:=by
 have(z,y,xs,r,o,es,ep,h1,h2,h3,h4,h5):=(show be X.prog X.w X.K H s.heap a (.dT kvs) from oO I.az e);have(_,_,i9,r',dd):=oN I.cJ I.az e;have hlen:es.size=kvs.length:=by
  have:=congrArg List.length h4;rw[Array.length_toList,List.length_map,<-i4 r]at this;exact this
 have(hi,hn):=Bool.and_eq_true_iff.mp hh;have hn:=of_decide_eq_true hn;have kl:=Xh r;have hashes:es.toList.map (·.hash)=(kvs.map (·.1)).map hT:=by
  rw[h4,<-kl,List.map_map,List.map_map];refine Û λx hx=>?_;exact RH<|Ø.mp hi x.1 (by rw[<-kl]; exact À.mpr ⟨x,hx,rfl⟩)
 refine zih y h1 h2 h3 (by omega) (λq hq=>?_) (λq hq=>?_) λh' ⟨o',eS,n1,n2,n3⟩ kk=>?_
 .rw[h4]at hq
  have(x,hx,rfl):=À.mp hq;have key:∀ {l:Qa (Qa Key×V)} {m:Qa (Qa Key×Qg×Qc)},KT X.K H l m->∀ x∈m,aM X.K H x.2.1 (x.1.map kV):=by
   intro l m q
   induction q with
   | nil=>intro x hx; cases hx
   | cons hq _ ih=>
    intro x hx;rcases qw.mp hx with e|hx
    .subst e
     rw[<-hq.1];exact hq.2.1
    .exact ih x hx
  exact⟨x.2.1,rfl,(lr I.cJ I.az<|key r x hx).typeIs⟩
 .rw[<-hashes]at hn
  have:=zmn hn hq;rw[<-Array.length_toList,Array.toList_filter];omega
 .refine h _ _ (I.az.fresh<|qe _) (I.laid (a:=s.heap.objs.size) (o:=.dT kvs) (t':=s.toks) kk (qe _) ⟨z,beq_eq_false_iff_ne.mpr<|Ne.symm<|qk I.nW,xs,?_,o',es,eS,n1,n2,n3,h4,h5⟩)
  exact KT.keeps r λb ys hb=>by rw[zx (λz=>by rw[z,I.az.fresh<|qe _]at hb; cases hb)]; exact hb
theorem F1:du X (.type "dict") (λxs H Q=>∃ a kvs,xs=[.ref a]/\Rd H a (.dT kvs)/\rF (kvs.map (·.1))=true/\∀ p,H p=none->Q (.ref p) (upd H p<|.dT kvs)):=by
 intro pins s σ H xs us Q I r h;have(a,kvs,rfl,hr,hh,q):=h;have(u,rfl,ru):=eZ r;cases ru;exact Xg I hr hh λp s' hp I'=>⟨.ref p,_,I',rfl,q p hp⟩
end
noncomputable def oG:Qa (D×D)->Qb (Qa<|Qa Key×D)
 | []=>some []
 | (k,d)::r=>(bN k).bind λk=>(oG r).bind λr=>some<|(k,d)::r
noncomputable def lC:U->Qb U
 | .t kvs=>if rF (kvs.map (·.1))=true then some (.t kvs)else none
 | .d (.dict kvs)=>if gZ kvs=true then(oG kvs).bind λkvs=>if rF (kvs.map (·.1))=true then some (.t kvs)else none else none
 | _=>none
section
theorem Bm{kvs:Qa (Qa Key×D)}(h:bB K H ws kvs):ws.map (·.1)=kvs.map (·.1):=by
 induction h with
 | nil=>rfl
 | cons hq t ih=>rw[List.map_cons,List.map_cons,ih,hq.1]
theorem Fn:∀ {kvs:Qa (D×D)} {ws:Qa (Qa Key×V)} {r:Qa (Qa Key×D)},gE K H ws kvs->oG kvs=some r->bB K H ws r
 | [],ws,r,h,e=>by cases h; cases e; exact .nil
 | (k,d)::kvs,ws,r,h,e=>by
  have(k',ek,e):=zd (show(bN k).bind _=some r from e);have(r',er,e):=zd e;cases e;cases h with
  | @cons k2 v _ vs ds hv t=>
   rw[Bo]at ek;cases ek;exact .cons ⟨rfl,hv⟩<|Fn t er
theorem FP:VC K (λxs H Q=>∃ a kvs,xs=[.ref a]/\Rd H a (.dT kvs)/\rF (kvs.map (·.1))=true/\∀ p,H p=none->Q (.ref p) (upd H p<|.dT kvs)) (f1 lC):=gH λv a u H Q h e q=>by
 unfold lC at e;split at e
 .split at e
  rotate_left
  .cases e
  rename_i kvs hh;cases e;have(b,ws,rfl,h1,h2):=h;refine⟨b,ws,rfl,.inl h1,by rw[Bm h2]; exact hh,λp hp=>?_⟩;have sm:=zU hp (.dT ws);exact q _ _ sm ⟨p,ws,rfl,zy,h2.kp sm.kp⟩ λ_=>⟨p,rfl,hp⟩
 .split at e
  rotate_left
  .cases e
  rename_i nx;have(r,er,e):=zd e;split at e
  rotate_left
  .cases e
  rename_i hh;cases e;have(b,o,ws,rfl,h1,h2):=DF.bX h nx;have kd:=Fn h2 er;refine⟨b,ws,rfl,.inr ⟨o,h1⟩,by rw[Bm kd]; exact hh,λp hp=>?_⟩;have sm:=zU hp (.dT ws);exact q _ _ sm ⟨p,ws,rfl,zy,kd.kp sm.kp⟩ λ_=>⟨p,rfl,hp⟩
 .cases e
end
def Au(i j:Int):Prop:=i.natAbs.log2 < 1000000/\j.natAbs.log2 < 1000000
theorem MU{n:Int}(h:n.natAbs.log2 < 1000000):Builtin.Int.intBits n<=2^20:=by
 refine intBits_le ?_
 by_cases z:n.natAbs=0
 .rw[z]; exact Nat.two_pow_pos _
 .exact qj ((Nat.log2_lt z).mp h) (Î (by decide) (by decide))
section
variable{X:Cx}
theorem jT:cC X (binaryOp .Mult) (rI Au λi j=>.int<|i * j):=rZ λ_ _ _ _ _ _ _ hc q=>mul_int q<|IntMulOk.of_bits (MU hc.1)<|MU hc.2
end
section
noncomputable def iX:=kD Au λi j=>.int<|i * j
theorem jS:VO K (rI Au λi j=>.int<|i * j) iX:=rg λi j H=>.int _
end
section
variable{ρ:En}{me ma mb mc mk mi md my mv mx mo:ME}{mA mK:MA}{mt mu:MT}{mI:MI}{mg:MG}{m1 m2:MS}{u:U}{x:D}
variable{QE:Ar×En->Prop}{QI:Qa D×En->Prop}
theorem zk4:Wo (rG md my mx ρ) QE=Wo (md ρ) (Co (λp=>(p.1.get p.2).bind λu0=>if oH u0=true then(my p.2).bind λq=>(mx q.2).bind λz=>(p.1.get z.2).bind λu=>(q.1.get z.2).bind λy=>(z.1.get z.2).bind λx=>(kN u y).bind λo=>x.da.bind λx=>some (.u<|.d<|o.getD x,z.2)else none) ⟨0⟩ QE):=by
 have e:rG md my mx ρ=(md ρ).bind λp=>(p.1.get p.2).bind λu0=>if oH u0=true then(my p.2).bind λq=>(mx q.2).bind λz=>(p.1.get z.2).bind λu=>(q.1.get z.2).bind λy=>(z.1.get z.2).bind λx=>(kN u y).bind λo=>x.da.bind λx=>some (.u<|.d<|o.getD x,z.2)else none:=by
  unfold rG;refine eC λp=>eC λu0=>?_;split
  .refine eC λq=>eC λz=>eC λu=>eC λy=>eC λx=>eC λo=>?_
   cases x<;>rfl
  .rfl
 rw[e,zt]
theorem Yp:Wo (tP mA ρ) QI=Wo (mA ρ) (Co (λp=>(bz p.2 p.1).bind λus=>(vH us).bind λds=>some (ds,p.2)) ⟨0⟩ QI):=by
 show Wo (Option.bind _ _) QI=_;rw[zt]
theorem zn2{kvs:Qa (Qa Key×D)}:oH (.t kvs)=true:=rfl
theorem jN{a:Int}(h:a.natAbs.log2 < 1000000)(h2:b.natAbs.log2 < 1000000):iX (.d<|.int a) (.d<|.int b)=some (.d<|.int<|a * b):=q5 (c:=Au) ⟨h,h2⟩
theorem Kl{g:α->D}{b:α->Bool}{e:α->D}{Q:Qa D×En->Prop}(hz:as.length<=sizeLine)
  (st:∀ a∈as,∀ ys,Wo (mg (g a) ρ)<|Co mt ⟨0⟩<|xT nt me ys λai zs=>ai=ρ/\zs=if b a=true then ys++[e a]else ys) (q:Q ((as.filter b).map e,ρ)):Wo (g7 nt mg mt me (as.map g) ρ []) Q:=by
 refine Jr (λi ai ys=>ai=ρ/\ys=((as.take i).filter b).map e) (by rw[List.length_map]; exact hz) (λi ai ys h=>?_) ⟨rfl,rfl⟩ (λi d ai ys hd h=>?_) λai ys h=>?_
 .rw[h.2,List.length_map]
  exact qA (Ô _ _) (by rw[List.length_take]; exact Nat.min_le_left _ _)
 .have(rfl,rfl):=h
  rw[List.getElem?_map]at hd;have(a,ha,rfl):=qr.mp hd;have:=st a (Ê ha) (((as.take i).filter b).map e);have en:((as.take<|i+1).filter b).map e=if b a=true then((as.take i).filter b).map e++[e a]else((as.take i).filter b).map e:=by
   rw[List.take_succ,ha,List.filter_append,List.map_append];show _++(([a]:Qa α).filter b).map e=_;rw[List.filter_cons];split<;>simp
  rw[en];exact this
 .have(rfl,rfl):=h
  rw[List.length_map,List.take_of_length_le<|qe _];exact q
end
section
variable{X:Cx}
end
end L2
namespace L2
open PySem
noncomputable def kK(n d:Int):Int:=(if d < 0 then -n else n) / (Int.gcd n d:Nat)
noncomputable def iu(n d:Int):Int:=(if d < 0 then -d else d) / (Int.gcd n d:Nat)
theorem xf{n d:Int}(hd:d≠0):kK n d * d=n * iu n d/\1<=iu n d/\Int.gcd (kK n d) (iu n d)=1/\iu n d<=d.natAbs/\(kK n d).natAbs<=n.natAbs:=by
 have hg:0 < Int.gcd n d:=ç n hd;have(u,hu):=Int.gcd_dvd_left n d;have(v,hv):=Int.gcd_dvd_right n d;have Qq:(0:Int) < (Int.gcd n d:Nat):=Int.natCast_pos.mpr hg;have hc:Int.gcd (n / (Int.gcd n d:Nat)) (d / (Int.gcd n d:Nat))=1:=Int.gcd_ediv_gcd_ediv_gcd hg;unfold kK iu;generalize (Int.gcd n d:Nat)=g at *;have bD:(g:Int)≠0:=by omega
 have eu:n / (g:Int)=u:=by rw[hu]; exact ô u bD
 have ev:d / (g:Int)=v:=by rw[hv]; exact ô v bD
 have QP:(-n) / (g:Int)=-u:=by rw[hu,<-Int.mul_neg]; exact ô (-u) bD
 have tK:(-d) / (g:Int)=-v:=by rw[hv,<-Int.mul_neg]; exact ô (-v) bD
 rw[eu,ev]at hc;have g1:1<=g:=hg;have an:n.natAbs=g * u.natAbs:=by rw[hu,Int.natAbs_mul]; rfl
 have ad:d.natAbs=g * v.natAbs:=by rw[hv,Int.natAbs_mul]; rfl
 have lu:u.natAbs<=n.natAbs:=by rw[an]; exact Nat.le_mul_of_pos_left _ hg
 have lv:v.natAbs<=d.natAbs:=by rw[ad]; exact Nat.le_mul_of_pos_left _ hg
 by_cases c:d < 0
 .rw[if_pos c,if_pos c,QP,tK]
  have hv0:v < 0:=by
   rcases(by omega:v < 0\/0<=v)with z|z
   .exact z
   .have:=Int.mul_nonneg (ê Qq) z
    omega
  refine⟨?_,by omega,?_,by omega,by omega⟩
  .rw[hu,hv]
   simp only[Int.neg_mul,Int.mul_neg,Int.neg_inj]
   ac_rfl
  .rw[Int.neg_gcd,Int.gcd_neg]
   exact hc
 .rw[if_neg c,if_neg c,eu,ev]
  have hv0:0 < v:=by
   rcases(by omega:0 < v\/v<=0)with z|z
   .exact z
   .have:=Int.mul_nonneg (ê Qq) (show 0<=-v by omega)
    rw[Int.mul_neg,<-hv]at this;omega
  refine⟨?_,by omega,hc,by omega,by omega⟩;rw[hu,hv]
  ac_rfl
theorem Yo{n d N D:Int}(hd:d≠0)(h1:1<=D)(hc:Int.gcd N D=1)(he:N * d=n * D):N=kK n d/\D=iu n d:=by
 have(e,y1,c,_,_):=xf (n:=n) hd;generalize kK n d=x at *;generalize iu n d=y at *;have k:N * y=x * D:=by
  have z:(N * y) * d=(x * D) * d:=by grind
  exact ć hd z
 have d1:D∣y:=by
  have t:D∣N * y:=⟨x,by rw[k]; ac_rfl⟩;have u:=ë.mpr t;rw[Int.gcd_comm,hc]at u;simpa using u
 have d2:y∣D:=by
  have t:y∣x * D:=⟨N,by rw[<-k]; ac_rfl⟩;have u:=ë.mpr t;rw[Int.gcd_comm,c]at u;simpa using u
 have l1:=Int.le_of_dvd (by omega) d1;have l2:=Int.le_of_dvd (by omega) d2;have e2:D=y:=by omega
 refine⟨?_,e2⟩;rw[e2]at k;exact ć (by omega) k
theorem MR(n d:Int){g:Int}(hg:0 < g):n.fdiv (if d < 0 then 0 - g else g)=(if d < 0 then -n else n) / g:=by
 split
 .rw[Int.zero_sub,<-Int.fdiv_eq_ediv_of_nonneg _ (Int.le_of_lt hg)]
  have:=Int.neg_fdiv_neg (-n) g;rw[Int.neg_neg]at this;exact this
 .rw[Int.fdiv_eq_ediv_of_nonneg _<|Int.le_of_lt hg]
theorem Yn(x y:Int):Int.gcd (if x < 0 then -x else x) (if y < 0 then -y else y)=Int.gcd x y:=by
 rw[EV];split
 .exact Int.gcd_neg
 .rfl
theorem A8{n d:Int}(hd:d≠0):kK n d=(Rat.divInt n d).num/\iu n d=((Rat.divInt n d).den:Int):=by
 have h:=Yo (n:=n) (d:=d) (N:=(Rat.divInt n d).num) (D:=((Rat.divInt n d).den:Int)) hd (by have:=(Rat.divInt n d).den_pos; omega) (by
  have:=(Rat.divInt n d).reduced;exact this) (by
  have e:Rat.divInt (Rat.divInt n d).num ((Rat.divInt n d).den:Int)=Rat.divInt n d:=Rat.num_divInt_den _;rw[Rat.divInt_eq_divInt_iff (by have:=(Rat.divInt n d).den_pos; omega) hd]at e;rw[e])
 exact⟨h.1.symm,h.2.symm⟩
noncomputable def fR(r:Rat):D:=.tuple [.int r.num,.int (r.den:Int)]
theorem Kk{n d:Int}(hd:d≠0):PyData.tuple [.int<|kK n d,.int<|iu n d]=fR (Rat.divInt n d):=by
 have(e1,e2):=A8 (n:=n) hd;rw[e1,e2];rfl
theorem jD(r:Rat):1<=(r.den:Int):=by have:=r.den_pos; omega
theorem Q0(r:Rat):Int.gcd r.num (r.den:Int)=1:=by
 have:=r.reduced;exact this
theorem XJ(a b:Rat):Rat.divInt (a.num * b.den+b.num * a.den) ((a.den:Int) * b.den)=a+b:=by
 rw[Rat.add_def',<-Rat.divInt_ofNat,Int.natCast_mul]
theorem XH(a b:Rat):Rat.divInt (a.num * b.num) ((a.den:Int) * b.den)=a * b:=by
 rw[Rat.mul_def',<-Rat.divInt_ofNat,Int.natCast_mul]
theorem uZ(r:Rat):r * (r.den:Rat)=(r.num:Rat):=by
 have e:(r.num:Rat) / ((r.den:Int):Rat)=r:=by rw[<-Rat.divInt_eq_div]; exact Rat.num_divInt_den r
 have n:((r.den:Int):Rat)≠0:=λh=>by
  have:=ü.mp (show((r.den:Int):Rat)=((0:Int):Rat) from h);have:=r.den_pos;omega
 have:=Rat.div_mul_cancel (a:=(r.num:Rat)) n;rw[e]at this;exact this
def Bd(M B:Nat)(r:Rat):Prop:=∃ k:Int,r * (M:Rat)=(k:Rat)/\k.natAbs<=B
section
variable{M N C:Nat}{r s:Rat}
theorem Bd.le(h:Bd M B r)(c:B<=C):Bd M C r:=let ⟨k,e,b⟩:=h; ⟨k,e,qA b c⟩
theorem Bd.size(hM:0 < M)(h:Bd M B r):r.den<=M/\r.num.natAbs<=B:=by
 have(k,e,b):=h;have e2:r.num * (M:Int)=k * (r.den:Int):=by
  have h1:=uZ r;have h2:((r.num * (M:Int):Int):Rat)=((k * (r.den:Int):Int):Rat):=by
   rw[Rat.intCast_mul,Rat.intCast_mul,<-h1,<-e,Rat.intCast_natCast,Rat.intCast_natCast,Rat.mul_assoc,Rat.mul_assoc,Rat.mul_comm (r.den:Rat)]
  exact ü.mp h2
 have dv:(r.den:Int)∣(M:Int):=by
  have t:(r.den:Int)∣r.num * (M:Int):=⟨k,by rw[e2,Int.mul_comm]⟩;have u:=ë.mpr t;rw[Int.gcd_comm,Q0]at u;simpa using u
 have(c,hc):=dv;have dp:(0:Int) < r.den:=by have:=r.den_pos; omega
 have c0:0 < c:=by
  rcases(by omega:0 < c\/c<=0)with z|z
  .exact z
  .have:=Int.mul_nonneg (ê dp) (show 0<=-c by omega)
   rw[Int.mul_neg,<-hc]at this;omega
 have ek:k=r.num * c:=by
  rw[hc]at e2;have:k * (r.den:Int)=(r.num * c) * (r.den:Int):=by rw[<-e2]; ac_rfl
  exact ć (by omega) this
 constructor
 .have:(r.den:Int) * 1<=(r.den:Int) * c:=Int.mul_le_mul_of_nonneg_left (by omega) (by omega)
  omega
 .rw[ek,Int.natAbs_mul]at b
  exact qA (Nat.le_mul_of_pos_right _ (by omega)) b
theorem Bd.add(h:Bd M B r)(h':Bd M C s):Bd M (B+C) (r+s):=by
 have(k,e,b):=h;have(l,f,c):=h';exact⟨k+l,by rw[Rat.add_mul,e,f,Rat.intCast_add],qA (Int.natAbs_add_le _ _)<|Nat.add_le_add b c⟩
theorem Bd.mul(h:Bd M B r)(h':Bd N C s):Bd (M * N) (B * C) (r * s):=by
 have(k,e,b):=h;have(l,f,c):=h';refine⟨k * l,?_,by rw[Int.natAbs_mul]; exact Ï b c⟩;rw[Rat.intCast_mul,<-e,<-f,Rat.natCast_mul];grind
theorem Bd.neg(h:Bd M B r):Bd M B (-r):=by
 have(k,e,b):=h;exact⟨-k,by rw[Rat.neg_mul,e,Rat.intCast_neg],by rw[Int.natAbs_neg]; exact b⟩
theorem Bd.zero:Bd M B 0:=⟨0,by rw[Rat.zero_mul]; rfl,Ð _⟩
theorem Bd.wide(h:Bd M B r)(c:Nat):Bd (M * c) (B * c) r:=by
 have(k,e,b):=h;refine⟨k * c,?_,by rw[Int.natAbs_mul,Int.natAbs_natCast]; exact Ã _ b⟩;rw[Rat.intCast_mul,<-e,Rat.natCast_mul,Rat.intCast_natCast,Rat.mul_assoc]
theorem Bd.one:Bd 1 1 1:=⟨1,by rw[Rat.one_mul]; rfl,qe _⟩
theorem Bd.int(n:Int):Bd 1 n.natAbs (n:Rat):=⟨n,by rw[show((1:Nat):Rat)=1 from rfl,Rat.mul_one],qe _⟩
end
abbrev Pq(α:Type):=Qa (Qa Int×α)
section
noncomputable def aR(p:Pq α)(k:Qa Int):Qb α:=(p.find? λt=>decide<|t.1=k).map (·.2)
noncomputable def bu(p:Pq α)(k:Qa Int)(x:α):Pq α:=if(p.any λt=>decide<|t.1=k)=true then p.map (λt=>if t.1=k then(t.1,x)else t)else p++[(k,x)]
def aA(p:Pq α):Prop:=(p.map (·.1)).Nodup
theorem Br{p:Pq α}{k:Qa Int}:aR p k=none↔(p.any λt=>decide<|t.1=k)=false:=by
 induction p with
 | nil=>simp[aR]
 | cons t p ih=>
  unfold aR at ih ⊢;rw[List.find?_cons,List.any_cons]
  by_cases h:t.1=k
  .simp[h]
  .rw[decide_eq_false h,Bool.false_or]
   exact ih
theorem Ym{p:Pq α}{k:Qa Int}:(aR p k).isSome=(p.any λt=>decide<|t.1=k):=by
 cases h:aR p k with
 | none=>rw[Br.mp h]; rfl
 | some x=>
  cases z:(p.any λt=>decide<|t.1=k)with
  | true=>rfl
  | false=>rw[Br.mpr z]at h; cases h
theorem MQ(p:Pq α)(k:Qa Int)(x:α):(bu p k x).map (·.1)=if(p.any λt=>decide<|t.1=k)=true then p.map (·.1)else p.map (·.1)++[k]:=by
 unfold bu;split
 .rw[List.map_map]
  refine Û λt _=>?_;show(if t.1=k then(t.1,x)else t).1=t.1;split<;>rfl
 .rw[List.map_append]
  rfl
theorem pj{p:Pq α}{k:Qa Int}{x:α}{t:Qa Int×α}(h:t∈bu p k x):(t∈p/\t.1≠k)\/t=(k,x):=by
 unfold bu at h;split at h
 .have(u,hu,rfl):=À.mp h
  by_cases c:u.1=k
  .rw[if_pos c]; exact .inr (by rw[c])
  .rw[if_neg c]; exact .inl ⟨hu,c⟩
 .rename_i hn
  rcases Ä.mp h with z|z
  .exact .inl ⟨z,λe=>hn<|æ.mpr ⟨t,z,decide_eq_true e⟩⟩
  .exact .inr (qq.mp z)
theorem aA.put{p:Pq α}(h:aA p)(k:Qa Int)(x:α):aA (bu p k x):=by
 unfold aA;rw[MQ];split
 .exact h
 .rename_i hn
  refine List.nodup_append.mpr ⟨h,by simp,λa ha b hb=>?_⟩;have:b=k:=by simpa using hb
  rw[this];have(t,ht,rfl):=À.mp ha;exact λe=>hn<|æ.mpr ⟨t,ht,decide_eq_true e⟩
theorem uQ(p:Pq α)(k:Qa Int)(x:α):(bu p k x).length<=p.length+1:=by
 unfold bu;split
 .rw[List.length_map]; omega
 .rw[qu]; exact qe _
noncomputable def bj[Add α][Zero α](acc:Pq α)(ts:Pq α):Pq α:=ts.foldl (λa t=>bu a t.1<|(aR a t.1).getD 0+t.2) acc
end
section
variable[Add α][Zero α]
theorem oR(ts:Pq α):∀ {acc:Pq α},aA acc->aA (bj acc ts):=by
 induction ts with
 | nil=>exact λh=>h
 | cons t ts ih=>exact λh=>ih<|h.put _ _
theorem rJ(ts:Pq α):∀ (acc:Pq α),(bj acc ts).length<=acc.length+ts.length:=by
 induction ts with
 | nil=>intro acc; exact qe _
 | cons t ts ih=>
  intro acc;have h1:=ih (bu acc t.1<|(aR acc t.1).getD 0+t.2);have h2:=uQ acc t.1 ((aR acc t.1).getD 0+t.2);rw[qv];show(bj (bu acc t.1<|(aR acc t.1).getD 0+t.2) ts).length<=_;omega
theorem MP(acc ts:Pq α)(t:Qa Int×α):bj acc (ts++[t])=bu (bj acc ts) t.1 ((aR (bj acc ts) t.1).getD 0+t.2):=by
 unfold bj;rw[List.foldl_append];rfl
theorem wQ{Pk:Qa Int->Prop}(ts:Pq α):∀ {acc:Pq α},(∀ t∈acc,Pk t.1)->(∀ t∈ts,Pk t.1)->∀ t∈bj acc ts,Pk t.1:=by
 induction ts with
 | nil=>exact λh _=>h
 | cons t ts ih=>
  intro acc h1 h2;refine ih (acc:=bu acc t.1 _) (λu hu=>?_) λu hu=>h2 u<|qo _ hu;rcases pj hu with⟨z,_⟩|rfl
  .exact h1 u z
  .exact h2 t qp
end
theorem wO{p:Pq α}{k:Qa Int}{x:α}(h:aR p k=some x):(k,x)∈p:=by
 unfold aR at h;have(t,ht,rfl):=qr.mp h;have h1:=List.mem_of_find?_eq_some ht;have h2:t.1=k:=by simpa using List.find?_some ht
 rw[<-h2];exact h1
theorem iC{p:Pq α}(nd:aA p){t:Qa Int×α}(h:t∈p):aR p t.1=some t.2:=by
 induction p with
 | nil=>cases h
 | cons u p ih=>
  have pS:u.1∉p.map (·.1)/\aA p:=ì.mp nd;unfold aR at ih ⊢;rw[List.find?_cons];rcases qw.mp h with rfl|h
  .rw[decide_eq_true rfl]; rfl
  .rw[decide_eq_false λe=>pS.1<|List.mem_map.mpr ⟨t,h,e.symm⟩]
   exact ih pS.2 h
noncomputable def ao(p:Pq Rat)(g:Qa Int->Rat):Rat:=(p.map λt=>t.2 * g t.1).sum
theorem zX(g:Qa Int->Rat):ao [] g=0:=rfl
theorem zv(t:Qa Int×Rat)(p:Pq Rat)(g:Qa Int->Rat):ao (t::p) g=t.2 * g t.1+ao p g:=rfl
theorem mU(p q:Pq Rat)(g:Qa Int->Rat):ao (p++q) g=ao p g+ao q g:=by
 induction p with
 | nil=>rw[List.nil_append,zX,Rat.zero_add]
 | cons t p ih=>rw[List.cons_append,zv,zv,ih,Rat.add_assoc]
theorem MN{p q:Pq Rat}(h:p.Perm q)(g:Qa Int->Rat):ao p g=ao q g:=by
 induction h with
 | nil=>rfl
 | cons t _ ih=>rw[zv,zv,ih]
 | swap t u p=>rw[zv,zv,zv,zv]; grind
 | trans _ _ i1 i2=>exact i1.trans i2
theorem uA(p:Pq Rat)(g:Qa Int->Rat):ao (p.filter λt=>decide<|t.2≠0) g=ao p g:=by
 induction p with
 | nil=>rfl
 | cons t p ih=>
  rw[List.filter_cons]
  by_cases h:t.2=0
  .rw[if_neg (by simp[h]),zv,h,ih]; grind
  .rw[if_pos (by simp[h]),zv,zv,ih]
theorem Yl{p:Pq Rat}(nd:aA p){k:Qa Int}{x:Rat}(h:aR p k=some x)(y:Rat)(g:Qa Int->Rat):ao (p.map λt=>if t.1=k then(t.1,x+y)else t) g=ao p g+y * g k:=by
 induction p with
 | nil=>cases h
 | cons t p ih=>
  have pS:t.1∉p.map (·.1)/\aA p:=ì.mp nd;rw[List.map_cons,zv,zv]
  by_cases c:t.1=k
  .have e:p.map (λt=>if t.1=k then(t.1,x+y)else t)=p:=by
    have:∀ u∈p,(λt:Qa Int×Rat=>if t.1=k then(t.1,x+y)else t) u=id u:=λu hu=>if_neg λz=>pS.1<|À.mpr ⟨u,hu,z.trans c.symm⟩;rw[List.map_congr_left this,List.map_id]
   have ex:t.2=x:=by
    unfold aR at h;rw[List.find?_cons,decide_eq_true c]at h;exact qy h
   rw[e,if_pos c,ex,c];grind
  .have h':aR p k=some x:=by
    unfold aR at h ⊢;rw[List.find?_cons,decide_eq_false c]at h;exact h
   rw[if_neg c,ih pS.2 h'];grind
theorem LR{p:Pq Rat}(nd:aA p)(k:Qa Int)(y:Rat)(g:Qa Int->Rat):ao (bu p k<|(aR p k).getD 0+y) g=ao p g+y * g k:=by
 unfold bu;cases h:aR p k with
 | none=>
  rw[if_neg (by rw[Br.mp h]; exact qf),mU,zv,zX,Option.getD_none];grind
 | some x=>
  rw[if_pos (by rw[<-Ym,h]; rfl),Option.getD_some];exact Yl nd h y g
theorem uP(ts:Pq Rat)(g:Qa Int->Rat):∀ {acc:Pq Rat},aA acc->ao (bj acc ts) g=ao acc g+ao ts g:=by
 induction ts with
 | nil=>intro acc _; rw[zX,Rat.add_zero]; rfl
 | cons t ts ih=>
  intro acc nd;show ao (bj (bu acc t.1 _) ts) g=_;rw[ih<|nd.put _ _,LR nd,zv,Rat.add_assoc]
def vi(a b:Qa Int×α):Prop:=aV a.1 b.1=true
noncomputable def ins(x:Qa Int×α):Pq α->Pq α
 | []=>[x]
 | y::l=>if aV x.1 y.1=true then x::y::l else y::ins x l
noncomputable def bK:Pq α->Pq α
 | []=>[]
 | x::l=>ins x<|bK l
theorem Fm(x:Qa Int×α):∀ l:Pq α,(ins x l).Perm<|x::l
 | []=>.refl _
 | y::l=>by
  unfold ins;split
  .exact .refl _
  .exact((Fm x l).cons y).trans (List.Perm.swap x y l)
theorem e7:∀ l:Pq α,(bK l).Perm l
 | []=>.refl _
 | x::l=>(Fm x<|bK l).trans<|(e7 l).cons x
theorem MM(x:Qa Int×α):∀ {l:Pq α},l.Pairwise vi->(∀ y∈l,x.1≠y.1)->(ins x l).Pairwise vi
 | [],_,_=>by unfold ins; simp
 | y::l,h,ne=>by
  have(h1,h2):=Ü.mp h;unfold ins;split
  .rename_i c
   refine Ü.mpr ⟨λw hw=>?_,h⟩;rcases qw.mp hw with rfl|hw
   .exact c
   .exact jU c (h1 w hw)
  .rename_i c
   refine Ü.mpr ⟨λw hw=>?_,MM x h2 λw hw=>ne w<|qo _ hw⟩;rcases qw.mp ((Fm x l).mem_iff.mp hw)with rfl|hw
   .exact(mT<|ne y qp).resolve_left c
   .exact h1 w hw
theorem wN:∀ {l:Pq α},aA l->(bK l).Pairwise vi
 | [],_=>.nil
 | x::l,nd=>by
  have pS:x.1∉l.map (·.1)/\aA l:=ì.mp nd;exact MM x (wN pS.2) λy hy e=>pS.1<|À.mpr ⟨y,(e7 l).mem_iff.mp hy,e.symm⟩
structure Nf (p:Pq Rat):Prop where
 st:p.Pairwise vi
 nz:∀ t∈p,t.2≠0
theorem A7{p:Pq Rat}{k:Qa Int}(h:∀ t∈p,t.1≠k):ao p (λe=>if e=k then 1 else 0)=0:=by
 induction p with
 | nil=>rfl
 | cons t p ih=>
  rw[zv,ih λu hu=>h u<|qo _ hu,if_neg<|h t qp];grind
theorem j9{a b:Qa Int×α}(h:vi a b):a.1≠b.1:=λe=>by
 unfold vi at h;rw[e,jR]at h;cases h
theorem Nf.tail{t:Qa Int×Rat}{p:Pq Rat}(h:Nf (t::p)):Nf p:=⟨(Ü.mp h.st).2,λu hu=>h.nz u<|qo _ hu⟩
theorem Nf.fm{t:Qa Int×Rat}{p:Pq Rat}(h:Nf (t::p)):ao (t::p) (λe=>if e=t.1 then 1 else 0)=t.2:=by
 rw[zv,A7 λu hu e=>j9 ((List.pairwise_cons.mp h.st).1 u hu) e.symm,if_pos rfl];grind
theorem A6:∀ {p q:Pq Rat},Nf p->Nf q->(∀ g,ao p g=ao q g)->p=q
 | [],[],_,_,_=>rfl
 | [],t::q,_,hq,h=>by
  have:=h λe=>if e=t.1 then 1 else 0;rw[hq.fm,zX]at this;exact absurd this.symm<|hq.nz t qp
 | t::p,[],hp,_,h=>by
  have:=h λe=>if e=t.1 then 1 else 0;rw[hp.fm,zX]at this;exact absurd this<|hp.nz t qp
 | t::p,u::q,hp,hq,h=>by
  have key:t.1=u.1:=by
   by_cases c:t.1=u.1
   .exact c
   .exfalso
    rcases mT c with z|z
    .have:=h λe=>if e=t.1 then 1 else 0
     rw[hp.fm,A7]at this
     .exact hp.nz t qp this
     .intro w hw e
      rcases qw.mp hw with rfl|hw
      .exact c e.symm
      .have:=jU z ((Ü.mp hq.st).1 w hw)
       rw[e,jR]at this;cases this
    .have:=h λe=>if e=u.1 then 1 else 0
     rw[hq.fm,A7]at this
     .exact hq.nz u qp this.symm
     .intro w hw e
      rcases qw.mp hw with rfl|hw
      .exact c e
      .have:=jU z ((Ü.mp hp.st).1 w hw)
       rw[e,jR]at this;cases this
  have val:t.2=u.2:=by
   have:=h λe=>if e=t.1 then 1 else 0;rw[hp.fm,key,hq.fm]at this;exact this
  have tl:∀ g,ao p g=ao q g:=λg=>by
   have:=h g;rw[zv,zv,key,val]at this;grind
  rw[A6 hp.tail hq.tail tl,Prod.ext key val]
noncomputable def nz(p:Pq Rat):Pq Rat:=p.filter λt=>decide<|t.2≠0
noncomputable def kJ(ts:Pq Rat):Pq Rat:=bK (nz<|bj [] ts)
theorem q4{p:Pq Rat}(h:aA p):aA (nz p):=h.sublist (List.filter_sublist.map _)
theorem Kj{p:Pq Rat}(h:aA p):Nf (bK<|nz p):=⟨wN<|q4 h,λt ht=>by
 have:=Æ.mp ((e7 _).mem_iff.mp ht);simpa using this.2⟩
theorem lS:aA ([]:Pq Rat):=List.nodup_nil
theorem E8(ts:Pq Rat):Nf (kJ ts):=Kj (oR ts lS)
theorem LQ(p:Pq Rat)(g:Qa Int->Rat):ao (bK<|nz p) g=ao p g:=(MN (e7 _) g).trans (uA p g)
theorem Fk(ts:Pq Rat)(g:Qa Int->Rat):ao (kJ ts) g=ao ts g:=by
 unfold kJ;rw[LQ,uP ts g lS,zX,Rat.zero_add]
theorem Mh{p:Pq Rat}(h:aA p):bK (nz p)=kJ p:=A6 (Kj h) (E8 p) λg=>by rw[LQ,Fk]
def PB(M B:Nat)(p:Pq Rat):Prop:=∀ t∈p,Bd M B t.2
theorem E7{M:Nat}{p:Pq Rat}(h:PB M B p)(k:Qa Int):Bd M B ((aR p k).getD 0):=by
 cases e:aR p k with
 | none=>exact Bd.zero
 | some x=>exact h _<|wO e
theorem uz{M:Nat}(ts:Pq Rat):∀ {C:Nat} {acc:Pq Rat},PB M C acc->PB M B ts->PB M (C+ts.length * B) (bj acc ts):=by
 induction ts with
 | nil=>intro C acc h _ t ht; exact(h t ht).le (by rw[List.length_nil]; omega)
 | cons t ts ih=>
  intro C acc h h' u hu;have hp:PB M (C+B) (bu acc t.1<|(aR acc t.1).getD 0+t.2):=λv hv=>by
   rcases pj hv with⟨z,_⟩|rfl
   .exact(h v z).le (by omega)
   .exact(E7 h _).add (h' t qp)
  exact(ih hp (λv hv=>h' v<|qo _ hv) u hu).le (by rw[qv,Nat.add_mul]; omega)
theorem PB.nz{M:Nat}{p:Pq Rat}(h:PB M B p):PB M B (nz p):=λt ht=>h t (Æ.mp ht).1
theorem GI{M:Nat}:PB M B []:=λt ht=>by cases ht
theorem Na{Pk:Qa Int->Prop}{p:Pq Rat}(h:∀ t∈p,Pk t.1):∀ t∈kJ p,Pk t.1:=λt ht=>
 wQ p (acc:=[]) (λu hu=>by cases hu) h t (Æ.mp<|(e7 _).mem_iff.mp ht).1
noncomputable def CT(p:Pq Rat):Pq Rat:=p.map λt=>(t.1,-t.2)
noncomputable def zB(a b:Qa Int):Qa Int:=List.zipWith (·+·) a b
noncomputable def aL[Mul α](p q:Pq α):Pq α:=p.flatMap λs=>q.map λt=>(zB s.1 t.1,s.2 * t.2)
theorem XG(p:Pq Rat)(g:Qa Int->Rat):ao (CT p) g=-ao p g:=by
 induction p with
 | nil=>rfl
 | cons t p ih=>
  show ao ((t.1,-t.2)::CT p) g=_;rw[zv,zv,ih];grind
theorem Yk(s:Qa Int×Rat)(q:Pq Rat)(g:Qa Int->Rat):ao (q.map λt=>(zB s.1 t.1,s.2 * t.2)) g=s.2 * ao q λb=>g (zB s.1 b):=by
 induction q with
 | nil=>rw[List.map_nil,zX,zX,Rat.mul_zero]
 | cons t q ih=>rw[List.map_cons,zv,zv,ih]; grind
theorem zY(p q:Pq Rat)(g:Qa Int->Rat):ao (aL p q) g=ao p λa=>ao q λb=>g (zB a b):=by
 induction p with
 | nil=>rfl
 | cons s p ih=>
  show ao (_++aL p q) g=_;rw[mU,Yk,ih,zv]
theorem uW{p:Pq Rat}{g h:Qa Int->Rat}(e:∀ t∈p,g t.1=h t.1):ao p g=ao p h:=by
 induction p with
 | nil=>rfl
 | cons t p ih=>rw[zv,zv,e t qp,ih λu hu=>e u<|qo _ hu]
theorem FN(p:Pq Rat)(g:Qa Int->Rat)(c:Rat):(ao p λe=>c * g e)=c * ao p g:=by
 induction p with
 | nil=>rw[zX,zX,Rat.mul_zero]
 | cons t p ih=>rw[zv,zv,ih]; grind
theorem wM[Mul α](p q:Pq α):(aL p q).length=p.length * q.length:=by
 induction p with
 | nil=>simp[aL]
 | cons s p ih=>
  show(_++aL p q).length=_;rw[qu,ih,List.length_map,qv,Nat.add_mul,Nat.one_mul,Nat.add_comm]
theorem uO[Mul α]{p q:Pq α}{t:Qa Int×α}(h:t∈aL p q):∃ u∈p,∃ v∈q,t=(zB u.1 v.1,u.2 * v.2):=by
 have(u,hu,h):=List.mem_flatMap.mp h;have(v,hv,rfl):=À.mp h;exact⟨u,hu,v,hv,rfl⟩
theorem LP{M N C:Nat}{p q:Pq Rat}(h:PB M B p)(h':PB N C q):PB (M * N) (B * C) (aL p q):=λt ht=>by
 have(u,hu,v,hv,rfl):=uO ht;exact(h u hu).mul<|h' v hv
noncomputable def fS(c:Int)(p:Pq Int):Pq Rat:=p.map λt=>(t.1,Rat.divInt t.2 c)
theorem Yj(φ:α->β)(p:Pq α)(k:Qa Int):aR (p.map λt=>(t.1,φ t.2)) k=(aR p k).map φ:=by
 unfold aR
 induction p with
 | nil=>rfl
 | cons t p ih=>
  rw[List.map_cons,List.find?_cons,List.find?_cons]
  by_cases h:t.1=k
  .rw[decide_eq_true h]; rfl
  .rw[decide_eq_false h]; exact ih
theorem XF(φ:α->β)(p:Pq α)(k:Qa Int)(x:α):(bu p k x).map (λt=>(t.1,φ t.2))=bu (p.map λt=>(t.1,φ t.2)) k (φ x):=by
 have any:((p.map λt=>(t.1,φ t.2)).any λt=>decide<|t.1=k)=(p.any λt=>decide<|t.1=k):=by rw[List.any_map]; rfl
 unfold bu;rw[any];split
 .rw[List.map_map,List.map_map]
  refine Û λt _=>?_;show(λt:Qa Int×α=>(t.1,φ t.2)) (if t.1=k then(t.1,x)else t)=if t.1=k then(t.1,φ x)else(t.1,φ t.2);split<;>rfl
 .rw[List.map_append]; rfl
theorem TF{c:Int}(hc:c≠0)(p:Pq Int):nz (fS c p)=fS c (p.filter λt=>!decide (t.2=0)):=by
 unfold nz fS;rw[List.filter_map];congr 1;refine List.filter_congr λt _=>?_;show decide (Rat.divInt t.2 c≠0)=!decide (t.2=0);rw[Bool.eq_iff_iff,Bool.not_eq_true',decide_eq_false_iff_not,decide_eq_true_iff];refine not_congr ⟨λh=>?_,λh=>by rw[h]; exact Rat.zero_divInt c⟩;rw[<-Rat.zero_divInt c,Rat.divInt_eq_divInt_iff hc hc]at h;rcases Int.mul_eq_zero.mp (show t.2 * c=0 by omega)with z|z
 .exact z
 .exact absurd z hc
noncomputable def iv(m:Nat)(r:Rat):Int:=r.num * ((m:Int) / (r.den:Int))
noncomputable def aX(p:Pq Rat):Nat:=p.foldl (λm t=>Nat.lcm m t.2.den) 1
theorem AR{r:Rat}(h:r.den∣m):((iv m r:Int):Rat)=r * (m:Rat):=by
 have(c,rfl):=h;have dp:=r.den_pos;unfold iv;rw[Int.natCast_mul,Int.mul_ediv_cancel_left _ (by omega),Rat.intCast_mul,Rat.intCast_natCast,<-uZ r,Rat.natCast_mul,Rat.mul_assoc]
theorem Gd(p:Pq Rat):∀ m:Nat,0 < m->0 < p.foldl (λm t=>Nat.lcm m t.2.den) m:=by
 induction p with
 | nil=>exact λm h=>h
 | cons t p ih=>exact λm h=>ih _<|Nat.lcm_pos h t.2.den_pos
theorem Oc(p:Pq Rat):∀ m:Nat,m∣p.foldl (λm t=>Nat.lcm m t.2.den) m/\∀ t∈p,t.2.den∣p.foldl (λm t=>Nat.lcm m t.2.den) m:=by
 induction p with
 | nil=>exact λm=>⟨Nat.dvd_refl _,λt ht=>by cases ht⟩
 | cons t p ih=>
  intro m;have(h1,h2):=ih (Nat.lcm m t.2.den);refine⟨Nat.dvd_trans (Nat.dvd_lcm_left _ _) h1,λu hu=>?_⟩;rcases qw.mp hu with rfl|hu
  .exact Nat.dvd_trans (Nat.dvd_lcm_right _ _) h1
  .exact h2 u hu
theorem u4{M:Nat}(p:Pq Rat)(h:∀ t∈p,t.2.den∣M):∀ m:Nat,m∣M->p.foldl (λm t=>Nat.lcm m t.2.den) m∣M:=by
 induction p with
 | nil=>exact λm h=>h
 | cons t p ih=>exact λm hm=>ih (λu hu=>h u<|qo _ hu) _<|Nat.lcm_dvd hm<|h t qp
theorem Bd.dvd{M:Nat}{r:Rat}(h:Bd M B r):r.den∣M:=by
 have(k,e,b):=h;have e2:r.num * (M:Int)=k * (r.den:Int):=by
  have h1:=uZ r;have h2:((r.num * (M:Int):Int):Rat)=((k * (r.den:Int):Int):Rat):=by
   rw[Rat.intCast_mul,Rat.intCast_mul,<-h1,<-e,Rat.intCast_natCast,Rat.intCast_natCast,Rat.mul_assoc,Rat.mul_assoc,Rat.mul_comm (r.den:Rat)]
  exact ü.mp h2
 have t:(r.den:Int)∣r.num * (M:Int):=⟨k,by rw[e2,Int.mul_comm]⟩;have u:=ë.mpr t;rw[Int.gcd_comm,Q0]at u;have u:(r.den:Int)∣(M:Int):=by simpa using u
 exact Int.natCast_dvd_natCast.mp u
theorem DL{M:Nat}{r:Rat}(hM:0 < M)(h:Bd M B r)(hd:r.den∣m)(hm:m∣M):(iv m r).natAbs<=B:=by
 have(k,e,b):=h;have(c,rfl):=hm;have c0:0 < c:=Nat.pos_of_mul_pos_left hM |> λ_=>by
  rcases Nat.eq_zero_or_pos c with z|z
  .rw[z,Nat.mul_zero]at hM; omega
  .exact z
 have ek:k=iv m r * c:=by
  apply ü.mp;rw[Rat.intCast_mul,AR hd,<-e,Rat.natCast_mul,Rat.intCast_natCast,Rat.mul_assoc]
 rw[ek,Int.natAbs_mul,Int.natAbs_natCast]at b;exact qA (Nat.le_mul_of_pos_right _ c0) b
noncomputable def aI(ks:Qa Int):D:=.tuple (ks.map PyData.int)
abbrev kL(ks:Qa Int):Qa Key:=ks.map Sum.inl
section
variable{c:α->D}
noncomputable def aB(c:α->D)(p:Pq α):Qa (Qa Key×D):=p.map λt=>(kL t.1,c t.2)
noncomputable def aQ(c:α->D)(p:Pq α):Qa (D×D):=p.map λt=>(aI t.1,c t.2)
noncomputable def bJ(c:α->D)(p:Pq α):Qa D:=p.map λt=>.tuple [aI t.1,c t.2]
theorem wc(p:Pq α):bJ c p=p.map λt=>.tuple [aI t.1,c t.2]:=rfl
theorem TC(p:Pq α):(bJ c p).length=p.length:=Ċ ..
theorem rE{a b:Qa Int}:kL a=kL b↔a=b:=wJ
theorem Ee(k:Qa Int):gN (kL k)=aI k:=by
 unfold gN aI kL;rw[List.map_map];rfl
theorem lB(k:Qa Int):bN (aI k)=some (kL k):=by rw[<-Ee,Bo]
theorem LU(p:Pq α):(aB c p).map (λp=>(gN p.1,p.2))=aQ c p:=by
 unfold aB aQ;rw[List.map_map];refine Û λt _=>?_;show(gN<|kL t.1,c t.2)=_;rw[Ee]
theorem gL{p:Pq α}:U.fz (.t<|aB c p)=some (.dict<|aQ c p):=by
 show some (PyData.dict _)=_;rw[LU]
theorem ux(p:Pq α):gZ (aQ c p)=true:=by
 cases p with
 | nil=>rfl
 | cons t p=>rfl
theorem LO(p:Pq α)(k:Qa Int):mf (aB c p) (kL k)=(aR p k).map c:=by
 unfold mf aB aR
 induction p with
 | nil=>rfl
 | cons t p ih=>
  rw[List.map_cons,List.find?_cons,List.find?_cons]
  by_cases h:t.1=k
  .rw[decide_eq_true h,decide_eq_true<|rE.mpr h]; rfl
  .rw[decide_eq_false h,decide_eq_false λz=>h<|rE.mp z]; exact ih
theorem Yi(p:Pq α)(k:Qa Int):t7 (aQ c p) (kL k)=(aR p k).map c:=by
 unfold t7 aQ aR
 induction p with
 | nil=>rfl
 | cons t p ih=>
  rw[List.map_cons,List.find?_cons,List.find?_cons]
  by_cases h:t.1=k
  .rw[decide_eq_true h,decide_eq_true (show bN (aI t.1)=some (kL k) by rw[lB,h])]; rfl
  .rw[decide_eq_false h,decide_eq_false (show ¬bN (aI t.1)=some (kL k) by rw[lB]; exact λz=>h<|rE.mp<|qy z)]; exact ih
theorem zn7{p:Pq α}{k:Qa Int}:kN (.t<|aB c p) (.d<|aI k)=some ((aR p k).map c):=by
 show(bN<|aI k).map _=_;rw[lB,Option.map_some,LO]
theorem zn8{p:Pq α}{k:Qa Int}:kN (.d<|.dict<|aQ c p) (.d<|aI k)=some ((aR p k).map c):=by
 show(if gZ (aQ c p)=true then _ else _)=_;rw[if_pos<|ux p];show(bN<|aI k).map _=_;rw[lB,Option.map_some,Yi]
theorem Yh{p:Pq α}:gZ (aQ c p)=true:=ux p
theorem Yg{p:Pq α}:(aQ c p).map (λx=>x.1)=p.map λt=>aI t.1:=by
 unfold aQ;rw[List.map_map];rfl
theorem zlb{k:Qa Int}:bN (aI k)=some (kL k):=lB k
theorem wa(p:Pq α)(k:Qa Int)(x:α):dI (aB c p) (kL k) (c x)=aB c (bu p k x):=by
 have any:((aB c p).any λkv=>decide<|kv.1=kL k)=(p.any λt=>decide<|t.1=k):=by
  unfold aB;rw[List.any_map];congr 1
  funext t
  exact decide_eq_decide.mpr rE
 unfold dI bu;rw[any];split
 .unfold aB
  rw[List.map_map,List.map_map];refine Û λt _=>?_;show(if kL t.1=kL k then _ else _)=(λt:Qa Int×α=>(kL t.1,c t.2)) (if t.1=k then(t.1,x)else t)
  by_cases h:t.1=k
  .rw[if_pos<|rE.mpr h,if_pos h]
  .rw[if_neg λz=>h<|rE.mp z,if_neg h]
 .unfold aB
  rw[List.map_append];rfl
theorem wo(p:Pq α):(aB c p).length=p.length:=Ċ ..
theorem n9{p:Pq α}{k:Qa Int}{x:α}(h:p.length < 16777216):As (.t<|aB c p) (aI k) (c x)=some (.t<|aB c<|bu p k x):=by
 show(bN<|aI k).bind _=_;rw[lB,bd,if_pos (by rw[wo]; exact h),wa]
theorem ziT{p:Pq α}:uB (.d<|.dict<|aQ c p)=some (bJ c p):=by
 show(if gZ (aQ c p)=true then _ else _)=_;rw[if_pos<|ux p];unfold aQ bJ;rw[List.map_map];rfl
theorem Bj:∀ p:Pq α,oG (aQ c p)=some (aB c p)
 | []=>rfl
 | t::p=>by
  show(bN<|aI t.1).bind _=_;rw[lB,bd];show(oG<|aQ c p).bind _=_;rw[Bj p,bd];rfl
theorem Mg(p:Pq α):(aB c p).map (·.1)=(p.map (·.1)).map kL:=by
 unfold aB;rw[List.map_map,List.map_map];rfl
def rm(p:Pq α):Prop:=rF ((p.map (·.1)).map kL)=true
theorem DK{p:Pq α}(h:rm p):lC (.d<|.dict<|aQ c p)=some (.t<|aB c p):=by
 show(if gZ (aQ c p)=true then _ else _)=_;rw[if_pos<|ux p,Bj,bd,if_pos (by rw[Mg]; exact h)]
theorem RG{p:Pq α}(h:rm p):lC (.t<|aB c p)=some (.t<|aB c p):=by
 show(if _ then _ else _)=_;rw[if_pos (by rw[Mg]; exact h)]
theorem DJ(k:Qa Int)(d:D):pk (.tuple [aI k,d])=some k:=rN k
theorem Ki:∀ p:Pq α,vf (bJ c p)=some (p.map (·.1))
 | []=>rfl
 | t::p=>by
  show(pk<|.tuple [aI t.1,c t.2]).bind _=_;rw[DJ,bd];show(vf<|bJ c p).bind _=_;rw[Ki p];rfl
theorem Kh{p:Pq α}(nd:aA p)(hl:p.length < 64):wj (.l<|bJ c p)=some (.l<|bJ c<|bK p):=by
 have e:Ag (bJ c p)=bJ c (bK p):=My ((e7 p).map _) (ï.mpr<|(wN nd).imp λ{a b} h=>⟨_,_,DJ a.1 _,DJ b.1 _,h⟩);show(some _).bind _=_;rw[bd,Ki,bd,if_pos ⟨by unfold bJ; rw[List.length_map]; exact hl,nd⟩,e]
end
theorem Vx{r:Rat}:bP (.d<|fR r) (.d<|.int 0)=some (.d<|.int r.num):=rfl
theorem Vw{r:Rat}:bP (.d<|fR r) (.d<|.int 1)=some (.d<|.int (r.den:Int)):=rfl
theorem Ed(r:Rat):(!decide (r.num=0))=decide (r≠0):=by
 rw[Bool.eq_iff_iff,Bool.not_eq_true',decide_eq_false_iff_not,decide_eq_true_iff];exact not_congr Rat.num_eq_zero
theorem Mf{f:α->D}{g:β->D}:∀ (as:Qa α) (bs:Qa β),qQ (as.map f) (bs.map g)=(as.zip bs).map λt=>.tuple [f t.1,g t.2]
 | [],bs=>by cases bs<;>rfl
 | a::as,[]=>rfl
 | a::as,b::bs=>by rw[List.map_cons,List.map_cons,List.zip_cons_cons,List.map_cons,<-Mf as bs]; rfl
theorem MY{f:α->D}{ks:Qa Int}(h:as.length=ks.length):vH [.d<|.tuple<|as.map f,.d<|aI ks]=some ((as.zip ks).map λt=>.tuple [f t.1,.int t.2]):=by
 show(if _ then _ else _)=_;rw[if_pos (by rw[List.length_map,List.length_map]; exact h),Mf]
theorem xb{as ks:Qa Int}(h:as.length=ks.length):vH [.d<|aI as,.d<|aI ks]=some ((as.zip ks).map λt=>.tuple [.int t.1,.int t.2]):=MY (f:=PyData.int) h
theorem oQ{g:α->D}{e:α->D}{mg:MG}{mt:MT}{me:ME}{ρ:En}{Q:Qa D×En->Prop}(hz:as.length<=16777216)
  (st:∀ a∈as,∀ ys,Wo (mg (g a) ρ)<|Co mt ⟨0⟩<|xT nt me ys λai zs=>ai=ρ/\zs=ys++[e a]) (q:Q (as.map e,ρ)):Wo (g7 nt mg mt me (as.map g) ρ []) Q:=by
 refine Kl (b:=λ_=>true) (e:=e) (by rw[qZ]; exact hz) (λa ha ys=>?_) ?_
 .simp only[if_true]
  exact st a ha ys
 .rw[show as.filter (λ_=>true)=as from List.filter_eq_self.mpr λ_ _=>rfl]
  exact q
theorem TB{r:Rat}(h1:r.num.natAbs < 10^n)(h2:r.den < 10^n)(h0:0 < n:=by decide)(h3:n<=470:=by decide):fX 1 (2 * (n+1+2)+3) (fR r):=by
 refine A9 (λd hd=>?_)<|qe _;rcases qw.mp hd with rfl|hd
 .exact Fd h1 h0 h3
 .rw[qq.mp hd]
  exact Fd (by rw[Int.natAbs_natCast]; exact h2) h0 h3
theorem Tz{ks:Qa Int}(h:∀ k∈ks,k.natAbs < 10^3)(hl:ks.length<=m):fX 1 (m * (4+2)+3) (aI ks):=by
 refine A9 (λd hd=>?_) (by rw[List.length_map]; exact hl);have(k,hk,rfl):=À.mp hd;exact Fd<|h k hk
theorem Yf{p:Pq Rat}(h:∀ t∈p,t.2.num.natAbs < 10^n/\t.2.den < 10^n)(hk:∀ t∈p,∀ k∈t.1,k.natAbs < 10^3)(hl:∀ t∈p,t.1.length<=3)(hm:p.length<=m)(h0:0 < n:=by decide)(h3:n<=470:=by decide):fX 3 (m * (2 * (2 * (n+1+2)+24+2)+3+2)+3) (.tuple<|bJ fR p):=by
 refine A9 (λd hd=>?_) (by rw[TC]; exact hm);have(t,ht,rfl):=À.mp hd;refine A9 (λd hd=>?_)<|qe _;rcases qw.mp hd with rfl|hd
 .exact(Tz (hk t ht)<|hl t ht).mono (qe _) (by omega)
 .rw[qq.mp hd]
  exact(TB (h t ht).1 (h t ht).2 h0 h3).mono (qe _) (by omega)
theorem Ye{o:Qb Int}:(Option.map PyData.int o).getD (.int 0)=.int (o.getD 0):=by cases o<;>rfl
theorem YG{o:Qb Rat}:(Option.map fR o).getD (.tuple [.int 0,.int 1])=fR (o.getD 0):=by cases o<;>rfl
noncomputable def vj(m:Nat)(p:Pq Rat):Pq Int:=p.map λt=>(t.1,iv m t.2)
theorem ZA[Mul α](p q:Pq α)(s:Qa Int×α):aL (p++[s]) q=aL p q++q.map λt=>(zB s.1 t.1,s.2 * t.2):=by
 unfold aL;rw[List.flatMap_append];simp
theorem FL(a b:Qa Int):zB a b=zB b a:=by
 unfold zB;rw[List.zipWith_comm];congr 1
 funext x y
 exact Int.add_comm _ _
noncomputable def mon:Qa (Rat×Int)->Rat
 | []=>1
 | t::l=>t.1^t.2.toNat * mon l
noncomputable def mono(pt:Qa Rat)(e:Qa Int):Rat:=mon (pt.zip e)
noncomputable def bI(s:Int)(q:Pq Rat):Pq Rat:=q.map λt=>(t.1,(s:Rat) * t.2)
theorem Tx{s:Int}(hs:s=1\/s=-1)(r:Rat):PyData.tuple [.int<|s * r.num,.int (r.den:Int)]=fR ((s:Rat) * r):=by
 rcases hs with rfl|rfl
 .rw[Int.one_mul,show((1:Int):Rat)=1 from rfl,Rat.one_mul]; rfl
 .rw[show((-1:Int):Rat)=-1 from rfl,Rat.neg_mul,Rat.one_mul,Int.neg_mul,Int.one_mul]; rfl
theorem AQ{M:Nat}{s:Int}(hs:s=1\/s=-1){q:Pq Rat}(h:PB M B q):PB M B (bI s q):=λt ht=>by
 have(u,hu,rfl):=À.mp ht;rcases hs with rfl|rfl
 .show Bd M B (((1:Int):Rat) * u.2)
  rw[show((1:Int):Rat)=1 from rfl,Rat.one_mul];exact h u hu
 .show Bd M B (((-1:Int):Rat) * u.2)
  rw[show((-1:Int):Rat)=-1 from rfl,Rat.neg_mul,Rat.one_mul];exact(h u hu).neg
theorem Zz{p:Pq α}{k:Qa Int}{x:α}(h:∀ t∈p,t.1≠k):bu p k x=p++[(k,x)]:=by
 unfold bu;rw[if_neg];intro z;have(t,ht,e):=æ.mp z;exact h t ht<|of_decide_eq_true e
theorem YF{bs cs:Pq α}{t:Qa Int×α}(nd:aA (bs++t::cs)):∀ u∈bs,u.1≠t.1:=λu hu e=>by
 unfold aA at nd;rw[List.map_append,List.map_cons]at nd;exact(List.nodup_append.mp nd).2.2 u.1 (À.mpr ⟨u,hu,rfl⟩) t.1 qp e
theorem LN(bs:Pq Rat)(t:Qa Int×Rat):nz (bs++[t])=if t.2=0 then nz bs else nz bs++[t]:=by
 unfold nz;rw[List.filter_append,List.filter_cons]
 by_cases h:t.2=0
 .rw[if_pos h,if_neg (by simp[h])]; simp
 .rw[if_neg h,if_pos (by simp[h])]; rfl
theorem Ku{bs cs:Pq Rat}{t:Qa Int×Rat}(nd:aA (bs++t::cs)):bu (nz bs) t.1 t.2=nz bs++[t]:=Zz λu hu=>YF nd u (Æ.mp hu).1
theorem Kt{f:α->β}:∀ {l:Qa α},(l.map f).Nodup->∀ a∈l,∀ b∈l,f a=f b->a=b
 | [],_,a,ha,_,_,_=>by cases ha
 | x::l,nd,a,ha,b,hb,e=>by
  rw[List.map_cons,List.nodup_cons]at nd;rcases qw.mp ha with h1|h1
  .rcases qw.mp hb with h2|h2
   .rw[h1,h2]
   .exact(nd.1<|À.mpr ⟨b,h2,by rw[<-e,h1]⟩).elim
  .rcases qw.mp hb with h2|h2
   .exact(nd.1<|À.mpr ⟨a,h1,by rw[e,h2]⟩).elim
   .exact Kt nd.2 a h1 b h2 e
theorem Tw{n d:Int}{M:Nat}(hd:0 < d)(h:d∣(M:Int))(h0:0 < M):Bd M (n.natAbs * M) (Rat.divInt n d):=by
 have(c,hc):=h;have c0:0 < c:=by
  rcases(by omega:0 < c\/c<=0)with z|z
  .exact z
  .have:=Int.mul_nonneg (ê hd) (show 0<=-c by omega)
   rw[Int.mul_neg,<-hc]at this;omega
 have dr:((d:Int):Rat)≠0:=λz=>by
  have:=ü.mp (show((d:Int):Rat)=((0:Int):Rat) from z);omega
 refine⟨n * c,?_,?_⟩
 .have e:(M:Rat)=((d:Int):Rat) * ((c:Int):Rat):=by rw[<-Rat.intCast_mul,<-hc,Rat.intCast_natCast]
  rw[e,Rat.divInt_eq_div,Rat.intCast_mul];grind
 .rw[Int.natAbs_mul]
  refine Í _ ?_;have:1 * c<=d * c:=Int.mul_le_mul_of_nonneg_right (by omega) (by omega);omega
end L2
namespace L2
open PySem PySem.Spec PyProof.Rows
open PySem.AutoSeq1 (wpAny_loadPart')
theorem zmr(t:Qg)(items:Array Qc)(n:Nat)(dd:Qb Qg)(sl:Array (Qb Qc))(u:Tok):
  Meets (Builtin.«tuple.__mul__» ⟨[.ref t,.int 1 u],[]⟩) (λ_ R s=>s.heap.get? t=some {cls:=.type "tuple",dict:=dd,data:=.seq items n,slots:=sl}/\R (.ok<|.ret<|.ref t) s):=
 .of_wp λprog w A R s h=>by
  have(hp,g,d,tk,os):=s;have(hl,h):=h
  wp_walk using wpAny_loadPart' hl
  exact⟨_,rfl,h⟩
theorem zms(t:Qg)(items:Array Qc)(n:Nat)(dd:Qb Qg)(sl:Array (Qb Qc))(x:Int)(u:Tok)(hf:(decide (x < -2^63) || decide (x>=2^63))=false)(h1:(items.isEmpty || x==1)=false)(h0:(decide (x<=0) || items.isEmpty)=true):
  Meets (Builtin.«tuple.__mul__» ⟨[.ref t,.int x u],[]⟩) (λ_ R s=>s.heap.get? t=some {cls:=.type "tuple",dict:=dd,data:=.seq items n,slots:=sl}/\
   R (.ok<|.ret<|.ref s.heap.objs.size) {s with heap:=s.heap.push {cls:=.type "tuple",data:=.seq #[]}}):=
 .of_wp λprog w A R s h=>by
  have(hp,g,d,tk,os):=s;have(hl,h):=h
  wp_walk using wpAny_loadPart' hl
  refine wpAny_ite_false (by rw[hf]; rfl) ?_
  wp_walk using wpAny_loadPart' hl
  exact⟨_,rfl,h⟩
theorem zmt(t:Qg)(items:Array Qc)(n:Nat)(dd:Qb Qg)(sl:Array (Qb Qc))(x:Int)(u:Tok)(hf:(decide (x < -2^63) || decide (x>=2^63))=false)(h1:(items.isEmpty || x==1)=false)(h0:(decide (x<=0) || items.isEmpty)=false)
  (hm:¬((items.size:Int) * x > (2^63 - 1) / 8)) (ht:Builtin.Tuple.tupleTooMany ((items.size:Int) * x)=false) (hz:(List.foldl (λx1 x2=>x1++x2) #[] (List.replicate x.toNat items)).size<=sizeLine):
  Meets (Builtin.«tuple.__mul__» ⟨[.ref t,.int x u],[]⟩) (λ_ R s=>s.heap.get? t=some {cls:=.type "tuple",dict:=dd,data:=.seq items n,slots:=sl}/\
   R (.ok<|.ret<|.ref s.heap.objs.size) {s with heap:=s.heap.push {cls:=.type "tuple",data:=.seq (List.foldl (λx1 x2=>x1++x2) #[] (List.replicate x.toNat items))}}):=
 .of_wp λprog w A R s h=>by
  have(hp,g,d,tk,os):=s;have(hl,h):=h
  wp_walk using wpAny_loadPart' hl
  refine wpAny_ite_false (by rw[hf]; rfl) ?_
  wp_walk using wpAny_loadPart' hl
  refine wpAny_ite_false (decide_eq_false hm) ?_
  wp_walk using wpAny_loadPart' hl
  exact⟨_,rfl,h⟩
theorem zfW:fillsNumberSlot (.type "tuple") "mul"=pure false :=
 PySem.fillsNumberSlot_seq (id := "tuple.__mul__") (r:=some (.builtin "tuple.__rmul__")) F.slot_tuple_mul.lookup (by decide +kernel) F.slot_tuple_rmul.lookup (by decide +kernel)
theorem zjR:seqRepeat? (.type "tuple")=pure (some<|.builtin "tuple.__mul__"):=by
 unfold seqRepeat?;rw[PySem.seqSlot_of (T := "tuple") (name := "__mul__") (id := "tuple.__mul__") F.slot_tuple_mul.lookup (by decide +kernel),PySem.seqSlot_of (T := "tuple") (name := "__rmul__") (id := "tuple.__rmul__") F.slot_tuple_rmul.lookup (by decide +kernel)];rfl
theorem zhC(a:Int)(t:Tok)(l:Qg)(items:Array Qc)(n:Nat)(dd:Qb Qg)(sl:Array (Qb Qc)):
  Meets (Builtin.«int.__rmul__» ⟨[.int a t,.ref l],[]⟩) (λ_ R s=>s.heap.get? l=some {cls:=.type "tuple",dict:=dd,data:=.seq items n,slots:=sl}/\R (.ok<|.ret Value.notImplemented) s):=
 .of_wp λprog w A R s h=>by have(hp,g,d,tk,os):=s; have(hl,h):=h; wp_walk; exact⟨_,rfl,h⟩
section
variable{X:Cx}
noncomputable def Jq(K:qc):R2:=λx y H Q=>∃ l k xs,x=.ref l/\y=.int k/\bg K H l xs/\xs≠[]/\k < 1000000/\-1000000 < k/\xs.length * k.toNat<=1000000/\
 ((k=1/\Q x H)\/(k≠1/\∀ p,H p=none->Q (.ref p) (upd H p<|.tup (List.replicate k.toNat xs).flatten)))
theorem uN(K:qc)(hK:X.K=K:=by rfl):cC X (binaryOp .Mult) (Jq K):=by
 subst hK;intro pins s σ H x y v u Q I rx ry h;have(l,k,xs,rfl,rfl,hq,dW,hk,hk0,hz,q):=h;cases rx;have(t,rfl):=ry;have(ae,rv,ht,hzz):=I.tuple hq;obtain⟨⟨c,ic,dt,sl⟩,hl,hc,n,hd⟩:=ht;replace hc:c=.type "tuple":=hc;replace hd:dt=.seq ae.toArray n:=hd;subst hc hd;have lv:=rv.length;have P8:ae.toArray.isEmpty=false:=by
  cases ae with
  | nil=>cases rv; exact absurd rfl dW
  | cons a r=>rfl
 have hf:(decide (k < -2^63) || decide (k>=2^63))=false:=by
  rw[Bool.or_eq_false_iff];exact⟨decide_eq_false (by omega),decide_eq_false (by omega)⟩
 have f0:List.foldl (λx1 x2=>x1++x2) #[] (List.replicate k.toNat ae.toArray)=(List.replicate k.toNat ae).flatten.toArray:=by
  have:=FU ae k.toNat [];rw[List.nil_append]at this;exact this
 have ln:(List.replicate k.toNat xs).flatten.length<=sizeLine:=by
  rw[E1,Nat.mul_comm];have:sizeLine=16777216:=qZ;omega
 refine wpAny_binaryOp_repeat_ref (T := "tuple") (U := "int") (by decide) ⟨_,hl,rfl⟩ (λs'=>typeIs_int s' k t) zfW F.fills_int_mul F.slot_int_rmul zjR F.slot_int_index.lookup
  (call_meets F.slot_int_rmul (typeIs_int s k t) F.entry_int_rmul (F.args_int_rmul_2 _ _) (zhC k t l ae.toArray n ic sl) ⟨hl,rfl,⟨_,hl,rfl⟩,?_⟩)
 rcases q with⟨rfl,q⟩|⟨k1,q⟩
 .exact call_meets F.slot_tuple_mul ⟨_,hl,rfl⟩ F.entry_tuple_mul (F.args_tuple_mul_2 _ _) (zmr l ae.toArray n ic sl t) ⟨hl,.ref l,H,I,rfl,q⟩
 .have h1:(ae.toArray.isEmpty || k==1)=false:=by rw[P8,Bool.false_or]; simpa using k1
  by_cases k0:k<=0
  .refine call_meets F.slot_tuple_mul ⟨_,hl,rfl⟩ F.entry_tuple_mul (F.args_tuple_mul_2 _ _) (zms l ae.toArray n ic sl k t hf h1 (by rw[decide_eq_true k0]; rfl)) ⟨hl,.ref _,_,I.laid (t':=s.toks) (o:=.tup []) (λ_ _ q=>qd _ q) (qe _) ⟨Ð _,[],.nil,_,qg _ rfl,rfl,⟨_,rfl⟩,.inl rfl⟩,rfl,?_⟩
   have:=q _ I.fresh;rw[show k.toNat=0 by omega]at this;exact this
  .have m63:(ae.toArray.size:Int) * k<=1000000:=by
    have e1:(ae.toArray.size:Int)=(xs.length:Int):=by rw[List.size_toArray,lv]
    have e2:k=(k.toNat:Int):=by omega
    rw[e1,e2,<-Int.natCast_mul];omega
   refine call_meets F.slot_tuple_mul ⟨_,hl,rfl⟩ F.entry_tuple_mul (F.args_tuple_mul_2 _ _) (zmt l ae.toArray n ic sl k t hf h1 (by rw[decide_eq_false k0,P8]; rfl) (by omega) (decide_eq_false (by rw[show((sizeLine:Nat):Int)=16777216 by rw[qZ]; rfl]; omega)) ?_) ⟨hl,.ref _,_,I.laid (t':=s.toks) (o:=.tup (List.replicate k.toNat xs).flatten) (λ_ _ q=>qd _ q) (qe _) ⟨ln,(List.replicate k.toNat ae).flatten,rv.rep k.toNat,_,qg _ rfl,rfl,⟨0,?_⟩,.inl rfl⟩,rfl,q _ I.fresh⟩
   .rw[f0,List.size_toArray,E1,Nat.mul_comm]
    have:sizeLine=16777216:=qZ;rw[<-lv];omega
   .show Data.seq (List.foldl (λx1 x2=>x1++x2) #[] (List.replicate k.toNat ae.toArray)) _=_
    rw[f0]
end
noncomputable def mD:U->U->Qb U
 | .d (.tuple xs),.d (.int k)=>if xs≠[]/\k < 1000000/\-1000000 < k/\xs.length * k.toNat<=1000000 then some (.d<|.tuple (List.replicate k.toNat xs).flatten)else none
 | _,_=>none
theorem E6{vs:Qa V}{ds:Qa D}(h:aK K H vs ds):∀ n:Nat,aK K H (List.replicate n vs).flatten (List.replicate n ds).flatten
 | 0=>.nil
 | n+1=>by
  rw[List.replicate_succ,List.replicate_succ,List.flatten_cons,List.flatten_cons];exact h.app<|E6 h n
theorem uM:VO K (Jq K) mD:=by
 intro x y a b u H Q ha hb e q;unfold mD at e;split at e
 .split at e
  rotate_left
  .cases e
  rename_i xs k hc;cases e;have(l,vs,rfl,h1,h2):=DF.aJ ha;cases DF.int_inv hb;have ln:=h2.len;refine⟨l,k,vs,rfl,rfl,(aM.sq h1),λz=>hc.1<|Ì (by rw[<-ln,z]; rfl),hc.2.1,hc.2.2.1,by rw[ln]; exact hc.2.2.2,?_⟩
  by_cases k1:k=1
  .subst k1
   refine .inl ⟨rfl,q _ _ (λ_ _ z=>z) ?_ Nw.data⟩;have e:(List.replicate (1:Int).toNat xs).flatten=xs:=by simp
   rw[e];exact DF.tup h1 h2
  .refine .inr ⟨k1,λp hp=>?_⟩
   have sm:=zU hp (.tup (List.replicate k.toNat vs).flatten);exact q _ _ sm (.tup (.inl zy)<|(E6 h2 _).kp sm.kp) Nw.data
 .cases e
theorem zoa{xs:Qa D}{k:Int}(h:0 < xs.length)(h2:k < 1000)(h3:-1000 < k)(h4:xs.length < 1000):mD (.d<|.tuple xs) (.d<|.int k)=some (.d<|.tuple (List.replicate k.toNat xs).flatten):=by
 show(if _ then _ else _)=_;rw[if_pos ⟨λz=>by rw[z]at h; exact Ç _ h,by omega,by omega,qA (Ï (é h4) (show k.toNat<=1000 by omega)) (by decide)⟩]
end L2
namespace L2
open PySem PySem.Spec PyProof.Rows
noncomputable def Ec(K:qc)(tk tv:TE):TE:=λσ H Q=>∀ p,H p=none->tk σ (upd H p<|.dT []) λx H1=>tv σ H1 λy H2=>H2 p=some (.dT [])/\∃ k b,x=.ref b/\aM K H2 b (k.map kV)/\Q (.ref p) (upd H2 p<|.dT [(k,y)])
theorem YE{X:Cx}{k v:Expr}(hu:X.A.units+1 < cLine)(hk:PE X k tk)(hv:PE X v tv):PE X (.Dict [some k] [v] pos) (Ec X.K tk tv):=by
 intro pins s σ H Q I q;have hn:=I.az.fresh (qe s.heap.objs.size);have I1:=I.laid (a:=s.heap.objs.size) (o:=.dT []) (h':=s.heap.push {cls:=.type "dict",data:=.dict #[]}) (t':=s.toks) (λ_ _ q=>qd _ q) (qe _) (wX s.heap I.nW);refine wpAny_Dict_any rfl rfl (by simp) (by show 1<=15; decide)<|pairTrees_cons_walk<|aF (hk pins _ σ _ _ I1<|q _ hn) λu s1 ⟨x,H1,I1,rx,q1⟩=>aF (hv pins s1 σ H1 _ I1 q1) λw2 s2 ⟨y,H2,I2,ry,e,ks,b,ex,eb,q2⟩=>pairTrees_nil_walk ?_;subst ex;cases rx;unfold storeAll;rw[List.forIn_cons];have(z,hd,xs,rel,dd):=vX I2.cJ I2.az e;cases rel;refine qa<|qa<|wpAny_dictSet_heap (hsz:=Ð _) (show X.A.units < cLine from Nat.lt_of_succ_lt hu) (lr I2.cJ I2.az eb) dd λh' jz hs=>qb ?_;dsimp only;rw[List.forIn_nil];refine qb ?_;have(q',es,ep,hq,h2,h3,h4,_,h5):=jz;refine⟨.ref s.heap.objs.size,_,uV (ob:=.dT [(ks,y)]) I2 (by rw[e]; exact True.intro) hs ⟨q',hq⟩ ⟨by show 1<=sizeLine; decide,hd,_,(KT.put (kvs:=[]) .nil ks eb ry).keeps λc ys ec=>?_,q',es,ep,hq,h2,h3,h4,h5⟩,rfl,q2⟩;rw[zx (oP ec e (λz=>nomatch z))];exact ec
theorem A5{X:Cx}{k v:Expr}(hr:aD n X.A)(hk:Wr (PE X k tk))(hv:Wr (PE X v tv)):Wr (PE X (.Dict [some k] [v] pos)<|Ec X.K tk tv):=⟨YE (ui hr) hk.run hv.run⟩
section
variable{ρ aj ai:En}
theorem Rs.free{p:Qg}{c o:HO}(r:Rs K ρ σ H)(hc:H p=some c)(m:Mo c)(n:¬Ow ρ σ p):Rs K ρ σ (upd H p o):=by
 have kp:=i3 hc m o;refine⟨r.len,λi u e=>?_,r.apart⟩;have(v,ev,q):=r.rep i u e;refine⟨v,ev,q.kp kp λou a c' ea ha=>?_⟩;have ne:a≠p:=by
  rintro rfl;exact n ⟨i,u,e,ou,by rw[ev,ea]⟩
 rw[zx ne];exact ha
theorem Go.free{p:Qg}{c o:HO}(g:Go K ρ σ H ai H')(hp:H p=none)(hc:H' p=some c)(m:Mo c)(n:¬Ow ai σ p):Go K ρ σ H ai (upd H' p o):=by
 refine⟨g.rs.free hc m n,λa ob ha hn=>?_,g.shr,λa ha=>?_⟩
 .have ne:a≠p:=by
   rintro rfl;rw[hp]at ha;cases ha
  rw[zx ne];exact g.fr a ob ha hn
 .by_cases e:a=p
  .subst e
   exact hp
  .rw[zx e]at ha
   exact g.dm a ha
noncomputable def uw(mk mv:ME):ME:=λρ=>(mk ρ).bind λp=>(mv p.2).bind λq=>(p.1.get q.2).bind λk=>(q.1.get q.2).bind λv=>k.da.bind λk=>v.da.bind λv=>(bN k).bind λk=>some (.u<|.t [(k,v)],q.2)
theorem wD{w:U}{x:D}(h:w.da=some x):w=.d x:=by
 cases w<;>first | (cases h; rfl) | cases h
theorem A4{mk mv:ME}(hk:VE K tk mk)(hv:VE K tv mv):VE K (Ec K tk tv) (uw mk mv):=by
 intro ρ σ H a ai Q r e q;obtain⟨⟨a1,aj⟩,e1,e⟩:=zd e;obtain⟨⟨b1,aw⟩,e2,e⟩:=zd e;have(uk,ek,e):=zd e;have(uv,ev,e):=zd e;have(dk,Ii,e):=zd e;have(dv,Ih,e):=zd e;have(ks,Ig,e):=zd e;cases e;cases wD Ii;cases wD Ih;intro p hp;have sm:=zU hp (.dT []);have g0:=Go.grow r sm;have n0:¬Ow ρ σ p:=λz=>by
  have(c,hc,_):=r.ow z;rw[hp]at hc;cases hc
 refine hk ρ σ (upd H p<|.dT []) a1 aj _ g0.rs e1 λx H1 g1 k1=>hv aj σ H1 b1 _ _ g1.rs e2 λy H2 g2 k2=>?_;have n1:¬Ow aj σ p:=λz=>n0<|g1.shr.ow z;have n2:¬Ow aw σ p:=λz=>n1<|g2.shr.ow z;have kr:H2 p=some (.dT []):=g2.fr p _ (g1.fr p _ zy n0) n1;have pk:=k1.later g0.rs g1 g2 ek;have pv:=k2.now g1.rs g2 ev;have(b,rfl,hb):=oZ pk Ig;have kp:=i3 kr trivial (.dT [(ks,y)]);refine⟨kr,ks,b,rfl,hb,q _ _ (((g0.trans g1).trans g2).free hp kr trivial n2) ⟨⟨p,[(ks,y)],rfl,zy,.cons ⟨rfl,DF.kp kp pv⟩ .nil⟩,λ_=>⟨p,rfl,hp⟩⟩⟩
end
section
variable{X:Cx}{k:Nat}
end
section
variable{ρ:En}{mk mv:ME}{mA:MA}{f:Qa D->Qa D}{QE:Ar×En->Prop}{QI:Qa D×En->Prop}
theorem zlf:Wo (uw mk mv ρ) QE=Wo (mk ρ) (Co (λp=>(mv p.2).bind λq=>(p.1.get q.2).bind λk=>(q.1.get q.2).bind λv=>k.da.bind λk=>v.da.bind λv=>(bN k).bind λk=>some (.u<|.t [(k,v)],q.2)) ⟨0⟩ QE):=by
 show Wo (Option.bind _ _) QE=_;rw[zt]
end
end L2
namespace L2
open PySem
noncomputable def ch:Nat->Nat->Nat
 | _,0=>1
 | 0,_+1=>0
 | n+1,k+1=>ch n k+ch n (k+1)
noncomputable def n8(E:Nat):Nat->Qa (Qa Int)
 | 0=>[[]]
 | n+1=>(List.range<|E+1).flatMap λ(j:Nat)=>(n8 E n).map λl=>(j:Int)::l
theorem uY{E:Nat}:∀ {n:Nat} {a:Qa Int},a.length=n->(∀ k∈a,0<=k/\k<=(E:Int))->a∈n8 E n
 | 0,[],_,_=>qq.mpr rfl
 | 0,_::_,h,_=>by cases h
 | n+1,[],h,_=>by cases h
 | n+1,k::a,h,hk=>by
  have k0:=hk k qp;refine List.mem_flatMap.mpr ⟨k.toNat,ã.mpr (by omega),À.mpr ⟨a,uY (Nat.succ.inj h) λj hj=>hk j<|qo _ hj,?_⟩⟩;rw[show((k.toNat:Nat):Int)=k by omega]
theorem Me(f:α->Qa β)(c:Nat):∀ (l:Qa α),(∀ a∈l,(f a).length=c)->(l.flatMap f).length=l.length * c
 | [],_=>by simp
 | a::l,h=>by
  rw[List.flatMap_cons,qu,h a qp,Me f c l λb hb=>h b<|qo _ hb,qv,Nat.add_mul,Nat.one_mul,Nat.add_comm]
theorem Md(E:Nat):∀ n:Nat,(n8 E n).length=(E+1)^n
 | 0=>rfl
 | n+1=>by
  show((List.range<|E+1).flatMap _).length=_;rw[Me _ ((E+1)^n) _ λj _=>by rw[List.length_map,Md E n],List.length_range,Nat.pow_succ,Nat.mul_comm]
theorem Lb{E:Nat}{p:Pq α}(nd:aA p)(h:∀ t∈p,t.1.length=n/\∀ k∈t.1,0<=k/\k<=(E:Int)):p.length<=(E+1)^n:=by
 have:=List.Nodup.length_le_of_subset nd (l₂:=n8 E n) λa ha=>by
  have(t,ht,rfl):=À.mp ha;exact uY (h t ht).1 (h t ht).2
 rw[Md,List.length_map]at this;exact this
end L2
namespace L2
open PySem PySem.Spec PyProof.Rows
open PySem.AutoSeq1 (wpAny_loadPart')
open MeetsSeq MeetsSeq2 MeetsSeq3 SeqRoads2
end L2
namespace L2
open PySem PySem.Spec PyProof.Rows
section
variable{l b:Qg}{items:Array Qc}{xs ys:Qa Int}
end
section
variable{X:Cx}{k:Nat}
end
section
end
section
variable{X:Cx}{a b c d:Expr}{tb tc:TE}
end
section
end
section
variable{f f' f'':U->U->Qb U}{ma mb mc md:ME}{ρ:En}{QE:Ar×En->Prop}
end
end L2
namespace HT
open PySem PySem.Spec PyProof.Rows
section
variable{prog:Program} {w:World} {A:Around} {E:Value->Shared->Prop} {s:Shared}
end
end HT
namespace L2
open PySem PySem.Spec PyProof.Rows
section
variable{X:Cx}{st:Expr}{ts:TE}{p2:Pos}
end
section
end
section
end
section
end
end L2
namespace L2
open PySem PySem.Calls PySem.Spec PyProof.Rows
section
end
section
end
end L2
namespace L2
open PySem PySem.Spec PyProof.Rows
section
variable{X:Cx}{CX:iP}{k:Nat}{f C:Qg}{ps:Qa Str}{dvs:Qa V}{ds:Qa Qc}{E:XK}{m:Str}{p:Pos}{es:Qa Expr}{t:TA}
end
section
variable{X:Cx}{k:Nat}{ps:Qa Str}{p:Pos}{es:Qa Expr}{t:TA}
end
section
end
section
end
section
variable{X:Cx}{k:Nat}
end
section
end
end L2
namespace L2
open PySem
section
variable{mA:MA}{ρ:En}{QI:Qa D×En->Prop}
end
end L2
namespace L2
open PySem PySem.Spec PyProof.Rows
section
variable{EX:fK}
end
section
variable{mg:MG}{mb:MS}{ρ:En}{Q:Fl->Prop}
end
theorem FK{X:Cx}{b:Qg}{r:Qc}{k:Qa Key}{Q:Unit->Qd->Prop}(hu:A.units+1 < cLine)(I:Inv X pins σ H s)
  (e:H a=some (.dT kvs)) (eb:aM X.K H b (k.map kV)) (l:kvs.length < sizeLine) (rv:zV v r) (h:∀ s',Inv X pins σ (upd H a<|.dT<|cc kvs k v) s'->Q () s'):wpAny (model X.prog X.w) A (dictSet a (.ref b) r) Q E s:=by
 have(z,hd,xs,rel,dd):=vX I.cJ I.az e;have hz:xs.length<=sizeLine:=by rw[<-Paired.length rel]; exact z
 have hl:(cc kvs k v).length<=sizeLine:=by have:=xh kvs k v; omega
 refine wpAny_dictSet_heap (hsz:=hz) (show A.units < cLine from Nat.lt_of_succ_lt hu) (lr I.cJ I.az eb) dd λh' jz hs=>h _ ?_;have(q,es,ep,hq,h2,h3,h4,_,h5):=jz;refine uV I (by rw[e]; exact True.intro) hs ⟨q,hq⟩ ⟨hl,hd,_,(rel.put k eb rv).keeps λc ys ec=>?_,q,es,ep,hq,h2,h3,h4,h5⟩;rw[zx (oP ec e (λz=>nomatch z))];exact ec
theorem zlj{target:Expr}{it:Qc}{D:Qg}(I:Nat->Qd->Prop)
  (turn:∀ n s,I n s->∀ E,wpAny (model prog w) A (pyNext it) (λr s1=>match r with
   | none=>R (.ok .next) s1
   | some v=>wpAny (model prog w) A (letOwnedTupleGo target it v) (λ_ s2=>wpAny (model prog w) A (assign target env v) (λ_ s3=>
     wpAny (model prog w) A (forIn ifs true λc r=>if r=true then do let ok <-isTrue c env (eval c env); pure (ForInStep.yield ok)else pure (ForInStep.yield r)) (λok s4=>
      (ok=true->wpAny (model prog w) A (eval kx env) (λk s5=>wpAny (model prog w) A (eval vx env) (λv s6=>wpAny (model prog w) A (dictSet D k v) (λ_ s7=>∃ m,m < n/\I m s7) E s6) E s5) E s4)/\
      (ok=false->∃ m,m < n/\I m s4)) E s3) E s2) E s1) E s)
  (n:Nat) (h:I n s):codeAny (model prog w) A (.compLoop (.DictComp kx vx [⟨target,iter,ifs,0⟩] scope pos) 0 it (.ref D) env) R s:=by
 refine codeAny_loop rfl I (λn s hI=>?_) n h;show wpAny _ A ((compTurn _ 0 it (.ref D) env).onRaise (λx=>do noteFrame x env; theTreesLotGoes x)) _ _ s;refine wpAny_noted ?_;rw[compTurn_dict];refine qa<|wpAny_standAt<|qa<|wpAny_mono (turn n s hI _) (λr s1 h1=>?_) λ_ _ z=>z;cases r with
 | none=>exact qb h1
 | some v=>
  refine qa<|wpAny_mono h1 (λ_ s2 h2=>?_) λ_ _ z=>z;refine qa<|wpAny_mono h2 (λ_ s3 h3=>?_) λ_ _ z=>z;refine qa<|wpAny_mono h3 (λok s4 h4=>?_) λ_ _ z=>z;cases ok with
  | false=>exact qb ⟨rfl,h4.2 rfl⟩
  | true=>
   refine qa<|qa<|wpAny_mono (h4.1 rfl) (λx s5 h5=>?_) λ_ _ z=>z;refine qa<|wpAny_holding<|wpAny_mono h5 (λy s6 h6=>?_) λ_ _ z=>z;exact qa<|wpAny_standAt<|wpAny_holding<|wpAny_mono h6 (λ_ s7 h7=>qb ⟨rfl,h7⟩) λ_ _ z=>z
def CS(K:qc)(J:It)(ir:St)(g:TG)(tt:TT)(tk tv:TE)(D:Qg)(Z:Hp->Prop)(H1:Hp):Prop :=
 ∃ W:Nat->Nat->Hp->Prop,(∃ m,W 0 m H1)/\∀ i m H,W i m H->
  (J.stop i H/\Z H)\/(J.go i H/\∃ N:Hp->Prop,(∀ H',N H'->∃ m',m' < m/\W (i+1) m' H')/\
   ∀ x H',J.u9 i H x H'->g x ir H' λdG H2=>tt dG H2 λb H3=>if b=true then tk dG H3 λy H4=>tv dG H4 λv H5=>∃ kvs k p,y=.ref p/\H5 D=some (.dT kvs)/\aM K H5 p (k.map kV)/\kvs.length < sizeLine/\N (upd H5 D<|.dT<|cc kvs k v)else N H3)
section
variable{X:Cx}{xs:Qa Str}{ts:Qa Str}{fp:Qa Qg}
theorem zmv{J:It}{D:Qg}{Z:Hp->Prop}{h1:Heap}{m1:Str->Qb Qc}{t1:Nat}
  (hu:X.A.units+1 < cLine) (hc:X.calm=true) (I:Inv X pins σ H s) (S:nX scope xs) (f:aN X cl xs js) (gP:ts.length=nt) (T:Turn X.prog X.w X.K tg J fp it tn) (st:tn 0 s.heap) (hf:∀ b∈fp,cu X pins H b)
  (hg:∀ C s H ex,PG (zJ X scope cl (ts++xs) C s H ex) tg g) (ht:∀ C s H ex,jJ (zJ X scope cl (ts++xs) C s H ex) ifs tt) (hk:∀ C s H ex,PE (zJ X scope cl (ts++xs) C s H ex) kx tk) (hv:∀ C s H ex,PE (zJ X scope cl (ts++xs) C s H ex) vx tv)
  (gw:GW (c0 nt js σ) g) (h:CS X.K J (c0 nt js σ) g tt tk tv D Z H) (pZ:h1.Ns s.heap.objs.size m1) (old:∀ b o,s.heap.get? b=some o->h1.get? b=some o) (ck:CellsOk h1 (s.heap.objs.size+1) (cellsFrom (s.heap.objs.size+1) scope.names []))
  (hR:∀ (m:Str->Qb Qc) (s':Qd) (H':Hp),Z H'->Inv X pins σ H' s'->s'.heap.Ns s.heap.objs.size m->H' s.heap.objs.size=none->s.heap.objs.size≠X.env.locals->
   (∀ x c,X.env.cells.lookup x=some c->c≠s.heap.objs.size)->X.aW.heap.objs.size<=s.heap.objs.size->(∀ p∈X.pn++pins,p.1≠s.heap.objs.size)->R (.ok .next) s'):
  codeAny (model X.prog X.w) X.A (.compStart (.DictComp kx vx [⟨tg,iter,ifs,0⟩] scope pos) 0 (.ref it) (.ref D)<|compEnvC scope (cellsFrom (s.heap.objs.size+1) scope.names cl) s.heap.objs.size X.env) R {s with heap:=h1,toks:=t1}:=by
 have hl:∀ b∈fp,b < s.heap.objs.size:=λb hb=>by
  have(o,e,_):=T.obj _ _ st b hb;exact qi e
 have J0:Inv (zJ X scope cl (ts++xs) s.heap.objs.size s H fp) [] (c0 nt js σ) H {s with heap:=h1,toks:=t1}:=Mq I S f gP (qe _) hf hl old pZ ck;obtain⟨W,⟨m0,w0⟩,turn⟩:=h;have gM:tn 0 h1:=T.keep _ _ _ st λb hb o e=>old b o e;have tF:∀ {H':Hp},(∀ b∈fp,H' b=none)->∀ b∈fp,cu (zJ X scope cl (ts++xs) s.heap.objs.size s H fp) [] H' b:=λ{H'} hn b hb=>by
  refine⟨hn b hb,qk<|hl b hb,λz=>?_,.inl hb,λx c e=>((EY I S f ck (qe _) hf hl (ts:=ts)).tJ b hb).2 x c e,λp Ht=>by cases Ht⟩;rcases qw.mp (I.dQ b z)with q|q
  .exact(hf b hb).2.1 q
  .exact(hf b hb).2.2.1 q
 have loop:codeAny (model X.prog X.w) X.A (.compLoop (.DictComp kx vx [⟨tg,iter,ifs,0⟩] scope pos) 0 (.ref it) (.ref D)<|compEnvC scope (cellsFrom (s.heap.objs.size+1) scope.names cl) s.heap.objs.size X.env) R {s with heap:=h1,toks:=t1}:=by
  refine zlj (λn s'=>∃ i H',Inv (zJ X scope cl (ts++xs) s.heap.objs.size s H fp) [] (c0 nt js σ) H' s'/\tn i s'.heap/\(∀ b∈fp,H' b=none)/\W i n H') ?_ m0 ⟨0,H,J0,gM,λb hb=>(hf b hb).1,w0⟩;rintro n s3 ⟨i,H3,I3,lO,qF,w3⟩ E';rcases turn i n H3 w3 with⟨stop,qz⟩|⟨go,N,hN,step⟩
  .refine aF (T.done (zJ X scope cl (ts++xs) s.heap.objs.size s H fp) rfl rfl rfl hc i _ s3 _ H3 E' I3 (tF qF) lO stop) λr s4 hZ=>?_
   have(hr,I4):=hZ;subst hr;have(m4,n4,_):=I4.loc;refine hR m4 s4 H3 qz (I.qI I4.os I4.base I4.az I4.bare λb hb=>⟨(hf b hb).2.2.2.1,(hf b hb).2.1,(hf b hb).2.2.2.2.1,λp hp=>(hf b hb).2.2.2.2.2 p hp⟩) n4 I4.free ?_ ?_ I.sz ?_
   .exact λz=>absurd I.lt (by rw[<-z]; exact Ç _)
   .intro x c e z
    have(v,ob,q,_):=I.cell x c e;exact absurd (qi q) (by rw[z]; exact Ç _)
   .intro p hp z
    have q:=(I.pin p hp).1;exact absurd (qi q) (by rw[z]; exact Ç _)
  .refine aF (T.item (zJ X scope cl (ts++xs) s.heap.objs.size s H fp) rfl rfl rfl hc i _ s3 _ H3 E' I3 (tF qF) lO go) λr s4 hZ=>?_
   have(u,hr,h4):=hZ;subst hr;refine aF h4 λ_ s5 hZ=>?_;have(x,H5,I5,r5,y5,jW,yt):=hZ;have yD:=I5.pinned (tF yt) (T.obj _ _ jW);refine qU (hg _ _ _ _ _ s5 _ H5 x u _ yD r5<|gw _ _ _<|step x H5 y5) λ_ s6 hZ=>?_;have(kI,H6,I6,xr,q6):=hZ;refine qU (ht _ _ _ _ _ s6 kI H6 _ I6 q6) λok s7 hZ=>?_;have(H7,I7,q7):=hZ;have after:∀ {H8:Hp} {s8:Qd},Inv (zJ X scope cl (ts++xs) s.heap.objs.size s H fp) ([]++uH fp s5.heap) kI H8 s8->
     tn (i+1) s8.heap/\(∀ b∈fp,H8 b=none)/\Inv (zJ X scope cl (ts++xs) s.heap.objs.size s H fp) [] (c0 nt js σ) H8 s8:=λ{H8 s8} I8=>by
    refine⟨T.keep _ _ _ jW λb hb o e=>(I8.pin (b,o)<|qx _<|qx _<|pK hb e).1,λb hb=>?_,?_⟩
    .have(o,e,d):=T.obj _ _ jW b hb
     exact(I8.pin (b,o)<|qx _<|qx _<|pK hb e).2.1
    .exact(I8.weak xr.1 xr.2).aY λp hp=>by cases hp
   refine⟨λaz=>?_,λaz=>?_⟩
   .subst az
    rw[if_pos rfl]at q7;refine qU (hk _ _ _ _ _ s7 kI H7 _ I7 q7) λkv s8 hZ=>?_;have(y,H8,I8,ry,q8):=hZ;refine qU (hv _ _ _ _ _ s8 kI H8 _ I8 q8) λvv s9 hZ=>?_;have(v,H9,I9,rv,q9):=hZ;have(kvs,k,p,ey,eD,ep,hz,q10):=q9;subst ey;cases(show kv=Value.ref p from ry);refine FK (X:=zJ X scope cl (ts++xs) s.heap.objs.size s H fp) hu I9 eD ep hz rv λs10 I10=>?_;have(GA,HW,IB):=after I10;have(m',hm,w10):=hN _ q10;exact⟨m',hm,i+1,_,IB,GA,HW,w10⟩
   .subst az
    rw[if_neg qf]at q7;have(Gz,HV,Iy):=after I7;have(m',hm,w7):=hN _ q7;exact⟨m',hm,i+1,H7,Iy,Gz,HV,w7⟩
 exact codeAny_compStart_dict loop<|T.self _ _ _ _ _ gM loop
theorem zlk{J:It}{Z:Qg->Hp->Prop}
  (hu:X.A.units+1 < cLine) (hc:X.calm=true) (I:Inv X pins σ H s) (S:nX scope xs) (f:aN X cl xs js) (gP:ts.length=nt) (T:Turn X.prog X.w X.K tg J fp it tn) (st:tn 0 s.heap) (hf:∀ b∈fp,cu X pins H b)
  (hg:∀ C s H ex,PG (zJ X scope cl (ts++xs) C s H ex) tg g) (ht:∀ C s H ex,jJ (zJ X scope cl (ts++xs) C s H ex) ifs tt) (hk:∀ C s H ex,PE (zJ X scope cl (ts++xs) C s H ex) kx tk) (hv:∀ C s H ex,PE (zJ X scope cl (ts++xs) C s H ex) vx tv)
  (gw:GW (c0 nt js σ) g) (h:∀ D,H D=none->CS X.K J (c0 nt js σ) g tt tk tv D (Z D) (upd H D<|.dT []))
  (HK:∀ (D C:Qg) (m:Str->Qb Qc) (s':Qd) (H':Hp),Z D H'->Inv X pins σ H' s'->s'.heap.Ns C m->H' C=none->C≠X.env.locals->
   (∀ x c,X.env.cells.lookup x=some c->c≠C)->X.aW.heap.objs.size<=C->(∀ p∈X.pn++pins,p.1≠C)->RR (.ref D) C (.ok .next) s'):
  wpAny (model X.prog X.w) X.A newDict (λacc s3=>wpAny (model X.prog X.w) X.A (newFunctionEnv scope X.env.globals cl [] X.env.qual none .none<|some X.env) (λkF s4=>
   codeAny (model X.prog X.w) X.A (.compStart (.DictComp kx vx [⟨tg,iter,ifs,0⟩] scope pos) 0 (.ref it) acc {kF with scope:=relabel scope X.env}) (RR acc kF.locals) s4) E s3) E s:=by
 refine qB<|Mr λh1 pZ g9 ck=>?_;dsimp only at pZ g9 ck ⊢;have HM:H s.heap.objs.size=none:=I.az.fresh (qe _);have I1:=I.laid (a:=s.heap.objs.size) (o:=.dT []) (h':=s.heap.push {cls:=.type "dict",data:=.dict #[]}) (t':=s.toks) (λ_ _ q=>qd _ q) (qe _) (wX s.heap I.nW);have h2:=h _ HM;have HB:∀ b∈fp,b < s.heap.objs.size:=λb hb=>by
  have(o,e,_):=T.obj _ _ st b hb;exact qi e
 have BZ:tn 0 (s.heap.push {cls:=.type "dict",data:=.dict #[]}):=T.keep _ _ _ st λb hb o e=>qd _ e;have hf0:∀ b∈fp,cu X pins (upd H s.heap.objs.size<|.dT []) b:=λb hb=>⟨by rw[zx<|qk<|HB b hb]; exact(hf b hb).1,(hf b hb).2⟩;have hp:s.heap.objs.size < (s.heap.push {cls:=.type "dict",data:=.dict #[]}).objs.size:=by rw[Heap.size_push]; exact ò _
 refine zmv (s:={s with heap:=s.heap.push {cls:=.type "dict",data:=.dict #[]},toks:=s.toks}) hu hc I1 S f gP T BZ hf0 hg ht hk hv gw h2 pZ g9 ck λm s' H' z I' hn tD p9 p8 lZ tw=>HK _ _ m s' H' z I' hn tD p9 p8 lZ tw
noncomputable def O9(K:qc)(wi:TI)(nt:Nat)(js:Qa Nat)(g:TG)(tt:TT)(tk tv:TE):TE:=λσ H Q=>wi σ H λJ H1=>
 ∀ D,H1 D=none->CS K J (c0 nt js σ) g tt tk tv D (λH2=>Q (.ref D) H2) (upd H1 D<|.dT [])
theorem IL(hr:aD n X.A)(hi:Wr (PI X tg iter wi))(hg:∀ {C s H ex},Wr<|PG (zJ X scope (gJ X js) (iD tg++f7 X js) C s H ex) tg g)(ht:∀ {C s H ex},Wr<|jJ (zJ X scope (gJ X js) (iD tg++f7 X js) C s H ex) ifs tt)
  (hk:∀ {C s H ex},Wr<|PE (zJ X scope (gJ X js) (iD tg++f7 X js) C s H ex) kx tk) (hv:∀ {C s H ex},Wr<|PE (zJ X scope (gJ X js) (iD tg++f7 X js) C s H ex) vx tv)
  (f:aN X (gJ X js) (f7 X js) js:=by repeat (first|exact aN.nil|refine aN.cons rfl (by first|exact Or.inl rfl|exact Or.inr rfl) rfl ?_)) (dY:closureFor scope X.env=pure (gJ X js):=by rfl) (S:nX scope (f7 X js):=by exact⟨rfl,of_decide_eq_true rfl,of_decide_eq_true rfl,of_decide_eq_true rfl,of_decide_eq_true rfl⟩) (gP:(iD tg).length=nt:=by rfl) (hc:X.calm=true:=by rfl) (gw:∀ σ:St,GW (c0 nt js σ) g:=by first|exact EW (by decide) | exact D9<|EU (by repeat (first|exact FJ|refine FR (by decide) ?_))) (hs:∀ x,foldedSetIterable iter X.env x=pure x:=by intro _; rfl):
  Wr (PE X (.DictComp kx vx [⟨tg,iter,ifs,0⟩] scope pos)<|O9 X.K wi nt js g tt tk tv):=by
 refine⟨?_⟩;intro pins s σ H Q I h;rw[arm_eval_DictComp];refine wpAny_comprehension_free (use:=none) rfl hs dY S.kind S.names<|aF (hi.run pins s σ H _ I h) λv s1 h1=>aF h1 λpU s2 h2=>?_;have(it,fp,tn,J,H2,e,I2,T,jw,f2,q):=h2;subst e;refine zlk (RR:=λacc C=>compPost (model X.prog X.w) X.A X.xe none (EP X pins σ Q) acc C) (Z:=λD H2=>Q (.ref D) H2) (ui hr) hc I2 S f gP T jw f2 (λC s H ex=>hg.run) (λC s H ex=>ht.run) (λC s H ex=>hk.run) (λC s H ex=>hv.run) (gw σ) q ?_;intro D C m s' H' z I' hn tD p9 p8 lZ tw;refine⟨m,hn,λh' sN=>⟨.ref D,_,I'.turned (it:=C) (λb o hb e=>sN.extBut b o hb e) tD p9 (.inr lZ) p8 tw,rfl,z⟩⟩
end
section
variable{ρ ai aj:En}
theorem Sn.free{A:Qg->Prop}{D:Qg}{c o:HO}(s:Sn K pn ah A aq av ρ σ H)(hc:H D=some c)(m:Mo c)(n:¬Ow ρ σ D)(hA:A D):Sn K pn ah A aq av ρ σ (upd H D o):=by
 refine⟨s.rs.free hc m n,λa ob h nA=>?_,s.ow,s.pin,λa h=>?_,s.kp.trans<|i3 hc m o⟩
 .have ne:a≠D:=by rintro rfl; exact nA hA
  rw[zx ne];exact s.fr a ob h nA
 .by_cases e:a=D
  .subst e; rw[zy]at h; cases h
  .rw[zx e]at h; exact s.dm a h
theorem DQ{D:Qg}{A:Qg->Prop}{vG:En}{IE:St}{Hx:Hp}(r:Rs K aj σ H1)(hD:H1 D=none)(s:Sn K (fL nt js.length) (c0 nt js σ) A (upd H1 D<|.dT []) H1 vG IE Hx)
  (own:∀ (i:Nat) (u:U),nt<=i->vG[i]?=some (some u)->u.own=true->∃ w,(cY nt js aj)[i]?=some (some w)/\w.own=true):¬Ow vG IE D:=by
 rintro⟨i,u,e,ou,es⟩;rcases s.ow i u D e ou es with⟨hi,_⟩|z
 .have fH:=pd.mp hi
  have(w,ew,ow):=own i u fH.1 e ou;have(p,j,rfl,hj,hr):=uE ew;rw[s.pin _ hi,DR hj]at es;have e2:σ[j]?=some (some<|.ref D):=by
   rw[qC]at es;cases q:σ[j]? with
   | none=>rw[q]at es; cases es
   | some o=>rw[q]at es; exact congrArg some<|qy es
  have(c,hc,_):=r.ow ⟨j,w,hr,ow,e2⟩;rw[hD]at hc;cases hc
 .rw[zy]at z; cases z
noncomputable def l5(nt:Nat)(mg:MG)(mt:MT)(mk mv:ME):Qa D->En->Qa (Qa Key×D)->Qb (Qa (Qa Key×D)×En)
 | [],ρ,ys=>some (ys,ρ)
 | d::ds,ρ,ys=>if ys.length < sizeLine then(mg d ρ).bind λaj=>(mt aj).bind λb=>if b.1=true then(mk b.2).bind λp=>(mv p.2).bind λq=>(p.1.get q.2).bind λuk=>(q.1.get q.2).bind λuv=>uk.da.bind λdk=>uv.da.bind λdv=>(bN dk).bind λk=>
   l5 nt mg mt mk mv ds (reset nt q.2) (dI ys k dv)else l5 nt mg mt mk mv ds (reset nt b.2) ys else none
noncomputable def xO(mi:MI)(nt:Nat)(js:Qa Nat)(mg:MG)(mt:MT)(mk mv:ME):ME:=λρ=>(mi ρ).bind λp=>(l5 nt mg mt mk mv p.1 (cY nt js p.2) []).bind λq=>some (.u<|.t q.1,back js (q.2.drop nt) p.2)
theorem IJ{mi:MI}{mg:MG}{mt:MT}{mk mv:ME}(hi:VI K wi mi)(hg:qK K (fL nt js.length) g mg)(ht:VT K tt mt)(hk:VE K tk mk)(hv:VE K tv mv)(nd:js.Nodup:=by decide):
  VE K (O9 K wi nt js g tt tk tv) (xO mi nt js mg mt mk mv):=by
 intro ρ σ H a ai Q r e q;obtain⟨⟨ds,aj⟩,e1,e⟩:=zd e;obtain⟨⟨zs,qO⟩,e2,e⟩:=zd e;cases e;refine hi ρ σ H ds aj _ r e1 λJ H1 g1 run=>λD hD=>?_;have sm0:=zU hD (.dT []);have s0:=Lx (nt:=nt) (js:=js) g1.rs nd;have s1:Sn K (fL nt js.length) (c0 nt js σ) (λa=>jG aj σ js a\/a=D) (upd H1 D<|.dT []) H1 (cY nt js aj) (c0 nt js σ) (upd H1 D<|.dT []):=by
  have s2:=s0.go (Go.grow s0.rs sm0);refine⟨s2.rs,λa o h n=>h,λi u a e o es=>?_,s2.pin,λa h=>h,s2.kp⟩;rcases s2.ow i u a e o es with z|z
  .exact .inl ⟨z.1,.inl z.2⟩
  .exact absurd z (by
    have(v,ev,p):=s0.rs.rep i u e;rw[es]at ev;cases ev;have(b,c,eb,hb,_):=p.own o;cases eb;rw[hb];exact λz=>nomatch z)
 refine⟨λi m H'=>m=ds.length - i/\i<=ds.length/\∃ eA kd ws,Sn K (fL nt js.length) (c0 nt js σ) (λa=>jG aj σ js a\/a=D) (upd H1 D<|.dT []) H1 eA (c0 nt js σ) H'/\dE (cY nt js aj) eA/\(∀ k,k < nt->eA[k]?=some none)/\H' D=some (.dT ws)/\bB K H' ws kd/\l5 nt mg mt mk mv (ds.drop i) eA kd=some (zs,qO),
  ⟨ds.length,by simp,Ð _,_,[],[],s1,dE.refl _,λk hk=>Kw hk,zy,.nil,e2⟩,?_⟩
 rintro i m H' ⟨rfl,fH,eA,kd,ws,s',sh,lo,hw,dy,el⟩;have lc:eA.length=nt+js.length:=by rw[sh.len,Fg]
 by_cases dC:i < ds.length
 .rw[List.drop_eq_getElem_cons dC]at el
  unfold l5 at el;split at el
  .rename_i hz
   have(aw,e3,el):=zd el;obtain⟨⟨b,jq⟩,e4,el⟩:=zd el;have(l2,p2):=hg.ok _ _ _ e3;have(go,yl):=(run H' s'.kp i).1 ds[i] (qm dC);refine .inr ⟨go,λH2=>∃ cE B9 ve,Sn K (fL nt js.length) (c0 nt js σ) (λa=>jG aj σ js a\/a=D) (upd H1 D<|.dT []) H1 cE (c0 nt js σ) H2/\dE (cY nt js aj) cE/\(∀ k,k < nt->cE[k]?=some none)/\H2 D=some (.dT ve)/\bB K H2 ve B9/\l5 nt mg mt mk mv (ds.drop<|i+1) cE B9=some (zs,qO),
    λH2 ⟨cE,B9,ve,z⟩=>⟨ds.length - (i+1),by omega,rfl,dC,cE,B9,ve,z⟩,λx H2 y=>?_⟩
   have(sm,dx):=yl x H2 y;have s2:=s'.go (Go.grow s'.rs sm);refine hg.run _ _ _ _ eA _ H2 x ds[i] aw _ s2 dx e3 λcL s3=>?_;have GJ:∀ (i:Nat) (u:U),nt<=i->aw[i]?=some (some u)->u.own=true->∃ w,(cY nt js aj)[i]?=some (some w)/\w.own=true:=λk u hk ek ou=>by
    have lk:k < nt+js.length:=by rw[<-l2.trans lc]; exact(ql.mp ek).1
    rw[p2 k<|pd.mpr ⟨hk,lk⟩]at ek;exact sh.own k u ek ou
   have n2:¬Ow aw cL D:=DQ g1.rs hD s3 GJ;have toEnd:∀ {b5:En} {H4:Hp},Go K aw cL H2 b5 H4->Sn K (fL nt js.length) (c0 nt js σ) (λa=>jG aj σ js a\/a=D) (upd H1 D<|.dT []) H1 (L2.reset nt b5) (c0 nt js σ) H4/\dE (cY nt js aj) (L2.reset nt b5):=λ{b5 H4} g4=>by
    have l4:b5.length=nt+js.length:=by rw[g4.shr.len,l2,lc]
    refine⟨(s3.go g4).reset l4 Ei,sh.trans<|dE.jZ lc lo l4 (λk u hk ek ou=>?_) λk u hk ek=>?_⟩
    .have(w,ew,ow):=g4.shr.own k u ek ou
     have lk:k < nt+js.length:=by rw[<-l2.trans lc]; exact(ql.mp ew).1
     rw[p2 k<|pd.mpr ⟨hk,lk⟩]at ew;exact⟨w,ew,ow⟩
    .have lk:k < nt+js.length:=by rw[<-lc]; exact(ql.mp ek).1
     rw[<-p2 k (pd.mpr ⟨hk,lk⟩)]at ek;exact g4.shr.live k u ek
   have Hl:H2 D=some (.dT ws):=sm _ _ hw;refine ht aw cL H2 b jq _ s3.rs e4 λH3 g3=>?_;dsimp only at el;split at el
   .rename_i hb
    rw[if_pos hb];obtain⟨⟨a4,b5⟩,e5,el⟩:=zd el;obtain⟨⟨a5,IF⟩,e6,el⟩:=zd el;have(uk,ek,el):=zd el;have(uv,ev,el):=zd el;have(dk,Ii,el2):=zd el;have(dv,Ih,el3):=zd el2;have(ks,Ig,el4):=zd el3;cases wD Ii;cases wD Ih;refine hk jq cL H3 a4 b5 _ g3.rs e5 λkx H4 g4 k4=>hv b5 cL H4 a5 IF _ g4.rs e6 λvx H5 g5 k5=>?_;have pk:=k4.later g3.rs g4 g5 ek;have pv:=k5.now g4.rs g5 ev;have(p,rfl,hp):=oZ pk Ig;have HS:=(g3.trans g4).trans g5;have Hk:H5 D=some (.dT ws):=HS.fr D _ Hl n2;have(sn,sr):=toEnd HS;have QV:bB K H5 ws kd:=(dy.kp sm.kp).kp (HS.kp s3.rs);have kp:=i3 Hk trivial (.dT<|cc ws ks vx);have nE:¬Ow (L2.reset nt IF) (c0 nt js σ) D:=DQ g1.rs hD sn λk u _ ek ou=>sr.own k u ek ou;exact⟨ws,ks,p,rfl,Hk,hp,by rw[QV.len]; exact hz,_,_,_,sn.free Hk trivial nE<|.inr rfl,sr,λk hk=>Bq hk,zy,(QV.kp kp).put ks<|DF.kp kp pv,el4⟩
   .rename_i hb
    rw[if_neg hb];have(sn,sr):=toEnd g3;exact⟨_,_,_,sn,sr,λk hk=>Bq hk,g3.fr D _ Hl n2,(dy.kp sm.kp).kp<|g3.kp s3.rs,el⟩
  .cases el
 .have ei:i=ds.length:=by omega
  subst ei;rw[List.drop_length]at el;cases el;refine .inl ⟨(run H' s'.kp _).2 rfl,?_⟩;have nE:¬Ow qO (c0 nt js σ) D:=DQ g1.rs hD s' λk u _ ek ou=>sh.own k u ek ou;have s4:Sn K (fL nt js.length) (c0 nt js σ) (jG aj σ js) H1 H1 qO (c0 nt js σ) H':=by
   refine⟨s'.rs,λa o h n=>?_,λi u a e o es=>?_,s'.pin,λa h=>?_,s'.kp⟩
   .have ne:a≠D:=by rintro rfl; rw[hD]at h; cases h
    exact s'.fr a o (by rw[zx ne]; exact h) λz=>z.elim n ne
   .rcases s'.ow i u a e o es with⟨z1,z2|z2⟩|z
    .exact .inl ⟨z1,z2⟩
    .subst z2; exact absurd ⟨i,u,e,o,es⟩ nE
    .by_cases ea:a=D
     .subst ea; exact .inr hD
     .rw[zx ea]at z; exact .inr z
   .have z:=s'.dm a h
    by_cases ea:a=D
    .subst ea; exact hD
    .rw[zx ea]at z; exact z
  have gb:=Sn.comp_back g1.rs s4 lc sh;exact q _ _ (g1.trans gb) ⟨⟨D,ws,rfl,hw,dy⟩,λ_=>⟨D,rfl,g1.dm _ hD⟩⟩
end
section
end
section
variable{X:Cx}
end
section
variable{X:Cx}{C:Qg}{fs:Qa (Str×V)}
end
section
variable{X:Cx}
end
section
variable{X:Cx}{C:Qg}{fl:Qa Str}{k:Nat}{p:Pos}{es:Qa Expr}{t:TA}
end
section
variable{n:Str}{C:Qg}{fl:Qa Str}
end
section
variable{X:Cx}
theorem Fy:∀ (ns:Qa Int),aK K H (ns.map V.int)<|ns.map PyData.int
 | []=>.nil
 | n::ns=>.cons (.int n)<|Fy ns
theorem zmw{Q:Bool->Qd->Prop}(hd:(d==sysModules)=false)(r:eY s.heap d es ep)(sX:(es.size:Int) < 2^63)
  (h:Q (es.size != 0) {s with toks:=s.toks+1+1}):wpAny (model prog w) A (truthy<|.ref d) Q E s:=by
 have hT:=r.typeIs;have(o,e,_,dat):=r;have dW:((es.size:Int) != 0)=(es.size != 0):=by
  cases z:es.size with
  | zero=>rfl
  | succ n=>
   rw[bne_iff_ne.mpr (by omega),bne_iff_ne.mpr (by omega)]
 have key:wpAny (model prog w) A (runValue<|.builtin "len" ⟨[.ref d],[]⟩) (λr s'=>r=.int es.size (s.toks+1)/\Q (es.size != 0) s') E s:=by
  refine wpAny_runValue<|codeAny_builtin entry_len ?_;rw[Around.under_plainId plain_len _];unfold Builtin.«len»;refine qa (m:=oneArg "len" _)<|qb ?_;refine qa (m:=callSpecial? (.ref d) (Str.ofString "__len__")) (wpAny_callSpecial?_slot (name:=Str.ofString "__len__") hT í
   (wpAny_call_entry í hT F.entry_dict_len ?_<|F.args_dict_len_1 _))
  show wpAny _ _ (dictSize d >>= _) _ _ s;unfold dictSize;refine qa<|qa<|wpAny_dictEntries e dat<|qb ?_;show wpAny _ _ (Builtin.Dict.pendingCount d >>= _) _ _ s;refine qa<|wpAny_pendingCount_other hd ?_;refine wpAny_ret_mkInt ?_;show wpAny _ _ _ _ _ {s with toks:=s.toks+1};refine qa<|wpAny_holding<|qb ?_;refine qa<|wpAny_letGo ?_;show wpAny _ _ (if((es.size+0:Nat):Int) < 0 then _ else _) _ _ _;rw[if_neg (by omega)];show wpAny _ _ (if((es.size+0:Nat):Int)>=2^63 then _ else _) _ _ _;rw[if_neg (by rw[Nat.add_zero]; omega)];exact qa<|wpAny_mkInt<|qb ⟨rfl,h⟩
 unfold truthy
 first
  | refine qa<|wpAny_callSpecial?_none (name:=Str.ofString "__bool__") hT noBool_dict ?_
  | refine qa (qb<|qa<|wpAny_callSpecial?_none (name:=Str.ofString "__bool__") hT noBool_dict ?_)
 first
  | refine qa<|wpAny_specialOf (name:=Str.ofString "__len__") hT í.lookup ?_
  | refine qa (qb<|qa<|wpAny_specialOf (name:=Str.ofString "__len__") hT í.lookup ?_)
 first
  | exact qa<|wpAny_mono key (λr s' h'=>by have(rfl,hq):=h'; exact qb<|dW▸hq) λ_ _ e=>e
  | exact qa<|qb<|qa<|wpAny_mono key (λr s' h'=>by have(rfl,hq):=h'; exact qb<|dW▸hq) λ_ _ e=>e
noncomputable def Jp(ta:TE):TT:=λσ H Q=>ta σ H λx H1=>∃ p kvs,x=.ref p/\H1 p=some (.dT kvs)/\Q (!kvs.isEmpty) H1
theorem Tv{a:Expr}(ha:Wr (PE X a ta))(he:∀ whole,isTrue a X.env whole=(do let v <-whole; standAt a.pos; holding [v] (truthy v)):=by intro _; rfl):Wr (PT X a<|Jp ta):=by
 refine⟨?_⟩;intro pins s σ H Q I h;refine isTrue_plain (aF (ha.run pins s σ H _ I h) λv s1 hZ=>?_)<|he _;have(x,H1,I1,r1,p,kvs,ex,ep,q1):=hZ;subst ex;cases r1;have(z,y,xs,r,o,es,eq,h1,h2,h3,h4,h5):=(show be X.prog X.w X.K H1 s1.heap p (.dT kvs) from I1.az p _ ep);have hl:es.size=kvs.length:=by
  have:=congrArg List.length h4;rw[Array.length_toList,List.length_map,<-i4 r]at this;exact this
 have hs:sizeLine=16777216:=sizeLine_eq;refine zmw y ⟨o,h1,h2,h3⟩ (by omega) ⟨H1,I1.tok _,?_⟩;have e2:(es.size != 0)=!kvs.isEmpty:=by
  rw[hl];cases kvs<;>rfl
 rw[e2];exact q1
noncomputable def vS(ma:ME):MT:=λρ=>(ma ρ).bind λp=>(p.1.get p.2).bind λu=>match u with
 | .t kvs=>some (!kvs.isEmpty,p.2)
 | _=>none
theorem XE{ma:ME}(ha:VE K ta ma):VT K (Jp ta) (vS ma):=by
 intro ρ σ H b ai Q r e q;obtain⟨⟨a,aj⟩,e1,e⟩:=zd e;have(u,eu,e):=zd e;refine ha ρ σ H a _ _ r e1 λv H1 g1 k1=>?_;have p:=k1.now r g1 eu;cases u with
 | t kvs=>
  cases e;have(a,ws,rfl,h1,h2):=p;refine⟨a,ws,rfl,h1,?_⟩;have e2:(!ws.isEmpty)=!kvs.isEmpty:=by cases h2<;>rfl
  rw[e2];exact q _ g1
 | _=>cases e
end
section
variable{c:β->D}{mI:MI}{mg:MG}{mt:MT}{mk mv me ma:ME}{mA:MA}{ρ:En}{QE:Ar×En->Prop}{QT:Bool×En->Prop}
theorem YD:Wo (xO mI nt js mg mt mk mv ρ) QE=Wo (mI ρ) (Co (λp=>(l5 nt mg mt mk mv p.1 (cY nt js p.2) []).bind λq=>some (.u<|.t q.1,back js (q.2.drop nt) p.2)) ⟨0⟩ QE):=by
 unfold xO;rw[zt]
def II(nt:Nat)(mk mv:ME)(ys:Qa (Qa Key×D))(P:En->Qa (Qa Key×D)->Prop)(p:Bool×En):Prop :=
 if p.1=true then Wo (mk p.2) (Co (λp=>(mv p.2).bind λq=>(p.1.get q.2).bind λuk=>(q.1.get q.2).bind λuv=>uk.da.bind λdk=>uv.da.bind λdv=>(bN dk).bind λk=>some (reset nt q.2,dI ys k dv)) ⟨0⟩ λz=>P z.1 z.2)else P (reset nt p.2) ys
theorem YC{ys:Qa (Qa Key×D)}{P:En->Qa (Qa Key×D)->Prop}:II nt mk mv ys P (true,ρ)=Wo (mk ρ) (Co (λp=>(mv p.2).bind λq=>(p.1.get q.2).bind λuk=>(q.1.get q.2).bind λuv=>uk.da.bind λdk=>uv.da.bind λdv=>(bN dk).bind λk=>some (reset nt q.2,dI ys k dv)) ⟨0⟩ λz=>P z.1 z.2):=rfl
noncomputable def Cv(l:Pq β):Pq β:=l.foldl (λys t=>bu ys t.1 t.2) []
theorem XD{l:Pq β}:∀ {acc:Pq β},aA (acc++l)->l.foldl (λys t=>bu ys t.1 t.2) acc=acc++l:=by
 induction l with
 | nil=>intro acc _; simp
 | cons t l ih=>
  intro acc h;have e:bu acc t.1 t.2=acc++[t]:=by
   unfold bu;rw[if_neg];intro z;have(u,hu,e):=æ.mp z;have e:=of_decide_eq_true e;have:(acc++t::l).map (·.1)=acc.map (·.1)++t.1::l.map (·.1):=by simp
   rw[aA,this,List.nodup_append]at h;exact h.2.2 u.1 (À.mpr ⟨u,hu,rfl⟩) t.1 (by simp) e
  rw[List.foldl_cons,e,ih (by rw[List.append_assoc]; exact h)];simp
theorem AO{l:Pq β}(h:aA l):Cv l=l:=XD (acc:=[]) h
theorem E5{g:α->D}{b:α->Bool}{k:α->Qa Int}{v:α->β}{Q:Qa (Qa Key×D)×En->Prop}(hz:as.length<=16777216)
  (st:∀ a∈as,∀ ys:Pq β,Wo (mg (g a) ρ)<|Co mt ⟨0⟩<|II nt mk mv (aB c ys) λai zs=>ai=ρ/\zs=aB c (if b a=true then bu ys (k a) (v a)else ys))
  (q:Q (aB c<|Cv<|(as.filter b).map λa=>(k a,v a),ρ)):Wo (l5 nt mg mt mk mv (as.map g) ρ []) Q:=by
 have main:∀ (es:Qa α) (acc:Pq β),(∀ a∈es,a∈as)->acc.length+es.length<=16777216->Q (aB c<|((es.filter b).map λa=>(k a,v a)).foldl (λys t=>bu ys t.1 t.2) acc,ρ)->Wo (l5 nt mg mt mk mv (es.map g) ρ<|aB c acc) Q:=by
  intro es
  induction es with
  | nil=>intro acc _ _ q; exact⟨_,rfl,q⟩
  | cons a es ih=>
   intro acc hm hl q;rw[qv]at hl;obtain⟨aj,e1,⟨bb,aw⟩,e2,kk⟩:=st a (hm a qp) acc;rw[List.map_cons];unfold l5;rw[if_pos (by rw[wo]; show _ < 16777216; omega),zt];refine⟨aj,e1,?_⟩;rw[iT,zt];refine⟨_,e2,?_⟩;rw[iT];rw[List.filter_cons]at q;have pl:=uQ acc (k a) (v a);cases bb with
   | false=>
    have(e3,e4):=kk;rw[if_neg qf,e3,e4]
    by_cases hb:b a=true
    .rw[if_pos hb]
     rw[if_pos hb]at q;exact ih _ (λx hx=>hm x<|qo _ hx) (by omega) q
    .rw[if_neg hb]
     rw[if_neg hb]at q;exact ih _ (λx hx=>hm x<|qo _ hx) (by omega) q
   | true=>
    rw[if_pos rfl,zt];have(p,e3,kk):=kk;refine⟨p,e3,?_⟩;rw[iT];have(z,e4,e5,e6):=kk;have(q1,f1,e4):=zd e4;have(uk,f2,e4):=zd e4;have(uv,f3,e4):=zd e4;have(dk,f4,e4):=zd e4;have(dv,f5,e4):=zd e4;have(kk,f6,e4):=zd e4;cases e4;rw[f1,bd,f2,bd,f3,bd,f4,bd,f5,bd,f6,bd];dsimp only at e5 e6;rw[e5,e6]
    by_cases hb:b a=true
    .rw[if_pos hb]
     rw[if_pos hb]at q;exact ih _ (λx hx=>hm x<|qo _ hx) (by omega) q
    .rw[if_neg hb]
     rw[if_neg hb]at q;exact ih _ (λx hx=>hm x<|qo _ hx) (by omega) q
 exact main as [] (λ_ h=>h) (by simpa using hz) q
noncomputable def DP:U->Qb Bool
 | .t kvs=>some (!kvs.isEmpty)
 | _=>none
theorem zoc:Wo (vS ma ρ) QT=Wo (ma ρ) (Co (λp=>(p.1.get p.2).bind λu=>(DP u).bind λb=>some (b,p.2)) ⟨0⟩ QT):=by
 have e:vS ma ρ=(ma ρ).bind λp=>(p.1.get p.2).bind λu=>(DP u).bind λb=>some (b,p.2):=by
  unfold vS;congr 1
  funext p
  congr 1
  funext u
  cases u<;>rfl
 rw[e,zt]
theorem zod{p:Pq β}:DP (.t<|aB c p)=some (!p.isEmpty):=by
 show some (!(aB c p).isEmpty)=_;unfold aB;rw[List.isEmpty_map]
end
section
variable{X:Cx}{i v f:Expr}{tx:TE}{k:Nat}(K:qc)(hK:X.K=K)
include hK
end
theorem zik:typeLookup (.type "tuple") "keys"=pure none:=by rw[typeLookup_type,builtinLookup_eq_fast]; kernel_rfl
theorem wL:isSubtype (.type "AttributeError") (.type "AttributeError")=pure true:=by rw[isSubtype_type]; kernel_rfl
section
theorem Zy{e:Qg}{x o nm:Qc}{ic:Qb Qg}{Q:Unit->Qd->Prop}(he:s.heap.get? e=some ⟨.type "AttributeError",ic,.fields<|#[x,.none,.none,.none,.bool false,.none]++#[unsetMember,unsetMember],sl⟩)
  (hq:Q () {s with heap:=s.heap.update e (Obj.mapFields λvs=>vs.extract 0 6++#[nm,o])}):wpAny (model prog w) A (noteAttr (.ref e) o nm) Q E s:=by
 have hT:s.TypeIs (.ref e) "AttributeError":=⟨_,he,rfl⟩;unfold noteAttr;refine qa ?_;unfold lacksNameAndObj;refine qa<|wpAny_isInstance hT wL ?_;simp only[Bool.not_true,Bool.false_eq_true,if_false];refine qa<|wpAny_load he ?_;refine qb ?_;show wpAny _ _ (rule _ >>= _) _ _ _;refine qa<|wpAny_rule<|qa<|wpAny_typeOf hT ?_;show wpAny _ _ (layMembers e 6 #[nm,o]) _ _ _;unfold layMembers;refine qa<|wpAny_load he ?_;exact wpAny_update he hq
end
def qP(h h':Heap)(e:Qg):Prop:=(∀ b o,h.get? b=some o->h'.get? b=some o)/\∃ ob,h'.get? e=some ob/\ob.cls=.type "AttributeError"
section
theorem NF{o:Qc}{nm msg:Str}{Q:α->Qd->Prop}(hh:A.handled=none)(hm:msg.length<=sizeLine)(hq:∀ h' tk e,qP s.heap h' e->E (.ref e) {s with heap:=h',toks:=tk}):
  wpAny (model prog w) A (raiseAttrError o nm msg:Sem α) Q E s:=by
 unfold raiseAttrError;refine qa<|wpAny_mkStr (qa ?_) hm;unfold newExc newTuple;refine qa<|qB ?_;refine qa (m:=firstArgMember _ _)<|wpAny_of_eq (a:=Value.none) (by kernel_rfl) ?_;refine qB ?_;refine qa<|wpAny_mkText ?_;refine qa<|Zy (qg _ rfl) ?_;unfold raiseNew;refine qa<|wpAny_handled ?_;rw[hh]
 first
  | refine wpAny_throw ?_
  | refine qa<|qb<|wpAny_throw ?_
 refine hq _ _ _ ⟨λb o hb=>?_,_,Å _ (qg _ rfl) rfl,Obj.cls_mapFields _ _⟩;rw[Heap.get?_update_other _ _<|Nat.ne_of_gt<|qj (qi hb) (by simp)];exact qd _<|qd _ hb
end
section
variable{g:Array GenState}{d:Drawn}{t:Nat}{os:OsState}{items:Array Qc}
theorem Tu:(Str.ofString (toString "'"++toString ((Manifest.find? "tuple").elim "tuple" λx=>x.tpName)++toString "' object has no attribute '")++Str.ofString "keys"++Str.ofString "'").length<=sizeLine:=by decide +kernel
theorem YB{tk:Tok}{Q:Fin->Qd->Prop}(hx:h.get? a=some ⟨.type "tuple",none,.seq items n,sl⟩)(hh:A.handled=none)
  (hq:∀ h' tk e,qP h h' e->E (.ref e) ⟨h',g,d,tk,os⟩):
  wpAny (model prog w) A (Builtin.«object.__getattribute__» ⟨[.ref a,.str "keys" tk],[]⟩) Q E ⟨h,g,d,t,os⟩:=by
 have hT:(⟨h,g,d,t,os⟩:Qd).TypeIs (.ref a) "tuple":=⟨_,hx,rfl⟩;have f4:=zik
 repeat (any_goals (first|assumption|wp_step))
 exact NF hh Tu hq
theorem XB{tk:Tok}(hx:h.get? a=some ⟨.type "tuple",none,.seq items n,sl⟩)(hh:A.handled=none)
  (hq:∀ h' tk e,qP h h' e->R (.error<|.ref e) ⟨h',g,d,tk,os⟩):
  codeAny (model prog w) A (.call (.builtin "tuple.__getattribute__") ⟨[.ref a,.str "keys" tk],[]⟩) R ⟨h,g,d,t,os⟩ :=
 codeAny_call_builtin ñ.plain F.entry_tuple_ga (ñ.check _ _ _ _ _ _ _ _ (show(⟨h,g,d,t,os⟩:Qd).TypeIs (.ref a) "tuple" from⟨_,hx,rfl⟩) (F.args_tuple_getattribute_2 _ _)<|YB hx hh hq)
theorem zlm:typeLookup (.type "tuple") "__getattr__"=pure none:=by rw[typeLookup_type,builtinLookup_eq_fast]; kernel_rfl
theorem RF{tk:Tok}(hx:h.get? a=some ⟨.type "tuple",none,.seq items n,sl⟩)(hh:A.handled=none)(hq:∀ h' tk e,qP h h' e->E (.ref e) ⟨h',g,d,tk,os⟩):
  wpAny (model prog w) A (getAttrBy (.ref a) (.str "keys" tk) false) Q E ⟨h,g,d,t,os⟩:=by
 have hT:(⟨h,g,d,t,os⟩:Qd).TypeIs (.ref a) "tuple":=⟨_,hx,rfl⟩;have f2:=ñ.lookup;have f3:=ñ.bind (.ref a);have f5:=zlm
 repeat (any_goals (first|assumption|wp_step))
 refine XB hx hh λh' O7 e lk=>?_;have(kk,ob,eo,ec):=id lk;show wpAny _ _ (getattributeRaised _ _ _ _ _ _ _) _ _ _;unfold getattributeRaised;refine qa<|wpAny_isInstance (T := "AttributeError") ⟨_,eo,ec⟩ wL ?_;rw[if_pos rfl];refine qa ?_;show wpAny _ _ (typeLookup (.type "tuple") "__getattr__") _ _ _;refine wpAny_of_eq f5 ?_;exact wpAny_throw<|hq _ _ _ lk
theorem XA{Q:Qb Qc->Qd->Prop}(hx:s.heap.get? a=some ⟨.type "tuple",none,.seq items n,sl⟩)(hh:A.handled=none)(hq:∀ h' tk,(∀ b o,s.heap.get? b=some o->h'.get? b=some o)->Q none {s with heap:=h',toks:=tk}):
  wpAny (model prog w) A (getAttr? (.ref a) "keys") Q E s:=by
 unfold getAttr?;refine qa<|wpAny_mkText ?_;unfold getAttrBy?;refine qa<|wpAny_attempt ?_;refine RF (t:=s.toks+1) (g:=s.gens) (d:=s.drawn) (os:=s.os) hx hh λh' tk e hZ=>?_;have(kk,ob,eo,ec):=hZ;refine qa<|wpAny_isInstance (T := "AttributeError") ⟨_,eo,ec⟩ wL ?_;rw[if_pos rfl];exact qb<|hq _ _ kk
end
theorem BP:entryFor table "dict.update.loop"=some Builtin.«dict.update.loop»:=entryFor_of_tree (by kernel_rfl)
theorem pF:plainId "dict.update.loop"=true:=by decide +kernel
noncomputable def cO(acc:Qa (Qa Key×V))(kvs:Qa (Qa Key×V)):Qa (Qa Key×V):=kvs.foldl (λa p=>cc a p.1 p.2) acc
inductive bA (K:qc) (H:Hp):Qa V->Qa (Qa Key×V)->Prop where
 | nil:bA K H [] []
 | cons {q k:Qg} {ks:Qa Key} {v:V} {xs:Qa V} {kvs:Qa (Qa Key×V)} (hq:bg K H q [.ref k,v]) (hk:aM K H k (ks.map kV)) (t:bA K H xs kvs):bA K H (.ref q::xs) ((ks,v)::kvs)
theorem bA.at{xs:Qa V}(h:bA K H xs kvs):∀ {i:Nat},i < xs.length->∃ q k ks v,xs[i]?=some (.ref q)/\kvs[i]?=some (ks,v)/\bg K H q [.ref k,v]/\aM K H k (ks.map kV):=by
 induction h with
 | nil=>intro i hi; cases hi
 | @cons q k ks v xs kvs hq hk t ih=>
  intro i hi;cases i with
  | zero=>exact⟨q,k,ks,v,rfl,rfl,hq,hk⟩
  | succ i=>exact ih (by simpa using hi)
theorem bA.len{xs:Qa V}(h:bA K H xs kvs):kvs.length=xs.length:=by
 induction h with
 | nil=>rfl
 | cons _ _ _ ih=>simp[ih]
theorem ND(kvs:Qa (Qa Key×V)):∀ acc:Qa (Qa Key×V),(cO acc kvs).length<=acc.length+kvs.length:=by
 induction kvs with
 | nil=>intro acc; exact qe _
 | cons p r ih=>
  intro acc;have:=ih (cc acc p.1 p.2);have h2:=xh acc p.1 p.2;show(cO (cc acc p.1 p.2) r).length<=_;rw[qv];omega
theorem A3{D:Qg}{o:HO}{xs:Qa V}(hD:H D=none)(h:bg K H a xs):bg K (upd H D o) a xs:=by
 rcases h with (h|⟨ob,h⟩) | h
 .exact .inl (.inl (by rw[zx<|zZ h hD]; exact h))
 .exact .inl (.inr ⟨ob,by rw[zx<|zZ h hD]; exact h⟩)
 .exact .inr h
theorem IH{k:Qg}{qs:Qa Qc}(h:zO [.ref k,v] qs):∃ u2,qs=[.ref k,u2]/\zV v u2:=by
 cases h with
 | cons r1 t=>
  cases t with
  | cons r2 t=>
   cases t;cases r1;exact⟨_,rfl,r2⟩
section
variable{X:Cx}{D:Qg}{xs:Qa V}
theorem zmy(hh:A.handled=none)(hu:A.units+2 < cLine)(hD:H D=none)(e:bg X.K H a xs)(hz:xs.length < sizeLine)(pa:bA X.K H xs kvs)
  (hR:∀ s',Inv X pins σ (upd H D<|.dT<|cO [] kvs) s'->R (.ok<|.ret .none) s'):
  ∀ (m i:Nat) (s:Qd),i+m=xs.length->Inv X pins σ (upd H D<|.dT<|cO []<|kvs.take i) s->s.heap.IsTupleIter it a i->(∀ o,cu X pins (upd H D o) it)->codeAny (model X.prog X.w) A (.builtin "dict.update.loop" ⟨[.ref D,.ref it,rawInt (i:Int),.none],[]⟩) R s:=by
 intro m
 induction m with
 | zero=>
  intro i s hi I st fp;cases(show i=xs.length by omega);have(ae,rv,p,_):=I.tuple (A3 hD e);have(f0,f1,f2,f3,f4,f5):=fp (.dT<|cO []<|kvs.take xs.length);refine codeAny_builtin BP ?_;rw[Around.under_plainId pF _];show wpAny _ A.in1 (pyNext (.ref it) >>= _) _ _ s;refine qa<|wpAny_pyNext_tuple_end hh st (show s.heap.IsTuple a ae.toArray from p) (by have:=rv.length; simp; omega) λh' eb=>?_;have I1:Inv X pins σ (upd H D<|.dT<|cO []<|kvs.take xs.length) {s with heap:=h'}:=I.turned (t':=s.toks) (λb o hb e=>eb b o hb e) f0 f1 f3 f4 f5;rw[<-pa.len,List.take_length]at I1;show wpAny _ A.in1 (Builtin.Dict.addKeywords D [] >>= _) _ _ _;refine qa<|qb<|qb ?_;exact hR _ I1
 | succ m ih=>
  intro i s hi I st fp;have(q,k,ks,v,ex,ek,hq,hk):=pa.at (i:=i) (by omega);have(ae,rv,p,_):=I.tuple (A3 hD e);have(u,fG,ru):=rv.get ex;cases ru;have(f0,f1,f2,f3,f4,f5):=fp (.dT<|cO []<|kvs.take i);refine codeAny_builtin BP ?_;rw[Around.under_plainId pF _];show wpAny _ A.in1 (pyNext (.ref it) >>= _) _ _ s;refine qa<|wpAny_pyNext_tuple_item st (show s.heap.IsTuple a ae.toArray from p) (x:=.ref q) (by simpa using fG) λh' dz sb=>?_;have I1:Inv X pins σ (upd H D<|.dT<|cO []<|kvs.take i) {s with heap:=h'}:=I.turned (t':=s.toks) (λb o hb e=>(sb.2 b hb).trans e) f0 f1 f3 f4 f5;have(oi,ei,ci,di):=id dz;have I2:=I1.pinned (fp:=[it]) (λb hb=>by rw[qq.mp hb]; exact fp _) (λb hb=>by rw[qq.mp hb]; exact⟨oi,ei,λv z=>by rw[di]at z; cases z⟩);have(qs,rq,pq,_):=I1.tuple (A3 hD hq);have(oq,eq,cq,nq,dq):=id pq;have(u2,rfl,r2):=IH rq;refine qa<|wpAny_holding<|qa<|wpAny_tryCatch ?_;unfold Builtin.Dict.pairItems;refine qa<|wpAny_typeOf (T := "tuple") ⟨_,eq,cq⟩ ?_;rw[if_pos (by decide:(Value.type "tuple"==Value.type "list" || Value.type "tuple"==Value.type "tuple")=true)];refine qa<|wpAny_seqItems eq dq<|qb ?_;show wpAny _ A.in1 (holding [Value.ref k,u2]<|dictSet D (.ref k) u2) _ _ _;have tk:=ND (kvs.take i) [];have lt:=List.length_take_le i kvs;refine wpAny_holding<|FK (X:=X) (show A.units+1+1 < cLine by omega) I2 zy (hk.keeps λb ys hb=>by rw[zx<|zZ hb hD]; exact hb) (by have:=pa.len; simp only[List.length_nil,Nat.zero_add]at tk; omega) r2 λs3 I3=>?_;have ups:upd (upd H D<|.dT<|cO []<|kvs.take i) D (.dT<|cc (cO []<|kvs.take i) ks v)=upd H D (.dT<|cO []<|kvs.take<|i+1):=by
   funext b
   by_cases hb:b=D
   .subst hb
    rw[zy,zy,List.take_add_one,ek];show _=some (HO.dT<|(kvs.take i++[(ks,v)]).foldl _ _);rw[List.foldl_append];rfl
   .rw[zx hb,zx hb,zx hb]
  rw[ups]at I3;have pin:=(I3.pin (it,oi)<|qx _<|qx _<|pK (qq.mpr rfl) ei).1;refine qb ⟨plainId_quiet pF _,ih (i+1) s3 (by omega) (I3.aY λp hp=>I3.pin p<|qx _<|É _ hp) ⟨oi,pin,ci,di⟩ fp⟩
end
section
variable{X:Cx}
def Ks(K:qc):Qa V->Hp->VK->Prop:=λxs H Q=>∃ a ys kvs,xs=[.ref a]/\H a=some (.tup ys)/\ys.length < sizeLine/\bA K H ys kvs/\∀ p,H p=none->Q (.ref p) (upd H p<|.dT<|cO [] kvs)
theorem YA{ys:Qa V}{ae:Qa Qc}(pa:bA K H ys kvs)(rv:zO ys ae):¬∃ i t r,ae.toArray.toList=.int i t::r:=by
 rintro⟨i,t,r,e⟩;have e:ae=.int i t::r:=e;subst e;cases pa with
 | nil=>cases rv
 | cons hq hk tl=>
  cases rv with
  | cons r1 _=>cases r1
theorem zmz{k:Nat}(K:qc)(hK:X.K=K)(hr:aD k X.A)(hc:X.calm=true):du X (.type "dict") (Ks K):=by
 subst hK;intro pins s σ H xs us Q I r h;have(a,ys,kvs,rfl,ha,hz,pa,q):=h;have(u,rfl,ru):=eZ r;cases ru;obtain⟨_,ae,rv,⟨oc,od,odt,j4⟩,ho,Qr,⟨n,hd⟩,hb⟩:=(show be X.prog X.w X.K H s.heap a (.tup ys) from I.az a _ ha);have dD:=hb.resolve_right (YA pa rv);clear hb;dsimp only at Qr hd dD;subst Qr hd dD;have hD:H s.heap.objs.size=none:=I.az.fresh (qe _);have hh:=I.ok.hd hc;refine callType_codes (Q₁:=λobj aC=>obj=.ref s.heap.objs.size/\aC={s with heap:=s.heap.push {cls:=.type "dict",data:=.dict #[]}}) F.kt_called_dict (F.kt_typeCall_dict_1 _) F.entry_dict_init (kt_code_dict_new _ ⟨rfl,rfl⟩) ?_;rintro obj aC ⟨rfl,rfl⟩;have tn:Shared.TypeIs {s with heap:=s.heap.push {cls:=.type "dict",data:=.dict #[]}} (.ref s.heap.objs.size) "dict":=⟨_,qg _ rfl,rfl⟩;have lX:(s.heap.push {cls:=.type "dict",data:=.dict #[]}).get? a=some ⟨.type "tuple",none,.seq ae.toArray n,j4⟩:=qd _ ho;have I1:=I.laid (a:=s.heap.objs.size) (o:=.dT []) (h':=s.heap.push {cls:=.type "dict",data:=.dict #[]}) (t':=s.toks) (λ_ _ q=>qd _ q) (qe _) (wX s.heap I.nW);refine⟨tn,F.args_dict_init_2 _ _,?_⟩;unfold Builtin.«dict.__init__»;refine qa ?_;unfold Builtin.Dict.selfAndRest;refine qa<|wpAny_notOrdered_dict tn ?_;show wpAny _ _ (pure (s.heap.objs.size,[Value.ref a])) _ _ _;refine qb ?_;show wpAny _ _ (Builtin.Dict.updateFrom "dict.__init__" s.heap.objs.size (.ref a) [] .none) _ _ _;unfold Builtin.Dict.updateFrom;refine qa<|wpAny_typeOf (T := "tuple") ⟨_,lX,rfl⟩ ?_;rw[if_pos (by decide)];refine qa<|XA (s:={s with heap:=s.heap.push {cls:=.type "dict",data:=.dict #[]}}) lX hh λh2 jb m9=>?_;have I2:Inv X pins σ (upd H s.heap.objs.size<|.dT []) {s with heap:=h2,toks:=jb}:=I1.kept (t':=jb) m9;rw[if_pos (by rfl:(Option.isNone (none:Qb Qc))=true)];refine qa<|wpAny_rule<|qa<|wpAny_pyIter_tuple (show Heap.IsTuple h2 a ae.toArray from⟨_,m9 _ _ lX,rfl,n,rfl⟩) ?_;have I3:=I2.kept (t':=jb) (h':=h2.push {cls:=.type "tuple_iterator",data:=.fields #[.ref a,.int 0 0]}) λb o e=>qd _ e;refine qb ⟨plainId_quiet pF _,?_⟩;refine zmy (A:=X.A.in1) (H:=H) (xs:=ys) (kvs:=kvs) hh (by show X.A.units+1+2 < cLine; have:=hr.units; omega) hD (bg.of ha) hz pa (λs' I'=>⟨rfl,.ref _,_,I',rfl,q _ hD⟩) ys.length 0 _ (Nat.zero_add _) I3 ⟨_,qg _ rfl,rfl,rfl⟩ λo=>?_;refine I2.cX (qe _) ?_;have nz:H h2.objs.size=none:=by
  have:=I2.az.fresh (qe _)
  by_cases z:h2.objs.size=s.heap.objs.size
  .rw[z]; exact hD
  .rw[zx z]at this; exact this
 have ne:h2.objs.size≠s.heap.objs.size:=ċ (qi<|m9 _ _<|qg _ rfl);rw[zx ne];exact nz
end
noncomputable def jI:D->Qb (Qa Key×D)
 | .tuple [k,v]=>(bN k).bind λk=>some (k,v)
 | _=>none
noncomputable def t6(kvs:Qa (Qa Key×D)):Qa (Qa Key×D):=kvs.foldl (λa p=>dI a p.1 p.2) []
noncomputable def AN:U->Qb U
 | .d (.tuple ds)=>(ds.mapM jI).bind λkvs=>if ds.length < sizeLine then some (.t<|t6 kvs)else none
 | _=>none
section
theorem Xz{d:D}{k:Qa Key}{x:D}(h:DF K H v d)(e:jI d=some (k,x)):∃ q b y,v=.ref q/\bg K H q [.ref b,y]/\aM K H b (k.map kV)/\DF K H y x:=by
 unfold jI at e;split at e
 .rename_i dk dx
  have(k',ek,e):=zd e;cases e;have(q,vs,rfl,tp,ts):=DF.aJ h;cases ts with
  | cons h1 ts=>
   cases ts with
   | cons h2 ts=>
    cases ts;have(b,rfl,tb):=oZ h1 ek;exact⟨q,b,_,rfl,tp.sq,tb,h2⟩
 .cases e
theorem EB:∀ {vs:Qa V} {ds:Qa D} {kvs:Qa (Qa Key×D)},aK K H vs ds->ds.mapM jI=some kvs->∃ ws,bA K H vs ws/\bB K H ws kvs
 | _,_,kvs,.nil,e=>by
  cases(show some []=some kvs from e);exact⟨[],.nil,.nil⟩
 | _,_,kvs,.cons (d:=d) (ds:=ds) h t,e=>by
  rw[List.mapM_cons]at e;have(p,ep,e):=zd (show(jI d).bind _=some kvs from e);have(r,er,e):=zd (show(ds.mapM jI).bind _=some kvs from e);cases(show some (p::r)=some kvs from e);have(q,b,y,rfl,h1,h2,h3):=Xz (k:=p.1) (x:=p.2) h ep;have(ws,h4,h5):=EB t er;exact⟨(p.1,y)::ws,.cons h1 h2 h4,.cons ⟨rfl,h3⟩ h5⟩
theorem La{kvs:Qa (Qa Key×D)}(h:bB K H ws kvs):∀ {a:Qa (Qa Key×V)} {b:Qa (Qa Key×D)},bB K H a b->bB K H (cO a ws) (kvs.foldl (λa p=>dI a p.1 p.2) b):=by
 induction h with
 | nil=>intro a b q; exact q
 | @cons p q ws kvs hq t ih=>
  intro a b z;show bB K H (cO (cc a p.1 p.2) ws) (kvs.foldl _<|dI b q.1 q.2);rw[hq.1];exact ih<|z.put q.1 hq.2
theorem Yz:VC K (Ks K) (f1 AN):=gH λv a u H Q h e q=>by
 unfold AN at e;split at e
 .rename_i ds
  have(kvs,ek,e):=zd e;split at e
  rotate_left
  .cases e
  rename_i hz;cases e;have(c,vs,rfl,tp,ts):=DF.aJ h;have(ws,pa,kd):=EB ts ek;rcases tp with tp|⟨o,ae,n,_,_,_,_,_,i,r,rfl⟩
  .refine⟨c,vs,ws,rfl,tp,by rw[ts.len]; exact hz,pa,λp hp=>?_⟩
   have sm:=zU hp (.dT<|cO [] ws);exact q _ _ sm ⟨p,_,rfl,zy,(La kd .nil).kp sm.kp⟩ λ_=>⟨p,rfl,hp⟩
  .cases pa
 .cases e
end
end L2
namespace L2
open PySem PySem.Calls PySem.Spec PyProof.Rows
abbrev jn:=Qa (Qa Key×Qa Key)
noncomputable def pM(g:jn)(k:Qa Key):Qb (Qa Key):=(g.find? λq=>decide<|q.1=k).map (·.2)
noncomputable def gR(f g:jn):Bool:=(f.length==g.length) && f.all λp=>decide<|pM g p.1=some p.2
theorem DO{F:α->β->Prop}{l:Qa α}{m:Qa β}(h:Paired F l m):∀ {i:Nat} {x:α},l[i]?=some x->∃ y,m[i]?=some y/\F x y:=by
 induction h with
 | nil=>intro i x e; cases e
 | cons hq t ih=>
  intro i x e;cases i with
  | zero=>cases(show some _=some x from e); exact⟨_,rfl,hq⟩
  | succ i=>exact ih e
theorem wm{F:α->β->Prop}{l:Qa α}{m:Qa β}(h:Paired F l m):l.length=m.length:=by
 induction h with
 | nil=>rfl
 | cons _ _ ih=>simp[ih]
theorem Mc{g:jn}(hn:(g.map (·.1)).Nodup){k v:Qa Key}(e:g[j]?=some (k,v)):pM g k=some v:=by
 induction g generalizing j with
 | nil=>cases e
 | cons q r ih=>
  rw[List.map_cons,List.nodup_cons]at hn;cases j with
  | zero=>
   cases(show some q=some (k,v) from e);unfold pM;rw[List.find?_cons,decide_eq_true rfl];rfl
  | succ j=>
   have m:k∈r.map (·.1):=À.mpr ⟨_,Ê (show r[j]?=some (k,v) from e),rfl⟩;have ne:¬q.1=k:=λz=>hn.1<|z▸m;unfold pM;rw[List.find?_cons,decide_eq_false ne];exact ih hn.2 (show r[j]?=some (k,v) from e)
theorem Yy{g:jn}{k:Qa Key}(h:∀ (j:Nat) (v:Qa Key),g[j]?≠some (k,v)):pM g k=none:=by
 unfold pM;rw[List.find?_eq_none.mpr]
 .rfl
 .intro q hq z
  have(j,hj):=List.mem_iff_getElem?.mp hq;exact h j q.2 (by rw[hj,<-of_decide_eq_true z])
section
abbrev TK(prog:Qe)(w:Qh):=tupleKind (zA prog w)
def vE(prog:Qe)(w:Qh)(h:Heap)(xs:Qa (Qa Key×Qg×Qc))(f:jn):Prop:=Paired (λx p=>x.1=p.1/\∃ c,x.2.2=.ref c/\(TK prog w).is h p.2 c) xs f
theorem Yx{xs:Qa (Qa Key×Qg×Qc)}{f:jn}(v:vE prog w h xs f):f.map (·.1)=xs.map (·.1):=by
 induction v with
 | nil=>rfl
 | cons hq _ ih=>rw[List.map_cons,List.map_cons,ih,hq.1]
theorem Mb{nm:String}{b:Qg}{oa ob:Obj}{fs:Array DictEntry}{eS:Nat}{xs:Qa (Qa Key×Qg×Qc)}{f g:jn}{Q:Bool->Qd->Prop}(hu:(TK prog w).room A)(ha:(a==sysModules)=false)(hb:(b==sysModules)=false)
  (lV:s.heap.get? a=some oa) (nM:oa.data=.dict es ep) (nC:s.heap.get? b=some ob) (cB:ob.data=.dict fs eS) (hx:es.toList=xs.map (entryOfKey<|TK prog w)) (hy:fs.toList=ys.map (entryOfKey<|TK prog w))
  (Cd:∀ x∈xs,(TK prog w).is s.heap x.1 x.2.1) (Cc:∀ x∈ys,(TK prog w).is s.heap x.1 x.2.1) (ny:(ys.map (·.1)).Nodup) (vx:vE prog w s.heap xs f) (vy:vE prog w s.heap ys g) (h:Q (gR f g) s):
  wpAny (model prog w) A (Builtin.Dict.samePairs nm a b) Q E s:=by
 have sx:es.size=f.length:=(size_of_entries hx).trans (wm vx);have sy:fs.size=g.length:=(size_of_entries hy).trans (wm vy);have ng:(g.map (·.1)).Nodup:=by rw[Yx vy]; exact ny
 unfold Builtin.Dict.samePairs Builtin.Dict.showsAll;rw[if_neg (show ¬(a==sysModules)=true by rw[ha]; exact qf),if_neg (show ¬(b==sysModules)=true by rw[hb]; exact qf)];refine qa<|qb<|qa<|qb ?_;refine qa<|wpAny_dictEntries lV nM ?_;dsimp only;refine qa<|wpAny_dictEntries nC cB ?_
 by_cases hsz:es.size=fs.size
 .rw[if_neg (by simpa using hsz)]
  refine qa<|wpAny_dictEpoch lV nM ?_;refine qa ?_;rw[Std.Legacy.Range.forIn_eq_forIn_range'];simp only[Std.Legacy.Range.size,Nat.sub_zero,Nat.add_sub_cancel,Nat.div_one];have hlen:(f.length==g.length)=true:=by rw[<-sx,<-sy,hsz]; exact beq_self_eq_true _
  refine wpAny_forIn_list _ (λrest r s'=>s'=s/\r=(none,())/\∃ i,i<=f.length/\rest=List.range' i (f.length - i)/\∀ j p,j < i->f[j]?=some p->pM g p.1=some p.2) _ ?_ ?_ _ _ ⟨rfl,rfl,0,Ð _,by rw[sx,Nat.sub_zero],λj p hj=>absurd hj<|Nat.not_lt_zero _⟩
  .rintro x rest r s' ⟨rfl,rfl,i,hi,hr,az⟩
   have dC:i < f.length:=by
    rcases Ú i f.length with z|z
    .exact z
    .rw[Nat.sub_eq_zero_of_le z]at hr; cases hr
   obtain⟨n,hn⟩:∃ n,f.length - i=n+1:=⟨f.length - i - 1,by omega⟩;rw[hn,List.range'_succ]at hr;injection hr with hr1 hr2;subst hr1;obtain⟨⟨k,c,v⟩,jh⟩:∃ y,xs[x]?=some y:=⟨xs[x]'(by rw[wm vx]; exact dC),qm _⟩;obtain⟨⟨k',kv⟩,hf,e1,cv,e2,hcv⟩:=DO vx jh;cases(show k=k' from e1);cases(show v=.ref cv from e2);have hex:es[x]?=some ⟨(TK prog w).hash k,.ref c,.ref cv⟩:=by rw[entry_at hx x,jh]; rfl
   refine qa<|wpAny_dictEntries lV nM ?_;rw[hex];dsimp only;have bad:¬pM g k=some kv->Q false s':=λdW=>by
    have:gR f g=false:=by
     unfold gR;rw[hlen,Bool.true_and];exact List.all_eq_false.mpr ⟨_,Ê hf,by rw[decide_eq_false dW]; exact qf⟩
    rw[<-this];exact h
   refine qa<|wpAny_holding<|qa<|wpAny_dictFind_heap hu (Cd _<|Ê jh) nC cB hy Cc ny (λku=>?_) λj p hj=>?_
   .refine qb ?_
    simp only[Bool.not_false,if_true];refine qb ?_;refine qb<|bad ?_;rw[Yy λj v z=>?_]
    .intro z; cases z
    .obtain⟨y,Ce,hy2⟩:∃ y,ys[j]?=some y/\y.1=k:=by
      obtain⟨y,Ce⟩:∃ y,ys[j]?=some y:=⟨ys[j]'(by rw[wm vy]; exact(ql.mp z).1),qm _⟩;have(q,nu,pX,_):=DO vy Ce;rw[z]at nu;cases nu;exact⟨y,Ce,pX⟩
     exact ku j y.2 (by rw[Ce,<-hy2])
   .obtain⟨⟨k2,kb⟩,hg,e3,cb,e4,hcb⟩:=DO vy hj
    have(pa,vb):=p;cases(show k=k2 from e3);cases(show vb=.ref cb from e4);have hfj:fs[j]?=some ⟨(TK prog w).hash k,.ref pa,.ref cb⟩:=by rw[entry_at hy j,hj]; rfl
    refine qa<|wpAny_dictEntries nC cB ?_;rw[hfj];dsimp only;refine wpAny_holding<|(TK prog w).eqBool hu hcv hcb ?_;have va:=Mc ng hg
    by_cases q:kv=kb
    .rw[decide_eq_true q]
     simp only[Bool.not_true,Bool.false_eq_true,if_false];refine qa<|wpAny_dictEpoch lV nM ?_;rw[if_neg (by simp)];refine qb ⟨rfl,rfl,x+1,dC,?_,λj p hj hp=>?_⟩
     .rw[hr2,show f.length - (x+1)=n by omega]
     .rcases Ú j x with z|z
      .exact az j p z hp
      .cases(show j=x by omega)
       rw[hf]at hp;cases hp;rw[q];exact va
    .rw[decide_eq_false q]
     simp only[Bool.not_false,if_true];refine qb ?_;refine qb<|bad ?_;rw[va];intro z;cases z;exact q rfl
  .rintro r s' ⟨rfl,rfl,i,hi,hr,az⟩
   have hi2:f.length<=i:=by
    rcases Ú i f.length with z|z
    .obtain⟨n,hn⟩:∃ n,f.length - i=n+1:=⟨f.length - i - 1,by omega⟩
     rw[hn,List.range'_succ]at hr;cases hr
    .exact z
   have:gR f g=true:=by
    unfold gR;rw[hlen,Bool.true_and];refine Ø.mpr λp hp=>?_;have(j,hj):=List.mem_iff_getElem?.mp hp;exact decide_eq_true<|az j p (qj (ql.mp hj).1 hi2) hj
   rw[this]at h;exact qb h
 .rw[if_pos (by simpa using hsz)]
  have yk:gR f g=false:=by
   unfold gR;rw[show(f.length==g.length)=false by rw[<-sx,<-sy]; simpa using hsz,Bool.false_and]
  rw[yk]at h;exact qa<|wpAny_rule<|qb h
theorem RE{wanted:Bool}{nm:String}{b:Qg}{xs:Qa (Qa Key×Qg×Qc)}{f g:jn}(Hu:(op=.Eq/\wanted=true)\/(op=.NotEq/\wanted=false))(ha:(a==sysModules)=false)(hb:(b==sysModules)=false)
  (da:s.heap.DictOfH (TK prog w) a xs) (db:s.heap.DictOfH (TK prog w) b ys) (vx:vE prog w s.heap xs f) (vy:vE prog w s.heap ys g) (hu:A.units+8 < cLine) (h:Q (.bool<|gR f g==wanted) s):
  wpAny (model prog w) A (compareOp op (.ref a)<|.ref b) Q E s:=by
 have(oa,es,ep,lV,ca,nM,hx,Cd,nx):=da;have(ob,fs,eS,nC,cb,cB,hy,Cc,ny):=db;have ta:s.TypeIs (.ref a) "dict":=⟨_,lV,ca.1⟩;have tb:s.TypeIs (.ref b) "dict":=⟨_,nC,cb.1⟩;rcases Hu with⟨rfl,rfl⟩|⟨rfl,rfl⟩
 .refine wpAny_richCompare_same_room (op:=.Eq) ta tb PySem.F.slot_dict_eq (wpAny_call_entry PySem.F.slot_dict_eq ta PySem.F.entry_dict_eq ?_<|PySem.F.args_dict_eq_2 _ _) (Â (Nat.le_add_right _ 8) hu)
  show wpAny _ _ (Builtin.Dict.dictSlotArgs "__eq__" ⟨[.ref a,.ref b],[]⟩ >>= _) _ _ s;refine qa ?_;unfold Builtin.Dict.dictSlotArgs;refine qa<|wpAny_notOrdered_dict ta ?_;show wpAny _ _ (pure (Value.ref a,Value.ref b)) _ _ s;refine qb ?_;refine qa<|wpAny_isInstance (T := "dict") tb PySem.F.sub_dict_dict ?_;simp only[Bool.not_true,Bool.false_eq_true,if_false];refine qa<|qb<|qa<|qb ?_;refine qa<|Mb (show _ < cLine from by dsimp only[Around.in1]; omega) ha hb lV nM nC cB hx hy Cd Cc ny vx vy ?_;refine qb ⟨_,rfl,?_,?_⟩
  .exact λx=>nomatch x
  .simpa using h
 .refine wpAny_richCompare_same_room (op:=.NotEq) ta tb PySem.F.slot_dict_ne (wpAny_call_entry PySem.F.slot_dict_ne ta PySem.F.entry_dict_ne ?_<|PySem.F.args_dict_ne_2 _ _) (Â (Nat.le_add_right _ 8) hu)
  show wpAny _ _ (Builtin.Dict.dictSlotArgs "__ne__" ⟨[.ref a,.ref b],[]⟩ >>= _) _ _ s;refine qa ?_;unfold Builtin.Dict.dictSlotArgs;refine qa<|wpAny_notOrdered_dict ta ?_;show wpAny _ _ (pure (Value.ref a,Value.ref b)) _ _ s;refine qb ?_;refine qa<|wpAny_isInstance (T := "dict") tb PySem.F.sub_dict_dict ?_;simp only[Bool.not_true,Bool.false_eq_true,if_false];refine qa<|qb<|qa<|qb ?_;refine qa<|Mb (show _ < cLine from by dsimp only[Around.in1]; omega) ha hb lV nM nC cB hx hy Cd Cc ny vx vy ?_;refine qb ⟨_,rfl,?_,?_⟩
  .exact λx=>nomatch x
  .simpa using h
end
def CC(K:qc)(H:Hp)(kvs:Qa (Qa Key×V))(f:jn):Prop:=Paired (λp q=>p.1=q.1/\∃ c,p.2=.ref c/\aM K H c (q.2.map kV)) kvs f
theorem EA(gv:K.In h)(ok:bV P w K H h):∀ {kvs:Qa (Qa Key×V)} {xs:Qa (Qa Key×Qg×Qc)} {f:jn},KT K H kvs xs->CC K H kvs f->vE P w h xs f
 | _,_,_,.nil,.nil=>.nil
 | _,_,_,.cons hq t,.cons hp u=>by
  have(e1,_,rv):=hq;have(e2,c,e3,tp):=hp;rw[e3]at rv;exact .cons ⟨e1.symm.trans e2,c,rv,lr gv ok tp⟩<|EA gv ok t u
noncomputable def Jo(K:qc)(wanted:Bool):R2:=λx y H Q=>∃ a b kvs B7 f g,x=.ref a/\y=.ref b/\Rd H a (.dT kvs)/\Rd H b (.dT B7)/\CC K H kvs f/\CC K H B7 g/\Q (.bl<|gR f g==wanted) H
theorem E4{X:Cx}{k:Nat}{wanted:Bool}(Hu:(op=.Eq/\wanted=true)\/(op=.NotEq/\wanted=false))(K:qc)(hK:X.K=K)(hr:aD k X.A):cC X (compareOp op) (Jo K wanted):=by
 subst hK;intro pins s σ H x y v u Q I rx ry h;have(a,b,kvs,B7,f,g,rfl,rfl,ea,eb,tf,tg,q):=h;cases rx;cases ry;have(_,ya,xs,ra,da):=oN I.cJ I.az ea;have(_,yb,ys,rb,db):=oN I.cJ I.az eb;exact RE (nm := "") Hu ya yb da db (EA I.cJ I.az ra tf) (EA I.cJ I.az rb tg) (by have:=hr.units; omega) ⟨.bl _,H,I,rfl,q⟩
section
noncomputable def fo:U->Qb (Qa<|Qa Key×D)
 | .t kvs=>some kvs
 | .d (.dict ds)=>if gZ ds=true then oG ds else none
 | _=>none
noncomputable def lU:Qa (Qa Key×D)->Qb jn
 | []=>some []
 | (k,d)::r=>(bN d).bind λv=>(lU r).bind λr=>some<|(k,v)::r
noncomputable def oF(wanted:Bool)(u v:U):Qb U:=(fo u).bind λa=>(fo v).bind λb=>(lU a).bind λf=>(lU b).bind λg=>some<|.d<|.bool<|gR f g==wanted
theorem rD{u:U}{kvs:Qa (Qa Key×D)}(h:Rp K H v u)(e:fo u=some kvs):∃ a ws,v=.ref a/\Rd H a (.dT ws)/\bB K H ws kvs:=by
 unfold fo at e;split at e
 .cases e
  have(a,ws,rfl,h1,h2):=h;exact⟨a,ws,rfl,.inl h1,h2⟩
 .split at e
  .rename_i nx
   have(a,o,ws,rfl,h1,h2):=DF.bX h nx;exact⟨a,ws,rfl,.inr ⟨o,h1⟩,Fn h2 e⟩
  .cases e
 .cases e
theorem Ez:∀ {ws:Qa (Qa Key×V)} {kvs:Qa (Qa Key×D)} {f:jn},bB K H ws kvs->lU kvs=some f->CC K H ws f
 | _,_,f,.nil,e=>by cases e; exact .nil
 | _,(k,d)::r,f,.cons hq t,e=>by
  have(v,ev,e):=zd (show(bN d).bind _=some f from e);have(r',er,e):=zd e;cases e;have(b,e2,tb):=oZ hq.2 ev;exact .cons ⟨hq.1,b,e2,tb⟩<|Ez t er
theorem E3{wanted:Bool}:VO K (Jo K wanted) (oF wanted):=by
 intro x y a b u H Q ha hb e q;have(k1,e1,e):=zd e;have(k2,e2,e):=zd e;have(f,e3,e):=zd e;have(g,e4,e):=zd e;cases e;have(c,ws,rfl,h1,h2):=rD ha e1;have(c',ve,rfl,h3,h4):=rD hb e2;exact⟨c,c',ws,ve,f,g,rfl,rfl,h1,h3,Ez h2 e3,Ez h4 e4,q _ _ (λ_ _ z=>z) (.bl _) Nw.data⟩
end
end L2
namespace L2
open PySem PySem.Spec PyProof.Rows
section
variable{X:Cx}
theorem Xy(hd:(d==sysModules)=false)(r:eY s.heap d es ep)(sX:(es.size:Int) < 2^63)
  (h:Q (.int es.size<|s.toks+1) {s with toks:=s.toks+1+1}):wpAny (model prog w) A (call (.builtin "len") [.ref d]) Q E s:=by
 have hT:=r.typeIs;have(o,e,_,dat):=r;refine Calls.call_function_entry kind_len plain_len entry_len (args_len1 _) ?_;unfold Builtin.«len»;refine qa (m:=oneArg "len" _)<|qb ?_;refine qa (m:=callSpecial? (.ref d) (Str.ofString "__len__")) (wpAny_callSpecial?_slot (name:=Str.ofString "__len__") hT í
  (wpAny_call_entry í hT F.entry_dict_len ?_<|F.args_dict_len_1 _))
 show wpAny _ _ (dictSize d >>= _) _ _ s;unfold dictSize;refine qa<|qa<|wpAny_dictEntries e dat<|qb ?_;show wpAny _ _ (Builtin.Dict.pendingCount d >>= _) _ _ s;refine qa<|wpAny_pendingCount_other hd ?_;refine wpAny_ret_mkInt ?_;show wpAny _ _ _ _ _ {s with toks:=s.toks+1};refine qa<|wpAny_holding<|qb ?_;refine qa<|wpAny_letGo ?_;show wpAny _ _ (if((es.size+0:Nat):Int) < 0 then _ else _) _ _ _;rw[if_neg (by omega)];show wpAny _ _ (if((es.size+0:Nat):Int)>=2^63 then _ else _) _ _ _;rw[if_neg (by rw[Nat.add_zero]; omega)];exact qa<|wpAny_mkInt<|qb ⟨_,rfl,h⟩
def Jn:Qa V->Hp->VK->Prop:=λxs H Q=>∃ a kvs,xs=[V.ref a]/\Rd H a (.dT kvs)/\Q (.int kvs.length) H
theorem Zx:du X (.builtin "len") Jn:=by
 intro pins s σ H xs us Q I r h;have(a,kvs,rfl,ha,q):=h;have(u,rfl,ru):=eZ r;cases ru;have(z,y,xs,rr,o,es,ep,h1,h2,h3,h4,h5):=(show be X.prog X.w X.K H s.heap a (.dT kvs) from oO I.az ha);have hl:es.size=kvs.length:=by
  have:=congrArg List.length h4;rw[Array.length_toList,List.length_map,<-i4 rr]at this;exact this
 have hs:sizeLine=16777216:=sizeLine_eq;refine Xy y ⟨o,h1,h2,h3⟩ (by omega) ⟨.int kvs.length,H,I.tok _,⟨_,by rw[hl]⟩,q⟩
end
section
noncomputable def DN(u:U):Qb U:=(fo u).map λkvs=>.d<|.int kvs.length
theorem Ws:VC K Jn (f1 DN):=gH λv a u H Q h e q=>by
 have(kvs,ek,rfl):=qr.mp e;have(b,ws,rfl,h1,h2):=rD h ek;refine⟨b,ws,rfl,h1,?_⟩;rw[wm h2];exact q _ _ (λ_ _ z=>z) (.int _) Nw.data
noncomputable def vI:U->U->Qb U
 | .l xs,.d (.int k)=>if -1000000 < k/\k < 1000000/\xs.length * k.toNat<=sizeLine then some (.l (List.replicate k.toNat xs).flatten)else none
 | _,_=>none
theorem Ts:VO K Jb vI:=by
 intro x y a b u H Q ha hb e q;unfold vI at e;split at e
 .split at e
  .rename_i xs k hz
   cases e;have(p,us,rfl,h1,h2):=ha;cases DF.int_inv hb;refine⟨p,k,us,rfl,rfl,h1,by omega,by omega,by rw[h2.len]; exact hz.2.2,λr hr=>?_⟩;have s:=zU hr (.lst (List.replicate k.toNat us).flatten);exact q _ _ s ⟨r,_,rfl,zy,(E6 h2 _).kp s.kp⟩ λ_=>⟨r,rfl,hr⟩
  .cases e
 .cases e
end
section
variable{X:Cx}{k:Nat}
end
section
variable{X:Cx}
end
section
abbrev CQ(es:Array DictEntry)(i:Nat)(v:Qc):Prop:=∃ x,es[i]?=some x/\v=x.key
theorem Yw(hh:A.handled=none)(it d:Qg)(ne:d≠it)(es:Array DictEntry)(ep:Nat):WalksS prog w A it [it,d] [it] (λa b=>b=a) es.size (CQ es) (λi s=>s.heap.IsKeyIter it d i es.size ep/\eY s.heap d es ep) where
 sub:=λb hb=>by rw[qq.mp hb]; exact qp
 grefl:=λ_=>rfl
 gtrans:=λ_ _ _ a b=>b.trans a
 frame:=λi s h' tk st _ kk=>by
  have(k,o,e,r):=st;exact⟨k.at λo e=>kk it (by simp) o e,o,kk d (by simp) o e,r⟩
 item:=λi s Q E hi st hQ=>by
  have(k,r):=st;have(o,e,r'):=id r;refine Bx k r (x:=es[i]) (Ñ hi) λh' k' sb=>hQ _ _ ⟨_,Ñ hi,rfl⟩ ⟨k',o,(sb.2 d ne).trans e,r'⟩ ⟨λb o hb e=>(sb.2 b λz=>hb (by rw[z]; exact qq.mpr rfl)).trans e,rfl,rfl,rfl,qe _⟩
 done:=λs Q E st hQ=>ES hh st.1 st.2 (qe _) λh' eb=>hQ _ ⟨λb o hb e=>eb b o (λz=>hb (by rw[z]; exact qq.mpr rfl)) e,rfl,rfl,rfl,qe _⟩
 self:=λi s Q E st h=>wpAny_pyIter_keyiter st.1 h
theorem Zw{Q:Bool->Qd->Prop}(r:eY s.heap d es ep)(h:Q false s):wpAny (model prog w) A (Builtin.List.listLengthHint<|.ref d) Q E s:=by
 have hT:=r.typeIs;unfold Builtin.List.listLengthHint;refine qa<|wpAny_specialOf hT í.lookup ?_;generalize Qp:("dict.__len__":String)=id0
 wp_delta
 rw[show splitId id0=some ("dict", "__len__") from by subst Qp; decide +kernel];subst Qp;refine qa<|wpAny_isInstance (T := "dict") (b:=true) hT (by rw[isSubtype_type]; kernel_rfl) ?_;refine wpAny_ite_split (λtu=>absurd tu (by decide)) λ_=>?_;refine wpAny_ite_split (λ_=>?_) (λtu=>absurd (by decide +kernel) tu);exact qa<|wpAny_typeOf hT<|qb h
theorem NS(hh:A.handled=none)(hd:(d==sysModules)=false)(r:eY s.heap d es ep)(hlen:es.size<=sizeLine)(S:Qg)(res:Qc)(c₀:Nat)(hS:s.heap.get? S=some {cls:=.type "list",data:=.seq #[] c₀})
  (hR:∀ h' tk cZ c',(∀ b o,b≠S->s.heap.get? b=some o->h'.get? b=some o)->h'.get? S=some {cls:=.type "list",dict:=none,data:=.seq cZ c',slots:=#[]}->ItemsOf (CQ es) cZ es.size->R (.ok<|.ret res) {s with heap:=h',toks:=tk}):
  wpAny (model prog w) A.in1 (Builtin.List.listExtendWith (.ref S) (.ref d) res)
   (λfin s'=>match fin with | .done f=>R (.ok f) s' | .again c'=>c'.quiet=true/\codeAny (model prog w) A c' R s') (λe s'=>R (.error e) s') s:=by
 have hT:=r.typeIs;have(o,eo,xo,dat):=id r;have Cn:S≠d:=λe=>by
  rw[e,eo]at hS;cases qy hS;cases dat
 have HE:d < s.heap.objs.size:=qi eo;have HI:S < s.heap.objs.size:=qi hS;have HJ:S≠s.heap.objs.size:=qk HI;have hSf:S∉[s.heap.objs.size,d]:=λhm=>by
  rcases qw.mp hm with e|e
  .exact HJ e
  .exact Cn (qq.mp e)
 have W:=Yw (prog:=prog) (w:=w) (A:=A.in1) hh s.heap.objs.size d (qk HE) es ep;have key:∀ (h:Heap) (c₁ tk:Nat),h.IsKeyIter s.heap.objs.size d 0 es.size ep->(∀ b o,b≠S->s.heap.get? b=some o->h.get? b=some o)->
   h.get? S=some {cls:=.type "list",data:=.seq #[] c₁}->codeAny (model prog w) A (.builtin "list.extend.loop" ⟨[.ref S,.ref s.heap.objs.size,res],[]⟩) R {s with heap:=h,toks:=tk}:=by
  intro h c₁ tk hit hk gy;refine codeAny_extend_loopS W hlen S hSf res es.size 0 _ #[] c₁ rfl (Ð _) ⟨hit,o,hk d o (Ne.symm Cn) eo,xo,dat⟩ gy (ItemsOf.nil _) λs' cZ c' hm yo fJ=>?_;rw[Moved.eq_with hm];refine hR s'.heap s'.toks cZ c' (λb o hb e=>hm.heap b o (λsP=>?_)<|hk b o hb e) yo fJ;rcases qw.mp sP with e'|sP
  .exact hb e'
  .exact absurd (qi e) (by rw[qq.mp sP]; exact Ç _)
 unfold Builtin.List.listExtendWith;refine qa<|wpAny_typeOf hT ?_;have h1:Builtin.List.listSameRef (.ref S) (.ref d)=false:=by simp[Builtin.List.listSameRef,Cn]
 have h2:(Value.type "dict"==Value.type "list")=false:=by decide
 have h3:(Value.type "dict"==Value.type "tuple")=false:=by decide
 simp only[h1,h2,h3,Bool.or_false,Bool.false_eq_true,if_false];refine qa<|Ft hd r λh1 hit kk=>?_;refine qa<|wpAny_holding<|Zw (s:={s with heap:=h1}) ⟨o,kk _ _ eo,xo,dat⟩ ?_;have gy:=kk _ _ hS;refine wpAny_ite_split (λ_=>?_) λ_=>qb ⟨plainId_quiet F.plain_extend_loop _,key _ c₀ s.toks hit (λb o _ e=>kk _ _ e) gy⟩;refine qa<|wpAny_rule ?_;refine qa ?_;show wpAny _ _ (updateSeq S (·.push .none) >>= λ_=>updateSeq S (·.pop)) _ _ _;refine qa<|wpAny_updateSeq gy rfl ?_;have iM:=Å (Obj.mapSeq (·.push Value.none)) gy rfl;refine wpAny_updateSeq (hz:=by seq_fits) iM rfl ?_;have yn:=Å (Obj.mapSeq (·.pop)) iM rfl;refine qb ⟨plainId_quiet F.plain_extend_loop _,key _ _ s.toks ?_ (λb o hb e=>?_) yn⟩
 .exact hit.at λo e=>(Á _ _ HJ).trans<|(Á _ _ HJ).trans e
 .exact(Á _ _<|Ne.symm hb).trans ((Á _ _<|Ne.symm hb).trans<|kk _ _ e)
theorem zhI(hh:A.handled=none)(hd:(d==sysModules)=false)(r:eY s.heap d es ep)(hlen:es.size<=sizeLine)
  (hQ:∀ h' tk cZ c',(∀ b o,s.heap.get? b=some o->h'.get? b=some o)->h'.get? s.heap.objs.size=some {cls:=.type "list",dict:=none,data:=.seq cZ c',slots:=#[]}->ItemsOf (CQ es) cZ es.size->Q (.ref s.heap.objs.size) {s with heap:=h',toks:=tk}):
  wpAny (model prog w) A (call (.type "list") [.ref d]) Q E s:=by
 refine callType_codes (Q₁:=λobj aC=>obj=.ref s.heap.objs.size/\aC={s with heap:=s.heap.push {cls:=.type "list",data:=.seq #[]}}) F.called_list (F.typeCall_list_1 _) F.entry_list_init
  (code_list_new _ ⟨rfl,rfl⟩) λobj aC sJ=>?_
 have(rfl,rfl):=sJ;have(o,eo,xo,dat):=id r;have hS:(s.heap.push {cls:=.type "list",data:=.seq #[]}).get? s.heap.objs.size=some {cls:=.type "list",data:=.seq #[]}:=qg _ rfl;refine⟨⟨_,hS,rfl⟩,F.args_list_init_2 _ _,?_⟩;have Cn:s.heap.objs.size≠d:=Ne.symm (qk<|qi eo);show wpAny _ _ (do let old <-Builtin.List.listItems (.ref s.heap.objs.size); Builtin.List.listUpdate (.ref s.heap.objs.size) (λ_=>#[]); letGo old.toList.reverse; Builtin.List.listExtendWith (.ref s.heap.objs.size) (.ref d) .none) _ _ _;refine qa ?_;unfold Builtin.List.listItems;refine qa<|wpAny_seqItems (s:={s with heap:=s.heap.push {cls:=.type "list",data:=.seq #[]}}) hS rfl<|qb ?_;show wpAny _ _ (updateSeq s.heap.objs.size (λ_=>#[]) >>= λ_=>letGo (#[]:Array Qc).toList.reverse >>= λ_=>Builtin.List.listExtendWith (.ref s.heap.objs.size) (.ref d) .none) _ _ _;refine qa<|wpAny_updateSeq (s:={s with heap:=s.heap.push {cls:=.type "list",data:=.seq #[]}}) hS rfl ?_;have iM:=Å (Obj.mapSeq λ_=>(#[]:Array Qc)) hS rfl;have j3:∀ b o,s.heap.get? b=some o->((s.heap.push {cls:=.type "list",data:=.seq #[]}).update s.heap.objs.size<|Obj.mapSeq λ_=>(#[]:Array Qc)).get? b=some o :=
  λb o e=>(Á _ _<|Ne.symm<|qk<|qi e).trans<|qd _ e
 refine qa<|wpAny_letGo ?_;refine NS (A:=A.in1) (s:={s with heap:=(s.heap.push {cls:=.type "list",data:=.seq #[]}).update s.heap.objs.size (Obj.mapSeq λ_=>(#[]:Array Qc))}) hh hd ⟨o,j3 _ _ eo,xo,dat⟩ hlen s.heap.objs.size .none _ iM λh' tk cZ c' hk yo fJ=>?_;exact⟨rfl,hQ h' tk cZ c' (λb o e=>hk b o (qk<|qi e)<|j3 b o e) yo fJ⟩
end
section
variable{X:Cx}
def Kr(K:qc):Qa V->Hp->VK->Prop:=λxs H Q=>∃ a kvs,xs=[.ref a]/\Rd H a (.dT kvs)/\∀ ys l,Paired (λp y=>∃ b,y=V.ref b/\aM K H b (p.1.map kV)) kvs ys->H l=none->Q (.ref l) (upd H l<|.lst ys)
theorem A2:∀ {kvs:Qa (Qa Key×V)} {xs:Qa (Qa Key×Qg×Qc)},KT K H kvs xs->Paired (λp y=>∃ b,y=V.ref b/\aM K H b (p.1.map kV)) kvs (xs.map λx=>V.ref x.2.1)
 | _,_,.nil=>.nil
 | _,_,.cons hq t=>.cons ⟨_,rfl,hq.2.1⟩<|A2 t
theorem NC(K:qc)(hK:X.K=K)(hc:X.calm=true):du X (.type "list") (Kr K):=by
 subst hK;intro pins s σ H xs us Q I r h;have(a,kvs,rfl,ha,q):=h;have(u,rfl,ru):=eZ r;cases ru;have(z,y,xs,rr,o,es,ep,h1,h2,h3,h4,h5):=(show be X.prog X.w X.K H s.heap a (.dT kvs) from oO I.az ha);have hl:es.size=kvs.length:=by
  have:=congrArg List.length h4;rw[Array.length_toList,List.length_map,<-i4 rr]at this;exact this
 refine zhI (I.ok.hd hc) y ⟨o,h1,h2,h3⟩ (by omega) λh' tk acc c' kk hS fJ=>?_;have ks:=A2 rr;have hn:H s.heap.objs.size=none:=I.az.fresh (qe _);refine⟨.ref s.heap.objs.size,_,I.laid (t':=tk) (a:=s.heap.objs.size) (o:=.lst (xs.map λx=>V.ref x.2.1)) kk (qe _) ⟨by rw[List.length_map,<-i4 rr]; exact z,acc.toList,c',?_,by simpa using hS⟩,rfl,q _ _ ks hn⟩;refine Nn (by
  have a1:=fJ.1;have a2:=i4 rr;have a3:acc.toList.length=acc.size:=Array.length_toList;rw[List.length_map];omega) λj x w e1 e2=>?_
 rw[List.getElem?_map]at e1;have(y,ey,rfl):=qr.mp e1;have(e,ee,rfl):=fJ.2 j w (by simpa using e2);have:es[j]?=some (entryOfKey (tupleKind<|zA X.prog X.w) y):=by rw[entry_at h4 j,ey]; rfl
 rw[this]at ee;cases ee;rfl
end
section
noncomputable def uu(u:U):Qb U:=(fo u).map λkvs=>.l<|kvs.map λp=>gN p.1
theorem Ma:VC K (Kr K) (f1 uu):=gH λv a u H Q h e q=>by
 have(kvs,ek,rfl):=qr.mp e;have(b,ws,rfl,h1,h2):=rD h ek;refine⟨b,ws,rfl,h1,λys l pr hl=>?_⟩;have sm:=zU hl (.lst ys);have ds:aK K H ys (kvs.map λp=>gN p.1):=by
  clear h1 e ek sm q
  induction h2 generalizing ys with
  | nil=>cases pr; exact .nil
  | cons hq t ih=>
   cases pr with
   | cons hp u=>
    have(c,rfl,tp):=hp;rw[hq.1]at tp;exact .cons (.tup tp wG)<|ih _ u
 exact q _ _ sm ⟨l,_,rfl,zy,ds.kp sm.kp⟩ λ_=>⟨l,rfl,hl⟩
end
theorem zAn:∀ {us:Qa α},us.length=1->∃ a,us=[a]
 | [a],_=>⟨a,rfl⟩
theorem IG:∀ {us:Qa α},us.length=2->∃ a b,us=[a,b]
 | [a,b],_=>⟨a,b,rfl⟩
theorem zAo:∀ {us:Qa α},us.length=3->∃ a b c,us=[a,b,c]
 | [a,b,c],_=>⟨a,b,c,rfl⟩
theorem zAp:∀ {us:Qa α},us.length=4->∃ a b c d,us=[a,b,c,d]
 | [a,b,c,d],_=>⟨a,b,c,d,rfl⟩
theorem zAq:∀ {us:Qa α},us.length=5->∃ a b c d e,us=[a,b,c,d,e]
 | [a,b,c,d,e],_=>⟨a,b,c,d,e,rfl⟩
structure Zs where
 P:Qe
 w:Qh
 K:qc
 mg:Str->Qb Qc
 base:Heap
def cD(K:qc)(x:Str)(st:Stmt):Prop:=∃ (f:Qg) (fd:FuncData),jo K x x st f fd/\PySem.W.nsIn K mainGlobals x=some (some<|.ref f)
theorem fnK{f:Qg}{oc:Qc}{od an:Qb Qg}{kV doc pm bo ct:Qc}(a:PySem.W.nsIn K mainGlobals x=some (some<|.ref f))(l:K.lookup f=some ⟨oc,od,.func<|PySem.W.fnOf x x (uT st) (lK st) (fy st) .none kV doc pm an bo ct,j4⟩)
  (c:PySem.W.codeIn K bo x=true) (k:PySem.W.keepIn K (.ref f)=true):cD K x st:=⟨f,_,Va l c k,a⟩
def cQ(Z:Zs)(x:Str)(st:Stmt):Prop:=∃ (f:Qg) (fd:FuncData),jo Z.K x x st f fd/\Z.mg x=some (.ref f)
theorem cD.z{base:Heap}(a:cD K x st)(X:K.In h)(G:h.Ns mainGlobals mg):cQ ⟨P,w,K,mg,base⟩ x st:=by
 have(f,fd,F,g):=a;exact⟨f,fd,F,PySem.W.mg_of X G g⟩
abbrev Zs.C(Z:Zs)(x:Str)(k:Nat)(ps:Qa Str)(n:Nat)(F:FD):Prop:=CM Z.P Z.w Z.K Z.mg Z.base x k ps (lP Z.K n F)
abbrev Zs.X(Z:Zs)(x:Str)(k:Nat)(ps:Qa Str)(n:Nat)(F:FX):Prop:=IC Z.P Z.w Z.K Z.mg Z.base x k ps (spX Z.K n F)
section
variable{Z:Zs}{ps:Qa Str}{k nn:Nat}{m:MS}{f:Qg}
abbrev Jm(Z:Zs)(x:Str)(st:Stmt)(k:Nat)(pn:Qa Nat)(m:MS)(N:Qa Str)(f:Qg):Prop:=∀ {bo:Qc} {A:Qf} {outer:Qa Env} {s:Qd} {H:Hp} {E:XK},N.Nodup->aD k (A.deeper<|envOfC x (fy st) s.heap.objs.size f bo)->
 ∃ t,VS Z.K pn Rv t m/\Wr (dF (l9 gF Z.P Z.w Z.K Z.mg Z.base N x (fy st) f bo A outer s H E).r9 (lK st) t)
theorem Pr(F:jo Z.K x x st f fd)(N:Qa Str)(bU:Jm Z x st k pn m N f)(S:bE N ps (fy st):=by exact⟨rfl,rfl,rfl,by decide +kernel,rfl,by decide +kernel,by decide +kernel⟩)(Ci:ps.length=n:=by rfl)(hN:N.length=nn:=by rfl)(Ck:n<=nn:=by decide):
  bW Z.P Z.w Z.K Z.mg Z.base gF (k+1) f fd ps (lP Z.K n<|b8 nn pn m):=F.okV S Ci hN Ck λbo A outer s H E hr=>let ⟨t,a,b⟩:=bU S.nd hr; ⟨t,b,a⟩
theorem de(A:cQ Z x st)(N:Qa Str)(bU:∀ {f},Jm Z x st k pn m N f)(S:bE N ps (fy st):=by exact⟨rfl,rfl,rfl,by decide +kernel,rfl,by decide +kernel,by decide +kernel⟩)(Ci:ps.length=n:=by rfl)(hN:N.length=nn:=by rfl)(Ck:n<=nn:=by decide)
  (hb:∀ (kV doc pm:Qc) (an:Qb Qg) (bo ct:Qc) (us:Qa Qc),us.length=ps.length->bindArgs (PySem.W.fnOf x x (uT st) (lK st) (fy st) .none kV doc pm an bo ct) ⟨us,[]⟩=pure (ps.zip us):=by
   intro _ _ _ _ _ _ us hl
   first
   | (have(_,rfl):=zAn hl; rfl)
   | (have(_,_,rfl):=IG hl; rfl)
   | (have(_,_,_,rfl):=zAo hl; rfl)
   | (have(_,_,_,_,rfl):=zAp hl; rfl)
   | (have(_,_,_,_,_,rfl):=zAq hl; rfl)
   | (cases(Ì hl); rfl)):Z.C x (k+1) ps n (b8 nn pn m):=
 let ⟨f,fd,F,g⟩:=A; ⟨⟨f,fd,Pr F N bU S Ci hN Ck,F.binds hb,F.kp,g⟩⟩
end
section
variable{ρ:En}
end
end L2
namespace L2
open PySem
section
variable{a:α}{f:α->Qb β}{R:β->Prop}{t:Ph f}
theorem Vv:Wo (some a) (Co f t R)=Wo (f a) R:=dM
theorem Vu{x:Fl}{Q:Fl->Prop}{P:En->Prop}:Wo (some x) (oI Q P)=oI Q P x:=dM
end
end L2
namespace L2
open PySem PySem.Spec PyProof.Rows
theorem zjY:typeLookup (.type "list") "keys"=pure none:=by rw[typeLookup_type,builtinLookup_eq_fast]; kernel_rfl
section
variable{g:Array GenState}{d:Drawn}{t:Nat}{os:OsState}{items:Array Qc}
theorem Wp:(Str.ofString (toString "'"++toString ((Manifest.find? "list").elim "list" λx=>x.tpName)++toString "' object has no attribute '")++Str.ofString "keys"++Str.ofString "'").length<=sizeLine:=by decide +kernel
theorem Zv{tk:Tok}{Q:Fin->Qd->Prop}(hx:h.get? a=some ⟨.type "list",none,.seq items n,sl⟩)(hh:A.handled=none)
  (hq:∀ h' tk e,qP h h' e->E (.ref e) ⟨h',g,d,tk,os⟩):
  wpAny (model prog w) A (Builtin.«object.__getattribute__» ⟨[.ref a,.str "keys" tk],[]⟩) Q E ⟨h,g,d,t,os⟩:=by
 have hT:(⟨h,g,d,t,os⟩:Qd).TypeIs (.ref a) "list":=⟨_,hx,rfl⟩;have f4:=zjY
 repeat (any_goals (first|assumption|wp_step))
 exact NF hh Wp hq
theorem Yv{tk:Tok}(hx:h.get? a=some ⟨.type "list",none,.seq items n,sl⟩)(hh:A.handled=none)
  (hq:∀ h' tk e,qP h h' e->R (.error<|.ref e) ⟨h',g,d,tk,os⟩):
  codeAny (model prog w) A (.call (.builtin "list.__getattribute__") ⟨[.ref a,.str "keys" tk],[]⟩) R ⟨h,g,d,t,os⟩ :=
 codeAny_call_builtin õ.plain F.entry_list_ga (õ.check _ _ _ _ _ _ _ _ (show(⟨h,g,d,t,os⟩:Qd).TypeIs (.ref a) "list" from⟨_,hx,rfl⟩) (F.args_list_getattribute_2 _ _)<|Zv hx hh hq)
theorem zmD:typeLookup (.type "list") "__getattr__"=pure none:=by rw[typeLookup_type,builtinLookup_eq_fast]; kernel_rfl
theorem Ul{tk:Tok}(hx:h.get? a=some ⟨.type "list",none,.seq items n,sl⟩)(hh:A.handled=none)(hq:∀ h' tk e,qP h h' e->E (.ref e) ⟨h',g,d,tk,os⟩):
  wpAny (model prog w) A (getAttrBy (.ref a) (.str "keys" tk) false) Q E ⟨h,g,d,t,os⟩:=by
 have hT:(⟨h,g,d,t,os⟩:Qd).TypeIs (.ref a) "list":=⟨_,hx,rfl⟩;have f2:=õ.lookup;have f3:=õ.bind (.ref a);have f5:=zmD
 repeat (any_goals (first|assumption|wp_step))
 refine Yv hx hh λh' O7 e lk=>?_;have(kk,ob,eo,ec):=id lk;show wpAny _ _ (getattributeRaised _ _ _ _ _ _ _) _ _ _;unfold getattributeRaised;refine qa<|wpAny_isInstance (T := "AttributeError") ⟨_,eo,ec⟩ wL ?_;rw[if_pos rfl];refine qa ?_;show wpAny _ _ (typeLookup (.type "list") "__getattr__") _ _ _;refine wpAny_of_eq f5 ?_;exact wpAny_throw<|hq _ _ _ lk
theorem Yu{Q:Qb Qc->Qd->Prop}(hx:s.heap.get? a=some ⟨.type "list",none,.seq items n,sl⟩)(hh:A.handled=none)(hq:∀ h' tk,(∀ b o,s.heap.get? b=some o->h'.get? b=some o)->Q none {s with heap:=h',toks:=tk}):
  wpAny (model prog w) A (getAttr? (.ref a) "keys") Q E s:=by
 unfold getAttr?;refine qa<|wpAny_mkText ?_;unfold getAttrBy?;refine qa<|wpAny_attempt ?_;refine Ul (t:=s.toks+1) (g:=s.gens) (d:=s.drawn) (os:=s.os) hx hh λh' tk e hZ=>?_;have(kk,ob,eo,ec):=hZ;refine qa<|wpAny_isInstance (T := "AttributeError") ⟨_,eo,ec⟩ wL ?_;rw[if_pos rfl];exact qb<|hq _ _ kk
end
section
variable{X:Cx}{D:Qg}{xs:Qa V}
theorem zlq(hh:A.handled=none)(hu:A.units+2 < cLine)(hD:H D=none)(e:H a=some (.lst xs))(hz:xs.length < sizeLine)(pa:bA X.K H xs kvs)
  (hR:∀ s',Inv X pins σ (upd H D<|.dT<|cO [] kvs) s'->R (.ok<|.ret .none) s'):
  ∀ (m i:Nat) (s:Qd),i+m=xs.length->Inv X pins σ (upd H D<|.dT<|cO []<|kvs.take i) s->s.heap.IsListIter it a i->(∀ o,cu X pins (upd H D o) it)->codeAny (model X.prog X.w) A (.builtin "dict.update.loop" ⟨[.ref D,.ref it,rawInt (i:Int),.none],[]⟩) R s:=by
 intro m
 induction m with
 | zero=>
  intro i s hi I st fp;cases(show i=xs.length by omega);have(_,ae,nn,rv,ep):=(show be X.prog X.w X.K _ s.heap a (.lst xs) from I.az a _ (by rw[zx<|zZ e hD]; exact e));have p:s.heap.IsList a ae.toArray:=⟨_,ep,rfl,nn,rfl⟩;have(f0,f1,f2,f3,f4,f5):=fp (.dT<|cO []<|kvs.take xs.length);refine codeAny_builtin BP ?_;rw[Around.under_plainId pF _];show wpAny _ A.in1 (pyNext (.ref it) >>= _) _ _ s;refine qa<|wpAny_pyNext_list_end hh st p (by have:=rv.length; simp; omega) λh' eb=>?_;have I1:Inv X pins σ (upd H D<|.dT<|cO []<|kvs.take xs.length) {s with heap:=h'}:=I.turned (t':=s.toks) (λb o hb e=>eb b o hb e) f0 f1 f3 f4 f5;rw[<-pa.len,List.take_length]at I1;show wpAny _ A.in1 (Builtin.Dict.addKeywords D [] >>= _) _ _ _;refine qa<|qb<|qb ?_;exact hR _ I1
 | succ m ih=>
  intro i s hi I st fp;have(q,k,ks,v,ex,ek,hq,hk):=pa.at (i:=i) (by omega);have(_,ae,nn,rv,ep):=(show be X.prog X.w X.K _ s.heap a (.lst xs) from I.az a _ (by rw[zx<|zZ e hD]; exact e));have p:s.heap.IsList a ae.toArray:=⟨_,ep,rfl,nn,rfl⟩;have(u,fG,ru):=rv.get ex;cases ru;have(f0,f1,f2,f3,f4,f5):=fp (.dT<|cO []<|kvs.take i);refine codeAny_builtin BP ?_;rw[Around.under_plainId pF _];show wpAny _ A.in1 (pyNext (.ref it) >>= _) _ _ s;refine qa<|wpAny_pyNext_list_item st p (x:=.ref q) (by simpa using fG) λh' dz sb=>?_;have I1:Inv X pins σ (upd H D<|.dT<|cO []<|kvs.take i) {s with heap:=h'}:=I.turned (t':=s.toks) (λb o hb e=>(sb.2 b hb).trans e) f0 f1 f3 f4 f5;have(oi,ei,ci,di):=id dz;have I2:=I1.pinned (fp:=[it]) (λb hb=>by rw[qq.mp hb]; exact fp _) (λb hb=>by rw[qq.mp hb]; exact⟨oi,ei,λv z=>by rw[di]at z; cases z⟩);have(qs,rq,pq,_):=I1.tuple (A3 hD hq);have(oq,eq,cq,nq,dq):=id pq;have(u2,rfl,r2):=IH rq;refine qa<|wpAny_holding<|qa<|wpAny_tryCatch ?_;unfold Builtin.Dict.pairItems;refine qa<|wpAny_typeOf (T := "tuple") ⟨_,eq,cq⟩ ?_;rw[if_pos (by decide:(Value.type "tuple"==Value.type "list" || Value.type "tuple"==Value.type "tuple")=true)];refine qa<|wpAny_seqItems eq dq<|qb ?_;show wpAny _ A.in1 (holding [Value.ref k,u2]<|dictSet D (.ref k) u2) _ _ _;have tk:=ND (kvs.take i) [];have lt:=List.length_take_le i kvs;refine wpAny_holding<|FK (X:=X) (show A.units+1+1 < cLine by omega) I2 zy (hk.keeps λb ys hb=>by rw[zx<|zZ hb hD]; exact hb) (by have:=pa.len; simp only[List.length_nil,Nat.zero_add]at tk; omega) r2 λs3 I3=>?_;have ups:upd (upd H D<|.dT<|cO []<|kvs.take i) D (.dT<|cc (cO []<|kvs.take i) ks v)=upd H D (.dT<|cO []<|kvs.take<|i+1):=by
   funext b
   by_cases hb:b=D
   .subst hb
    rw[zy,zy,List.take_add_one,ek];show _=some (HO.dT<|(kvs.take i++[(ks,v)]).foldl _ _);rw[List.foldl_append];rfl
   .rw[zx hb,zx hb,zx hb]
  rw[ups]at I3;have pin:=(I3.pin (it,oi)<|qx _<|qx _<|pK (qq.mpr rfl) ei).1;refine qb ⟨plainId_quiet pF _,ih (i+1) s3 (by omega) (I3.aY λp hp=>I3.pin p<|qx _<|É _ hp) ⟨oi,pin,ci,di⟩ fp⟩
end
section
variable{X:Cx}
def Kq(K:qc):Qa V->Hp->VK->Prop:=λxs H Q=>∃ a ys kvs,xs=[.ref a]/\H a=some (.lst ys)/\ys.length < sizeLine/\bA K H ys kvs/\∀ p,H p=none->Q (.ref p) (upd H p<|.dT<|cO [] kvs)
theorem zmE{k:Nat}(K:qc)(hK:X.K=K)(hr:aD k X.A)(hc:X.calm=true):du X (.type "dict") (Kq K):=by
 subst hK;intro pins s σ H xs us Q I r h;have(a,ys,kvs,rfl,ha,hz,pa,q):=h;have(u,rfl,ru):=eZ r;cases ru;have(_,ae,n,rv,ho):=(show be X.prog X.w X.K H s.heap a (.lst ys) from I.az a _ ha);have hD:H s.heap.objs.size=none:=I.az.fresh (qe _);have hh:=I.ok.hd hc;refine callType_codes (Q₁:=λobj aC=>obj=.ref s.heap.objs.size/\aC={s with heap:=s.heap.push {cls:=.type "dict",data:=.dict #[]}}) F.kt_called_dict (F.kt_typeCall_dict_1 _) F.entry_dict_init (kt_code_dict_new _ ⟨rfl,rfl⟩) ?_;rintro obj aC ⟨rfl,rfl⟩;have tn:Shared.TypeIs {s with heap:=s.heap.push {cls:=.type "dict",data:=.dict #[]}} (.ref s.heap.objs.size) "dict":=⟨_,qg _ rfl,rfl⟩;have lX:(s.heap.push {cls:=.type "dict",data:=.dict #[]}).get? a=some {cls:=.type "list",data:=.seq ae.toArray n}:=qd _ ho;have I1:=I.laid (a:=s.heap.objs.size) (o:=.dT []) (h':=s.heap.push {cls:=.type "dict",data:=.dict #[]}) (t':=s.toks) (λ_ _ q=>qd _ q) (qe _) (wX s.heap I.nW);refine⟨tn,F.args_dict_init_2 _ _,?_⟩;unfold Builtin.«dict.__init__»;refine qa ?_;unfold Builtin.Dict.selfAndRest;refine qa<|wpAny_notOrdered_dict tn ?_;show wpAny _ _ (pure (s.heap.objs.size,[Value.ref a])) _ _ _;refine qb ?_;show wpAny _ _ (Builtin.Dict.updateFrom "dict.__init__" s.heap.objs.size (.ref a) [] .none) _ _ _;unfold Builtin.Dict.updateFrom;refine qa<|wpAny_typeOf (T := "list") ⟨_,lX,rfl⟩ ?_;rw[if_pos (by decide)];refine qa<|Yu (s:={s with heap:=s.heap.push {cls:=.type "dict",data:=.dict #[]}}) lX hh λh2 jb m9=>?_;have I2:Inv X pins σ (upd H s.heap.objs.size<|.dT []) {s with heap:=h2,toks:=jb}:=I1.kept (t':=jb) m9;rw[if_pos (by rfl:(Option.isNone (none:Qb Qc))=true)];refine qa<|wpAny_rule<|qa<|wpAny_pyIter_list (show Heap.IsList h2 a ae.toArray from⟨_,m9 _ _ lX,rfl,n,rfl⟩) ?_;have I3:=I2.kept (t':=jb) (h':=h2.push {cls:=.type "list_iterator",data:=.fields #[.ref a,.int 0 0]}) λb o e=>qd _ e;refine qb ⟨plainId_quiet pF _,?_⟩;refine zlq (A:=X.A.in1) (H:=H) (xs:=ys) (kvs:=kvs) hh (by show X.A.units+1+2 < cLine; have:=hr.units; omega) hD ha hz pa (λs' I'=>⟨rfl,.ref _,_,I',rfl,q _ hD⟩) ys.length 0 _ (Nat.zero_add _) I3 ⟨_,qg _ rfl,rfl,rfl⟩ λo=>?_;refine I2.cX (qe _) ?_;have nz:H h2.objs.size=none:=by
  have:=I2.az.fresh (qe _)
  by_cases z:h2.objs.size=s.heap.objs.size
  .rw[z]; exact hD
  .rw[zx z]at this; exact this
 have ne:h2.objs.size≠s.heap.objs.size:=ċ (qi<|m9 _ _<|qg _ rfl);rw[zx ne];exact nz
end
noncomputable def AM:U->Qb U
 | .l ds=>(ds.mapM jI).bind λkvs=>if ds.length < sizeLine then some (.t<|t6 kvs)else none
 | _=>none
theorem Yt:VC K (Kq K) (f1 AM):=gH λv a u H Q h e q=>by
 unfold AM at e;split at e
 .rename_i ds
  have(kvs,ek,e):=zd e;split at e
  rotate_left
  .cases e
  rename_i hz;cases e;have(c,vs,rfl,tp,ts):=h;have(ws,pa,kd):=EB ts ek;refine⟨c,vs,ws,rfl,tp,by rw[ts.len]; exact hz,pa,λp hp=>?_⟩;have sm:=zU hp (.dT<|cO [] ws);exact q _ _ sm ⟨p,_,rfl,zy,(La kd .nil).kp sm.kp⟩ λ_=>⟨p,rfl,hp⟩
 .cases e
end L2
namespace L2
open PySem PySem.Spec
def Tt(b:Bool):Prop:=b=true
theorem Vt{b:Bool}(h:b=true):Tt b:=h
noncomputable def vD(ρ:En)(i:Nat):Bool:=((ρ[i]?).join).isSome
noncomputable def gt(ρ:En)(i:Nat):U:=((ρ[i]?).join).getD (.d .none)
theorem RD{ρ:En}:gt ρ i=((ρ[i]?).join).getD (.d .none):=rfl
theorem Sl{u v:U}:(some u:Qb U).getD v=u:=rfl
theorem K9{ρ:En}(h:vD ρ i=true):(ρ[i]?).join=some (gt ρ i):=by
 unfold vD at h;unfold gt;cases e:(ρ[i]?).join with
 | none=>rw[e]at h; cases h
 | some u=>rfl
noncomputable def tM(ρ:En):Ar->Bool
 | .s i=>vD ρ i
 | .u _=>true
noncomputable def ag(ρ:En):Ar->U
 | .s i=>gt ρ i
 | .u x=>x
theorem Sk{ρ:En}:ag ρ (.s i)=gt ρ i:=rfl
theorem Sj{ρ:En}{x:U}:ag ρ (.u x)=x:=rfl
theorem A1{ρ:En}{a:Ar}(h:tM ρ a=true):a.get ρ=some (ag ρ a):=by
 cases a with
 | s i=>exact K9 h
 | u x=>rfl
noncomputable def gs(ρ:En)(as:Qa Ar):Qa U:=as.map (ag ρ)
theorem Si{ρ:En}:gs ρ []=[]:=rfl
theorem Sh{ρ:En}{a:Ar}{as:Qa Ar}:gs ρ (a::as)=ag ρ a::gs ρ as:=rfl
theorem Ey{ρ:En}:∀ {as:Qa Ar},as.all (tM ρ)=true->bz ρ as=some (gs ρ as)
 | [],_=>rfl
 | a::as,h=>by
  rw[List.all_cons,Bool.and_eq_true_iff]at h;rw[N7,A1 h.1,bd,Ey h.2];rfl
noncomputable def CD(m:En->Qb α)(ρ:En):Qb α:=m ρ
def Cu(ρ:En)(t:Ph ρ)(Q:Ar×En->Prop)(u:U):Prop:=Q (.u u,ρ)
def Cw(ρ:En)(as:Qa Ar)(t:Ph ρ)(Q:Ar×En->Prop)(o:U×Qa U):Prop:=Q (.u o.1,wb ρ as o.2)
noncomputable def G8(f:U->Qb U)(p:Ar×En):Qb (Ar×En):=(p.1.get p.2).bind λx=>(f x).bind λu=>some (.u u,p.2)
noncomputable def Jl(mA:MA)(p:Ar×En):Qb (Qa Ar×En):=(mA p.2).bind λq=>some (p.1::q.1,q.2)
noncomputable def Ko(a:Ar)(q:Qa Ar×En):Qb (Qa Ar×En):=some (a::q.1,q.2)
noncomputable def Hb(f:Qa U->Qb U)(p:Qa Ar×En):Qb (Ar×En):=(bz p.2 p.1).bind λus=>(f us).bind λu=>some (.u u,p.2)
noncomputable def yM(f:FD)(p:Qa Ar×En):Qb (Ar×En):=if eV p.2 p.1=true then(bz p.2 p.1).bind λus=>(f us).bind λo=>some (.u o.1,wb p.2 p.1 o.2)else none
noncomputable def Dd(i:Nat)(p:Ar×En):Qb Fl:=(put p).bind λq=>some<|.nx<|q.2.set i<|some q.1
noncomputable def kB(p:Ar×En):Qb (Bool×En):=(p.1.get p.2).bind λu=>u.yA.bind λb=>some (b,p.2)
noncomputable def Ca(m1 m2:MS)(p:Bool×En):Qb Fl:=if p.1=true then m1 p.2 else m2 p.2
noncomputable def DM(p:Ar×En):Qb Fl:=some (.nx p.2)
section
variable{γ:Type}{ρ:En}{ma mb me:ME}{mA:MA}{mt:MT}{m1 m2:MS}{u x y:U}{d:D}{a b:Ar}{as:Qa Ar}{f:U->Qb U}{f2:U->U->Qb U}{fl:Qa U->Qb U}{F:FD}
variable{QE:Ar×En->Prop}{QA:Qa Ar×En->Prop}{QT:Bool×En->Prop}{QS:Fl->Prop}
theorem Vs{m:En->Qb α}{Q:α->Prop}:Wo (CD m ρ) Q=Wo (m ρ) Q:=rfl
theorem Vr{g:Ar×En->Qb β}{t:Ph ρ}{t2:Ph g}{R:β->Prop}:Cu ρ t (Co g t2 R) u=Wo (g (.u u,ρ)) R:=rfl
theorem YR{g:Ar×En->Qb β}{t:Ph g}{R:β->Prop}(h:Tt (vD ρ i)):Wo (zk i ρ) (Co g t R)=Wo (g (.s i,ρ)) R:=by
 rw[LW,K9 h,dM,iT,dM];rfl
theorem Sg{g:Ar×En->Qb β}{t:Ph g}{R:β->Prop}:Wo (mC d ρ) (Co g t R)=Wo (g (.u<|.d d,ρ)) R:=Jk
theorem zog(h:Tt (tM ρ a && tM ρ b)):Wo (yT f2 a (b,ρ)) QE=Wo (f2 (ag ρ a)<|ag ρ b) (Cu ρ ⟨0⟩ QE):=by
 have(h1,h2):=Bool.and_eq_true_iff.mp h;unfold yT;rw[A1 h1,bd,A1 h2,bd,zt];exact congrArg (Wo _)<|funext λ_=>dM
theorem Vq:Wo (m7 f ma ρ) QE=Wo (ma ρ) (Co (G8 f) ⟨0⟩ QE):=RK
theorem YQ(h:Tt (tM ρ a)):Wo (G8 f (a,ρ)) QE=Wo (f<|ag ρ a) (Cu ρ ⟨0⟩ QE):=by
 unfold G8;rw[A1 h,bd,zt];exact congrArg (Wo _)<|funext λ_=>dM
theorem zoh:Wo (zj me mA ρ) QA=Wo (me ρ) (Co (Jl mA) ⟨0⟩ QA):=Xk
theorem zlr:Wo (Jl mA (a,ρ)) QA=Wo (mA ρ) (Co (Ko a) ⟨0⟩ QA):=zt
theorem ziV{g:Qa Ar×En->Qb β}{t:Ph g}{R:β->Prop}:Wo (Ko a (as,ρ)) (Co g t R)=Wo (g (a::as,ρ)) R:=dM
theorem YO{g:Qa Ar×En->Qb β}{t:Ph g}{R:β->Prop}:Wo (zu ρ) (Co g t R)=Wo (g ([],ρ)) R:=LV
theorem Vp:Wo (bf fl mA ρ) QE=Wo (mA ρ) (Co (Hb fl) ⟨0⟩ QE):=RJ
theorem YN(h:Tt (as.all<|tM ρ)):Wo (Hb fl (as,ρ)) QE=Wo (fl<|gs ρ as) (Cu ρ ⟨0⟩ QE):=by
 unfold Hb;rw[Ey h,bd,zt];exact congrArg (Wo _)<|funext λ_=>dM
theorem YM:Wo (aO F mA ρ) QE=Wo (mA ρ) (Co (yM F) ⟨0⟩ QE):=TN
theorem zoi(h:Tt (eV ρ as && as.all (tM ρ))):Wo (yM F (as,ρ)) QE=Wo (F<|gs ρ as) (Cw ρ as ⟨0⟩ QE):=by
 have(h1,h2):=Bool.and_eq_true_iff.mp h;unfold yM;rw[if_pos h1,Ey h2,bd,zt];exact congrArg (Wo _)<|funext λ_=>dM
theorem Vo{us:Qa U}{g:Ar×En->Qb β}{t:Ph ρ}{t2:Ph g}{R:β->Prop}:Cw ρ as t (Co g t2 R) (u,us)=Wo (g (.u u,wb ρ as us)) R:=rfl
theorem YL:Wo (aS i me ρ) QS=Wo (me ρ) (Co (Dd i) ⟨0⟩ QS):=TM
theorem zoj{t:Ph (kM m2)}:Wo (Dd i (.u u,ρ)) (Co (kM m2) t QS)=Wo (CD m2<|ρ.set i<|some u) QS:=dM
theorem Sf:Wo (mB me ρ) QT=Wo (me ρ) (Co kB ⟨0⟩ QT):=zAm
theorem Vn{c:Bool}{g:Bool×En->Qb β}{t:Ph g}{R:β->Prop}:Wo (kB (.u<|.d<|.bool c,ρ)) (Co g t R)=Wo (g (c,ρ)) R:=dM
theorem YK:Wo (cy mt m1 m2 ρ) QS=Wo (mt ρ) (Co (Ca m1 m2) ⟨0⟩ QS):=TL
theorem YJ:Wo (Ca m1 m2 (true,ρ)) QS=Wo (m1 ρ) QS:=rfl
theorem YI:Wo (Ca m1 m2 (false,ρ)) QS=Wo (m2 ρ) QS:=rfl
theorem Z9:Wo (t8 me ρ) QS=Wo (me ρ) (Co DM ⟨0⟩ QS):=Xj
theorem zls{t:Ph (kM m2)}:Wo (DM (a,ρ)) (Co (kM m2) t QS)=Wo (CD m2 ρ) QS:=dM
theorem Z8{t:Ph (kM m2)}:Wo (cN ρ) (Co (kM m2) t QS)=Wo (CD m2 ρ) QS:=MZ
theorem Z7{p:Qa Ar×En}:yM F p=if eV p.2 p.1=true then(bz p.2 p.1).bind λus=>(F us).bind λo=>some (.u o.1,wb p.2 p.1 o.2)else none:=rfl
theorem Z6{p:Ar×En}:Dd i p=(put p).bind λq=>some (.nx<|q.2.set i<|some q.1):=rfl
theorem Vm{p:Ar×En}:kB p=(p.1.get p.2).bind λu=>u.yA.bind λb=>some (b,p.2):=rfl
theorem YH{p:Bool×En}:Ca m1 m2 p=if p.1=true then m1 p.2 else m2 p.2:=rfl
theorem zlt{p:Ar×En}:DM p=some (.nx p.2):=rfl
end
end L2
namespace L2
open PySem PySem.Spec PyProof.Rows
section
variable{K:Type}[DecidableEq K]{knd:HeapKind prog w K}
theorem N6:∀ {xs:Qa (K×Qg×Qc)} {j:Nat} {k:K} {p:Qg×Qc},(xs.map (·.1)).Nodup->xs[j]?=some (k,p)->xs.eraseIdx j=xs.filter λx=>!decide (x.1=k)
 | [],j,k,p,_,h=>by simp at h
 | x::xs,0,k,p,nd,h=>by
  cases(show some x=some (k,p) from h);rw[List.map_cons,List.nodup_cons]at nd;rw[List.filter_cons_of_neg (by simp)];show xs=_;refine(ĉ.mpr λy hy=>?_).symm;have:y.1≠k:=λe=>nd.1<|e▸À.mpr ⟨y,hy,rfl⟩;simpa using this
 | x::xs,j+1,k,p,nd,h=>by
  rw[List.map_cons,List.nodup_cons]at nd;have h':xs[j]?=some (k,p):=h;have:x.1≠k:=λe=>nd.1<|e▸À.mpr ⟨_,Ê h',rfl⟩;rw[List.eraseIdx_cons_succ,N6 nd.2 h',List.filter_cons_of_pos (by simpa using this)]
theorem M9(f:α->β):∀ (l:Qa α) (j:Nat),(l.map f).eraseIdx j=(l.eraseIdx j).map f
 | [],_=>rfl
 | _::_,0=>rfl
 | x::l,j+1=>congrArg (f x::·)<|M9 f l j
theorem zj0{xs:Qa (K×Qg×Qc)}{k:K}{Q:Qb DictEntry->Qd->Prop}(hu:knd.room A)(gx:knd.is s.heap k a)(hm:s.heap.DictOfH knd d xs)(hk:k∈xs.map (·.1))
  (hQ:∀ e h',h'.DictOfH knd d (xs.filter λx=>!decide (x.1=k))->Heap.SameBut d s.heap h'->Q (some e) {s with heap:=h',toks:=s.toks+knd.draws k})
  (hsz:xs.length<=sizeLine:=by size_fits):wpAny (model prog w) A (Builtin.Dict.takeOut d<|.ref a) Q E s:=by
 have(o,es,ep,ho,hc,hd,he,vq,hn):=hm;unfold Builtin.Dict.takeOut
 try with_reducible refine wpAny_holding ?_
 refine qa<|knd.pyHash hu gx ?_;refine qa<|wpAny_dictFind_heap (s:={s with toks:=s.toks+knd.draws k}) hu gx ho hd he vq hn ?_ ?_
 .intro ku
  exact absurd hk<|not_mem_keys_of_get ku
 .intro j p hj
  refine qa<|wpAny_dictEntries (s:={s with toks:=s.toks+knd.draws k}) ho hd ?_;have sY:es[j]?=some (entryOfKey knd (k,p)):=by rw[entry_at he,hj]; rfl
  rw[sY];refine qa<|wpAny_updateDictKeys (hz:=by have e:=size_of_entries he; omega) (s:={s with toks:=s.toks+knd.draws k}) ho hd<|qb<|hQ _ _ ⟨_,_,ep+1,Å _ ho<|Obj.isFreed_of_dict<|å hd _,
   hc.mapDictKeys _,å hd _,?_,?_,?_⟩<|È ..
  .rw[<-N6 hn hj]
   obtain⟨l⟩:=es;have he2:l=xs.map (entryOfKey knd):=he;subst he2;simp[M9]
  .intro x hx
   exact knd.keeps (vq x (Æ.mp hx).1) ho hd<|È ..
  .exact hn.sublist (List.filter_sublist.map _)
end
theorem KT.drop{xs:Qa (Qa Key×Qg×Qc)}(r:KT K H kvs xs)(k:Qa Key):KT K H (rA kvs k) (xs.filter λx=>!decide (x.1=k)):=by
 unfold KT at r ⊢
 induction r with
 | nil=>exact .nil
 | @cons p q ps qs h t ih=>
  unfold rA
  by_cases c:p.1=k
  .rw[List.filter_cons_of_neg (by simpa using c),List.filter_cons_of_neg (by simp[<-h.1,c])]
   exact ih
  .rw[List.filter_cons_of_pos (by simpa using c),List.filter_cons_of_pos (by simp[<-h.1,c])]
   exact .cons h ih
theorem KT.keys{xs:Qa (Qa Key×Qg×Qc)}(r:KT K H kvs xs):kvs.map (·.1)=xs.map (·.1):=by
 unfold KT at r
 induction r with
 | nil=>rfl
 | cons h t ih=>rw[List.map_cons,List.map_cons,ih,h.1]
section
variable{X:Cx}{b:Qg}
theorem zmG{k:Qa Key}{Q:Unit->Qd->Prop}(hu:A.units+1 < cLine)(I:Inv X pins σ H s)(e:H a=some (.dT kvs))(eb:aM X.K H b (k.map kV))(l:k∈kvs.map (·.1))(h:∀ s',Inv X pins σ (upd H a<|.dT<|rA kvs k) s'->Q () s'):
  wpAny (model X.prog X.w) A (delItem (.ref a)<|.ref b) Q E s:=by
 have(z,hd,xs,rel,dd):=vX I.cJ I.az e;have hz:xs.length<=sizeLine:=by rw[<-Paired.length rel]; exact z
 have hk:k∈xs.map (·.1):=by rw[<-rel.keys]; exact l
 refine wpAny_delItem_slot dd.typeIs (by decide) PySem.F.slot_dict_delitem<|wpAny_call_entry PySem.F.slot_dict_delitem dd.typeIs PySem.F.entry_dict_delitem ?_<|PySem.F.args_dict_delitem_2 _ _;unfold Builtin.«dict.__delitem__»;refine qa ?_;unfold Builtin.Dict.dictSlotArgs;refine qa<|wpAny_notOrdered_dict dd.typeIs ?_;show wpAny _ _ (pure (Value.ref a,Value.ref b)) _ _ s;refine qb ?_;show wpAny _ _ (Builtin.Dict.takeOut a (.ref b) >>= _) _ _ s;refine qa<|zj0 (hsz:=hz) (tupleKind_room_in1 hu) (lr I.cJ I.az eb) dd hk λen h' jz hs=>?_;refine qa<|wpAny_letGo<|qb ⟨.none,rfl,h _ ?_⟩;have(q,es,ep,hq,h2,h3,h4,_,h5):=jz;refine uV I (by rw[e]; exact True.intro) hs ⟨q,hq⟩ ⟨qA (Ô _ _) z,hd,_,(rel.drop k).keeps λc ys ec=>?_,q,es,ep,hq,h2,h3,h4,h5⟩;rw[zx (oP ec e (λz=>nomatch z))];exact ec
end
noncomputable def J3(K:qc)(td ty:TE):TS:=λD σ H=>td σ H λx H1=>ty σ H1 λy H2=>∃ a b kvs k,x=.ref a/\y=.ref b/\H2 a=some (.dT kvs)/\aM K H2 b (k.map kV)/\k∈kvs.map (·.1)/\D.nx σ (upd H2 a<|.dT<|rA kvs k)
theorem Wn{X:Cx}{i:Expr}(hr:aD n X.A)(ho:Wr (PE X o td))(hi:Wr (PE X i ty)):Wr (PS X (.Delete [.Subscript o i mW] pos)<|J3 X.K td ty):=by
 refine⟨?_⟩;intro pins s σ H D I h;refine wpAny_Delete<|wpAny_deleteEach_cons<|wpAny_delete_Subscript<|aF (ho.run pins s σ H _ I h) λu s1 ⟨x,H1,I1,rx,q1⟩=>aF (hi.run pins s1 σ H1 _ I1 q1) λiv s2 hZ=>?_;have(y,H2,I2,ry,a,b,kvs,k,ex,ey,e,eb,l,q2):=hZ;subst ex ey;obtain rfl:u=Value.ref a:=rx;obtain rfl:iv=Value.ref b:=ry;exact zmG (ui hr) I2 e eb l λs3 I3=>wpAny_deleteEach_nil ⟨σ,_,I3,q2⟩
noncomputable def t5[DecidableEq κ](kvs:Qa (κ×D))(k:κ):Qa (κ×D):=kvs.filter λkv=>decide<|kv.1≠k
noncomputable def yL(w:U)(y:D):Qb U:=match w with
 | .t kvs=>(bN y).bind λk=>if(kvs.any λkv=>decide<|kv.1=k)=true then some (.t<|t5 kvs k)else none
 | _=>none
noncomputable def Dc(i:Nat)(my:ME):MS:=λρ=>(ρ[i]?).join.bind λ_=>(my ρ).bind λq=>(q.1.get q.2).bind λy=>y.da.bind λy=>(q.2[i]?).join.bind λw=>(yL w y).bind λz=>some<|.nx<|q.2.set i<|some z
section
variable{EX:fK}
theorem bB.drop{kvs:Qa (Qa Key×D)}(h:bB K H ws kvs)(k:Qa Key):bB K H (rA ws k) (t5 kvs k):=by
 unfold bB at h ⊢
 induction h with
 | nil=>exact .nil
 | @cons p q ps qs h t ih=>
  unfold rA t5
  by_cases c:p.1=k
  .rw[List.filter_cons_of_neg (by simpa using c),List.filter_cons_of_neg (by simp[<-h.1,c])]
   exact ih
  .rw[List.filter_cons_of_pos (by simpa using c),List.filter_cons_of_pos (by simp[<-h.1,c])]
   exact .cons h ih
theorem bB.keys{kvs:Qa (Qa Key×D)}(h:bB K H ws kvs):ws.map (·.1)=kvs.map (·.1):=by
 unfold bB at h
 induction h with
 | nil=>rfl
 | cons h t ih=>rw[List.map_cons,List.map_cons,ih,h.1]
theorem Se{my:ME}(hy:VE K ty my):VS K pn EX (J3 K (mq i) ty) (Dc i my):=by
 intro ah A aq av ρ σ H f D s e k;have(w0,e0,e):=zd e;obtain⟨⟨b,aw⟩,e2,e⟩:=zd e;have(w,ew,e):=zd e;have(y,ey,e):=zd e;have(u,eu,e):=zd e;have(z,ez,e):=zd e;cases e;cases wD ey;have(v0,gC,_):=s.rs.rep i w0 (rO e0);refine⟨v0,gC,hy ρ σ H b aw _ s.rs e2 λyv H2 g2 k2=>?_⟩;have py:=k2.now s.rs g2 ew;have ex:=rO eu;unfold yL at ez;split at ez
 .rename_i kvs
  have(ks,ek,ez):=zd ez;split at ez
  .rename_i hm
   cases ez;have(w',cK,p1):=g2.rs.rep i _ ex;have(l,us,rfl,hl,ds):=p1;rw[gC]at cK;cases cK;have(kb,rfl,sS):=oZ py ek;refine⟨l,kb,us,ks,rfl,rfl,hl,sS,by rw[ds.keys]; have(kv,jh,ekv):=æ.mp hm; exact À.mpr ⟨kv,jh,of_decide_eq_true ekv⟩,k _ _<|(s.go g2).go<|Go.own (u':=.t (t5 kvs ks)) g2.rs ex rfl gC ?_⟩;have kp:=i3 hl trivial (.dT<|rA us ks);exact⟨l,_,rfl,zy,(ds.kp kp).drop ks⟩
  .cases ez
 .cases ez
end
section
variable{ρ:En}{my:ME}{QS:Fl->Prop}
theorem XU:Wo (Dc i my ρ) QS=Wo (ρ[i]?).join (Co (λ_=>(my ρ).bind λq=>(q.1.get q.2).bind λy=>y.da.bind λy=>(q.2[i]?).join.bind λw=>(yL w y).bind λz=>some<|.nx<|q.2.set i<|some z) ⟨0⟩ QS):=by
 show Wo (Option.bind _ _) QS=_;rw[zt]
end
section
theorem aM.obj{vs:Qa V}(gv:K.In h)(ok:bV P w K H h)(e:aM K H a vs):∃ o items n,h.get? a=some o/\o.cls=.type "tuple"/\o.data=.seq items n/\zO vs items.toList:=by
 rcases e with e|⟨o,ae,n,hk,hc,hs,_,r,_⟩
 case inr=>exact⟨o,ae,n,gv a o hk,hc,hs,r⟩
 obtain⟨_,ae,r,o,h1,h2,⟨n,h3⟩,_⟩:=(show be P w K H h a (.tup vs) from ok a _ e);exact⟨o,ae.toArray,n,h1,h2,h3,by simpa using r⟩
end
abbrev KX(K:qc)(H:Hp):Qa (Qa K3×V)->Qa (Qa K3×Qg×Qc)->Prop:=Paired λp q=>p.1=q.1/\N3 K H p.1 q.2.1/\zV p.2 q.2.2
section
variable{kvs:Qa (Qa K3×V)}{xs:Qa (Qa K3×Qg×Qc)}
end
section
variable{X:Cx}{o:Qb V}{r:Qc}
end
section
variable{C:Qg}{ps:Qa (Qg×HO)}
end
section
variable{X:Cx}{es:Qa Expr}{to:TE}{t:TA}{name:Str}{id:String}{r:V->Qa V->Hp->VK->Prop}
end
section
variable{C b:Qg}{ps:Qa (Qg×HO)}{fs:Qa (Str×PU)}{p:HO}
end
section
variable{C b:Qg}{ps:Qa (Qg×HO)}{fs:Qa (Str×PU)}{p:HO}
end
noncomputable def U.fl(c f:Str):U->Qb (Qa D)
 | .o c' fs=>if c'=c then(match fs.lookup f with|some (.l xs)=>some xs|_=>none)else none
 | _=>none
section
end
section
variable{X:Cx}{i:Expr}{k:Nat}
end
section
end
noncomputable def PP(K:qc)(H:Hp):HO->PU->Prop
 | .lst us,.l xs=>aK K H us xs
 | .dT us,.t xs=>bB K H us xs
 | .dX us,.x xs=>bB K H us xs
 | _,_=>False
noncomputable def U.fp(c f:Str):U->Qb PU
 | .o c' fs=>if c'=c then fs.lookup f else none
 | _=>none
section
variable{C b:Qg}{ps:Qa (Qg×HO)}{fs:Qa (Str×PU)}{p:HO}{u:PU}{ρ:En}{w:U}
end
noncomputable def PU.xs:PU->Qb (Qa<|Qa K3×D)
 | .x kvs=>some kvs
 | _=>none
section
variable{ρ:En}{C b:Qg}{ps:Qa (Qg×HO)}{fs:Qa (Str×PU)}{p:HO}{mk mv:ME}{EX:fK}
end
section
variable{X:Cx}
end
noncomputable def PU.ls:PU->Qb (Qa D)
 | .l xs=>some xs
 | _=>none
section
variable{ρ:En}{mk mv:ME}
end
section
variable{C C':Qg}
end
structure Iw (P:Qe) (w:Qh) (K:qc) (mg:Str->Qb Qc) (base:Heap) (c:Str) (m:Str) (k:Nat) (ps:Qa Str) (sp:Sp):Prop where
 ex:∃ (C f:Qg) (fd:FuncData),XN K c C/\Cls K C/\bW P w K mg base gF k f fd ps sp/\kZ K fd ps []/\Iu K C m f
section
variable{X:Cx}{m:Str}{C:Qg}{k:Nat}{ps:Qa Str}{es:Qa Expr}{t:TA}
end
section
variable{ps:Qa (Qg×HO)}{fs:Qa (Str×PU)}{m:Str}{C C':Qg}{t:TA}{ma:MA}
end
noncomputable def Uk:TE:=λ_ H Q=>∀ p,H p=none->Q (.ref p) (upd H p<|.dX [])
section
variable{b:Qg}
end
noncomputable def PU.new:PU->TE
 | .l _=>yP mn
 | .t _=>AL
 | _=>Uk
noncomputable def PU.ho:PU->HO
 | .l _=>.lst []
 | .t _=>.dT []
 | _=>.dX []
noncomputable def PU.nil:PU->Bool
 | .l []=>true
 | .t []=>true
 | .x []=>true
 | _=>false
section
variable{C:Qg}
end
section
variable{x C b:Qg}{ps:Qa (Qg×HO)}{fs fl:Qa (Str×PU)}{p:HO}{u:PU}
end
section
variable{C b l:Qg}{ps:Qa (Qg×HO)}
end
section
variable{mk mv:ME}{EX:fK}
end
section
variable{ρ:En}{mk mv me:ME}{ma:MA}{m:Str}{QE:Ar×En->Prop}{QS:Fl->Prop}{QT:Bool×En->Prop}{F:FD}{fl:Qa (Str×PU)}
end
abbrev Zs.M(Z:Zs)(c x:Str)(k:Nat)(ps:Qa Str)(n:Nat)(F:FD):Prop:=Iw Z.P Z.w Z.K Z.mg Z.base c x k ps (lP Z.K n F)
section
variable{Z:Zs}{q:Str}{ps:Qa Str}{k nn:Nat}{m:MS}
end
section
variable{K:Type}[DecidableEq K]{knd:HeapKind prog w K}
end
section
variable{X:Cx}
end
section
variable{EX:fK}{ρ ai:En}
end
section
end
section
variable{t1 i1 t2 i2:Expr}{it:Qc}{D:Qg}
end
section
variable{v:Qg}
end
section
variable{X:Cx}{H0:Hp}{res:Qc}{S:Qg}{o:Obj}
end
section
variable{X:Cx}
end
section
end
section
variable{X:Cx}{t1 i1 t2 i2:Expr}{D:Qg}
end
section
variable{X:Cx}{xs:Qa Str}{ts:Qa Str}{fp:Qa Qg}
end
section
variable{ρ ai cp ρb:En}{ir:St}{A:Qg->Prop}{D:Qg}
end
section
variable{ρ ai aj:En}
end
section
variable{z TI TO i1 i2 t1 t2:Qg}{k:Nat}{xs ys:Array Qc}{x y a b:Qc}
end
section
end
section
variable{X:Cx}{k:Nat}
end
section
variable{X:Cx}{k:Nat}
end
section
variable{ρ:En}
end
section
variable{X:Cx}
end
section
variable{ρ:En}{mi me mk mv:ME}{QE:Ar×En->Prop}{QS:Fl->Prop}{QI:Qa D×En->Prop}
end
section
variable{rs ps xs:Qa D}{pl ml kv:Qa (Qa K3×D)}
end
section
variable{ρ:En}{QI:Qa D×En->Prop}
end
end L2
namespace L2
open PySem PySem.Spec PyProof.Rows
open PySem.AutoSeq1 (wpAny_loadPart')
open MeetsSeq MeetsSeq2 MeetsSeq3 SeqRoads2
theorem M8{a:Int}{t u:Tok}(h:Q (.bool<|decide<|a > b) s):wpAny (model prog w) A (richCompare .Gt (.int a t)<|.int b u) Q E s:=gt_int h
theorem zmH(l b:Qg)(items aH:Array Qc)(n n2:Nat)(dd kE:Qb Qg)(sl jX:Array (Qb Qc))(xs ys:Qa Int):
  Meets (Builtin.«tuple.__gt__» ⟨[.ref l,.ref b],[]⟩)
   (λA R s=>s.heap.get? l=some {cls:=.type "tuple",dict:=dd,data:=.seq items n,slots:=sl}/\s.heap.get? b=some {cls:=.type "tuple",dict:=kE,data:=.seq aH n2,slots:=jX}/\
    IntsAre items.toList xs/\IntsAre aH.toList ys/\R (.ok<|.ret<|.bool<|aV ys xs) s):=
 .of_wp λprog w A R s h=>by
  have(hp,g,d,tk,os):=s;have(hl,hb,i1,i2,h):=h;have f2:=AutoSeq1.sub_tuple_tuple
  wp_walk using wpAny_loadPart' hl,wpAny_loadPart' hb,wpAny_forIn_list _ (λrest b s'=>b.1=none/\s'=⟨hp,g,d,tk,os⟩/\∃ (vs us:Qa Qc) (as bs:Qa Int),rest=vs.zip us/\IntsAre vs as/\IntsAre us bs/\(Array.size aH < Array.size items↔bs.length < as.length)/\
   R (.ok<|.ret<|.bool<|aV bs as) ⟨hp,g,d,tk,os⟩) _
  case turn=>
   rintro⟨y,x⟩ rest b s' ⟨dD,rfl,vs,us,as,bs,hz,j1,j2,hm,hR⟩;cases j1 with
   | nil=>cases hz
   | @cons a t vs as j1=>
    cases j2 with
    | nil=>cases hz
    | @cons c u us bs j2=>
     rw[List.zip_cons_cons]at hz;injection hz with Hg ko;injection Hg with e1 e2;subst e1 e2;refine qa<|wpAny_eqBool_int ?_
     by_cases e:a=c
     .subst e
      rw[beq_self_eq_true]
      wp_walk
      refine⟨rfl,rfl,vs,us,as,bs,ko,j1,j2,?_,?_⟩
      .rw[hm,qv,qv]
       omega
      .simpa [aV] using hR
     .rw[beq_eq_false_iff_ne.mpr e]
      wp_walk using M8
      refine⟨_,rfl,?_⟩;simp only[aV,if_neg<|Ne.symm e]at hR;exact hR
  case fin=>
   rintro⟨b1,b2⟩ s' ⟨dD,rfl,vs,us,as,bs,hz,j1,j2,hm,hR⟩;simp only at dD;subst dD
   wp_walk
   refine⟨_,rfl,?_⟩;cases j1 with
   | nil=>
    cases j2 with
    | nil=>
     have n2:¬Array.size aH < Array.size items:=λz=>absurd (hm.mp z)<|Ç _;simpa [Builtin.Tuple.tupleCompareSizes,aV,n2,Nat.le_of_not_lt n2] using hR
    | cons c u j2=>
     have n1:¬Array.size aH < Array.size items:=λz=>absurd (hm.mp z)<|Nat.not_lt_zero _;simpa [Builtin.Tuple.tupleCompareSizes,aV,n1,Nat.le_of_not_lt n1] using hR
   | cons a t j1=>
    cases j2 with
    | nil=>
     have n1:=hm.mpr (Nat.zero_lt_succ _);simpa [Builtin.Tuple.tupleCompareSizes,aV,n1] using hR
    | cons c u j2=>cases hz
  case h=>
   refine⟨rfl,rfl,Array.toList items,Array.toList aH,xs,ys,rfl,i1,i2,?_,h⟩;rw[<-IntsAre.length i1,<-IntsAre.length i2,Array.length_toList,Array.length_toList]
theorem zmI{l b:Qg}{items:Array Qc}{xs ys:Qa Int}(hl:s.heap.IsTuple l items)(hb:s.heap.IsTuple b aH)(i1:IntsAre items.toList xs)(i2:IntsAre aH.toList ys)(hu:A.units < cLine)
  (h:Q (.bool<|aV ys xs) s):wpAny (model prog w) A (richCompare .Gt (.ref l)<|.ref b) Q E s:=by
 obtain⟨⟨cls,dd,data,sl⟩,ho,hc,n,hd⟩:=id hl;obtain⟨⟨yy,kE,data2,jX⟩,lW,p6,n2,hd2⟩:=id hb;simp only at hc hd p6 hd2;subst hc hd p6 hd2;exact richCompare_meets_room (op:=.Gt) ⟨_,ho,rfl⟩ ⟨_,lW,rfl⟩ F.slot_tuple_gt F.entry_tuple_gt (F.args_tuple_gt_2 _ _) (zmH l b items aH n n2 dd kE sl jX xs ys) ⟨ho,lW,i1,i2,⟨(λx=>nomatch x),h⟩⟩ hu
noncomputable def gA(m:Int)(ns:Qa Int)(m':Int)(j6:Qa Int):Bool:=if m=m' then aV j6 ns else decide (m > m')
theorem Zu(l b p q:Qg)(ae cU:Array Qc)(n n2:Nat)(dd kE:Qb Qg)(sl jX:Array (Qb Qc))(x y:Int)(t u:Tok)(xs ys:Qa Int):
  Meets (Builtin.«tuple.__gt__» ⟨[.ref l,.ref b],[]⟩)
   (λA R s=>s.heap.get? l=some {cls:=.type "tuple",dict:=dd,data:=.seq #[.int x t,.ref p] n,slots:=sl}/\s.heap.get? b=some {cls:=.type "tuple",dict:=kE,data:=.seq #[.int y u,.ref q] n2,slots:=jX}/\
    IsTup s.heap p ae/\IsTup s.heap q cU/\IntsAre ae.toList xs/\IntsAre cU.toList ys/\A.units+1 < cLine/\R (.ok<|.ret<|.bool<|gA x xs y ys) s):=
 .of_wp λprog w A R s h=>by
  have(hp,g,d,tk,os):=s;have(hl,hb,t1,t2,i1,i2,hu,h):=h;have f2:=AutoSeq1.sub_tuple_tuple
  wp_walk using wpAny_loadPart' hl,wpAny_loadPart' hb,wpAny_forIn_list _ (λrest b s'=>b.1=none/\s'=⟨hp,g,d,tk,os⟩/\(rest=[(Value.int x t,Value.int y u),(.ref p,.ref q)]\/(x=y/\rest=[(.ref p,.ref q)])\/(x=y/\xs=ys/\rest=[]))) _
  case turn=>
   rintro⟨v,v'⟩ rest b s' ⟨dD,rfl,hz⟩;rcases hz with hz|⟨Cr,hz⟩|⟨_,_,hz⟩
   .injection hz with h1 h2
    cases h1;subst h2;refine qa<|wpAny_eqBool_int ?_
    by_cases e:x=y
    .subst e
     rw[beq_self_eq_true]
     wp_walk
     exact⟨rfl,rfl,.inr<|.inl ⟨rfl,rfl⟩⟩
    .rw[beq_eq_false_iff_ne.mpr e]
     wp_walk using M8
     refine⟨_,rfl,?_⟩;unfold gA at h;rw[if_neg e]at h;exact h
   .injection hz with h1 h2
    cases h1;subst h2;have(ob,eb,cb,nb,db):=id t1;have(GQ,vB,Il,GX,Ij):=id t2;refine qa<|wpAny_eqBool_tuple (knd:=zA prog w) hu ⟨ob,ae,nb,eb,cb,db,xa i1⟩ ⟨GQ,cU,GX,vB,Il,Ij,xa i2⟩ ?_
    by_cases e:xs=ys
    .rw[decide_eq_true<|wJ.mpr e]
     wp_walk
     exact⟨rfl,rfl,.inr<|.inr ⟨Cr,e,rfl⟩⟩
    .rw[decide_eq_false λz=>e<|wJ.mp z]
     have Ho:A.in1.units < cLine:=hu;have gt0:∀ {E:Qc->Qd->Prop} {Q:Qc->Qd->Prop},Q (.bool<|aV ys xs) ⟨hp,g,d,tk,os⟩->wpAny (model prog w) A.in1 (richCompare .Gt (.ref p)<|.ref q) Q E ⟨hp,g,d,tk,os⟩:=λh=>zmI (s:=⟨hp,g,d,tk,os⟩) t1 t2 i1 i2 Ho h
     wp_walk using gt0
     refine⟨_,rfl,?_⟩;unfold gA at h;rw[if_pos Cr]at h;exact h
   .cases hz
  case fin=>
   rintro⟨b1,b2⟩ s' ⟨dD,rfl,hz⟩;rcases hz with hz|⟨_,hz⟩|⟨Cr,e,_⟩
   .cases hz
   .cases hz
   .simp only at dD
    subst dD
    wp_walk
    refine⟨_,rfl,?_⟩;subst e;unfold gA at h;rw[if_pos Cr,jR]at h;simpa [Builtin.Tuple.tupleCompareSizes] using h
  case h=>exact⟨rfl,rfl,.inl rfl⟩
end L2
namespace L2
open PySem PySem.Spec PyProof.Rows
theorem Zt{l b p q:Qg}{ae cU:Array Qc}{x y:Int}{t u:Tok}{xs ys:Qa Int}(hl:s.heap.IsTuple l #[.int x t,.ref p])(hb:s.heap.IsTuple b #[.int y u,.ref q])(t1:IsTup s.heap p ae)(t2:IsTup s.heap q cU)(i1:IntsAre ae.toList xs)(i2:IntsAre cU.toList ys)(hu:A.units+2 < cLine)
  (h:Q (.bool<|gA x xs y ys) s):wpAny (model prog w) A (richCompare .Gt (.ref l)<|.ref b) Q E s:=by
 obtain⟨⟨cls,dd,data,sl⟩,ho,hc,n,hd⟩:=id hl;obtain⟨⟨yy,kE,data2,jX⟩,lW,p6,n2,hd2⟩:=id hb;simp only at hc hd p6 hd2;subst hc hd p6 hd2;exact richCompare_meets_room (op:=.Gt) ⟨_,ho,rfl⟩ ⟨_,lW,rfl⟩ F.slot_tuple_gt F.entry_tuple_gt (F.args_tuple_gt_2 _ _) (Zu l b p q ae cU n n2 dd kE sl jX x y t u xs ys) ⟨ho,lW,t1,t2,i1,i2,by omega,⟨(λx=>nomatch x),h⟩⟩ (by omega)
theorem NB(val:Nat->Int):∀ k,argBest (λi j=>decide<|val i < val j) k<=k/\∀ i,i<=k->val (argBest (λi j=>decide<|val i < val j) k)<=val i
 | 0=>⟨qe _,λi hi=>by cases Nat.le_zero.mp hi; exact Ò _⟩
 | k+1=>by
  have(h1,h2):=NB val k;unfold argBest
  by_cases c:val (k+1) < val (argBest (λi j=>decide<|val i < val j) k)
  .rw[if_pos<|decide_eq_true c]
   refine⟨qe _,λi hi=>?_⟩;rcases Ú i (k+1)with z|z
   .have:=h2 i (by omega)
    omega
   .have:i=k+1:=by omega
    subst this;exact Ò _
  .rw[if_neg (by rw[decide_eq_false c]; exact qf)]
   refine⟨by omega,λi hi=>?_⟩;rcases Ú i (k+1)with z|z
   .exact h2 i (by omega)
   .have:i=k+1:=by omega
    subst this;omega
def JF(K:qc):Qa V->Hp->VK->Prop:=λxs H Q=>∃ (p:Qg) (ns:Qa Int) (m:Int),xs=[.ref p]/\(bq K H p (ns.map V.int)\/bg K H p (ns.map V.int))/\m∈ns/\(∀ x∈ns,m<=x)/\Q (.int m) H
theorem J2{X:Cx}(K:qc)(hK:X.K=K)(hc:X.calm=true):du X (.builtin "min") (JF K):=by
 subst hK;intro pins s σ H xs us Q I r h;have(p,ns,m,rfl,hq,z1,z2,q):=h;have(u,rfl,ru):=eZ r;cases ru;have val:∀ {i:Nat} {v:Qc},(∃ x,(ns.map V.int)[i]?=some x/\zV x v)->∃ t,v=.int (ns.getD i 0) t/\ns[i]?=some (ns.getD i 0):=λ{i v} hx=>by
  have(x,ex,rx):=hx;rw[List.getElem?_map]at ex;cases eb:ns[i]? with
  | none=>rw[eb]at ex; cases ex
  | some b=>
   rw[eb]at ex;cases ex;have(t,rfl):=rx;have ew:ns.getD i 0=b:=by rw[qC,eb]; rfl
   exact⟨t,by rw[ew],by rw[ew]⟩
 have h0:0 < ns.length:=List.length_pos_of_mem z1;refine call_min_walk<|FI I (I.ok.hd hc) hq λit fp wr n P St s2 W st sU hn hP hI=>⟨it,fp,wr,n,P,St,_,rfl,W,st,sU,by rw[hn,List.length_map]; exact h0,CmpOf.ints_lt (λi=>ns.getD i 0) (λi v hv=>let ⟨t,e,_⟩:=val (hP i v hv); ⟨t,e⟩),λv h' tk hv hk=>?_⟩;rw[List.length_map]at hn;have(t,rfl,ei):=val (hP _ v hv);have(b1,b2):=NB (λi=>ns.getD i 0) (n - 1);have e:m=ns.getD (argBest (λi j=>decide<|ns.getD i 0 < ns.getD j 0)<|n - 1) 0:=by
  have le1:=z2 _ (Ê ei);have(k,hk,ek):=ß z1;have G4:=b2 k (by omega);have yw:ns.getD k 0=m:=by rw[qC,qm hk,ek]; rfl
  have G3:ns.getD (argBest (λi j=>decide<|ns.getD i 0 < ns.getD j 0)<|n - 1) 0<=ns.getD k 0:=G4;omega
 exact⟨.int m,H,hI h' tk hk,⟨t,by rw[e]⟩,q⟩
noncomputable def rC(n:Int)(ns:Qa Int):Int:=ns.foldl (λa b=>if b < a then b else a) n
theorem FW:∀ (ns:Qa Int) (n:Int),rC n ns∈n::ns/\∀ x∈n::ns,rC n ns<=x
 | [],n=>⟨qp,λx hx=>by rw[qq.mp hx]; exact Ò _⟩
 | b::ns,n=>by
  have(h1,h2):=FW ns (if b < n then b else n);have e:rC n (b::ns)=rC (if b < n then b else n) ns:=rfl;rw[e];have le:(if b < n then b else n)<=n/\(if b < n then b else n)<=b:=by split<;>omega
  refine⟨?_,λx hx=>?_⟩
  .rcases qw.mp h1 with z|z
   .rw[z]
    split
    .exact qo _ qp
    .exact qp
   .exact qo _ (qo _ z)
  .have h0:=h2 _ qp
   rcases qw.mp hx with rfl|hx
   .omega
   .rcases qw.mp hx with rfl|hx
    .omega
    .exact h2 x (qo _ hx)
section
noncomputable def tZ(u:U):Qb U:=u.items.bind λxs=>(iV xs).bind λns=>match ns with|n::ns=>some (.d<|.int<|rC n ns) | []=>none
theorem K8:VC K (JF K) (f1 tZ):=gH λv a u H Q h e q=>by
 have(xs,ex,e):=zd e;have(ns,en,e):=zd e;have(p,ys,rfl,s,d):=h.items ex;cases wU d en;cases ns with
 | nil=>cases e
 | cons n ns=>
  cases e;have(h1,h2):=FW ns n;exact⟨p,n::ns,rC n ns,rfl,s,h1,h2,q _ _ (λ_ _ z=>z) (.int _) Nw.data⟩
end
def uK(h:Heap)(es:Array DictEntry)(ks:Qa (Qa Int)):Prop:=∀ i x,es[i]?=some x->∃ b ae,x.key=.ref b/\IsTup h b ae/\IntsAre ae.toList (ks.getD i [])
noncomputable def fN(ks:Qa (Qa Int))(i j:Nat):Bool:=aV (ks.getD i []) (ks.getD j [])
section
variable{B:Qg}
theorem uK.kept(k:uK h es ks)(kk:∀ b o,o.cls=.type "tuple"->h.get? b=some o->h'.get? b=some o):uK h' es ks:=λi x e=>by
 obtain⟨b,ae,e1,⟨o,e2,e3,r⟩,i1⟩:=k i x e;exact⟨b,ae,e1,⟨o,kk b o e3 e2,e3,r⟩,i1⟩
theorem XS(hh:A.handled=none)(hu:A.units+2 < cLine)(h0:Heap)(nid:d≠it)(nB:it≠B)(ndB:d≠B)(kd:uK h0 es ks)(tB:∀ o,h0.get? B=some o->o.cls≠.type "tuple")(tI:∀ o,h0.get? it=some o->o.cls≠.type "tuple"):
  ∀ (left j:Nat) (s:Qd) (vb:Qc) (c:Nat) (x:DictEntry),es.size - (j+1)=left->j+1<=es.size->(∀ b o,b≠it->b≠B->h0.get? b=some o->s.heap.get? b=some o)->s.heap.IsKeyIter it d (j+1) es.size ep->eY s.heap d es ep->es[argBest (fN ks) j]?=some x->vb=x.key->s.heap.get? B=some {cls:=.type "list",dict:=none,data:=.seq #[vb,vb] c,slots:=#[]}->
  (∀ h' y,es[argBest (fN ks)<|es.size - 1]?=some y->(∀ b o,b≠it->b≠B->s.heap.get? b=some o->h'.get? b=some o)->R (.ok<|.ret y.key) {s with heap:=h'})->
  codeAny (model prog w) A (.builtin "min.loop" ⟨[.ref it,.none,.ref B],[]⟩) R s:=by
 have nm:(toString "min"++toString ".loop":String) = "min.loop":=by decide
 intro left
 induction left with
 | zero=>
  intro j s vb c x e1 e2 kp ki rd ex Ic oB fin;have ej:j+1=es.size:=by omega
  refine codeAny_builtin PySem.F.entry_min_loop ?_;rw[Around.under_plainId PySem.F.plain_min_loop _];show wpAny _ A.in1 (seqItems? (.ref B) >>= _) _ _ s;refine qa<|wpAny_seqItems oB rfl ?_;show wpAny _ A.in1 (tryCatch (pyNext<|.ref it) _ >>= _) _ _ s;refine qa<|wpAny_tryCatch<|ES hh ki rd (by omega) λh1 eb=>?_;have dA:=eb B _ (Ne.symm nB) oB;show wpAny _ A.in1 (updateSeq B (λ_=>#[]) >>= _) _ _ _;refine qa<|wpAny_updateSeq dA rfl<|qa<|wpAny_letGo<|qb ?_;rw[Ic];refine fin _ x (by rw[<-ej]; exact ex) λb o hb hB e=>(Á _ _<|Ne.symm hB).trans<|eb b o hb e
 | succ left ih=>
  intro j s vb c x e1 e2 kp ki rd ex Ic oB fin;have lt:j+1 < es.size:=by omega
  refine codeAny_builtin PySem.F.entry_min_loop ?_;rw[Around.under_plainId PySem.F.plain_min_loop _];show wpAny _ A.in1 (seqItems? (.ref B) >>= _) _ _ s;refine qa<|wpAny_seqItems oB rfl ?_;show wpAny _ A.in1 (tryCatch (pyNext<|.ref it) _ >>= _) _ _ s;refine qa<|wpAny_tryCatch<|Bx ki rd (x:=es[j+1]) (Ñ lt) λh1 P2 sb=>?_;have lQ:∀ b o,b≠it->s.heap.get? b=some o->h1.get? b=some o:=λb o hb e=>(sb.2 b hb).trans e;have dA:=lQ B _ (Ne.symm nB) oB;have Pg:eY h1 d es ep:=by
   have(o,e,r):=rd;exact⟨o,lQ d o nid e,r⟩
  have P4:uK h1 es ks:=kd.kept λb o ht e=>lQ b o (λz=>tI o (z▸e) ht)<|kp b o (λz=>tI o (z▸e) ht) (λz=>tB o (z▸e) ht) e;have(b1,i1,k1,t1,n1):=P4 (j+1) es[j+1] (Ñ lt);have(b2,i2,k2,t2,n2):=P4 _ x ex;subst Ic;show wpAny _ A.in1 (tryCatch (holding [es[j+1].key,es[j+1].key]<|richCompare .Lt es[j+1].key x.key >>= _) _ >>= _) _ _ _;refine qa<|wpAny_tryCatch<|wpAny_holding<|qa ?_;rw[k1,k2];refine NV (s:={s with heap:=h1}) (A:=A.in1) t1 t2 n1 n2 (by show A.units+1 < cLine; omega) ?_;refine qa<|wpAny_holding<|wpAny_truthy_bool<|qa<|wpAny_letGo<|qb ?_;rw[k2]at oB dA;cases hb:aV (ks.getD (j+1) []) (ks.getD (argBest (fN ks) j) [])with
  | true=>
   rw[if_pos rfl];refine qa<|wpAny_updateSeq dA rfl<|qa<|wpAny_letGo ?_;rw[nm];refine qb ⟨plainId_quiet ā _,ih (j+1) _ (.ref b1) _ es[j+1] (by omega) lt (λb o h1 h2 e=>?_) ?_ ?_ ?_ k1.symm (Å _ dA rfl) λh2 y ey k2=>?_⟩
   .exact(Á _ _<|Ne.symm h2).trans (lQ b o h1<|kp b o h1 h2 e)
   .exact P2.at λo e=>(Á _ _<|Ne.symm nB).trans e
   .have(o,e,r):=Pg
    exact⟨o,(Á _ _<|Ne.symm ndB).trans e,r⟩
   .rw[argBest,if_pos (show fN ks (j+1) (argBest (fN ks) j)=true from hb)]
    exact Ñ lt
   .exact fin h2 y ey λb o h1 h3 e=>k2 b o h1 h3<|(Á _ _<|Ne.symm h3).trans<|lQ b o h1 e
  | false=>
   rw[if_neg qf];refine qa<|wpAny_letGo ?_;rw[nm];refine qb ⟨plainId_quiet ā _,ih (j+1) _ (.ref b2) c x (by omega) lt (λb o h1 h2 e=>lQ b o h1<|kp b o h1 h2 e) P2 Pg ?_ k2.symm dA λh2 y ey k2=>?_⟩
   .rw[argBest,if_neg (by rw[show fN ks (j+1) (argBest (fN ks) j)=false from hb]; exact qf)]
    exact ex
   .exact fin h2 y ey λb o h1 h3 e=>k2 b o h1 h3<|lQ b o h1 e
end
section
theorem Zr(hh:A.handled=none)(hu:A.units+3 < cLine)(hd:(d==sysModules)=false)(r:eY s.heap d es ep)(kd:uK s.heap es ks)(h0:0 < es.size)
  (fin:∀ h' y,es[argBest (fN ks)<|es.size - 1]?=some y->(∀ b o,s.heap.get? b=some o->h'.get? b=some o)->Q y.key {s with heap:=h'}):
  wpAny (model prog w) A (call (.builtin "min") [.ref d]) Q E s:=by
 have nm:(toString "min"++toString ".loop":String) = "min.loop":=by decide
 refine call_function_tree F.kind_min F.plain_min F.entry_min (F.args_min1 _) ?_;show wpAny _ A.in1 (Builtin.Builtins.bindParams "min" ["key", "default"] 0 ⟨[],[]⟩ >>= _) _ _ s;refine qa<|wpAny_of_eq (show Builtin.Builtins.bindParams "min" ["key", "default"] 0 ⟨[],[]⟩=pure [none,none] from rfl) ?_;refine qa<|qb<|qa<|Ft hd r λh1 ki k1=>?_;refine qa<|qB (s:={s with heap:=h1}) ?_;rw[nm];refine qb ⟨plainId_quiet ā _,?_⟩;have(oi,ei,ci,fi):=id ki;have lI:s.heap.objs.size < h1.objs.size:=qi ei;have(o,eo,ro):=id r;have ld:d < s.heap.objs.size:=qi eo;have p1:∀ b o,h1.get? b=some o->(h1.push {cls:=.type "list",data:=.seq #[]}).get? b=some o:=λb o e=>qd _ e;refine codeAny_builtin PySem.F.entry_min_loop ?_;rw[Around.under_plainId PySem.F.plain_min_loop _];show wpAny _ A.in1 (seqItems? (.ref _) >>= _) _ _ _;refine qa<|wpAny_seqItems (qg _ rfl) rfl ?_;show wpAny _ A.in1 (tryCatch (pyNext<|.ref s.heap.objs.size) _ >>= _) _ _ _;refine qa<|wpAny_tryCatch<|Bx (s:={s with heap:=h1.push {cls:=.type "list",data:=.seq #[]}}) (ki.at λo e=>p1 _ o e) ⟨o,p1 _ _<|k1 _ _ eo,ro⟩ (x:=es[0]) (Ñ h0) λh2 P1 sb=>?_;have lQ:∀ b o,b≠s.heap.objs.size->(h1.push {cls:=.type "list",data:=.seq #[]}).get? b=some o->h2.get? b=some o:=λb o hb e=>(sb.2 b hb).trans e;have dA:=lQ h1.objs.size _ (λz=>absurd lI (by rw[z]; exact Ç _)) (qg h1 (o:={cls:=.type "list",data:=.seq #[]}) rfl);show wpAny _ A.in1 (updateSeq h1.objs.size (λ_=>#[es[0].key,es[0].key]) >>= _) _ _ _;refine qa<|wpAny_updateSeq dA rfl ?_;rw[nm];have nB:s.heap.objs.size≠h1.objs.size:=qk lI;have vg:=Å (Obj.mapSeq λ_=>#[es[0].key,es[0].key]) dA rfl;have kk:∀ b o,s.heap.get? b=some o->(h2.update h1.objs.size<|Obj.mapSeq λ_=>#[es[0].key,es[0].key]).get? b=some o:=λb o e=>by
  have lb:=qi e;exact(Á _ _<|Ne.symm<|qk<|Ó lb lI).trans<|lQ b o (qk lb)<|p1 _ _<|k1 _ _ e
 have(oj,ej,cj,fj):=id P1;refine qb ⟨plainId_quiet ā _,XS (ks:=ks) (ep:=ep) (es:=es) (d:=d) hh (by omega) _ (qk ld) nB (qk<|Ó ld lI) (kd.kept λb o _ e=>kk b o e) (λo e=>?_) (λo e=>?_) _ 0 _ _ _ es[0] rfl h0 (λb o _ _ e=>e) (P1.at λo e=>(Á _ _<|Ne.symm nB).trans e) ⟨o,kk _ _ eo,ro⟩ (Ñ h0) rfl vg λh' y ey k2=>?_⟩
 .rw[vg]at e
  cases e;show Value.type "list"≠.type "tuple";simp
 .rw[show(h2.update h1.objs.size<|Obj.mapSeq λ_=>#[es[0].key,es[0].key]).get? s.heap.objs.size=some oj from(Á _ _<|Ne.symm nB).trans ej]at e
  cases e;rw[cj];simp
 .exact fin h' y ey λb o e=>k2 b o (qk<|qi e) (qk<|Ó (qi e) lI)<|kk b o e
end
section
variable{X:Cx}
theorem wK:∀ {ns:Qa Int} {us:Qa Qc},zO (ns.map V.int) us->IntsAre us ns
 | [],_,.nil=>.nil
 | n::ns,_,.cons r t=>by
  have(tk,rfl):=r;exact .cons n tk<|wK t
def JE(K:qc):Qa V->Hp->VK->Prop:=λxs H Q=>∃ a kvs ks,xs=[.ref a]/\Rd H a (.dT kvs)/\kvs.map (·.1)=ks.map (λk=>k.map λn=>(Sum.inl n:Key))/\kvs≠[]/\∀ b k,ks[argBest (fN ks)<|ks.length - 1]?=some k->aM K H b (k.map V.int)->Q (.ref b) H
theorem J1(K:qc)(hK:X.K=K)(hc:X.calm=true)(hr:aD n X.A):du X (.builtin "min") (JE K):=by
 subst hK;intro pins s σ H xs us Q I r h;have(a,kvs,ks,rfl,ha,hk,dW,q):=h;have(u,rfl,ru):=eZ r;cases ru;have(z,y,xs,rr,o,es,ep,h1,h2,h3,h4,h5):=(show be X.prog X.w X.K H s.heap a (.dT kvs) from oO I.az ha);have hl:es.size=kvs.length:=by
  have:=congrArg List.length h4;rw[Array.length_toList,List.length_map,<-i4 rr]at this;exact this
 have Qn:ks.length=kvs.length:=by
  have:=congrArg List.length hk;rw[List.length_map,List.length_map]at this;exact this.symm
 have h0:0 < es.size:=by
  rw[hl];exact à.mpr dW
 have at_:∀ (i:Nat) (x:DictEntry),es[i]?=some x->∃ (b:Qg) (k:Qa Int),x.key=.ref b/\ks[i]?=some k/\aM X.K H b (k.map V.int):=λi x ex=>by
  have hi:i < kvs.length:=by
   rw[<-hl];exact(Array.getElem?_eq_some_iff.mp ex).1
  have eQ:ks[i]?=some ks[i]:=qm (by omega);have(yv,ey,b,rfl,tp):=w9 (A2 rr) i kvs[i] (qm hi);rw[List.getElem?_map]at ey;have(x1,e1,e2):=qr.mp ey;have e3:es[i]?=some (entryOfKey (tupleKind<|zA X.prog X.w) x1):=by rw[entry_at h4 i,e1]; rfl
  rw[e3]at ex;cases ex;refine⟨b,ks[i],?_,eQ,?_⟩
  .cases e2
   rfl
  .have e4:kvs[i].1=ks[i].map λn=>(Sum.inl n:Key):=by
    have:=congrArg (λl=>l[i]?) hk;simp only[List.getElem?_map,qm hi,eQ,Option.map_some]at this;exact qy this
   rw[e4,List.map_map]at tp;exact tp
 refine Zr (ks:=ks) (I.ok.hd hc) (by have:=hr.units; omega) y ⟨o,h1,h2,h3⟩ (λi x ex=>?_) h0 λh' x ex kk=>?_
 .have(b,k,e,ek,tp):=at_ i x ex
  have(ae,r1,t1,_):=I.tuple tp.sq;have eg:ks.getD i []=k:=by rw[qC,ek]; rfl
  refine⟨b,ae.toArray,e,t1,?_⟩;rw[eg];exact wK r1
 .have(b,k,e,ek,tp):=at_ _ x ex
  rw[e];refine⟨.ref b,H,I.kept λb o e=>kk b o e,rfl,q b k ?_ tp⟩;rw[Qn,<-hl];exact ek
end
noncomputable def Cx.sH(X:Cx):Cx:={X with A:=X.A.in1,xe:=λ_ _=>False}
section
variable{X:Cx}
theorem Inv.sH(I:Inv X pins σ H s):Inv X.sH pins σ H s:=⟨⟨I.ok.mod,I.ok.kind,I.ok.glob,I.ok.blt,I.ok.above,I.ok.inj,I.ok.has,I.ok.qJ,I.ok.hd,I.ok.frames,I.ok.rS,I.ok.tJ,I.ok.bs,I.ok.kG,I.ok.gu,I.ok.hV,I.ok.cx,I.ok.nO⟩,I.os,I.bare,I.base,I.loc,I.cell,I.free,I.ba,I.pin,I.az,I.len⟩
theorem Inv.xH(I:Inv X.sH pins σ H s):Inv X pins σ H s:=⟨⟨I.ok.mod,I.ok.kind,I.ok.glob,I.ok.blt,I.ok.above,I.ok.inj,I.ok.has,I.ok.qJ,I.ok.hd,I.ok.frames,I.ok.rS,I.ok.tJ,I.ok.bs,I.ok.kG,I.ok.gu,I.ok.hV,I.ok.cx,I.ok.nO⟩,I.os,I.bare,I.base,I.loc,I.cell,I.free,I.ba,I.pin,I.az,I.len⟩
def tO(K:qc)(H:Hp)(a:Qg)(q:Int×Qa Int):Prop:=∃ b,aM K H a [.int q.1,.ref b]/\aM K H b (q.2.map V.int)
def Rn(H H':Hp):Prop:=∀ b ys,H b=some (.tup ys)->H' b=some (.tup ys)
theorem tO.keeps{q:Int×Qa Int}(h:tO K H a q)(k:Rn H H'):tO K H' a q:=by
 have(b,h1,h2):=h;exact⟨b,h1.keeps k,h2.keeps k⟩
noncomputable def dc(val:Qa (Int×Qa Int))(i j:Nat):Bool:=gA (val.getD i (0,[])).1 (val.getD i (0,[])).2 (val.getD j (0,[])).1 (val.getD j (0,[])).2
theorem Sd{a':Qg}{q q':Int×Qa Int}(I:Inv X pins σ H s)(h:tO X.K H a q)(h':tO X.K H a' q')(hu:A.units+2 < cLine)(hq:Q (.bool<|gA q.1 q.2 q'.1 q'.2) s):wpAny (model X.prog X.w) A (richCompare .Gt (.ref a)<|.ref a') Q E s:=by
 have(b,h1,h2):=h;have(b',gQ,gz):=h';have(i1,r1,t1,_):=I.tuple h1.sq;have(i2,r2,t2,_):=I.tuple h2.sq;have(j1,r1',t1',_):=I.tuple gQ.sq;have(j2,r2',t2',_):=I.tuple gz.sq;have(u1,u2,rfl,x1,x2):=D2 r1;have(w1,w2,rfl,y1,y2):=D2 r1';have(tk,rfl):=x1;have(O7,rfl):=y1;cases x2;cases y2;exact Zt t1 t1' t2 t2' (wK r2) (wK r2') hu hq
end
section
variable{X:Cx}{k:Nat}{f:Qg}{ps:Qa Str}{B p:Qg}{vs:Qa V}{val:Qa (Int×Qa Int)}{Iv:Hp->Prop}
noncomputable def DG(K:qc)(Iv:Hp->Prop)(val:Qa (Int×Qa Int))(i:Nat)(H:Hp):VK:=λy H'=>Iv H'/\Rn H H'/\∃ a,y=.ref a/\tO K H' a (val.getD i (0,[]))
theorem Wm(F:bW X.prog X.w X.K X.mg X.base gF k f fd ps sp)(hr:aD (k+1) X.A)(hb:kZ X.K fd ps [])(hc:X.calm=true)(nB:it≠B)(hI:∀ H,Iv H->bq X.K H p vs)(hs:∀ i v H,vs[i]?=some v->Iv H->sp [v] H (DG X.K Iv val i H) E0):
  ∀ (left j:Nat) (s:Qd) (H:Hp) (vb:V) (ub:Qc) (a:Qg) (c:Nat),vs.length - (j+1)=left->j+1<=vs.length->Inv X pins σ H s->Iv H->cu X pins H it->cu X pins H B->s.heap.IsListIter it p (j+1)->
   s.heap.get? B=some {cls:=.type "list",dict:=none,data:=.seq #[ub,.ref a] c,slots:=#[]}->vs[argBest (dc val) j]?=some vb->zV vb ub->tO X.K H a (val.getD (argBest (dc val) j) (0,[]))->
   (∀ v u H' s',vs[argBest (dc val)<|vs.length - 1]?=some v->zV v u->Iv H'->Inv X pins σ H' s'->R (.ok<|.ret u) s')->
   codeAny (model X.prog X.w) X.A (.builtin "max.loop" ⟨[.ref it,.ref f,.ref B],[]⟩) R s:=by
 have nm:(toString "max"++toString ".loop":String) = "max.loop":=by decide
 have hh:X.A.in1.handled=none:=hr.hd;intro left
 induction left with
 | zero=>
  intro j s H vb ub a c e1 e2 I iv fI fB st oB eb rb pb fin;have ej:j+1=vs.length:=by omega
  have(ae,rv,pl,hz):=I.list (hI H iv);refine codeAny_builtin á ?_;rw[Around.under_plainId PySem.F.plain_max_loop _];show wpAny _ X.A.in1 (seqItems? (.ref B) >>= _) _ _ s;refine qa<|wpAny_seqItems oB rfl ?_;show wpAny _ X.A.in1 (tryCatch (pyNext<|.ref it) _ >>= _) _ _ s;refine qa<|wpAny_tryCatch<|wpAny_pyNext_list_end hh st pl.isList (Array.getElem?_eq_none (by rw[List.size_toArray,<-rv.length]; omega)) λh1 he=>?_;have(f0,f1,f2,f3,f4,f5):=fI;have I1:Inv X pins σ H {s with heap:=h1}:=I.turned (t':=s.toks) (λb o hb e=>he b o hb e) f0 f1 f3 f4 f5;have dA:=he B _ (Ne.symm nB) oB;show wpAny _ X.A.in1 (updateSeq B (λ_=>#[]) >>= _) _ _ _;refine qa<|wpAny_updateSeq dA rfl<|qa<|wpAny_letGo<|qb ?_;have(g0,g1,g2,g3,g4,g5):=fB;refine fin vb ub H _ (by rw[<-ej]; exact eb) rb iv<|I1.turned (t':=s.toks) (it:=B) (λb o hb e=>(Á _ _<|Ne.symm hb).trans e) g0 g1 g3 g4 g5
 | succ left ih=>
  intro j s H vb ub a c e1 e2 I iv fI fB st oB eb rb pb fin;have lt:j+1 < vs.length:=by omega
  have(ae,rv,pl,hz):=I.list (hI H iv);have hx:vs[j+1]?=some vs[j+1]:=qm lt;have(u,hu,ru):=rv.get hx;refine codeAny_builtin á ?_;rw[Around.under_plainId PySem.F.plain_max_loop _];show wpAny _ X.A.in1 (seqItems? (.ref B) >>= _) _ _ s;refine qa<|wpAny_seqItems oB rfl ?_;show wpAny _ X.A.in1 (tryCatch (pyNext<|.ref it) _ >>= _) _ _ s;refine qa<|wpAny_tryCatch<|wpAny_pyNext_list_item st pl.isList (x:=u) (by simpa using hu) λh1 gM sb=>?_;have(f0,f1,f2,f3,f4,f5):=id fI;have(g0,g1,g2,g3,g4,g5):=id fB;have I1:Inv X pins σ H {s with heap:=h1}:=I.turned (t':=s.toks) (λb o hb e=>(sb.2 b hb).trans e) f0 f1 f3 f4 f5;have dA:h1.get? B=_:=(sb.2 B<|Ne.symm nB).trans oB;have(oi,ei,ci,di):=id gM;have I1p:Inv X (pins++[(it,oi),(B,{cls:=.type "list",dict:=none,data:=.seq #[ub,.ref a] c,slots:=#[]})]) σ H {s with heap:=h1}:=I1.aY λq hq=>by
   rcases Ä.mp hq with hq|hq
   .exact I1.pin q (qx _ hq)
   .simp only[qw,List.not_mem_nil,or_false]at hq
    rcases hq with rfl|rfl
    .exact⟨ei,f0,f1,f2,λv z=>by rw[di]at z; cases z⟩
    .exact⟨dA,g0,g1,g2,λv z=>by cases z⟩
  show wpAny _ X.A.in1 (tryCatch (holding [u]<|call (.ref f) [u]) _ >>= _) _ _ _;refine qa<|wpAny_tryCatch<|wpAny_holding<|wpAny_mono (EF (X:=X.sH) (dvs:=[]) (ds:=[]) (us:=[u]) (vs:=[vs[j+1]]) F hr.in1 hb .nil Eb I1p.sH (.cons ru .nil)<|hs (j+1) _ H hx iv) (λy s2 hy=>?_) λ_ _ e=>e.elim;have(yv,H2,I2,ry,P6,tk,a2,rfl,Po):=hy;cases ry;have IA:=I2.xH;have pI:=IA.pin (it,oi) (qx _<|qx _ (by simp));have pB:=IA.pin (B,{cls:=.type "list",dict:=none,data:=.seq #[ub,.ref a] c,slots:=#[]}) (qx _<|qx _ (by simp));have vg:s2.heap.get? B=some {cls:=.type "list",dict:=none,data:=.seq #[ub,.ref a] c,slots:=#[]}:=pB.1;have I3:Inv X pins σ H2 s2:=IA.bS;have QL:cu X pins H2 it:=⟨pI.2.1,fI.2⟩;have Ia:cu X pins H2 B:=⟨pB.2.1,fB.2⟩;have jw:s2.heap.IsListIter it p (j+1+1):=⟨oi,pI.1,ci,di⟩;have Pp:=pb.keeps tk;show wpAny _ X.A.in1 (tryCatch (holding [u,.ref a2]<|richCompare .Gt (.ref a2) (.ref a) >>= _) _ >>= _) _ _ _;refine qa<|wpAny_tryCatch<|wpAny_holding<|qa<|Sd I3 Po Pp (by have:=hr.units; show X.A.units+1+2 < cLine; omega) ?_;refine qa<|wpAny_holding<|wpAny_truthy_bool<|qa<|wpAny_letGo<|qb ?_;have eg:gA (val.getD (j+1) (0,[])).1 (val.getD (j+1) (0,[])).2 (val.getD (argBest (dc val) j) (0,[])).1 (val.getD (argBest (dc val) j) (0,[])).2=dc val (j+1) (argBest (dc val) j):=rfl;rw[eg];cases Qu:dc val (j+1) (argBest (dc val) j)with
  | true=>
   rw[if_pos rfl];have ea:argBest (dc val) (j+1)=j+1:=by rw[argBest,if_pos Qu]
   refine qa<|wpAny_updateSeq vg rfl<|qa<|wpAny_letGo ?_;rw[nm];refine qb ⟨plainId_quiet Ö _,ih (j+1) _ H2 vs[j+1] u a2 _ (by omega) lt (I3.turned (t':=s2.toks) (it:=B) (λb o hb e=>(Á _ _<|Ne.symm hb).trans e) Ia.1 g1 g3 g4 g5) P6 QL Ia (jw.at λo e=>(Á _ _<|Ne.symm nB).trans e) (Å _ vg rfl) (by rw[ea]; exact hx) ru (by rw[ea]; exact Po) fin⟩
  | false=>
   rw[if_neg qf];have ea:argBest (dc val) (j+1)=argBest (dc val) j:=by rw[argBest,Qu,if_neg qf]
   refine qa<|wpAny_letGo ?_;rw[nm];exact qb ⟨plainId_quiet Ö _,ih (j+1) _ H2 vb ub a c (by omega) lt I3 P6 QL Ia jw vg (by rw[ea]; exact eb) rb (by rw[ea]; exact Pp) fin⟩
theorem Zq(a d:Qc):argsOk "max" ⟨[a],[(Str.ofString "key",d)]⟩:=by unfold argsOk; kernel_rfl
def Sb(K:qc)(f:Qg)(sp:Sp):Qa V->Qa V->Hp->VK->Prop:=λxs zs H Q=>∃ (p:Qg) (vs:Qa V) (val:Qa (Int×Qa Int)) (Iv:Hp->Prop),xs=[.ref p]/\zs=[.ref f]/\vs≠[]/\Iv H/\(∀ H,Iv H->bq K H p vs)/\
 (∀ i v H,vs[i]?=some v->Iv H->sp [v] H (DG K Iv val i H) E0)/\∀ H' v,vs[argBest (dc val)<|vs.length - 1]?=some v->Iv H'->Q v H'
theorem Uj(K:qc)(hK:X.K=K)(F:bW X.prog X.w X.K X.mg X.base gF k f fd ps sp)(hr:aD (k+1) X.A)(hb:kZ X.K fd ps [])(hc:X.calm=true):EK X (.builtin "max") ["key"] (Sb K f sp):=by
 subst hK;intro pins s σ H xs zs us ws Q I r rz h;have(p,vs,val,Iv,rfl,rfl,dW,iv,hI,hs,q):=h;have(u,rfl,ru):=eZ r;have(wd,rfl,rd):=eZ rz;cases ru;cases rd;have nm:(toString "max"++toString ".loop":String) = "max.loop":=by decide
 have h0:0 < vs.length:=à.mpr dW;have(ae,rv,pl,hz):=I.list (hI H iv);refine kmk_tree PySem.F.kind_max PySem.F.plain_max PySem.F.entry_max (Zq _ _) ?_;show wpAny _ X.A.in1 (Builtin.Builtins.bindParams "max" ["key", "default"] 0 ⟨[],[(Str.ofString "key",.ref f)]⟩ >>= _) _ _ s;refine qa<|wpAny_of_eq (show Builtin.Builtins.bindParams "max" ["key", "default"] 0 ⟨[],[(Str.ofString "key",.ref f)]⟩=pure [some<|.ref f,none] from rfl) ?_;refine qa<|qb<|qa<|wpAny_pyIter_list pl.isList ?_;refine qa<|qB ?_;rw[nm];refine qb ⟨plainId_quiet Ö _,?_⟩;show codeAny (model X.prog X.w) X.A (.builtin "max.loop" ⟨[.ref s.heap.objs.size,.ref f,.ref (s.heap.push {cls:=.type "list_iterator",data:=.fields #[.ref p,.int 0 0]}).objs.size],[]⟩) _ {s with heap:=(s.heap.push {cls:=.type "list_iterator",data:=.fields #[.ref p,.int 0 0]}).push {cls:=.type "list",data:=.seq #[]}};generalize hi0:({cls:=.type "list_iterator",data:=.fields #[.ref p,.int 0 0]}:Obj)=io;have BZ:(s.heap.push io).IsListIter s.heap.objs.size p 0:=by
  subst hi0;exact⟨_,qg _ rfl,rfl,rfl⟩
 have I1:Inv X pins σ H {s with heap:=s.heap.push io}:=I.kept (t':=s.toks) λb o e=>qd _ e;have I2:Inv X pins σ H {s with heap:=(s.heap.push io).push {cls:=.type "list",data:=.seq #[]}}:=I1.kept (t':=s.toks) λb o e=>qd _ e;have(oi0,ei0,_):=id BZ;have lI:s.heap.objs.size < (s.heap.push io).objs.size:=qi ei0;have nB:s.heap.objs.size≠(s.heap.push io).objs.size:=qk lI;have fI:cu X pins H s.heap.objs.size:=I.cX (qe _) (I.az.fresh<|qe _);have fB:cu X pins H (s.heap.push io).objs.size:=I.cX (é lI) (I.az.fresh<|é lI);have Pu:((s.heap.push io).push {cls:=.type "list",data:=.seq #[]}).get? (s.heap.push io).objs.size=some {cls:=.type "list",data:=.seq #[]}:=qg _ rfl;have gM:((s.heap.push io).push {cls:=.type "list",data:=.seq #[]}).IsListIter s.heap.objs.size p 0:=BZ.at λo e=>qd _ e;generalize (s.heap.push io).push {cls:=.type "list",data:=.seq #[]}=h2 at *;generalize (s.heap.push io).objs.size=B at *;have(cU,xE,pl2,hz2):=I2.list (hI H iv);have hx:vs[0]?=some vs[0]:=qm h0;have(u0,Hn,Pe):=xE.get hx;refine codeAny_builtin á ?_;rw[Around.under_plainId PySem.F.plain_max_loop _];show wpAny _ X.A.in1 (seqItems? (.ref B) >>= _) _ _ _;refine qa<|wpAny_seqItems (s:={s with heap:=h2}) Pu rfl ?_;show wpAny _ X.A.in1 (tryCatch (pyNext<|.ref s.heap.objs.size) _ >>= _) _ _ _;refine qa<|wpAny_tryCatch<|wpAny_pyNext_list_item (s:={s with heap:=h2}) gM pl2.isList (x:=u0) (by simpa using Hn) λh3 lO sb=>?_;have(f0,f1,f2,f3,f4,f5):=id fI;have(g0,g1,g2,g3,g4,g5):=id fB;have I3:Inv X pins σ H {s with heap:=h3}:=I2.turned (t':=s.toks) (λb o hb e=>(sb.2 b hb).trans e) f0 f1 f3 f4 f5;have dA:h3.get? B=_:=(sb.2 B<|Ne.symm nB).trans Pu;have(oi,ei,ci,di):=id lO;have CK:Inv X (pins++[(s.heap.objs.size,oi),(B,{cls:=.type "list",data:=.seq #[]})]) σ H {s with heap:=h3}:=I3.aY λq hq=>by
  rcases Ä.mp hq with hq|hq
  .exact I3.pin q (qx _ hq)
  .simp only[qw,List.not_mem_nil,or_false]at hq
   rcases hq with rfl|rfl
   .exact⟨ei,f0,f1,f2,λv z=>by rw[di]at z; cases z⟩
   .exact⟨dA,g0,g1,g2,λv z=>by cases z⟩
 show wpAny _ X.A.in1 (tryCatch (holding [u0]<|call (.ref f) [u0]) _ >>= _) _ _ _;refine qa<|wpAny_tryCatch<|wpAny_holding<|wpAny_mono (EF (X:=X.sH) (dvs:=[]) (ds:=[]) (us:=[u0]) (vs:=[vs[0]]) F hr.in1 hb .nil Eb CK.sH (.cons Pe .nil)<|hs 0 _ H hx iv) (λy s4 hy=>?_) λ_ _ e=>e.elim;have(yv,H4,I4,ry,iv4,tk,a4,rfl,pr4):=hy;cases ry;have Iz:=I4.xH;have pI:=Iz.pin (s.heap.objs.size,oi) (qx _<|qx _ (by simp));have pB:=Iz.pin (B,{cls:=.type "list",data:=.seq #[]}) (qx _<|qx _ (by simp));have Pt:s4.heap.get? B=some {cls:=.type "list",data:=.seq #[]}:=pB.1;have I5:Inv X pins σ H4 s4:=Iz.bS;have fI4:cu X pins H4 s.heap.objs.size:=⟨pI.2.1,fI.2⟩;have QM:cu X pins H4 B:=⟨pB.2.1,fB.2⟩;have st4:s4.heap.IsListIter s.heap.objs.size p (0+1):=⟨oi,pI.1,ci,di⟩;show wpAny _ X.A.in1 (updateSeq B (λ_=>#[u0,.ref a4]) >>= _) _ _ _;refine qa<|wpAny_updateSeq Pt rfl ?_;rw[nm];refine qb ⟨plainId_quiet Ö _,Wm F hr hb hc nB hI hs _ 0 _ H4 vs[0] u0 a4 _ rfl h0 (I5.turned (t':=s4.toks) (it:=B) (λb o hb e=>(Á _ _<|Ne.symm hb).trans e) QM.1 g1 g3 g4 g5) iv4 fI4 QM (st4.at λo e=>(Á _ _<|Ne.symm nB).trans e) (Å _ Pt rfl) hx Pe pr4 λv u H' s' e r i I'=>?_⟩;exact⟨v,H',I',r,q H' v e i⟩
end
def DE(K:qc)(sp:Sp):Qa V->Hp->VK->Prop:=λxs H Q=>∃ (p:Qg) (vs:Qa V) (val:Qa (Int×Qa Int)) (Iv:Hp->Prop),xs=[.ref p]/\vs≠[]/\Iv H/\(∀ H,Iv H->bq K H p vs)/\
 (∀ i v H,vs[i]?=some v->Iv H->sp [v] H (DG K Iv val i H) E0)/\∀ H' v,vs[argBest (dc val)<|vs.length - 1]?=some v->Iv H'->Q v H'
section
variable{X:Cx}{p gp jf:Pos}{g:Str}{k:Nat}{ps:Qa Str}
theorem JZ(ha:Wr (PE X e te))(C:CM X.prog X.w X.K X.mg X.base g k ps sp:=by assumption)(hc:X.calm=true:=by rfl)(hr:aD (k+1) X.A:=by exact aD.mono ‹aD _ _› (by decide))(hg:Gl X "max":=by exact rfl)(hgg:Gl X g:=by exact rfl)(hm:X.mg "max"=none:=by exact ue ‹Bl _ _› (by decide))(hdg:(g==("__debug__":Str))=false:=by decide)(he:d5 e=true:=by rfl):
  Wr (PE X (.Call (.Name "max" p) [e] [⟨some "key",.Name g gp,jf⟩] pos)<|pO (DE X.K sp)<|mG te mn):=by
 have(f,fd,F,hb,hk,hmf):=C.ex;have pf:PE X (.Name g gp) (λσ H Q=>Q (.ref f) H):=λpins s σ H Q I h=>L5 I hgg hmf ⟨.ref f,H,I,rfl,h⟩ hdg;refine⟨λpins s σ H Q I h=>?_⟩;refine wpAny_Call_Name_kw<|uI I hg hm PyProof.Rows.boot_max ?_;have e1:backTo pos (starEach [e] X.env)=(false,eval e X.env)::backTo pos (starEach [] X.env):=by rw[mP he]; rfl
 have e2:(backTo pos<|starEach [e] X.env).any (·.1)=false:=rM (by rw[List.all_cons,he]; rfl);have pa:Wr (PA X [e]<|mG te mn):=af ha zm he;have pk:Wr (PK X [⟨some "key",.Name g gp,jf⟩]<|mG (λσ H Q=>Q (.ref f) H) mn):=LD ⟨pf⟩ KI;refine callWith_kw (aF (pa.run pos pins s σ H _ I h) λus s1 ⟨vs,H1,I1,r1,q1⟩=>aF (pk.run pos pins s1 σ H1 (λzs H2=>zs=[.ref f]/\DE X.K sp vs H2 Q) I1 ⟨rfl,q1⟩) λws s2 hZ=>?_) e1 e2 rfl rfl;have(zs,H2,I2,r2,rfl,q2):=hZ;have(q,O1,val,Iv,h1,h2):=q2;exact Uj X.K rfl F hr hb hc pins s2 σ H2 vs [.ref f] us ws Q I2 r1 r2 ⟨q,O1,val,Iv,h1,rfl,h2⟩
end
section
noncomputable def Pf:U->Qb (Int×Qa Int)
 | .d (.tuple [.int m,.tuple ds])=>(iV ds).map λns=>(m,ns)
 | _=>none
noncomputable def n6(F:FD)(x:D):Qb (Int×Qa Int):=(F [.d x]).bind λo=>Pf o.1
noncomputable def vR(F:FD)(u:U):Qb U:=u.lst.bind λxs=>(xs.mapM<|n6 F).bind λval=>(xs[argBest (dc val)<|xs.length - 1]?).map λx=>.d x
theorem K7{f:α->Qb β}:∀ {xs:Qa α} {ys:Qa β},xs.mapM f=some ys->ys.length=xs.length/\∀ (i:Nat) (x:α),xs[i]?=some x->∃ y,ys[i]?=some y/\f x=some y
 | [],ys,e=>by
  cases e;exact⟨rfl,λi x z=>by simp at z⟩
 | x::xs,ys,e=>by
  rw[List.mapM_cons]at e;have(y,ey,e):=zd e;have(i8,eys,e):=zd e;cases e;have(h1,h2):=K7 eys;refine⟨by simp[h1],λi z hz=>?_⟩;cases i with
  | zero=>cases hz; exact⟨y,rfl,ey⟩
  | succ i=>exact h2 i z hz
theorem K6{F:FD}:VC K (DE K<|lP K 1 F) (f1<|vR F):=gH λv a u H Q h e q=>by
 have(xs,ex,e):=zd e;have(val,ev,e):=zd e;have(x,Ib,rfl):=qr.mp e;have(p,ys,rfl,sq,ds):=h.lst ex;have(vl,vat):=K7 ev;have yl:ys.length=xs.length:=ds.len;refine⟨p,ys,val,λH'=>b9 H H',rfl,?_,b9.refl H,λH' sm=>?_,λi w H' ew sm=>?_,λH' w ew sm=>?_⟩
 .rintro rfl
  have:xs=[]:=Ì yl.symm;rw[this]at Ib;simp at Ib
 .rcases sq with (s|⟨o,s⟩) | s
  .exact .inl (.inl<|sm _ _ s)
  .exact .inl (.inr ⟨o,sm _ _ s⟩)
  .exact .inr s
 .have(d,ed,hd):=ds.get' ew
  have(q,eq,ef):=vat i d ed;obtain⟨⟨r,outs⟩,eF,er⟩:=zd ef;refine⟨[.d d],r,outs,rfl,⟨rfl,λj u eu=>?_,λj j' u u' e1 e2 o1=>?_⟩,eF,λy qN go rp nw=>?_⟩
  .cases j with
   | zero=>cases eu; exact⟨w,rfl,hd.kp sm.kp⟩
   | succ j=>simp[L2.sm]at eu
  .cases j with
   | zero=>cases e1; cases o1
   | succ j=>simp[L2.sm]at e1
  .have s2:b9 H' qN:=λb o eb=>go.fr b o eb λ⟨j,u,eu,ou,_⟩=>by
    cases j with
    | zero=>cases eu; cases ou
    | succ j=>simp[L2.sm]at eu
   refine⟨sm.trans s2,λb ys eb=>s2 b _ eb,?_⟩;have eg:val.getD i (0,[])=q:=by rw[qC,eq]; rfl
   rw[eg];unfold Pf at er;split at er
   .rename_i m dd hr
    have(ns,en,rfl):=qr.mp er;simp only at hr;subst hr;have(a,us,rfl,t1,t2):=DF.aJ (show DF K qN y (.tuple [.int m,.tuple dd]) from rp);cases t2 with
    | cons i1 t2=>
     cases t2 with
     | cons i2 t2=>
      cases t2;cases DF.int_inv i1;have(b,ws,rfl,t3,t4):=DF.aJ i2;cases wU t4 en;exact⟨a,rfl,b,t1,t3⟩
   .cases er
 .have(d,ed,hd):=ds.get' ew
  rw[yl,Ib]at ed;cases ed;exact q _ _ sm (hd.kp sm.kp) Nw.data
end
section
theorem Wl{knd:HeapKind prog w (Qa Key)}{xs:Qa (Qa Key×Qg×Qc)}{k:Qa Key}{v:Qc}{Q:Unit->Qd->Prop}(hu:knd.room A)(gx:knd.is s.heap k a)(hm:s.heap.DictOfH knd d xs)(ku:atKey xs k=none)
  (hQ:∀ h',h'.DictOfH knd d (storedH xs k a v)->Heap.SameBut d s.heap h'->Q () {s with heap:=h'})
  (hsz:xs.length<=sizeLine):
  wpAny (model prog w) A (dictSetHashed d (.ref a) (knd.hash k) v) Q E s:=by
 have(o,es,ep,ho,hc,hd,he,vq,hn):=hm;unfold dictSetHashed
 try with_reducible refine wpAny_holding ?_
 refine qa<|wpAny_dictFind_heap hu gx ho hd he vq hn ?_ ?_
 .intro nJ
  have Hy:k∉xs.map (·.1):=not_mem_keys_of_get nJ;refine qa<|wpAny_rule<|wpAny_updateDictKeys (hz:=by have e:=size_of_entries he; omega) ho hd<|hQ _ ⟨_,_,ep+1,Å _ ho<|Obj.isFreed_of_dict<|å hd _,
   hc.mapDictKeys _,å hd _,?_,?_,?_⟩<|È ..
  .rw[storedH_new<|atKey_none_of_get nJ]
   simp[he,entryOfKey]
  .rw[storedH_new<|atKey_none_of_get nJ]
   intro x hx;rcases Ä.mp hx with hx|hx
   .exact knd.keeps (vq x hx) ho hd (È ..)
   .simp only[qq]at hx
    subst hx;exact knd.keeps gx ho hd<|È ..
  .rw[storedH_new<|atKey_none_of_get nJ]
   rw[List.map_append,List.nodup_append];refine⟨hn,by simp,?_⟩;intro x hx y hy;simp only[List.map_cons,List.map_nil,qq]at hy;subst hy;exact λe=>Hy<|e▸hx
 .intro j p hj
  rw[atKey_of_get hn hj]at ku;cases ku
theorem XR{c:Qg}{xs:Qa (Qa Key×Qg×Qc)}{k:Qa Key}{v:Qc}{oc:Obj}{ec:Nat}(hu:A.units+2 < cLine)(gx:(tupleKind<|zA prog w).is s.heap k a)(ta:s.TypeIs (.ref a) "tuple")(hm:s.heap.DictOfH (tupleKind<|zA prog w) d xs)(ku:atKey xs k=none)(QW:d≠c)(hcS:(c==sysModules)=false)
  (ho:s.heap.get? c=some oc) (hx:oc.ExactDict) (hd:oc.data=.dict #[⟨(tupleKind<|zA prog w).hash k,.ref a,v⟩] ec)
  (hQ:∀ h',h'.DictOfH (tupleKind<|zA prog w) d (storedH xs k a v)->Heap.SameBut d s.heap h'->Q .none {s with heap:=h'}) (hsz:xs.length<=sizeLine):
  wpAny (model prog w) A (call (.builtin "dict.update") [.ref d,.ref c]) Q E s:=by
 have tc:s.TypeIs (.ref c) "dict":=⟨_,ho,hx.1⟩;refine wpAny_call_entry PySem.F.slot_dict_update hm.typeIs PySem.F.entry_dict_update ?_<|PySem.F.args_dict_update_2 _ _;unfold Builtin.«dict.update»;refine qa ?_;unfold Builtin.Dict.selfAndRest;refine qa<|wpAny_notOrdered_dict hm.typeIs ?_;show wpAny _ _ (pure (d,[Value.ref c])) _ _ _;refine qb ?_;show wpAny _ _ (Builtin.Dict.updateFrom "dict.update" d (.ref c) [] .none) _ _ _;unfold Builtin.Dict.updateFrom;refine qa<|wpAny_typeOf tc ?_;rw[if_neg (by decide)];refine qa ?_;unfold Builtin.Dict.merge;refine qa ?_;unfold Builtin.Dict.readDirectly;refine qa<|wpAny_isInstance tc isSubtype_dict_dict ?_;simp only[Bool.not_true,Bool.false_eq_true,if_false];refine qa<|wpAny_specialOf tc F.slot_dict_iter.lookup<|qb ?_;simp only[beq_self_eq_true,if_true];refine qa<|qb ?_;unfold Builtin.Dict.mergeDict;rw[if_neg (by simpa using QW)];unfold Builtin.Dict.showsAll;rw[if_neg (by rw[hcS]; exact qf)];refine qa<|qb ?_;refine qa<|wpAny_dictEntries ho hd ?_;have fw:=Km (es:=#[⟨(tupleKind<|zA prog w).hash k,.ref a,v⟩]) rfl λe he=>by
  rw[qq.mp he];exact⟨a,rfl⟩
 simp only[fw,Bool.not_false,if_true];have(o,es,ep,dB,hJ,iL,sY,vq,hn):=id hm;refine qa<|wpAny_dictEntries dB iL ?_
 by_cases em:es.isEmpty=true
 .have e0:es=#[]:=Array.isEmpty_iff.mp em
  have x0:xs=[]:=by
   rw[e0]at sY;cases xs with
   | nil=>rfl
   | cons x xs=>cases sY
  subst e0 x0;simp only[Array.isEmpty_empty,if_true];refine qa<|NT ho hd (λe he=>?_) (λe he=>?_) ?_
  .rw[qq.mp he]
   exact⟨a,rfl,ta⟩
  .rw[qq.mp he]
   simp
  have ne:(#[(⟨(tupleKind<|zA prog w).hash k,.ref a,v⟩:DictEntry)]).isEmpty=false:=rfl;simp only[ne,Bool.not_false,if_true];refine qa<|wpAny_updateDictKeysTo dB iL ?_ (by show 1<=_; decide);refine qb<|qa<|qb<|qb ⟨_,rfl,hQ _ ⟨_,_,_,Å _ dB<|Obj.isFreed_of_dict<|å iL _,hJ.mapDictKeys _,å iL _,?_,?_,?_⟩<|È ..⟩
  .rfl
  .intro x nj
   cases qq.mp nj;exact(tupleKind<|zA prog w).keeps gx dB iL<|È ..
  .rw[storedH_new ku]
   simp
 .simp only[em,Bool.false_eq_true,if_false]
  refine qa<|wpAny_dictEpoch ho hd ?_;refine qa<|wpAny_dictEntries ho hd ?_;refine qa ?_;rw[Std.Legacy.Range.forIn_eq_forIn_range'];simp only[Std.Legacy.Range.size,Nat.sub_zero,Nat.add_sub_cancel,Nat.div_one,List.size_toArray,List.length_singleton,List.range'_one,List.forIn_cons,List.forIn_nil];refine qa ?_;refine qa<|wpAny_dictEntries ho hd ?_;show wpAny _ _ (holding _ (dictSetHashed d (.ref a) ((tupleKind<|zA prog w).hash k) v) >>= _) _ _ _;refine qa<|wpAny_holding<|Wl (tupleKind_room_in1 (by omega)) gx hm ku (λh' xZ sb=>?_) hsz;have lW:h'.get? c=some oc:=(sb.2 c<|Ne.symm QW).trans ho;refine qa<|wpAny_dictEpoch (s:={s with heap:=h'}) lW hd ?_;simp only[bne_self_eq_false,Bool.false_eq_true,if_false];refine qb ?_;refine qb ?_;refine qb ?_;refine qa<|qb ?_;exact qb ⟨_,rfl,hQ h' xZ sb⟩
end
noncomputable def IU(K:qc)(td ty:TE):TE:=λσ H Q=>td σ H λx H1=>∃ a,x=.ref a/\CJ H1 a/\ty σ H1 λy H2=>
 ∃ kvs c k v,y=.ref c/\H2 a=some (.dT kvs)/\Rd H2 c (.dT [(k,v)])/\kvs.length < sizeLine/\ft kvs k=none/\Q .aT (upd H2 a<|.dT<|cc kvs k v)
theorem Sa{X:Cx}{c:Qg}{k:Qa Key}(hu:A.units+3 < cLine)(I:Inv X pins σ H s)
  (e:H a=some (.dT kvs)) (ec:Rd H c (.dT [(k,v)])) (l:kvs.length < sizeLine) (ev:ft kvs k=none) (h2:∀ s',Inv X pins σ (upd H a<|.dT<|cc kvs k v) s'->Q .none s'):
  wpAny (model X.prog X.w) A (call (.builtin "dict.update") [.ref a,.ref c]) Q E s:=by
 have ne:a≠c:=λz=>by
  subst z;rcases ec with ec|⟨o,ec⟩
  .rw[e]at ec
   cases ec;unfold ft at ev;simp at ev
  .rw[e]at ec
   cases ec
 have(z,hd,xs,rel,dd):=vX I.cJ I.az e;have hz:xs.length<=sizeLine:=by rw[<-Paired.length rel]; exact z
 have hl:(cc kvs k v).length<=sizeLine:=by have:=xh kvs k v; omega
 have(_,y,i9,rr,oc,es,ep,o1,o2,o3,o4,_):=(show be X.prog X.w X.K H s.heap c (.dT [(k,v)]) from oO I.az ec);obtain⟨⟨k',b,u⟩,rfl,hk,eb,rv⟩:∃ q:Qa Key×Qg×Qc,i9=[q]/\k=q.1/\aM X.K H q.2.1 (k.map kV)/\zV v q.2.2:=by
  cases rr with
  | cons hq t=>
   cases t;exact⟨_,rfl,hq⟩
 dsimp only at hk eb rv;subst hk;have es1:es=#[⟨(tupleKind<|zA X.prog X.w).hash k,.ref b,u⟩]:=by
  apply Array.ext';rw[o4];rfl
 subst es1;have Pd:=rel.val k;have ku:atKey xs k=none:=by
  cases q:atKey xs k with
  | none=>rfl
  | some p=>rw[q,ev]at Pd; exact Pd.elim
 have(ob,items,n,t1,t2,_):=aM.obj I.cJ I.az eb;refine XR (by omega) (lr I.cJ I.az eb) ⟨ob,t1,t2⟩ dd ku ne y o1 o2 o3 (λh' jz hs=>h2 _ ?_) hz;have(q,es,ep,hq,h2,h3,h4,_,h5):=jz;refine uV I (by rw[e]; exact True.intro) hs ⟨q,hq⟩ ⟨hl,hd,_,(rel.put k eb rv).keeps λc ys ec=>?_,q,es,ep,hq,h2,h3,h4,h5⟩;rw[zx (oP ec e (λz=>nomatch z))];exact ec
theorem R9{X:Cx}(hr:aD n X.A)(ho:Wr (PE X o td))(he:Wr (PE X e ty))(m:M1 X o "update" apos e bM:=by exact⟨rfl,rfl,rfl,rfl⟩):Wr (PE X (.Call (.Attribute o "update" apos) [e] [] bM)<|IU X.K td ty):=by
 refine⟨?_⟩;intro pins s σ H Q I h;refine wpAny_Call_method m.base m.HY m.line PySem.F.plainAttrs_dict PySem.F.slot_dict_update PySem.F.type_dict_update<|aF (ho.run pins s σ H _ I h) λu s1 hZ=>?_;have(x,H1,I1,rx,a,ex,d,q1):=hZ;subst ex;obtain rfl:u=Value.ref a:=rx;have(t1,t2,_):=KP I1 d;refine⟨t1,t2,?_⟩;rw[m.trees];refine Calls.callWith_builtin rfl<|Calls.evalArgs_plain<|Č<|aF (he.run pins s1 σ H1 _ I1 q1) λiv s2 hZ=>Calls.spliced_nil ?_;have(z,H3,I3,rz,kvs,c,k,v,ey,e3,ec,hl,ev,q):=hZ;subst ey;obtain rfl:iv=Value.ref c:=rz;exact Sa (by have:=hr.units; omega) I3 e3 ec hl ev λs' I'=>⟨.aT,_,I',rfl,q⟩
noncomputable def yK(i:Nat)(ρ:En):U->Qa (Qa Key×D)->Qb (Ar×En)
 | .t kvs,[(k,d)]=>if kvs.length < sizeLine/\(mf kvs k).isNone=true then some (.u<|.d .none,ρ.set i<|some<|.t<|dI kvs k d)else none
 | _,_=>none
noncomputable def CZ(i:Nat)(my:ME):ME:=λρ=>(ρ[i]?).join.bind λw0=>if oH w0=true then(my ρ).bind λp=>(p.1.get p.2).bind λu=>(fo u).bind λkd=>(p.2[i]?).join.bind λw=>yK i p.2 w kd else none
theorem R8{my:ME}(hy:VE K ty my):VE K (IU K (mq i) ty) (CZ i my):=by
 intro ρ σ H a ai Q r e q;have(w0,e0,e):=zd e;split at e
 rotate_left
 .cases e
 rename_i hw0;obtain⟨⟨a1,aj⟩,e1,e⟩:=zd e;have(uy,QN,e):=zd e;have(kd,ek,e):=zd e;have(w,ew,e):=zd e;dsimp only at QN ew e;have(v0,gC,p0):=r.rep i w0 (rO e0);have(l,rfl,hl):=MW p0 hw0;refine⟨_,gC,l,rfl,hl,hy ρ σ H a1 aj _ r e1 λyv H1 g1 k1=>?_⟩;have py:=k1.now r g1 QN;unfold yK at e;split at e
 .rename_i kvs k d
  split at e
  .rename_i hz
   have(w',cK,p1):=g1.rs.rep i _ (rO ew);have(l',us,rfl,sQ,ds):=p1;rw[gC]at cK;cases cK;have(c,ws,rfl,hc,hk):=rD py ek;cases hk with
   | @cons p1 p2 _ _ hq t=>
    cases t;have(k',xv):=p1;have(eQ,px):=hq;dsimp only at eQ px;subst eQ;cases e;refine⟨us,c,k',xv,rfl,sQ,hc,by rw[ds.len]; exact hz.1,?_,?_⟩
    .rcases ds.val k' with⟨v',d',h1,h2,h3⟩|⟨h1,_⟩
     .rw[h2]at hz; cases hz.2
     .exact h1
    .have kp:=i3 sQ trivial (.dT<|cc us k' xv)
     exact q _ _ (g1.trans<|Go.own (u':=.t (dI _ k' _)) g1.rs (rO ew) rfl gC ⟨l,_,rfl,zy,(ds.kp kp).put k'<|DF.kp kp px⟩) ⟨DF.aT,Nw.data⟩
  .cases e
 .cases e
section
noncomputable def DD:=kD (λ_ j=>j≠0) λi j=>.int<|i.fmod j
theorem Wj:VO K (rI (λ_ j=>j≠0) λi j=>.int<|i.fmod j) DD:=rg λi j H=>.int _
theorem Ui{a:Int}(h:b≠0):DD (.d<|.int a) (.d<|.int b)=some (.d<|.int<|a.fmod b):=q5 (c:=λ_ j=>j≠0) h
end
noncomputable def iS(ks:Qa Key):Qb (Qa Int):=ks.mapM λk=>match k with | .inl n=>some n | .inr _=>none
theorem K5:∀ {ks:Qa Key} {ns:Qa Int},iS ks=some ns->ks=ns.map λn=>(Sum.inl n:Key)
 | [],ns,e=>by cases e; rfl
 | .inl n::ks,ns,e=>by
  unfold iS at e;rw[List.mapM_cons]at e;have(_,e1,e):=zd e;cases e1;have(j6,e2,e):=zd e;cases e;rw[K5 (ks:=ks) e2];rfl
 | .inr n::ks,ns,e=>by
  unfold iS at e;rw[List.mapM_cons]at e;have(_,e1,e):=zd e;cases e1
theorem Fj:∀ ns:Qa Int,iS (ns.map λn=>(Sum.inl n:Key))=some ns
 | []=>rfl
 | n::ns=>by
  have:=Fj ns;unfold iS at this ⊢;rw[List.map_cons,List.mapM_cons,this];rfl
noncomputable def IT(ks:Qa (Qa Int)):Qb (Qa Int):=ks[argBest (fN ks)<|ks.length - 1]?
noncomputable def vQ(u:U):Qb U:=(fo u).bind λkvs=>(kvs.mapM λp=>iS p.1).bind λks=>(IT ks).map λk=>.d<|.tuple<|k.map .int
section
theorem Fx:∀ {kvs:Qa (Qa Key×D)} {ks:Qa (Qa Int)},(kvs.mapM λp=>iS p.1)=some ks->kvs.map (·.1)=ks.map λk=>k.map λn=>(Sum.inl n:Key)
 | [],ks,e=>by cases e; rfl
 | p::kvs,ks,e=>by
  rw[List.mapM_cons]at e;have(k,e1,e):=zd e;have(fU,e2,e):=zd e;cases e;rw[List.map_cons,List.map_cons,Fx e2,K5 e1]
theorem K4:VC K (JE K) (f1 vQ):=gH λv a u H Q h e q=>by
 have(kvs,ek,e):=zd e;have(ks,es,e):=zd e;have(k,em,rfl):=qr.mp e;have(b,ws,rfl,h1,h2):=rD h ek;have hk:=Fx es;refine⟨b,ws,ks,rfl,h1,by rw[Bm h2]; exact hk,?_,λc k' e' tp=>?_⟩
 .rintro rfl
  cases h2;cases ks with
  | nil=>cases em
  | cons k ks=>cases hk
 .have e2:some k=some k':=by rw[<-em]; exact e'
  cases e2;exact q _ _ (b9.refl H) (.tup tp<|Fy k) Nw.data
end
theorem Nm{f:α->Qb β}{g:α->β}:∀ {xs:Qa α},(∀ x∈xs,f x=some (g x))->xs.mapM f=some (xs.map g)
 | [],_=>rfl
 | x::xs,h=>by
  rw[List.mapM_cons,h x qp,Nm λy hy=>h y<|qo _ hy];rfl
theorem L9(ks:Qa (Qa Int)):∀ j,j < ks.length->argBest (fN ks) j<=j/\∀ i,i<=j->ks.getD i []=ks.getD (argBest (fN ks) j) []\/aV (ks.getD (argBest (fN ks) j) []) (ks.getD i [])=true
 | 0,_=>⟨qe _,λi hi=>by cases Nat.le_zero.mp hi; exact .inl rfl⟩
 | j+1,hj=>by
  have(h1,h2):=L9 ks j (by omega);unfold argBest
  by_cases c:fN ks (j+1) (argBest (fN ks) j)=true
  .rw[if_pos c]
   refine⟨qe _,λi hi=>?_⟩;rcases Ú i (j+1)with z|z
   .rcases h2 i (by omega)with e|e
    .rw[e]
     exact .inr c
    .exact .inr (jU c e)
   .have:i=j+1:=by omega
    rw[this];exact .inl rfl
  .rw[if_neg c]
   refine⟨by omega,λi hi=>?_⟩;rcases Ú i (j+1)with z|z
   .exact h2 i (by omega)
   .have e:i=j+1:=by omega
    rw[e]
    by_cases c2:ks.getD (j+1) []=ks.getD (argBest (fN ks) j) []
    .exact .inl c2
    .exact .inr ((mT c2).resolve_left c)
theorem ZZ(h:ks≠[]):∃ k∈ks,IT ks=some k/\∀ k'∈ks,k'=k\/aV k k'=true:=by
 have h0:=à.mpr h;have(h1,h2):=L9 ks (ks.length - 1) (by omega);have hi:argBest (fN ks) (ks.length - 1) < ks.length:=by omega
 refine⟨ks[argBest (fN ks)<|ks.length - 1],ó hi,qm hi,λk' hk=>?_⟩;have(i,fH,rfl):=ß hk;have:=h2 i (by omega);rw[qC,qC,qm fH,qm hi]at this;exact this
theorem Uh{a c:Int}{as bs cs:Qa Int}(h1:gA a as b bs=true)(h2:gA b bs c cs=true):gA a as c cs=true:=by
 unfold gA at *;split at h1<;>split at h2
 .rw[if_pos (by omega)]
  exact jU h2 h1
 .rw[if_neg (by omega)]
  have:=of_decide_eq_true h2;exact decide_eq_true (by omega)
 .rw[if_neg (by omega)]
  have:=of_decide_eq_true h1;exact decide_eq_true (by omega)
 .have:=of_decide_eq_true h1
  have:=of_decide_eq_true h2;rw[if_neg (by omega)];exact decide_eq_true (by omega)
theorem Wi{a:Int}{as bs:Qa Int}(h:¬gA a as b bs=true):(a,as)=(b,bs)\/gA b bs a as=true:=by
 unfold gA at *
 by_cases c:a=b
 .rw[if_pos c]at h
  rw[if_pos c.symm]
  by_cases e:as=bs
  .exact .inl (by rw[c,e])
  .exact .inr ((mT<|Ne.symm e).resolve_left h)
 .rw[if_neg c]at h
  rw[if_neg<|Ne.symm c];exact .inr<|decide_eq_true (by have:¬a > b:=λz=>h<|decide_eq_true z; omega)
theorem L8(val:Qa (Int×Qa Int)):∀ j,j < val.length->argBest (dc val) j<=j/\∀ i,i<=j->val.getD i (0,[])=val.getD (argBest (dc val) j) (0,[])\/dc val (argBest (dc val) j) i=true
 | 0,_=>⟨qe _,λi hi=>by cases Nat.le_zero.mp hi; exact .inl rfl⟩
 | j+1,hj=>by
  have(h1,h2):=L8 val j (by omega);unfold argBest
  by_cases c:dc val (j+1) (argBest (dc val) j)=true
  .rw[if_pos c]
   refine⟨qe _,λi hi=>?_⟩;rcases Ú i (j+1)with z|z
   .rcases h2 i (by omega)with e|e
    .refine .inr ?_
     unfold dc at c ⊢;rw[e];exact c
    .exact .inr (Uh c e)
   .have:i=j+1:=by omega
    rw[this];exact .inl rfl
  .rw[if_neg c]
   refine⟨by omega,λi hi=>?_⟩;rcases Ú i (j+1)with z|z
   .exact h2 i (by omega)
   .have e:i=j+1:=by omega
    rw[e];exact Wi c
section
variable{ρ:En}{my:ME}{QE:Ar×En->Prop}
theorem XQ:Wo (CZ i my ρ) QE=Wo (ρ[i]?).join (Co (λw0=>if oH w0=true then(my ρ).bind λp=>(p.1.get p.2).bind λu=>(fo u).bind λkd=>(p.2[i]?).join.bind λw=>yK i p.2 w kd else none) ⟨0⟩ QE):=by
 show Wo (Option.bind _ _) QE=_;rw[zt]
end
end L2
namespace L2
open PySem PySem.Spec PySem.W PyProof.Rows
section
theorem zj2{Q:Qa Qc->Qd->Prop}(hh:A.handled=none)(hd:(d==sysModules)=false)(r:eY s.heap d es ep)(hlen:es.size<=sizeLine)
  (hQ:∀ h' tk,(∀ b o,s.heap.get? b=some o->h'.get? b=some o)->Q (es.toList.map (·.key)) {s with heap:=h',toks:=tk}):
  wpAny (model prog w) A (collect<|.ref d) Q E s:=by
 unfold collect;refine qa<|wpAny_runValue<|codeAny_builtin F.entry_proto_collect ?_;rw[Around.under_plainId F.plain_proto_collect _];show wpAny _ A.in1 (newList [] >>= λl=>again<|.builtin "list.__iadd__" ⟨[l,.ref d],[]⟩) _ _ s;refine qa<|qB ?_;refine qb ⟨plainId_quiet F.plain_list_iadd _,codeAny_builtin F.entry_list_iadd ?_⟩;rw[Around.under_plainId F.plain_list_iadd _];show wpAny _ A.in1 (Builtin.List.listExtendWith (.ref s.heap.objs.size) (.ref d)<|.ref s.heap.objs.size) _ _ _;have(o,eo,ro):=id r;have hL:(s.heap.push {cls:=.type "list",data:=.seq ([]:Qa Qc).toArray}).get? s.heap.objs.size=some {cls:=.type "list",data:=.seq #[] 0}:=qg _ rfl;have O5:∀ b o,s.heap.get? b=some o->(s.heap.push {cls:=.type "list",data:=.seq ([]:Qa Qc).toArray}).get? b=some o:=λb o e=>qd _ e;refine NS (prog:=prog) (w:=w) (A:=A) (R:=λr s'=>match r with
   | Except.ok (Flow.ret v)=>wpAny (model prog w) A (match v with
    | Value.ref a=>do
     match (<-load a).data with
      | Data.seq xs _=>pure xs.toList
      | _=>unsupported "internal:collect"
    | _=>unsupported "internal:collect") Q E s'
   | Except.ok _=>False
   | Except.error e=>E e s') (s:={s with heap:=s.heap.push {cls:=.type "list",data:=.seq ([]:Qa Qc).toArray}}) hh hd ⟨o,O5 _ _ eo,ro⟩ hlen s.heap.objs.size (.ref s.heap.objs.size) 0 hL λh' tk cZ c' hk yo fJ=>?_
 show wpAny _ A (load s.heap.objs.size >>= _) _ _ _;refine qa<|wpAny_load yo<|qb ?_;have:cZ.toList=es.toList.map (·.key):=by
  refine List.ext_getElem? λi=>?_;rw[List.getElem?_map,Array.getElem?_toList,Array.getElem?_toList];rcases Ú i cZ.size with z|z
  .rw[Array.getElem?_eq_getElem z]
   have(x,ex,e):=fJ.2 i _ (Ñ z);rw[ex,e];rfl
  .rw[Array.getElem?_eq_none z,Array.getElem?_eq_none (by have:=fJ.1; omega)]
   rfl
 rw[this];exact hQ h' tk λb o e=>hk b o (qk<|qi e)<|O5 b o e
def n5(h:Heap)(v:Qc)(ns:Qa Int):Prop:=∃ (a:Qg) (ae:Array Qc),v=.ref a/\IsTup h a ae/\IntsAre ae.toList ns
theorem n5.kept{v:Qc}(p:n5 h v ns)(k:∀ b o,h.get? b=some o->h'.get? b=some o):n5 h' v ns:=by
 have(a,ae,e,ta,i):=p;exact⟨a,ae,e,FG ta<|k a,i⟩
theorem K0{C:Bool->Qd->Prop}:∀ {as bs:Qa Int} {vs us:Qa Qc} (i:Nat),IntsAre vs as->IntsAre us bs->as.length=bs.length->C (aV as bs) s->KatLex prog w A true false C (vs.zip us) i s
 | [],[],_,_,_,.nil,.nil,_,h=>h
 | a::as,b::bs,_,_,i,.cons _ t j1,.cons _ u j2,hl,h=>by
  rw[List.zip_cons_cons];refine kat_cons<|wpAny_eqBool_int ?_
  by_cases e:a=b
  .subst e
   rw[beq_self_eq_true];refine kat_yes<|K0 (i+1) j1 j2 (by simpa using hl) ?_;simpa [aV] using h
  .rw[beq_eq_false_iff_ne.mpr e]
   refine kat_no ?_;have h':C (decide<|a < b) s:=by simpa [aV,e] using h
   cases(true && i==0)with
   | true=>exact oneLt_int h'
   | false=>exact kat_one _ _<|wpAny_lt_int h'
theorem R7{v v':Qc}{j6:Qa Int}{C:Bool->Qd->Prop}(p:n5 s.heap v ns)(p':n5 s.heap v' j6)(hl:ns.length=j6.length)(h:C (aV ns j6) s):wpAny (model prog w) A (keyLt' (tuples' true) v v') C (λ_ _=>False) s:=by
 obtain⟨a,ae,rfl,⟨oa,ea,ca,na,da⟩,ia⟩:=p;obtain⟨a',cV,rfl,⟨oa',eU,ca',B6,yx⟩,Qi⟩:=p';refine kat_lt ea da eU yx ?_;have sz:decide (ae.size < cV.size)=false:=by
  have h1:=IntsAre.length ia;have h2:=IntsAre.length Qi;rw[Array.length_toList]at h1 h2;exact decide_eq_false (by omega)
 rw[sz];exact K0 0 ia Qi hl h
theorem Nl:∀ {vs:Qa Qc},(∀ v∈vs,∃ n ns,n5 h v<|n::ns)->∃ fs,KatTups h vs fs/\fs.length=vs.length/\∀ f∈fs,∃ n t,f=.int n t
 | [],_=>⟨[],.nil,rfl,λf hf=>by cases hf⟩
 | v::vs,hv=>by
  have(fs,k,l,q):=Nl (vs:=vs) λx hx=>hv x<|qo _ hx;obtain⟨n,ns,a,ae,rfl,⟨o,eo,co,m,dO⟩,ii⟩:=hv v qp;obtain⟨ae⟩:=ae;cases ii with
  | @cons _ t O1 _ ii=>
   refine⟨.int n t::fs,.cons eo co dO rfl k,by rw[qv,qv,l],λf hf=>?_⟩;rcases qw.mp hf with e|hf
   .exact⟨n,t,e⟩
   .exact q f hf
end
def IS(K:qc)(H:Hp)(k:Qa Int)(y:V):Prop:=∃ b,y=.ref b/\aM K H b (k.map V.int)
def JY(K:qc):Qa V->Hp->VK->Prop:=λxs H Q=>∃ a kvs ks n,xs=[.ref a]/\Rd H a (.dT kvs)/\kvs.map (·.1)=ks.map (λk=>k.map λn=>(Sum.inl n:Key))/\kvs.length < 64/\(∀ k∈ks,k.length=n+1)/\ks.Nodup/\
 ∀ fU ys r,fU.Perm ks->fU.Pairwise (λa b=>aV a b=true)->Paired (IS K H) fU ys->H r=none->Q (.ref r) (upd H r<|.lst ys)
section
variable{X:Cx}
theorem zmJ(K:qc)(hK:X.K=K)(hc:X.calm=true){k:Nat}(hr:aD k X.A):du X (.builtin "sorted") (JY K):=by
 subst hK;intro pins s σ H xs us Q I r h;have(a,kvs,ks,n,rfl,ha,hk,HQ,hn,nd,q):=h;have(u,rfl,ru):=eZ r;cases ru;have(z,y,xs,rr,o,es,ep,h1,h2,h3,h4,h5):=(show be X.prog X.w X.K H s.heap a (.dT kvs) from oO I.az ha);have hl:es.size=kvs.length:=by
  have:=congrArg List.length h4;rw[Array.length_toList,List.length_map,<-i4 rr]at this;exact this
 have Qn:ks.length=kvs.length:=by
  have:=congrArg List.length hk;rw[List.length_map,List.length_map]at this;exact this.symm
 have line:(64:Nat)<=sizeLine:=by decide
 have at_:∀ i,i < ks.length->∃ b,(es.toList.map (·.key)).getD i Value.none=.ref b/\aM X.K H b ((ks.getD i []).map V.int):=λi hi=>by
  have fH:i < kvs.length:=by omega
  have(yv,ey,b,rfl,tp):=w9 (A2 rr) i kvs[i] (qm fH);rw[List.getElem?_map]at ey;have(x1,e1,e2):=qr.mp ey;have e3:es[i]?=some (entryOfKey (tupleKind<|zA X.prog X.w) x1):=by rw[entry_at h4 i,e1]; rfl
  refine⟨b,?_,?_⟩
  .rw[qC,List.getElem?_map,Array.getElem?_toList,e3]
   cases e2;rfl
  .have e4:kvs[i].1=(ks.getD i []).map λn=>(Sum.inl n:Key):=by
    have:=congrArg (λl=>l[i]?) hk;simp only[List.getElem?_map,qm fH,qm hi,Option.map_some]at this;rw[qC,qm hi];exact qy this
   rw[e4,List.map_map]at tp;exact tp
 generalize hits:es.toList.map (·.key)=ae at at_;have lv:ae.length=ks.length:=by rw[<-hits,List.length_map,Array.length_toList]; omega
 have pr:∀ i,i < ae.length->n5 s.heap (ae.getD i Value.none) (ks.getD i []):=λi hi=>by
  have(b,e,tp):=at_ i (by omega);have(ib,rb,tb,_):=I.tuple tp.sq;exact⟨b,ib.toArray,e,tb,wK rb⟩
 have kn:∀ i,i < ks.length->(ks.getD i []).length=n+1:=λi hi=>by
  rw[qC,qm hi];exact hn _<|ó hi
 refine Calls.call_function_entry kind_sorted plain_sorted entry_sorted (args_sorted1 _) ?_;unfold Builtin.«sorted»;refine qa (m:=checkCount "sorted" 1 1 _)<|qb ?_;refine qa<|zj2 (A:=X.A.in1) (I.ok.hd hc) y ⟨o,h1,h2,h3⟩ (by omega) λh1 tk e8=>?_;rw[hits];refine qa<|wpAny_newList ?_ ?_
 case refine_2=>omega
 have I1:Inv X pins σ H {s with heap:=h1,toks:=tk}:=I.kept e8;have nI:(h1.push<|seqObj "list" ae.toArray 0).get? h1.objs.size=some (seqObj "list" ae.toArray 0):=qg _ rfl;have hu:X.A.units+64 < cLine:=hr.units;refine qa<|wpAny_holding<|wpAny_call_entry slot_list_sort ⟨_,nI,rfl⟩ entry_list_sort (Ot (rk:=l7 ks) (s:={s with heap:=h1.push (seqObj "list" ae.toArray 0),toks:=tk}) nI (by omega) (λh2 h' kp Q' hQ=>?_) λp a1 a2=>⟨_,rfl,?_⟩)<|args_list_sort _
 .have G7:∀ b o,s.heap.get? b=some o->h'.get? b=some o:=λb o e=>by
   have dC:b < h1.objs.size:=qi (e8 b o e);exact kp b o (qk dC)<|qd _<|e8 b o e
  have rW:∀ i,i < ae.length->n5 h' (ae.getD i Value.none) (ks.getD i []):=λi hi=>(pr i hi).kept G7;have(fs,kt,lf,tf):=Nl (h:=h') (vs:=ae) λv hv=>by
   have(i,hi,e):=ß hv;have h1:=rW i hi;have h2:=kn i (by omega);rw[show ae.getD i Value.none=v by simp[hi,e]]at h1;cases hc:ks.getD i []with
   | nil=>rw[hc]at h2; simp at h2
   | cons m ms=>rw[hc]at h1; exact⟨m,ms,h1⟩
  refine kat_kind (fs:=fs) (T:=.type "int") kt (by omega) (λv hv=>?_) (by decide) ?_
  .have(m,t,rfl):=tf v hv
   exact Looks.of_pure rfl
  .refine hQ _ λi j C hi hj hc=>?_
   rw[LB nd (by omega) (by omega)]at hc;exact R7 (rW i hi) (rW j hj) (by rw[kn i (by omega),kn j (by omega)]) hc
 .refine qb ⟨_,rfl,?_⟩
  have(en,ho):=sortedHeap_at (vs:=ae) (out:=List.toArray (p.toList.map λi=>ae.getD i Value.none)) nI;have fresh:H h1.objs.size=none:=I1.az.fresh (qe _);have perm:p.toList.Perm (List.range ks.length):=by
   have:=a1.list;rw[lv]at this;exact this
  have mem:∀ i∈p.toList,i < ks.length:=λi hi=>ã.mp<|perm.mem_iff.mp hi;have lm:p.toList.length=ks.length:=by
   have:=perm.length_eq;simpa using this
  rw[lv]at a1 a2;have prd:∀ is:Qa Nat,(∀ i∈is,i < ks.length)->∃ ys,Paired (IS X.K H) (is.map λi=>ks.getD i []) ys/\zO ys (is.map λi=>ae.getD i Value.none):=by
   intro is
   induction is with
   | nil=>intro _; exact⟨[],.nil,.nil⟩
   | cons i is ih=>
    intro hm;have(ys,p1,v1):=ih λj hj=>hm j<|qo _ hj;have(b,e,tp):=at_ i (hm i qp);refine⟨.ref b::ys,.cons ⟨b,rfl,tp⟩ p1,.cons ?_ v1⟩;show zV (V.ref b) (ae.getD i Value.none);rw[e];rfl
  have(ys,p1,v1):=prd p.toList mem;have yl:ys.length=ks.length:=by
   rw[<-i4 p1,List.length_map,lm]
  have pk:(p.toList.map λi=>ks.getD i []).Perm ks:=by
   have h1:=perm.map λi=>ks.getD i [];have h2:(List.range ks.length).map (λi=>ks.getD i [])=ks:=by
    refine List.ext_getElem? λi=>?_;rw[List.getElem?_map];rcases Ú i ks.length with z|z
    .rw[List.getElem?_range z,qm z]
     show some (ks.getD i [])=_;rw[qC,qm z];rfl
    .rw[List.getElem?_eq_none (by simpa using z),List.getElem?_eq_none z]
     rfl
   rw[h2]at h1;exact h1
  refine⟨.ref h1.objs.size,_,I1.laid (t':=tk) (a:=h1.objs.size) (o:=.lst ys) (λb o e=>?_) (qe _) ⟨by omega,p.toList.map λi=>ae.getD i Value.none,en,v1,by simpa using ho⟩,rfl,q _ _ _ pk (KH nd a1 a2) p1 fresh⟩;have hb:b < h1.objs.size:=qi e;rw[sortedHeap_old (qk hb) (by rw[Heap.size_push]; exact Ă hb)];exact qd _ e
end
section
noncomputable def oE(ks:Qa (Qa Int)):Qa (Qa Int):=(bK<|ks.map λk=>(k,())).map (·.1)
noncomputable def AX(u:U):Qb U:=(fo u).bind λkvs=>(kvs.mapM λp=>iS p.1).bind λks=>if ks.length < 64/\ks.Nodup/\((ks.all λk=>decide<|k.length=(ks.headD []).length)=true/\(ks.all λk=>!k.isEmpty)=true)then some (.l<|(oE ks).map λk=>.tuple<|k.map .int)else none
theorem BB(ks:Qa (Qa Int)):(oE ks).Perm ks:=by
 have:=(e7<|ks.map λk=>(k,())).map (·.1);rw[List.map_map]at this;have e:ks.map ((·.1) ∘ λk=>(k,()))=ks:=List.map_id ks;rw[e]at this;exact this
theorem zmK(nd:ks.Nodup):(oE ks).Pairwise λa b=>aV a b=true:=by
 have h:aA (ks.map λk=>(k,())):=by
  unfold aA;rw[List.map_map];have e:ks.map ((·.1) ∘ λk=>(k,()))=ks:=List.map_id ks;rw[e];exact nd
 exact ï.mpr<|wN h
theorem XO:VC K (JY K) (f1 AX):=gH λv a u H Q h e q=>by
 have(kvs,ek,e):=zd e;have(ks,es,e):=zd e;split at e
 rotate_left
 .cases e
 rename_i hc;cases e;have(b,ws,rfl,h1,h2):=rD h ek;have hk:=Fx es;have hl:ks.length=ws.length:=by
  have:=congrArg List.length hk;rw[List.length_map,List.length_map,<-i4 h2]at this;exact this.symm
 refine⟨b,ws,ks,(ks.headD []).length - 1,rfl,h1,by rw[Bm h2]; exact hk,by omega,λk hk=>?_,hc.2.1,λfU ys l pm st pr hl=>?_⟩
 .have h1:=Ø.mp hc.2.2.1 k hk
  have h2:=Ø.mp hc.2.2.2 k hk;have h3:=of_decide_eq_true h1;have h4:k≠[]:=by simpa using h2
  have:=à.mpr h4;omega
 .have e:fU=oE ks:=F7 (λa b h1 h2=>by have:=jU h1 h2; rw[jR]at this; cases this) (pm.trans (BB ks).symm) st (zmK hc.2.1)
  subst e;have sm:=zU hl (.lst ys);have ds:aK K H ys ((oE ks).map λk=>.tuple<|k.map .int):=by
   clear sm q st pm;generalize oE ks=kk at pr
   induction pr with
   | nil=>exact .nil
   | cons hq t ih=>
    have(c,rfl,tp):=hq;exact .cons (.tup tp<|Fy _) ih
  exact q _ _ sm ⟨l,_,rfl,zy,ds.kp sm.kp⟩ λ_=>⟨l,rfl,hl⟩
end
end L2
namespace K06
open PySem L2
noncomputable def top(i:Nat):Stmt:=PySem.Challenge.pw_undivide_k06_parted_by.main.body.getD i (.Pass ⟨0,0,0,0⟩)
abbrev Ov:Stmt:=top 1
abbrev NA:Stmt:=top 2
abbrev zev:Stmt:=top 4
abbrev Ob:Stmt:=top 5
abbrev Oa:Stmt:=top 6
abbrev JX:Stmt:=top 7
abbrev OQ:Stmt:=top 8
abbrev Nz:Stmt:=top 9
abbrev OV:Stmt:=top 10
abbrev NR:Stmt:=top 11
abbrev NQ:Stmt:=top 13
abbrev N5:Stmt:=top 14
abbrev OU:Stmt:=top 15
abbrev N4:Stmt:=top 16
abbrev N9:Stmt:=top 17
abbrev OT:Stmt:=top 18
abbrev OP:Stmt:=top 19
abbrev OO:Stmt:=top 20
abbrev N8:Stmt:=top 21
abbrev OH:Stmt:=top 22
abbrev OA:Stmt:=top 23
abbrev NP:Stmt:=top 24
abbrev Oz:Stmt:=top 25
abbrev Ny:Stmt:=top 26
abbrev JD:Stmt:=top 27
noncomputable def IQ:Qa (Str×Qa Str):=[]
abbrev OZ:Qa Str:=[]
section
variable{base:Heap}{f:Qg}
end
section
def Bs(Z:Zs):Prop:=Bl Z.mg ["abs", "tuple", "sorted", "zip", "sum", "dict", "max", "list", "min", "len", "int", "range", "repr"]/\XT Z.K IQ OZ
variable{Z:Zs}
noncomputable def Ou:MS:=(zK (mM (vJ<|zk 1)<|tR 0 1<|zj (zk 1)<|zj (au iQ (zk 0)<|zk 1) zu)
  (bY<|zk 0))
noncomputable def lM:FD:=b8 2 [] Ou
abbrev BH(Z:Zs):Prop:=Z.C "common_factor" 1 ["one", "other"] 2 lM
theorem zgB(B:Bs Z)(A:cQ Z "common_factor" Ov):BH Z :=
 have hB:=B.1; de A ["one", "other"] λnd hr=>⟨_,(zz (Bb (KA zi)<|DS<|ze zi<|ze (zw k8 zi zi) zn)
 (cn zi)),
 (aG (Bf (JJ aa)<|aP<|DW<|af aa<|af (zQ lx aa aa) zm)
 (aP<|bO aa))⟩
noncomputable def Oq:MS:=(bY<|bf (f1 k7)<|zj (iI (tP<|zj (zk 0)<|zj (zk 1) zu) 2 [] (fu 2<|bZ (zE 0)<|bZ (zE 1) gq) gW<|au eW (zk 0)<|zk 1) zu)
noncomputable def BN:FD:=b8 2 [0,1] Oq
abbrev Oo(Z:Zs):Prop:=Z.C "powers_plus" 1 ["one", "other"] 2 BN
theorem zil(B:Bs Z)(A:cQ Z "powers_plus" Oa):Oo Z :=
 have hB:=B.1; de A ["one", "other"] λnd hr=>⟨_,(cn<|bC pC<|ze (kP (AS<|ze zi<|ze zi zn) (iy<|zW zD<|zW zD iz) jO<|zw fQ zi zi) zn),
 (aP<|bO<|gI pz Õ<|af (l8 (AU<|af aa<|af aa zm) (iA<|cA zC<|cA zC iB) jQ<|zQ fO aa aa) zm)⟩
noncomputable def JW:MS:=(bY<|cz<|zj (bf (f1 kR)<|zj (zk 0) zu)<|zj (zk 0) zu)
noncomputable def iY:FD:=b8 1 [0] JW
abbrev JV(Z:Zs):Prop:=Z.C "rank" 1 ["powers"] 1 iY
theorem Ug(B:Bs Z)(A:cQ Z "rank" JX):JV Z :=
 have hB:=B.1; de A ["powers"] λnd hr=>⟨_,(cn<|cR<|ze (bC AE<|ze zi zn)<|ze zi zn),
 (aP<|bO<|cS<|af (dZ (Am _ rfl rfl) ă<|af aa zm)<|af aa zm)⟩
noncomputable def NO:MS:=(zK (aS 2<|au eW (au iR (mC<|.int 7919)<|zk 1)<|mC<|.int 11)
  (zK (cy (mB<|au tH (zk 1)<|bf (f1 qX)<|zj (zk 0) zu) (aS 2<|au gX (zk 0)<|zk 1)<|cy (mB<|au qG (bf (f1 qX)<|zj (zk 0) zu)<|mC<|.int 0) (aS 2<|au eW (zk 2)<|au iR (au iQ (au gX (zk 0)<|au iQ (zk 1)<|bf (f1 qX)<|zj (zk 0) zu)<|mC<|.int 2147483629)<|mC<|.int 69623) cN)
  (zK (aS 3<|au eW (au iQ (au eW (au iR (au iQ (zk 2)<|mC<|.int 2147483629)<|mC<|.int 48271)<|au iR (mC<|.int 40692)<|zk 1)<|mC<|.int 2147483629)<|mC<|.int 1)
  (bY<|oz<|zj (au iR (zk 2)<|bf (f1 Al)<|zj (au HZ (zk 2)<|au yN (mC<|.int 10)<|mC<|.int 18) zu)<|zj (zk 3) zu))))
noncomputable def BF:FD:=b8 4 [0,1] NO
abbrev NN(Z:Zs):Prop:=Z.C "_law_box" 1 ["_law_script", "_law_k"] 2 BF
theorem zlA(B:Bs Z)(A:cQ Z "_law_box" NQ):NN Z :=
 have hB:=B.1; de A ["_law_script", "_law_k", "_law_cell", "_law_seed"] λnd hr=>⟨_,(zz (zM<|zw fQ (zw mN zr zi) zr)
 (zz (AB<|dN (d4<|zw v9 zi<|bC AG<|ze zi zn) (zM<|zw jP zi zi)<|dN (d4<|zw ua (bC AG<|ze zi zn) zr) (zM<|zw fQ zi<|zw mN (zw k8 (zw jP zi<|zw k8 zi<|bC AG<|ze zi zn) zr) zr) eE)
 (zz (zM<|zw fQ (zw k8 (zw fQ (zw mN (zw k8 zi zr) zr)<|zw mN zr zi) zr) zr)
 (cn<|v8<|ze (zw mN zi<|bC Xx<|ze (zw Tc zi<|zw U4 zr zr) zn)<|ze zi zn)))),
 (aG (zN<|zQ fO (zQ mQ zo aa) zo)
 (aG (AI<|dJ (d6 vZ aa<|dZ An č<|af aa zm) (aP<|zN<|bH jL aa aa)<|aP<|dJ (d6 tW (dZ An č<|af aa zm) zo) (aP<|zN<|zQ fO aa<|zQ mQ (zQ lx (bH jL aa<|zQ lx aa<|dZ An č<|af aa zm) zo) zo) eI)
 (aG (zN<|zQ fO (zQ lx (zQ fO (zQ mQ (zQ lx aa zo) zo)<|zQ mQ zo aa) zo) zo)
 (aP<|bO<|vW<|af (zQ mQ aa<|gI zoX PyProof.Rows.boot_int<|af (Ap SI aa<|zQ UI zo zo) zm)<|af aa zm))))⟩
noncomputable def N2:MS:=(zK (cy (mB<|au qG (au gX (zk 0)<|mC<|.int 0)<|mC<|.int 0) (zK (aS 2<|au iQ (au gX (zk 0)<|mC<|.int 0)<|zk 1)
  (zK (rH 0 (au mF (au gX (zk 0)<|mC<|.int 0)<|zk 1)<|mC<|.int 0)
  (bY<|zk 2))) cN)
  (zK (aS 3<|au iQ (au iR (au gX (zk 0)<|mC<|.int 1)<|mC<|.int 69623)<|mC<|.int 2147483647)
  (zK (rH 0 (au eW (au iQ (au eW (au iR (zk 3)<|mC<|.int 48271)<|mC<|.int 30103)<|mC<|.int 2147483629)<|mC<|.int 1)<|mC<|.int 1)
  (bY<|au iQ (au mF (au eW (au iR (zk 3)<|mC<|.int 2147483647)<|au gX (zk 0)<|mC<|.int 1)<|mC<|.int 8191)<|zk 1))))
noncomputable def zP:FD:=b8 4 [0,1] N2
abbrev xj(Z:Zs):Prop:=Z.C "_law_take" 1 ["_law_box_here", "_law_wide"] 2 zP
theorem zj4(B:Bs Z)(A:cQ Z "_law_take" N5):xj Z :=
 have hB:=B.1; de A ["_law_box_here", "_law_wide", "_law_digit", "_law_one"] λnd hr=>⟨_,(zz (dN (d4<|zw ua (zw jP zi zr) zr) (zz (zM<|zw k8 (zw jP zi zr) zi)
 (zz (Ff (zw uR (zw jP zi zr) zi) zr)
 (cn zi))) eE)
 (zz (zM<|zw k8 (zw mN (zw jP zi zr) zr) zr)
 (zz (Ff (zw fQ (zw k8 (zw fQ (zw mN zi zr) zr) zr) zr) zr)
 (cn<|zw k8 (zw uR (zw fQ (zw mN zi zr)<|zw jP zi zr) zr) zi)))),
 (aG (dJ (d6 tW (bH jL aa zo) zo) (aG (zN<|zQ lx (bH jL aa zo) aa)
 (aG (ud (zQ uX (bH jL aa zo) aa)<|EC aa zo FF)
 (aP<|bO aa))) eI)
 (aG (zN<|zQ lx (zQ mQ (bH jL aa zo) zo) zo)
 (aG (ud (zQ fO (zQ lx (zQ fO (zQ mQ aa zo) zo) zo) zo)<|EC aa zo FF)
 (aP<|bO<|zQ lx (zQ uX (zQ fO (zQ mQ aa zo)<|bH jL aa zo) zo) aa))))⟩
noncomputable def OS:MS:=(zK (aS 2<|bf (f1 qW)<|zj (zk 0) zu)
  (zK (aS 3<|bf (f1 qW)<|zj (zk 1) zu)
  (zK (mM (mB<|au (gU true) (zk 3)<|mC<|.int 0)<|tR 2 3<|zj (zk 3)<|zj (au iQ (zk 2)<|zk 3) zu)
  (zK (cy (mB<|au tH (zk 1)<|mC<|.int 0) (aS 2<|au jt (mC<|.int 0)<|zk 2) cN)
  (bY<|cz<|zj (au uc (zk 0)<|zk 2)<|zj (au uc (zk 1)<|zk 2) zu)))))
noncomputable def pD:FD:=b8 4 [0,1] OS
abbrev u6(Z:Zs):Prop:=Z.C "_law_fraction" 1 ["_law_n", "_law_d"] 2 pD
theorem zf3(B:Bs Z)(A:cQ Z "_law_fraction" OU):u6 Z :=
 have hB:=B.1; de A ["_law_n", "_law_d", "_law_one", "_law_two"] λnd hr=>⟨_,(zz (zM<|bC AF<|ze zi zn)
 (zz (zM<|bC AF<|ze zi zn)
 (zz (Bb (d4<|zw uD zi zr)<|DS<|ze zi<|ze (zw k8 zi zi) zn)
 (zz (AB<|dN (d4<|zw v9 zi zr) (zM<|zw k9 zr zi) eE)
 (cn<|cR<|ze (zw Be zi zi)<|ze (zw Be zi zi) zn))))),
 (aG (zN<|dZ Bz Ą<|af aa zm)
 (aG (zN<|dZ Bz Ą<|af aa zm)
 (aG (Bf (d6 tX aa zo)<|aP<|DW<|af aa<|af (zQ lx aa aa) zm)
 (aG (AI<|dJ (d6 vZ aa zo) (aP<|zN<|zQ lA zo aa) eI)
 (aP<|bO<|cS<|af (zQ By aa aa)<|af (zQ By aa aa) zm)))))⟩
noncomputable def ON:MS:=(bY<|bf (f1 k7)<|zj (bf (f1 wj)<|zj (iI (d9 kY<|eO<|zk 0) 1 [0] (zE 0) gW<|cz<|zj (zk 0)<|zj (dn (zk 1)<|zk 0) zu) zu) zu)
noncomputable def u7:FD:=b8 1 [0] ON
abbrev OM(Z:Zs):Prop:=Z.C "_law_poly_told" 1 ["_law_sums"] 1 u7
theorem zfp(B:Bs Z)(A:cQ Z "_law_poly_told" OO):OM Z :=
 have hB:=B.1; de A ["_law_sums"] λnd hr=>⟨_,(cn<|bC pC<|ze (bC Mx<|ze (kP (rK<|fY zi) zD jO<|cR<|ze zi<|ze (fA zi zi) zn) zn) zn),
 (aP<|bO<|gI pz Õ<|af (dZ (Np _ rfl hr) PyProof.Rows.boot_sorted<|af (l8 (rL<|fZ aa) zC jQ<|cS<|af aa<|af (fC hr aa aa) zm) zm) zm)⟩
noncomputable def OD:MS:=(bY<|yY Ah (zj (iI (d9 kY<|eO<|zk 0) 1 [] (zE 0) gW<|bf (f1 kR)<|zj (zk 0) zu) zu)<|zj (m7 oA<|mC<|.int 1) zu)
noncomputable def rP:FD:=b8 1 [0] OD
abbrev Gb(Z:Zs):Prop:=Z.C "_law_degree" 1 ["_law_one"] 1 rP
theorem zhP(B:Bs Z)(A:cQ Z "_law_degree" OA):Gb Z :=
 have hB:=B.1; de A ["_law_one"] λnd hr=>⟨_,(cn<|S7 Xw (ze (kP (rK<|fY zi) zD jO<|bC AE<|ze zi zn) zn)<|ze (vM wk zr) zn),
 (aP<|bO<|Te (U5 _ rfl rfl) PyProof.Rows.boot_max (af (l8 (rL<|fZ aa) zC jQ<|dZ (Am _ rfl rfl) ă<|af aa zm) zm)<|LD (vP wy zo) KI)⟩
noncomputable def Nx:MS:=(zK (cy (mB<|au tH (zk 1)<|mC<|.int 0) (tR 0 1<|zj (m7 oA<|zk 0)<|zj (m7 oA<|zk 1) zu) cN)
  (zK (aS 2<|aO lM<|zj (bf (f1 qW)<|zj (zk 0) zu)<|zj (zk 1) zu)
  (bY<|cz<|zj (au mF (zk 0)<|zk 2)<|zj (au mF (zk 1)<|zk 2) zu)))
noncomputable def w5:FD:=b8 3 [] Nx
abbrev F0(Z:Zs):Prop:=Z.C "fraction" 2 ["n", "d"] 2 w5
theorem zmL(B:Bs Z)(A:cQ Z "fraction" NA)(c0:BH Z):F0 Z :=
 have hB:=B.1; de A ["n", "d", "factor"] λnd hr=>⟨_,(zz (AB<|dN (d4<|zw v9 zi zr) (DS<|ze (vM wk zi)<|ze (vM wk zi) zn) eE)
 (zz (zM<|zI 2<|ze (bC AF<|ze zi zn)<|ze zi zn)
 (cn<|cR<|ze (zw uR zi zi)<|ze (zw uR zi zi) zn))),
 (aG (AI<|dJ (d6 vZ aa zo) (aP<|DW<|af (vP wy aa)<|af (vP wy aa) zm) eI)
 (aG (zN<|zH<|af (dZ Bz Ą<|af aa zm)<|af aa zm)
 (aP<|bO<|cS<|af (zQ uX aa aa)<|af (zQ uX aa aa) zm)))⟩
noncomputable def Om:MS:=(zK (aS 1<|mC<|.int 1)
  (zK (gG (d9 tS<|zk 0) (fu 2<|bZ (zE 2)<|bZ (zE 3) gq)<|aS 1<|au iX (au mF (zk 1)<|aO lM<|zj (zk 1)<|zj (au bP (zk 3)<|mC<|.int 1) zu)<|au bP (zk 3)<|mC<|.int 1)
  (bY<|cz<|zj (eO<|iI (d9 tS<|zk 0) 2 [1] (fu 2<|bZ (zE 0)<|bZ (zE 1) gq) gW<|cz<|zj (zk 0)<|zj (au iX (au bP (zk 1)<|mC<|.int 0)<|au mF (zk 2)<|au bP (zk 1)<|mC<|.int 1) zu)<|zj (zk 1) zu)))
noncomputable def BM:FD:=b8 4 [0] Om
abbrev Ol(Z:Zs):Prop:=Z.C "over_common" 2 ["pairs"] 1 BM
theorem zim(B:Bs Z)(A:cQ Z "over_common" zev)(c0:BH Z):Ol Z :=
 have hB:=B.1; de A ["pairs", "common", "powers", "f"] λnd hr=>⟨_,(zz (zM zr)
 (zz (iU (Ej zi) (iy<|zW zD<|zW zD iz)<|zM<|zw jS (zw uR zi<|zI 2<|ze zi<|ze (zw cF zi zr) zn)<|zw cF zi zr)
 (cn<|cR<|ze (fY<|kP (Ej zi) (iy<|zW zD<|zW zD iz) jO<|cR<|ze zi<|ze (zw jS (zw cF zi zr)<|zw uR zi<|zw cF zi zr) zn)<|ze zi zn))),
 (aG (zN zo)
 (aG (iW (EL aa) (iA<|cA zC<|cA zC iB)<|aP<|zN<|zQ jT (zQ uX aa<|zH<|af aa<|af (bH cG aa zo) zm)<|bH cG aa zo)
 (aP<|bO<|cS<|af (fZ<|l8 (EL aa) (iA<|cA zC<|cA zC iB) jQ<|cS<|af aa<|af (zQ jT (bH cG aa zo)<|zQ uX aa<|bH cG aa zo) zm)<|af aa zm)))⟩
noncomputable def Nv:MS:=(gG (d9 uB<|eO<|zk 1) (fu 2<|bZ (zE 4)<|bZ (zE 5) gq) (zK (aS 6<|aO BN<|zj (zk 2)<|zj (zk 4) zu)
  (zK (aS 7<|au jt (rG (zk 0) (zk 6)<|mC<|.int 0)<|au iX (zk 3)<|zk 5)
  (cy (vJ<|zk 7) (iw 0 (zk 6)<|zk 7)<|Dc 0<|zk 6))))
noncomputable def BA:FD:=b8 8 [0,1,2,3] Nv
abbrev Nu(Z:Zs):Prop:=Z.C "take_off" 2 ["rest", "divisor", "powers", "many"] 4 BA
theorem zmM(B:Bs Z)(A:cQ Z "take_off" Nz)(c0:Oo Z):Nu Z :=
 have hB:=B.1; de A ["rest", "divisor", "powers", "many", "others", "more", "both", "left"] λnd hr=>⟨_,(iU (Fo<|fY zi) (iy<|zW zD<|zW zD iz) (zz (zM<|zI 2<|ze zi<|ze zi zn)
 (zz (zM<|zw k9 (Fb zi zi zr)<|zw jS zi zi)
 (dN (KA zi) (mL zi zi)<|Se zi)))),
 (aP<|iW (E9<|fZ aa) (iA<|cA zC<|cA zC iB) (aG (zN<|zH<|af aa<|af aa zm)
 (aG (zN<|zQ lA (Fc hr aa aa zo ⟨rfl,rfl,rfl,rfl⟩)<|zQ jT aa aa)
 (aP<|dJ (JJ aa) (aP<|mO hr aa aa aa)<|aP<|Wn hr aa aa))))⟩
noncomputable def N1:MS:=(bY<|aO pD<|zj (au eW (au iX (au bP (zk 0)<|mC<|.int 0)<|au bP (zk 1)<|mC<|.int 1)<|au iX (au bP (zk 1)<|mC<|.int 0)<|au bP (zk 0)<|mC<|.int 1)<|zj (au iX (au bP (zk 0)<|mC<|.int 1)<|au bP (zk 1)<|mC<|.int 1) zu)
noncomputable def xi:FD:=b8 2 [0,1] N1
abbrev F5(Z:Zs):Prop:=Z.C "_law_plus" 2 ["_law_one", "_law_other"] 2 xi
theorem zj5(B:Bs Z)(A:cQ Z "_law_plus" N4)(c0:u6 Z):F5 Z :=
 have hB:=B.1; de A ["_law_one", "_law_other"] λnd hr=>⟨_,(cn<|zI 2<|ze (zw fQ (zw jS (zw cF zi zr)<|zw cF zi zr)<|zw jS (zw cF zi zr)<|zw cF zi zr)<|ze (zw jS (zw cF zi zr)<|zw cF zi zr) zn),
 (aP<|bO<|zH<|af (zQ fO (zQ jT (bH cG aa zo)<|bH cG aa zo)<|zQ jT (bH cG aa zo)<|bH cG aa zo)<|af (zQ jT (bH cG aa zo)<|bH cG aa zo) zm)⟩
noncomputable def Oj:MS:=(bY<|aO pD<|zj (au iX (au bP (zk 0)<|mC<|.int 0)<|au bP (zk 1)<|mC<|.int 0)<|zj (au iX (au bP (zk 0)<|mC<|.int 1)<|au bP (zk 1)<|mC<|.int 1) zu)
noncomputable def xg:FD:=b8 2 [0,1] Oj
abbrev Gc(Z:Zs):Prop:=Z.C "_law_times" 2 ["_law_one", "_law_other"] 2 xg
theorem zin(B:Bs Z)(A:cQ Z "_law_times" N9)(c0:u6 Z):Gc Z :=
 have hB:=B.1; de A ["_law_one", "_law_other"] λnd hr=>⟨_,(cn<|zI 2<|ze (zw jS (zw cF zi zr)<|zw cF zi zr)<|ze (zw jS (zw cF zi zr)<|zw cF zi zr) zn),
 (aP<|bO<|zH<|af (zQ jT (bH cG aa zo)<|bH cG aa zo)<|af (zQ jT (bH cG aa zo)<|bH cG aa zo) zm)⟩
noncomputable def Oi:MS:=(bY<|aO pD<|zj (au jt (aO zP<|zj (zk 0)<|zj (mC<|.int 11) zu)<|mC<|.int 5)<|zj (au eW (mC<|.int 1)<|aO zP<|zj (zk 0)<|zj (mC<|.int 3) zu) zu)
noncomputable def BL:FD:=b8 1 [0] Oi
abbrev Oh(Z:Zs):Prop:=Z.C "_law_small" 2 ["_law_box_here"] 1 BL
theorem zio(B:Bs Z)(A:cQ Z "_law_small" N8)(c0:xj Z)(c1:u6 Z):Oh Z :=
 have hB:=B.1; de A ["_law_box_here"] λnd hr=>⟨_,(cn<|zI 2<|ze (zw k9 (zI 2<|ze zi<|ze zr zn) zr)<|ze (zw fQ zr<|zI 2<|ze zi<|ze zr zn) zn),
 (aP<|bO<|zH<|af (zQ lA (zH<|af aa<|af zo zm) zo)<|af (zQ fO zo<|zH<|af aa<|af zo zm) zm)⟩
noncomputable def NM:MS:=(zK (aS 3<|uw (au mD (cz<|zj (mC<|.int 0) zu)<|zk 1)<|cz<|zj (au eW (mC<|.int 1)<|aO zP<|zj (zk 0)<|zj (mC<|.int 5) zu)<|zj (au eW (mC<|.int 1)<|aO zP<|zj (zk 0)<|zj (mC<|.int 3) zu) zu)
  (zK (iw 3 (au mD (cz<|zj (mC<|.int 0) zu)<|zk 1)<|aO pD<|zj (au bP (dn (zk 3)<|au mD (cz<|zj (mC<|.int 0) zu)<|zk 1)<|mC<|.int 0)<|zj (au bP (dn (zk 3)<|au mD (cz<|zj (mC<|.int 0) zu)<|zk 1)<|mC<|.int 1) zu)
  (zK (gG (oK<|zj (aO zP<|zj (zk 0)<|zj (mC<|.int 3) zu) zu) (zE 4) (zK (aS 5<|au vI (oz<|zj (mC<|.int 0) zu)<|zk 1)
  (zK (gG (oK<|zj (aO zP<|zj (zk 0)<|zj (zk 2) zu) zu) (zE 6) (zK (aS 7<|aO zP<|zj (zk 0)<|zj (zk 1) zu)
  (rH 5 (au eW (au gX (zk 5)<|zk 7)<|mC<|.int 1)<|zk 7)))
  (cy (mB<|au qG (bf (f1 kR)<|zj (zk 5) zu)<|mC<|.int 0) (iw 3 (bf (f1 k7)<|zj (zk 5) zu)<|cz<|zj (au eW (mC<|.int 1)<|aO zP<|zj (zk 0)<|zj (mC<|.int 4) zu)<|zj (mC<|.int 1) zu) cN))))
  (jK [0,1,2] 3))))
noncomputable def xl:FD:=b8 8 [0,1,2] NM
abbrev NL(Z:Zs):Prop:=Z.C "_law_low" 2 ["_law_box_here", "_law_many", "_law_below"] 3 xl
theorem zlB(B:Bs Z)(A:cQ Z "_law_low" NP)(c0:xj Z)(c1:u6 Z):NL Z :=
 have hB:=B.1; de A ["_law_box_here", "_law_many", "_law_below", "_law_found", "_law_k", "_law_powers", "_law_turn", "_law_at"] λnd hr=>⟨_,(zz (zM<|A4 (zw uM (cR<|ze zr zn) zi)<|cR<|ze (zw fQ zr<|zI 2<|ze zi<|ze zr zn)<|ze (zw fQ zr<|zI 2<|ze zi<|ze zr zn) zn)
 (zz (mL (zw uM (cR<|ze zr zn) zi)<|zI 2<|ze (zw cF (fA zi<|zw uM (cR<|ze zr zn) zi) zr)<|ze (zw cF (fA zi<|zw uM (cR<|ze zr zn) zi) zr) zn)
 (zz (iU (wI<|ze (zI 2<|ze zi<|ze zr zn) zn) zD (zz (zM<|zw Ts (v8<|ze zr zn) zi)
 (zz (iU (wI<|ze (zI 2<|ze zi<|ze zi zn) zn) zD (zz (zM<|zI 2<|ze zi<|ze zi zn)
 (Ff (zw fQ (zw jP zi zi) zr) zi)))
 (dN (d4<|zw ua (bC AE<|ze zi zn) zr) (mL (bC pC<|ze zi zn)<|cR<|ze (zw fQ zr<|zI 2<|ze zi<|ze zr zn)<|ze zr zn) eE))))
 uF))),
 (aG (zN<|A5 hr (zQ (uN _ rfl) (cS<|af zo zm) aa)<|cS<|af (zQ fO zo<|zH<|af aa<|af zo zm)<|af (zQ fO zo<|zH<|af aa<|af zo zm) zm)
 (aG (mO hr aa (zQ (uN _ rfl) (cS<|af zo zm) aa)<|zH<|af (bH cG (fC hr aa<|zQ (uN _ rfl) (cS<|af zo zm) aa) zo)<|af (bH cG (fC hr aa<|zQ (uN _ rfl) (cS<|af zo zm) aa) zo) zm)
 (aG (iW (wW<|af (zH<|af aa<|af zo zm) zm) zC (aG (zN<|zQ Uz (vW<|af zo zm) aa)
 (aG (iW (wW<|af (zH<|af aa<|af aa zm) zm) zC (aG (zN<|zH<|af aa<|af aa zm)
 (aP<|ud (zQ fO (bH jL aa aa) zo)<|EC aa aa FF)))
 (aP<|dJ (d6 tW (dZ (Am _ rfl rfl) ă<|af aa zm) zo) (aP<|mO hr aa (gI pz Õ<|af aa zm)<|cS<|af (zQ fO zo<|zH<|af aa<|af zo zm)<|af zo zm) eI))))
 (aP<|bO aa))))⟩
noncomputable def Og:MS:=(zK (aS 2<|iI (d9 uB<|eO<|zk 0) 2 [1] (fu 2<|bZ (zE 0)<|bZ (zE 1) gq) (mB<|au (gU true) (zk 1)<|mC<|.int 0)<|cz<|zj (zk 0)<|zj (aO w5<|zj (zk 1)<|zj (zk 2) zu) zu)
  (bY<|bf (f1 k7)<|zj (bf (f1 wj)<|zj (zk 2) zu) zu))
noncomputable def BK:FD:=b8 3 [0,1] Og
abbrev Of(Z:Zs):Prop:=Z.C "from_common" 3 ["numbers", "common"] 2 BK
theorem ziq(B:Bs Z)(A:cQ Z "from_common" Ob)(c0:F0 Z):Of Z :=
 have hB:=B.1; de A ["numbers", "common", "pairs"] λnd hr=>⟨_,(zz (zM<|kP (Fo<|fY zi) (iy<|zW zD<|zW zD iz) (d4<|zw uD zi zr)<|cR<|ze zi<|ze (zI 2<|ze zi<|ze zi zn) zn)
 (cn<|bC pC<|ze (bC Mx<|ze zi zn) zn)),
 (aG (Sv (E9<|fZ aa) (iA<|cA zC<|cA zC iB) (U6<|d6 tX aa zo)<|cS<|af aa<|af (zH<|af aa<|af aa zm) zm)
 (aP<|bO<|gI pz Õ<|af (dZ (Np _ rfl hr) PyProof.Rows.boot_sorted<|af aa zm) zm))⟩
noncomputable def OK:MS:=(zK (qS (aO BM<|zj (zk 0) zu)<|fu 2<|bZ (zE 1)<|bZ (zE 2) gq)
  (zK (aS 3<|mC<|.int 0)
  (zK (gG (d9 tT<|eO<|zk 1) (fu 2<|bZ (zE 4)<|bZ (zE 5) gq)<|aS 3<|aO lM<|zj (zk 3)<|zj (bf (f1 qW)<|zj (zk 5) zu) zu)
  (bY<|cz<|zj (eO<|xO (d9 tT<|eO<|zk 1) 2 [3] (fu 2<|bZ (zE 0)<|bZ (zE 1) gq) gW (zk 0)<|au uc (zk 1)<|zk 2)<|zj (aO w5<|zj (zk 3)<|zj (zk 2) zu) zu))))
noncomputable def xq:FD:=b8 6 [0] OK
abbrev OJ(Z:Zs):Prop:=Z.C "without_content" 3 ["pairs"] 1 xq
theorem zfr(B:Bs Z)(A:cQ Z "without_content" OQ)(c0:BH Z)(c1:F0 Z)(c2:Ol Z):OJ Z :=
 have hB:=B.1; de A ["pairs", "numbers", "common", "content", "powers", "many"] λnd hr=>⟨_,(zz (DT (zI 1<|ze zi zn)<|iy<|zW zD<|zW zD iz)
 (zz (zM zr)
 (zz (iU (EO<|fY zi) (iy<|zW zD<|zW zD iz)<|zM<|zI 2<|ze zi<|ze (bC AF<|ze zi zn) zn)
 (cn<|cR<|ze (fY<|IJ (EO<|fY zi) (iy<|zW zD<|zW zD iz) jO zi<|zw Be zi zi)<|ze (zI 2<|ze zi<|ze zi zn) zn)))),
 (aG (ud (zH<|af aa zm)<|iA<|cA zC<|cA zC iB)
 (aG (zN zo)
 (aG (iW (ET<|fZ aa) (iA<|cA zC<|cA zC iB)<|aP<|zN<|zH<|af aa<|af (dZ Bz Ą<|af aa zm) zm)
 (aP<|bO<|cS<|af (fZ<|IL hr (ET<|fZ aa) (iA<|cA zC<|cA zC iB) jQ aa<|zQ By aa aa)<|af (zH<|af aa<|af aa zm) zm))))⟩
noncomputable def OR:MS:=(zK (aS 2<|bf (f1 lC)<|zj (zk 0) zu)
  (zK (aS 3<|bf (f1<|vR iY)<|zj (bf (f1 uu)<|zj (zk 1) zu) zu)
  (zK (aS 4 iZ)
  (zK (mM (vS<|zk 2) (zK (aS 5<|bf (f1<|vR iY)<|zj (bf (f1 uu)<|zj (zk 2) zu) zu)
  (zK (aS 6<|bf (f1 k7)<|zj (iI (tP<|zj (zk 5)<|zj (zk 3) zu) 2 [] (fu 2<|bZ (zE 0)<|bZ (zE 1) gq) gW<|au jt (zk 0)<|zk 1) zu)
  (zK (cy (sC (mB<|au tH (bf (f1 tZ)<|zj (zk 6) zu)<|mC<|.int 0)<|mB<|au (gU true) (au DD (dn (zk 2)<|zk 5)<|dn (zk 1)<|zk 3)<|mC<|.int 0) (bY<|mC .none) cN)
  (zK (iw 4 (zk 6)<|au uc (dn (zk 2)<|zk 5)<|dn (zk 1)<|zk 3)
  (t8<|aO BA<|zj (zk 2)<|zj (zk 1)<|zj (zk 6)<|zj (dn (zk 4)<|zk 6) zu))))))
  (jK [0,1] 4)))))
noncomputable def BJ:FD:=b8 7 [0,1] OR
abbrev Oy(Z:Zs):Prop:=Z.C "whole_quotient" 3 ["dividend", "divisor"] 2 BJ
theorem zf4(B:Bs Z)(A:cQ Z "whole_quotient" OV)(c0:JV Z)(c1:Nu Z):Oy Z :=
 have hB:=B.1; de A ["dividend", "divisor", "rest", "lead", "told", "top", "powers"] λnd hr=>⟨_,(zz (zM<|bC FP<|ze zi zn)
 (zz (zM<|bC K6<|ze (bC Ma<|ze zi zn) zn)
 (zz (zM lD)
 (zz (Bb (XE zi) (zz (zM<|bC K6<|ze (bC Ma<|ze zi zn) zn)
 (zz (zM<|bC pC<|ze (kP (AS<|ze zi<|ze zi zn) (iy<|zW zD<|zW zD iz) jO<|zw k9 zi zi) zn)
 (zz (dN (Ak (d4<|zw v9 (bC K8<|ze zi zn) zr)<|d4<|zw uD (zw Wj (fA zi zi)<|fA zi zi) zr) (cn rh) eE)
 (zz (mL zi<|zw Be (fA zi zi)<|fA zi zi)
 (Ky<|zI 4<|ze zi<|ze zi<|ze zi<|ze (fA zi zi) zn))))))
 uF)))),
 (aG (zN<|gI F1 è<|af aa zm)
 (aG (zN<|JZ<|gI (NC _ rfl rfl) PyProof.Rows.boot_list<|af aa zm)
 (aG (zN lJ)
 (aG (Bf (Tv aa) (aG (zN<|JZ<|gI (NC _ rfl rfl) PyProof.Rows.boot_list<|af aa zm)
 (aG (zN<|gI pz Õ<|af (l8 (AU<|af aa<|af aa zm) (iA<|cA zC<|cA zC iB) jQ<|zQ lA aa aa) zm)
 (aG (dJ (vN<|Ao (d6 vZ (dZ (J2 _ rfl rfl) ą<|af aa zm) zo)<|AJ<|d6 tX (zQ Xd (fC hr aa aa)<|fC hr aa aa) zo) (aP<|bO rB) eI)
 (aG (mO hr aa aa<|zQ By (fC hr aa aa)<|fC hr aa aa)
 (aP<|KL<|zH<|af aa<|af aa<|af aa<|af (fC hr aa aa) zm))))))
 (aP<|bO aa)))))⟩
noncomputable def Ox:MS:=(zK (aS 3<|bf (f1 lC)<|zj (zk 0) zu)
  (zK (gG (d9 kY<|eO<|zk 1) (zE 4) (zK (aS 5<|cz<|zj (au iR (zk 2)<|au bP (dn (zk 1)<|zk 4)<|mC<|.int 0)<|zj (au bP (dn (zk 1)<|zk 4)<|mC<|.int 1) zu)
  (iw 3 (zk 4)<|aO xi<|zj (rG (zk 3) (zk 4)<|cz<|zj (mC<|.int 0)<|zj (mC<|.int 1) zu)<|zj (zk 5) zu)))
  (zK (aS 6 iZ)
  (zK (gG (d9 kY<|eO<|zk 3) (zE 4)<|cy (mB<|au (gU true) (au bP (dn (zk 3)<|zk 4)<|mC<|.int 0)<|mC<|.int 0) (iw 6 (zk 4)<|dn (zk 3)<|zk 4) cN)
  (jK [0,1,2] 6)))))
noncomputable def xp:FD:=b8 7 [0,1,2] Ox
abbrev Ge(Z:Zs):Prop:=Z.C "_law_poly_add" 3 ["_law_one", "_law_other", "_law_sign"] 3 xp
theorem zf5(B:Bs Z)(A:cQ Z "_law_poly_add" OT)(c0:F5 Z):Ge Z :=
 have hB:=B.1; de A ["_law_one", "_law_other", "_law_sign", "_law_found", "_law_powers", "_law_more", "_law_kept"] λnd hr=>⟨_,(zz (zM<|bC FP<|ze zi zn)
 (zz (iU (rK<|fY zi) zD (zz (zM<|cR<|ze (zw mN zi<|zw cF (fA zi zi) zr)<|ze (zw cF (fA zi zi) zr) zn)
 (mL zi<|zI 2<|ze (Fb zi zi<|cR<|ze zr<|ze zr zn)<|ze zi zn)))
 (zz (zM lD)
 (zz (iU (rK<|fY zi) zD<|dN (d4<|zw uD (zw cF (fA zi zi) zr) zr) (mL zi<|fA zi zi) eE)
 uF)))),
 (aG (zN<|gI F1 è<|af aa zm)
 (aG (iW (rL<|fZ aa) zC (aG (zN<|cS<|af (zQ mQ aa<|bH cG (fC hr aa aa) zo)<|af (bH cG (fC hr aa aa) zo) zm)
 (aP<|mO hr aa aa<|zH<|af (Fc hr aa aa (cS<|af zo<|af zo zm) ⟨rfl,rfl,rfl,rfl⟩)<|af aa zm)))
 (aG (zN lJ)
 (aG (iW (rL<|fZ aa) zC<|aP<|dJ (d6 tX (bH cG (fC hr aa aa) zo) zo) (aP<|mO hr aa aa<|fC hr aa aa) eI)
 (aP<|bO aa)))))⟩
noncomputable def OI:MS:=(zK (aS 2 iZ)
  (zK (gG (d9 kY<|eO<|zk 0) (zE 3)<|gG (d9 kY<|eO<|zk 1) (zE 4) (zK (aS 5<|bf (f1 k7)<|zj (iI (tP<|zj (zk 3)<|zj (zk 4) zu) 2 [] (fu 2<|bZ (zE 0)<|bZ (zE 1) gq) gW<|au eW (zk 0)<|zk 1) zu)
  (zK (aS 6<|aO xg<|zj (dn (zk 0)<|zk 3)<|zj (dn (zk 1)<|zk 4) zu)
  (iw 2 (zk 5)<|aO xi<|zj (rG (zk 2) (zk 5)<|cz<|zj (mC<|.int 0)<|zj (mC<|.int 1) zu)<|zj (zk 6) zu))))
  (zK (aS 7 iZ)
  (zK (gG (d9 kY<|eO<|zk 2) (zE 5)<|cy (mB<|au (gU true) (au bP (dn (zk 2)<|zk 5)<|mC<|.int 0)<|mC<|.int 0) (iw 7 (zk 5)<|dn (zk 2)<|zk 5) cN)
  (jK [0,1] 7)))))
noncomputable def pE:FD:=b8 8 [0,1] OI
abbrev BQ(Z:Zs):Prop:=Z.C "_law_poly_mult" 3 ["_law_one", "_law_other"] 2 pE
theorem zfs(B:Bs Z)(A:cQ Z "_law_poly_mult" OP)(c0:F5 Z)(c1:Gc Z):BQ Z :=
 have hB:=B.1; de A ["_law_one", "_law_other", "_law_found", "_law_left", "_law_right", "_law_powers", "_law_more", "_law_kept"] λnd hr=>⟨_,(zz (zM lD)
 (zz (iU (rK<|fY zi) zD<|iU (rK<|fY zi) zD (zz (zM<|bC pC<|ze (kP (AS<|ze zi<|ze zi zn) (iy<|zW zD<|zW zD iz) jO<|zw fQ zi zi) zn)
 (zz (zM<|zI 2<|ze (fA zi zi)<|ze (fA zi zi) zn)
 (mL zi<|zI 2<|ze (Fb zi zi<|cR<|ze zr<|ze zr zn)<|ze zi zn))))
 (zz (zM lD)
 (zz (iU (rK<|fY zi) zD<|dN (d4<|zw uD (zw cF (fA zi zi) zr) zr) (mL zi<|fA zi zi) eE)
 uF)))),
 (aG (zN lJ)
 (aG (iW (rL<|fZ aa) zC<|aP<|iW (rL<|fZ aa) zC (aG (zN<|gI pz Õ<|af (l8 (AU<|af aa<|af aa zm) (iA<|cA zC<|cA zC iB) jQ<|zQ fO aa aa) zm)
 (aG (zN<|zH<|af (fC hr aa aa)<|af (fC hr aa aa) zm)
 (aP<|mO hr aa aa<|zH<|af (Fc hr aa aa (cS<|af zo<|af zo zm) ⟨rfl,rfl,rfl,rfl⟩)<|af aa zm))))
 (aG (zN lJ)
 (aG (iW (rL<|fZ aa) zC<|aP<|dJ (d6 tX (bH cG (fC hr aa aa) zo) zo) (aP<|mO hr aa aa<|fC hr aa aa) eI)
 (aP<|bO aa)))))⟩
noncomputable def OG:MS:=(zK (aS 4 iZ)
  (zK (gG (oK<|zj (aO zP<|zj (zk 0)<|zj (au eW (zk 2)<|mC<|.int 1) zu) zu) (zE 5) (zK (aS 6<|aO BL<|zj (zk 0) zu)
  (zK (aS 7<|bf (f1 k7)<|zj (iI (oK<|zj (zk 1) zu) 1 [3,0] (zE 0) gW<|aO zP<|zj (zk 2)<|zj (zk 1) zu) zu)
  (cy (mB<|au (gU true) (au bP (zk 6)<|mC<|.int 0)<|mC<|.int 0) (iw 4 (zk 7)<|zk 6) cN))))
  (jK [0,1,2,3] 4)))
noncomputable def u5:FD:=b8 8 [0,1,2,3] OG
abbrev OF(Z:Zs):Prop:=Z.C "_law_small_poly" 3 ["_law_box_here", "_law_many", "_law_most", "_law_top"] 4 u5
theorem zeW(B:Bs Z)(A:cQ Z "_law_small_poly" OH)(c0:xj Z)(c1:Oh Z):OF Z :=
 have hB:=B.1; de A ["_law_box_here", "_law_many", "_law_most", "_law_top", "_law_found", "_law_k", "_law_f", "_law_powers"] λnd hr=>⟨_,(zz (zM lD)
 (zz (iU (wI<|ze (zI 2<|ze zi<|ze (zw fQ zi zr) zn) zn) zD (zz (zM<|zI 1<|ze zi zn)
 (zz (zM<|bC pC<|ze (kP (wI<|ze zi zn) zD jO<|zI 2<|ze zi<|ze zi zn) zn)
 (dN (d4<|zw uD (zw cF zi zr) zr) (mL zi zi) eE))))
 uF)),
 (aG (zN lJ)
 (aG (iW (wW<|af (zH<|af aa<|af (zQ fO aa zo) zm) zm) zC (aG (zN<|zH<|af aa zm)
 (aG (zN<|gI pz Õ<|af (l8 (wW<|af aa zm) zC jQ<|zH<|af aa<|af aa zm) zm)
 (aP<|dJ (d6 tX (bH cG aa zo) zo) (aP<|mO hr aa aa aa) eI))))
 (aP<|bO aa)))⟩
noncomputable def Ga:MS:=(zK (cy (mB<|au (vK false) (zk 0)<|cz zu) (bY<|cz zu) cN)
  (zK (qS (aO xq<|zj (zk 0) zu)<|fu 2<|bZ (zE 2)<|bZ (zE 3) gq)
  (zK (qS (aO xq<|zj (zk 1) zu)<|fu 2<|bZ (zE 4)<|bZ (zE 5) gq)
  (zK (aS 6<|aO BJ<|zj (zk 2)<|zj (zk 4) zu)
  (zK (cy (mB<|au (jE false) (zk 6)<|mC .none) (bY<|mC .none) cN)
  (bY<|aO BK<|zj (xO (d9 uB<|eO<|zk 6) 2 [5,3] (fu 2<|bZ (zE 0)<|bZ (zE 1) gq) gW (zk 0)<|au iX (au iX (zk 1)<|au bP (zk 3)<|mC<|.int 0)<|au bP (zk 2)<|mC<|.int 1)<|zj (au iX (au bP (zk 3)<|mC<|.int 1)<|au bP (zk 5)<|mC<|.int 0) zu))))))
noncomputable def xk:FD:=b8 7 [0,1] Ga
abbrev NK(Z:Zs):Prop:=Z.C "parted_by" 4 ["poly", "other"] 2 xk
theorem zlC(B:Bs Z)(A:cQ Z "parted_by" NR)(c0:Of Z)(c1:OJ Z)(c2:Oy Z):NK Z :=
 have hB:=B.1; de A ["poly", "other", "dividend", "content", "divisor", "other_content", "quotient"] λnd hr=>⟨_,(zz (dN (d4<|zw (U2 false) zi<|cR zn) (cn<|cR zn) eE)
 (zz (DT (zI 1<|ze zi zn)<|iy<|zW zD<|zW zD iz)
 (zz (DT (zI 1<|ze zi zn)<|iy<|zW zD<|zW zD iz)
 (zz (zM<|zI 2<|ze zi<|ze zi zn)
 (zz (dN (d4<|zw Eg zi rh) (cn rh) eE)
 (cn<|zI 2<|ze (IJ (Fo<|fY zi) (iy<|zW zD<|zW zD iz) jO zi<|zw jS (zw jS zi<|zw cF zi zr)<|zw cF zi zr)<|ze (zw jS (zw cF zi zr)<|zw cF zi zr) zn)))))),
 (aG (dJ (d6 (U3 _ rfl hr) aa<|cS zm) (aP<|bO<|cS zm) eI)
 (aG (ud (zH<|af aa zm)<|iA<|cA zC<|cA zC iB)
 (aG (ud (zH<|af aa zm)<|iA<|cA zC<|cA zC iB)
 (aG (zN<|zH<|af aa<|af aa zm)
 (aG (dJ (d6 EH aa rB) (aP<|bO rB) eI)
 (aP<|bO<|zH<|af (IL hr (E9<|fZ aa) (iA<|cA zC<|cA zC iB) jQ aa<|zQ jT (zQ jT aa<|bH cG aa zo)<|bH cG aa zo)<|af (zQ jT (bH cG aa zo)<|bH cG aa zo) zm))))))⟩
noncomputable def OC:MS:=(zK (aS 2<|au jt (aO rP<|zj (zk 0) zu)<|aO rP<|zj (zk 1) zu)
  (zK (aS 3<|bf (f1 vQ)<|zj (zk 1) zu)
  (zK (aS 4<|dn (zk 1)<|zk 3)
  (zK (aS 5 iZ)
  (zK (aS 6<|bf (f1 lC)<|zj (zk 0) zu)
  (zK (mM (mB<|au qG (bf (f1 DN)<|zj (zk 6) zu)<|mC<|.int 0) (zK (aS 7<|bf (f1 vQ)<|zj (zk 6) zu)
  (zK (aS 8<|bf (f1 k7)<|zj (iI (tP<|zj (zk 7)<|zj (zk 3) zu) 2 [] (fu 2<|bZ (zE 0)<|bZ (zE 1) gq) gW<|au jt (zk 0)<|zk 1) zu)
  (zK (cy (sC (mB<|au tH (bf (f1 tZ)<|zj (zk 8) zu)<|mC<|.int 0)<|mB<|au qG (bf (f1 kR)<|zj (zk 8) zu)<|zk 2) (bY<|mC .none) cN)
  (zK (aS 9<|aO pD<|zj (au bP (zk 4)<|mC<|.int 1)<|zj (au bP (zk 4)<|mC<|.int 0) zu)
  (zK (aS 10<|uw (zk 8)<|aO xg<|zj (dn (zk 6)<|zk 7)<|zj (zk 9) zu)
  (zK (t8<|CZ 5<|zk 10)
  (aS 6<|aO xp<|zj (zk 6)<|zj (aO pE<|zj (zk 10)<|zj (zk 1) zu)<|zj (m7 oA<|mC<|.int 1) zu))))))))
  (jK [0,1] 5)))))))
noncomputable def BO:FD:=b8 11 [0,1] OC
abbrev OB(Z:Zs):Prop:=Z.C "_law_parted" 4 ["_law_above", "_law_beneath"] 2 BO
theorem zhT(B:Bs Z)(A:cQ Z "_law_parted" Oz)(c0:u6 Z)(c1:Gc Z)(c2:Ge Z)(c3:BQ Z)(c4:Gb Z):OB Z :=
 have hB:=B.1; de A ["_law_above", "_law_beneath", "_law_most", "_law_least", "_law_f", "_law_found", "_law_left", "_law_powers", "_law_others", "_law_under", "_law_term"] λnd hr=>⟨_,(zz (zM<|zw k9 (zI 1<|ze zi zn)<|zI 1<|ze zi zn)
 (zz (zM<|bC K4<|ze zi zn)
 (zz (zM<|fA zi zi)
 (zz (zM lD)
 (zz (zM<|bC FP<|ze zi zn)
 (zz (Bb (d4<|zw ua (bC Ws<|ze zi zn) zr) (zz (zM<|bC K4<|ze zi zn)
 (zz (zM<|bC pC<|ze (kP (AS<|ze zi<|ze zi zn) (iy<|zW zD<|zW zD iz) jO<|zw k9 zi zi) zn)
 (zz (dN (Ak (d4<|zw v9 (bC K8<|ze zi zn) zr)<|d4<|zw ua (bC AE<|ze zi zn) zi) (cn rh) eE)
 (zz (zM<|zI 2<|ze (zw cF zi zr)<|ze (zw cF zi zr) zn)
 (zz (zM<|A4 zi<|zI 2<|ze (fA zi zi)<|ze zi zn)
 (zz (Ky<|R8 zi)
 (zM<|zI 3<|ze zi<|ze (zI 2<|ze zi<|ze zi zn)<|ze (vM wk zr) zn))))))))
 uF)))))),
 (aG (zN<|zQ lA (zH<|af aa zm)<|zH<|af aa zm)
 (aG (zN<|dZ (J1 _ rfl rfl hr) ą<|af aa zm)
 (aG (zN<|fC hr aa aa)
 (aG (zN lJ)
 (aG (zN<|gI F1 è<|af aa zm)
 (aG (Bf (d6 tW (dZ Zx č<|af aa zm) zo) (aG (zN<|dZ (J1 _ rfl rfl hr) ą<|af aa zm)
 (aG (zN<|gI pz Õ<|af (l8 (AU<|af aa<|af aa zm) (iA<|cA zC<|cA zC iB) jQ<|zQ lA aa aa) zm)
 (aG (dJ (vN<|Ao (d6 vZ (dZ (J2 _ rfl rfl) ą<|af aa zm) zo)<|AJ<|d6 tW (dZ (Am _ rfl rfl) ă<|af aa zm) aa) (aP<|bO rB) eI)
 (aG (zN<|zH<|af (bH cG aa zo)<|af (bH cG aa zo) zm)
 (aG (zN<|A5 hr aa<|zH<|af (fC hr aa aa)<|af aa zm)
 (aG (KL<|R9 hr aa aa)
 (aP<|zN<|zH<|af aa<|af (zH<|af aa<|af aa zm)<|af (vP wy zo) zm))))))))
 (aP<|bO aa)))))))⟩
noncomputable def FZ:MS:=(zK (aS 3<|aO xk<|zj (aO u7<|zj (zk 0) zu)<|zj (aO u7<|zj (zk 1) zu) zu)
  (zK (cy (mB<|au (jE false) (zk 2)<|mC .none) (bY<|au (jE false) (zk 3)<|mC .none) cN)
  (bY<|Aj (au (gU false) (bf (f1 t9)<|zj (zk 3) zu)<|bf (f1 t9)<|zj (aO u7<|zj (zk 2) zu) zu)<|au (oF true) (aO pE<|zj (bf (f1 AN)<|zj (zk 3) zu)<|zj (zk 1) zu)<|zk 0)))
noncomputable def gY:FD:=b8 4 [0,1,2] FZ
abbrev Nt(Z:Zs):Prop:=Z.C "_law_is" 5 ["_law_one", "_law_other", "_law_due"] 3 gY
theorem zmN(B:Bs Z)(A:cQ Z "_law_is" Ny)(c0:NK Z)(c1:BQ Z)(c2:OM Z):Nt Z :=
 have hB:=B.1; de A ["_law_one", "_law_other", "_law_due", "_law_found"] λnd hr=>⟨_,(zz (zM<|zI 2<|ze (zI 1<|ze zi zn)<|ze (zI 1<|ze zi zn) zn)
 (zz (dN (d4<|zw Eg zi rh) (cn<|zw Eg zi rh) eE)
 (cn<|UZ (zw UW (bC LA<|ze zi zn)<|bC LA<|ze (zI 1<|ze zi zn) zn)<|zw E3 (zI 2<|ze (bC Yz<|ze zi zn)<|ze zi zn) zi))),
 (aG (zN<|zH<|af (zH<|af aa zm)<|af (zH<|af aa zm) zm)
 (aG (dJ (d6 EH aa rB) (aP<|bO<|Ap EH aa rB) eI)
 (aP<|bO<|Sw (Ap SJ (dZ (KJ _ rfl hr) PyProof.Rows.boot_repr<|af aa zm)<|dZ (KJ _ rfl hr) PyProof.Rows.boot_repr<|af (zH<|af aa zm) zm)<|Sx<|Ap (E4 (.inl ⟨rfl,rfl⟩) _ rfl hr) (zH<|af (gI (zmz _ rfl hr rfl) è<|af aa zm)<|af aa zm) aa)))⟩
noncomputable def JC:MS:=(zK (gG (oK<|zj (au eW (mC<|.int 1)<|bf (f1 qX)<|zj (xN tQ (zk 0) wF<|v7<|mC<|.int 3) zu) zu) (zE 1) (zK (aS 2<|aO BF<|zj (zk 0)<|zj (zk 1) zu)
  (zK (aS 3<|au eW (mC<|.int 1)<|aO zP<|zj (zk 2)<|zj (mC<|.int 3) zu)
  (zK (aS 4<|aO u5<|zj (zk 2)<|zj (zk 3)<|zj (au gX (oz<|zj (mC<|.int 5)<|zj (mC<|.int 5)<|zj (mC<|.int 4) zu)<|au jt (zk 3)<|mC<|.int 1)<|zj (mC<|.int 3) zu)
  (zK (aS 5<|aO u5<|zj (zk 2)<|zj (zk 3)<|zj (au gX (oz<|zj (mC<|.int 5)<|zj (mC<|.int 5)<|zj (mC<|.int 4) zu)<|au jt (zk 3)<|mC<|.int 1)<|zj (mC<|.int 3) zu)
  (zK (cy (mB<|au (oF true) (zk 5) iZ) (aS 5<|aO xl<|zj (zk 2)<|zj (zk 3)<|zj (mC<|.int 3) zu) cN)
  (zK (aS 6<|aO pE<|zj (zk 4)<|zj (zk 5) zu)
  (zK (aS 7<|uw (au mD (cz<|zj (mC<|.int 0) zu)<|zk 3)<|cz<|zj (au jt (mC<|.int 0)<|mC<|.int 2)<|zj (mC<|.int 3) zu)
  (zK (cy (sC (jH<|mB<|aO gY<|zj (zk 6)<|zj (zk 5)<|zj (zk 4) zu)<|jH<|mB<|aO gY<|zj iZ<|zj (zk 5)<|zj iZ zu) (bY<|mC<|.bool false) cN)
  (zK (cy (y0 (mB<|au (oF false) (zk 4) iZ)<|jH<|mB<|aO gY<|zj (zk 6)<|zj (zk 4)<|zj (zk 5) zu) (bY<|mC<|.bool false) cN)
  (zK (cy (jH<|mB<|aO gY<|zj (zk 5)<|zj (zk 5)<|zj (uw (au mD (cz<|zj (mC<|.int 0) zu)<|zk 3)<|cz<|zj (mC<|.int 1)<|zj (mC<|.int 1) zu) zu) (bY<|mC<|.bool false) cN)
  (zK (cy (jH<|mB<|aO gY<|zj (aO pE<|zj (zk 4)<|zj (zk 7) zu)<|zj (zk 7)<|zj (zk 4) zu) (bY<|mC<|.bool false) cN)
  (zK (aS 8<|aO u5<|zj (zk 2)<|zj (zk 3)<|zj (au gX (oz<|zj (mC<|.int 5)<|zj (mC<|.int 5)<|zj (mC<|.int 4) zu)<|au jt (zk 3)<|mC<|.int 1)<|zj (mC<|.int 3) zu)
  (zK (aS 9<|bf (f1 AM)<|zj (iI (d9 tT<|eO<|xN tQ (bf (f1 AX)<|zj (zk 5) zu) (v7<|m7 oA<|mC<|.int 2) wF) 1 [5] (zE 0) gW<|cz<|zj (zk 0)<|zj (dn (zk 1)<|zk 0) zu) zu)
  (zK (gG (d9 tS<|cz<|zj (eO<|zk 5)<|zj (eO<|zk 9) zu) (zE 10)<|cy (jH<|mB<|aO gY<|zj (zk 8)<|zj (zk 10)<|zj (aO BO<|zj (zk 8)<|zj (zk 10) zu) zu) (bY<|mC<|.bool false) cN)
  (cy (mB<|au qG (aO rP<|zj (zk 5) zu)<|mC<|.int 0) (zK (aS 11<|aO xp<|zj (zk 6)<|zj (aO xl<|zj (zk 2)<|zj (zk 3)<|zj (aO rP<|zj (zk 5) zu) zu)<|zj (mC<|.int 1) zu)
  (cy (sC (jH<|mB<|aO gY<|zj (zk 11)<|zj (zk 5)<|zj (mC .none) zu)<|jH<|mB<|aO gY<|zj (zk 6)<|zj (zk 5)<|zj (zk 4) zu) (bY<|mC<|.bool false) cN)) cN))))))))))))))))
  (bY<|mC<|.bool true))
noncomputable def uo:FD:=b8 12 [0] JC
theorem Ue{f:Qg}(B:Bs Z)(F:jo Z.K "law" "law" JD f fd)(c0:NN Z)(c1:xj Z)(c2:Ge Z)(c3:BQ Z)(c4:OF Z)(c5:Gb Z)(c6:NL Z)(c7:OB Z)(c8:Nt Z):bW Z.P Z.w Z.K Z.mg Z.base gF 6 f fd ["_law_script"] (lP Z.K 1 uo):=
 have hB:=B.1; Pr F ["_law_script", "_law_k", "_law_box_here", "_law_many", "_law_one", "_law_other", "_law_whole", "_law_number", "_law_free", "_law_some", "_law_beneath", "_law_more"] λnd hr=>⟨_,(zz (iU (wI<|ze (zw fQ zr<|bC AG<|ze (Je Lr zi Lu<|Ls zr) zn) zn) zD (zz (zM<|zI 2<|ze zi<|ze zi zn)
 (zz (zM<|zw fQ zr<|zI 2<|ze zi<|ze zr zn)
 (zz (zM<|zI 4<|ze zi<|ze zi<|ze (zw jP (v8<|ze zr<|ze zr<|ze zr zn)<|zw k9 zi zr)<|ze zr zn)
 (zz (zM<|zI 4<|ze zi<|ze zi<|ze (zw jP (v8<|ze zr<|ze zr<|ze zr zn)<|zw k9 zi zr)<|ze zr zn)
 (zz (AB<|dN (d4<|zw E3 zi lD) (zM<|zI 3<|ze zi<|ze zi<|ze zr zn) eE)
 (zz (zM<|zI 2<|ze zi<|ze zi zn)
 (zz (zM<|A4 (zw uM (cR<|ze zr zn) zi)<|cR<|ze (zw k9 zr zr)<|ze zr zn)
 (zz (dN (Ak (oS<|kQ<|zI 3<|ze zi<|ze zi<|ze zi zn)<|oS<|kQ<|zI 3<|ze lD<|ze zi<|ze lD zn) (cn qY) eE)
 (zz (dN (U0 (d4<|zw E3 zi lD)<|oS<|kQ<|zI 3<|ze zi<|ze zi<|ze zi zn) (cn qY) eE)
 (zz (dN (oS<|kQ<|zI 3<|ze zi<|ze zi<|ze (A4 (zw uM (cR<|ze zr zn) zi)<|cR<|ze zr<|ze zr zn) zn) (cn qY) eE)
 (zz (dN (oS<|kQ<|zI 3<|ze (zI 2<|ze zi<|ze zi zn)<|ze zi<|ze zi zn) (cn qY) eE)
 (zz (zM<|zI 4<|ze zi<|ze zi<|ze (zw jP (v8<|ze zr<|ze zr<|ze zr zn)<|zw k9 zi zr)<|ze zr zn)
 (zz (zM<|bC Yt<|ze (kP (EO<|fY<|Je Lr (bC XO<|ze zi zn) (Ls<|vM wk zr) Lu) zD jO<|cR<|ze zi<|ze (fA zi zi) zn) zn)
 (zz (iU (Ej<|cR<|ze (fY zi)<|ze (fY zi) zn) zD<|dN (oS<|kQ<|zI 3<|ze zi<|ze zi<|ze (zI 2<|ze zi<|ze zi zn) zn) (cn qY) eE)
 (dN (d4<|zw ua (zI 1<|ze zi zn) zr) (zz (zM<|zI 3<|ze zi<|ze (zI 3<|ze zi<|ze zi<|ze (zI 1<|ze zi zn) zn)<|ze zr zn)
 (dN (Ak (oS<|kQ<|zI 3<|ze zi<|ze zi<|ze rh zn)<|oS<|kQ<|zI 3<|ze zi<|ze zi<|ze zi zn) (cn qY) eE)) eE))))))))))))))))
 (cn qY)),
 (aG (iW (wW<|af (zQ fO zo<|dZ An č<|af (LF JK aa LH<|LG zo) zm) zm) zC (aG (zN<|zH<|af aa<|af aa zm)
 (aG (zN<|zQ fO zo<|zH<|af aa<|af zo zm)
 (aG (zN<|zH<|af aa<|af aa<|af (bH jL (vW<|af zo<|af zo<|af zo zm)<|zQ lA aa zo)<|af zo zm)
 (aG (zN<|zH<|af aa<|af aa<|af (bH jL (vW<|af zo<|af zo<|af zo zm)<|zQ lA aa zo)<|af zo zm)
 (aG (AI<|dJ (d6 (E4 (.inl ⟨rfl,rfl⟩) _ rfl hr) aa lJ) (aP<|zN<|zH<|af aa<|af aa<|af zo zm) eI)
 (aG (zN<|zH<|af aa<|af aa zm)
 (aG (zN<|A5 hr (zQ (uN _ rfl) (cS<|af zo zm) aa)<|cS<|af (zQ lA zo zo)<|af zo zm)
 (aG (dJ (vN<|Ao (oV<|oU<|zH<|af aa<|af aa<|af aa zm)<|AJ<|oV<|oU<|zH<|af lJ<|af aa<|af lJ zm) (aP<|bO qT) eI)
 (aG (dJ (vN<|U7 (d6 (E4 (.inr ⟨rfl,rfl⟩) _ rfl hr) aa lJ)<|WY<|oV<|oU<|zH<|af aa<|af aa<|af aa zm) (aP<|bO qT) eI)
 (aG (dJ (oV<|oU<|zH<|af aa<|af aa<|af (A5 hr (zQ (uN _ rfl) (cS<|af zo zm) aa)<|cS<|af zo<|af zo zm) zm) (aP<|bO qT) eI)
 (aG (dJ (oV<|oU<|zH<|af (zH<|af aa<|af aa zm)<|af aa<|af aa zm) (aP<|bO qT) eI)
 (aG (zN<|zH<|af aa<|af aa<|af (bH jL (vW<|af zo<|af zo<|af zo zm)<|zQ lA aa zo)<|af zo zm)
 (aG (zN<|gI (zmE _ rfl hr rfl) è<|af (l8 (ET<|fZ<|LF JK (dZ (zmJ _ rfl rfl hr) PyProof.Rows.boot_sorted<|af aa zm) (LG<|vP wy zo) LH) zC jQ<|cS<|af aa<|af (fC hr aa aa) zm) zm)
 (aG (iW (EL<|cS<|af (fZ aa)<|af (fZ aa) zm) zC<|aP<|dJ (oV<|oU<|zH<|af aa<|af aa<|af (zH<|af aa<|af aa zm) zm) (aP<|bO qT) eI)
 (aP<|dJ (d6 tW (zH<|af aa zm) zo) (aG (zN<|zH<|af aa<|af (zH<|af aa<|af aa<|af (zH<|af aa zm) zm)<|af zo zm)
 (aP<|dJ (vN<|Ao (oV<|oU<|zH<|af aa<|af aa<|af rB zm)<|AJ<|oV<|oU<|zH<|af aa<|af aa<|af aa zm) (aP<|bO qT) eI)) eI))))))))))))))))
 (aP<|bO qT))⟩
end
theorem wC{p:Pq Rat}(nd:aA p){a:Qa Int×Rat}(h:a∈p):∃ r:Pq Rat,(∀ u∈r,u∈p/\u.1≠a.1)/\∀ g,ao p g=a.2 * g a.1+ao r g:=by
 have(s,t,rfl):=List.append_of_mem h;refine⟨s++t,λu hu=>⟨?_,λe=>?_⟩,λg=>?_⟩
 .rcases Ä.mp hu with hu|hu
  .exact É _ hu
  .exact qx _ (qo _ hu)
 .unfold aA at nd
  rw[List.map_append,List.map_cons,List.nodup_append]at nd;have(_,n2,n3):=nd;rcases Ä.mp hu with hu|hu
  .exact n3 u.1 (À.mpr ⟨u,hu,rfl⟩) a.1 qp e
  .exact(ì.mp n2).1 (À.mpr ⟨u,hu,e⟩)
 .rw[mU,zv,mU]
  grind
theorem wZ{p:Pq Rat}{g:Qa Int->Rat}(h:∀ t∈p,t.2 * g t.1=0):ao p g=0:=by
 induction p with
 | nil=>rfl
 | cons t p ih=>rw[zv,h t qp,ih λu hu=>h u<|qo _ hu,Rat.zero_add]
noncomputable def ix(k:Qa Int):Qa Int->Rat:=λe=>if e=k then 1 else 0
theorem Fi(k:Qa Int):ix k k=1:=if_pos rfl
theorem vV{k e:Qa Int}(h:e≠k):ix k e=0:=if_neg h
noncomputable def co(p:Pq Rat)(k:Qa Int):Rat:=ao p (ix k)
theorem mJ{p:Pq Rat}(nd:aA p){t:Qa Int×Rat}(h:t∈p):co p t.1=t.2:=by
 have(r,hr,e):=wC nd h;unfold co;rw[e,Fi,wZ λu hu=>by rw[vV (hr u hu).2,Rat.mul_zero]];grind
theorem KZ{p:Pq Rat}{k:Qa Int}(h:∀ t∈p,t.1≠k):co p k=0:=A7 h
theorem Ex{p:Pq Rat}{k:Qa Int}(h:co p k≠0):∃ t∈p,t.1=k:=by
 by_cases c:∃ t∈p,t.1=k
 .exact c
 .exact absurd (KZ λt ht e=>c ⟨t,ht,e⟩) h
structure Od (n:Nat) (O:Qa Int->Qa Int->Prop):Prop where
 ni:∀ a,¬O a a
 tr:∀ {a b c},O a b->O b c->O a c
 Gr:∀ {a b},a≠b->O a b\/O b a
 ad:∀ {a b c:Qa Int},a.length=n->b.length=n->c.length=n->O a b->O (zB a c) (zB b c)
def Ln(n:Nat)(p:Pq α):Prop:=∀ t∈p,t.1.length=n
structure Top (O:Qa Int->Qa Int->Prop) (p:Pq Rat) (a:Qa Int×Rat):Prop where
 mem:a∈p
 top:∀ t∈p,t.1≠a.1->O t.1 a.1
theorem mH(od:Od n O):∀ {p:Pq Rat},p≠[]->∃ a,Top O p a
 | [],h=>absurd rfl h
 | [a],_=>⟨a,qp,λt ht ne=>absurd (by rw[qq.mp ht]) ne⟩
 | a::b::p,_=>by
  have(c,hc):=mH od (p:=b::p) (by simp)
  by_cases e:a.1=c.1
  .refine⟨c,qo _ hc.mem,λt ht ne=>?_⟩
   rcases qw.mp ht with rfl|ht
   .exact absurd e ne
   .exact hc.top t ht ne
  .rcases od.Gr e with z|z
   .refine⟨c,qo _ hc.mem,λt ht ne=>?_⟩
    rcases qw.mp ht with rfl|ht
    .exact z
    .exact hc.top t ht ne
   .refine⟨a,qp,λt ht ne=>?_⟩
    rcases qw.mp ht with rfl|ht
    .exact absurd rfl ne
    .by_cases e2:t.1=c.1
     .rw[e2]
      exact z
     .exact od.tr (hc.top t ht e2) z
theorem Od.yB(od:Od n O){a b c:Qa Int}(ha:a.length=n)(hb:b.length=n)(hc:c.length=n)(h:O a b):O (zB c a) (zB c b):=by
 rw[FL c a,FL c b];exact od.ad ha hb hc h
theorem Od.below(od:Od n O){p q:Pq Rat}(lp:Ln n p)(lq:Ln n q){a b u v:Qa Int×Rat}(ha:Top O p a)(hb:Top O q b)(hu:u∈p)(hv:v∈q)(ne:u.1≠a.1\/v.1≠b.1):O (zB u.1 v.1) (zB a.1 b.1):=by
 by_cases c1:u.1=a.1
 .rw[c1]
  exact od.yB (lq v hv) (lq b hb.mem) (lp a ha.mem)<|hb.top v hv<|ne.resolve_left λz=>z c1
 .have h1:=od.ad (lp u hu) (lp a ha.mem) (lq v hv) (ha.top u hu c1)
  by_cases c2:v.1=b.1
  .rw[c2]at h1 ⊢
   exact h1
  .exact od.tr h1 (od.yB (lq v hv) (lq b hb.mem) (lp a ha.mem)<|hb.top v hv c2)
theorem Ew(od:Od n O){p q:Pq Rat}(np:aA p)(nq:aA q)(lp:Ln n p)(lq:Ln n q){a b:Qa Int×Rat}(ha:Top O p a)(hb:Top O q b):co (aL p q) (zB a.1 b.1)=a.2 * b.2:=by
 unfold co;rw[zY];have(r,hr,e):=wC np ha.mem;rw[e,wZ (p:=r) λu hu=>?_,Rat.add_zero]
 .have(s,hs,e2):=wC nq hb.mem
  rw[e2,Fi,wZ (p:=s) λv hv=>?_]
  .grind
  .rw[vV λz=>od.ni _<|z▸od.below lp lq ha hb ha.mem (hs v hv).1 (.inr (hs v hv).2),Rat.mul_zero]
 .rw[wZ λv hv=>?_,Rat.mul_zero]
  rw[vV λz=>od.ni _<|z▸od.below lp lq ha hb (hr u hu).1 hv (.inl (hr u hu).2),Rat.mul_zero]
def Dv(f g h:Pq Rat):Prop:=∀ γ,ao f γ=ao (aL h g) γ
theorem Dv.mem{f g h:Pq Rat}(d:Dv f g h)(nf:aA f)(zf:∀ t∈f,t.2≠0){t:Qa Int×Rat}(ht:t∈f):∃ u∈h,∃ v∈g,t.1=zB u.1 v.1:=by
 have e:co (aL h g) t.1≠0:=by
  rw[show co (aL h g) t.1=co f t.1 from(d _).symm,mJ nf ht];exact zf t ht
 have(w,hw,e):=Ex e;have(u,hu,v,hv,rfl):=uO hw;exact⟨u,hu,v,hv,e.symm⟩
theorem Dv.top(od:Od n O){f g h:Pq Rat}(d:Dv f g h)(nf:aA f)(zf:∀ t∈f,t.2≠0)(nh:aA h)(ng:aA g)(lh:Ln n h)(lg:Ln n g){a b:Qa Int×Rat}(ha:Top O h a)(hb:Top O g b)(za:a.2≠0)(zb:b.2≠0):Top O f (zB a.1 b.1,a.2 * b.2):=by
 have e:co f (zB a.1 b.1)=a.2 * b.2:=by
  rw[show co f _=co (aL h g) _ from d _];exact Ew od nh ng lh lg ha hb
 have z:a.2 * b.2≠0:=λz=>(ý.mp z).elim za zb;refine⟨?_,λt ht ne=>?_⟩
 .have(t,ht,e2):=Ex (by rw[e]; exact z)
  rw[<-e2,mJ nf ht]at e;rw[<-e2,<-e];exact ht
 .have(u,hu,v,hv,e2):=d.mem nf zf ht
  rw[e2];refine od.below lh lg ha hb hu hv ?_
  by_cases c:u.1=a.1
  .refine .inr λc2=>ne ?_
   rw[e2,c,c2]
  .exact .inl c
theorem um{p:Pq Rat}(h:Nf p):aA p:=by
 unfold aA List.Nodup;rw[List.pairwise_map];exact h.st.imp λh=>j9 h
theorem XM(od:Od n O){p:Pq Rat}{a b:Qa Int×Rat}(ha:Top O p a)(hb:Top O p b):a.1=b.1:=by
 by_cases c:a.1=b.1
 .exact c
 .exact absurd (od.tr (ha.top b hb.mem<|Ne.symm c)<|hb.top a ha.mem c) (od.ni _)
theorem Wh(od:Od n O){g h:Pq Rat}(ng:aA g)(zg:∀ t∈g,t.2≠0)(g0:g≠[])(lg:Ln n g)(lh:Ln n h)(nh:Nf h)(e:∀ γ,ao (aL h g) γ=0):h=[]:=by
 by_cases c:h=[]
 .exact c
 .have(a,ha):=mH od c
  have(b,hb):=mH od g0;have:=Ew od (um nh) ng lh lg ha hb;rw[show co (aL h g) _=0 from e _]at this;exact absurd this.symm λz=>(ý.mp z).elim (nh.nz a ha.mem)<|zg b hb.mem
noncomputable def df(a b:Pq Rat):Pq Rat:=kJ (a++CT b)
theorem Eu(a b:Pq Rat)(γ:Qa Int->Rat):ao (df a b) γ=ao a γ - ao b γ:=by
 unfold df;rw[Fk,mU,XG];grind
theorem Ab(a b:Pq Rat):Nf (df a b):=E8 _
theorem mR{P:Qa Int->Prop}{a b:Pq Rat}(ha:∀ t∈a,P t.1)(hb:∀ t∈b,P t.1):∀ t∈df a b,P t.1:=Na λt ht=>by
 rcases Ä.mp ht with ht|ht
 .exact ha t ht
 .have(u,hu,rfl):=À.mp ht
  exact hb u hu
theorem FY(a b g:Pq Rat)(γ:Qa Int->Rat):ao (aL (df a b) g) γ=ao (aL a g) γ - ao (aL b g) γ:=by
 rw[zY,zY,zY,Eu]
theorem Wg(od:Od n O){f g h h':Pq Rat}(ng:aA g)(zg:∀ t∈g,t.2≠0)(g0:g≠[])(lg:Ln n g)(lh:Ln n h)(lh':Ln n h')(nh:Nf h)(nh':Nf h')(d:Dv f g h)(d':Dv f g h'):h=h':=by
 have e:=Wh od ng zg g0 lg (mR (P:=λe=>e.length=n) lh lh') (Ab h h') λγ=>by
  rw[FY,<-d γ,<-d' γ];grind
 refine A6 nh nh' λγ=>?_;have:=Eu h h' γ;rw[e,zX]at this;grind
def fq(r:Rat):Prop:=∃ z:Int,r=(z:Rat)
def Mu(π:Int)(r:Rat):Prop:=∃ z:Int,r=((π * z:Int):Rat)
theorem fq.add{r s:Rat}(h:fq r)(h':fq s):fq (r+s):=by
 have(y,rfl):=h;have(z,rfl):=h';exact⟨y+z,by rw[Rat.intCast_add]⟩
theorem fq.mul{r s:Rat}(h:fq r)(h':fq s):fq (r * s):=by
 have(y,rfl):=h;have(z,rfl):=h';exact⟨y * z,by rw[Rat.intCast_mul]⟩
theorem Mu.add{r s:Rat}(h:Mu π r)(h':Mu π s):Mu π (r+s):=by
 have(y,rfl):=h;have(z,rfl):=h';exact⟨y+z,by rw[Int.mul_add,Rat.intCast_add]⟩
theorem Mu.mul{r s:Rat}(h:Mu π r)(h':fq s):Mu π (r * s):=by
 have(y,rfl):=h;have(z,rfl):=h';exact⟨y * z,by rw[<-Int.mul_assoc,Rat.intCast_mul (π * y) z]⟩
theorem Mu.mul'{r s:Rat}(h:Mu π r)(h':fq s):Mu π (s * r):=by
 rw[Rat.mul_comm];exact h.mul h'
theorem uJ{k e:Qa Int}:fq (ix k e):=by
 unfold ix;split
 .exact⟨1,rfl⟩
 .exact⟨0,rfl⟩
theorem Et{p:Pq Rat}{g:Qa Int->Rat}(h:∀ t∈p,Mu π<|t.2 * g t.1):Mu π (ao p g):=by
 induction p with
 | nil=>exact⟨0,by rw[Int.mul_zero]; rfl⟩
 | cons t p ih=>
  rw[zv];exact(h t qp).add<|ih λu hu=>h u<|qo _ hu
theorem A0{p:Pq Rat}{g:Qa Int->Rat}(h:∀ t∈p,fq<|t.2 * g t.1):fq (ao p g):=by
 induction p with
 | nil=>exact⟨0,rfl⟩
 | cons t p ih=>
  rw[zv];exact(h t qp).add<|ih λu hu=>h u<|qo _ hu
def mm(p:Pq Rat):Prop:=∀ t∈p,fq t.2
theorem PJ:Mu π 0:=⟨0,by rw[Int.mul_zero]; rfl⟩
open Classical in
theorem JU(od:Od n O){p:Pq Rat}(h:∃ t∈p,¬Mu π t.2):∃ a∈p,¬Mu π a.2/\∀ t∈p,¬Mu π t.2->t.1≠a.1->O t.1 a.1:=by
 have(t,ht,hm):=h;have(a,ha):=mH od (p:=p.filter λt=>decide (¬Mu π t.2)) (List.ne_nil_of_mem<|Æ.mpr ⟨ht,by simpa using hm⟩);have(h1,h2):=Æ.mp ha.mem;exact⟨a,h1,by simpa using h2,λu hu hm ne=>ha.top u (Æ.mpr ⟨hu,by simpa using hm⟩) ne⟩
open Classical in
theorem R6(od:Od n O){p q:Pq Rat}(np:aA p)(nq:aA q)(lp:Ln n p)(lq:Ln n q)(ip:mm p)(iq:mm q){a b:Qa Int×Rat}(ha:a∈p)(hb:b∈q)(ta:∀ t∈p,¬Mu π t.2->t.1≠a.1->O t.1 a.1)(tb:∀ t∈q,¬Mu π t.2->t.1≠b.1->O t.1 b.1):∃ m,Mu π m/\co (aL p q) (zB a.1 b.1)=a.2 * b.2+m:=by
 unfold co;rw[zY];have(r,hr,e):=wC np ha;have(s,hs,e2):=wC nq hb;refine⟨a.2 * ao s (λy=>ix (zB a.1 b.1)<|zB a.1 y)+ao r (λx=>ao q λy=>ix (zB a.1 b.1)<|zB x y),Mu.add (Mu.mul' (Et λv hv=>?_)<|ip a ha)<|Et λu hu=>?_,?_⟩
 .by_cases c:Mu π v.2
  .exact c.mul uJ
  .rw[vV λz=>od.ni _<|z▸od.yB (lq v (hs v hv).1) (lq b hb) (lp a ha) (tb v (hs v hv).1 c (hs v hv).2),Rat.mul_zero]
   exact PJ
 .by_cases c:Mu π u.2
  .exact c.mul (A0 λv hv=>(iq v hv).mul uJ)
  .refine Mu.mul' (Et λv hv=>?_) (ip u (hr u hu).1)
   by_cases c2:Mu π v.2
   .exact c2.mul uJ
   .have h1:=od.ad (lp u (hr u hu).1) (lp a ha) (lq v hv) (ta u (hr u hu).1 c (hr u hu).2)
    have h2:O (zB u.1 v.1) (zB a.1 b.1):=by
     by_cases c3:v.1=b.1
     .rw[c3]at h1 ⊢
      exact h1
     .exact od.tr h1 (od.yB (lq v hv) (lq b hb) (lp a ha)<|tb v hv c2 c3)
    rw[vV λz=>od.ni _<|z▸h2,Rat.mul_zero];exact PJ
 .rw[e,e2,Fi]
  grind
def CG(π:Nat):Prop:=2<=π/\∀ x y:Int,(π:Int)∣x * y->(π:Int)∣x\/(π:Int)∣y
theorem Ud{π:Nat}(h2:2<=π)(h:∀ d,d∣π->d=1\/d=π):CG π:=by
 refine⟨h2,λx y hd=>?_⟩;rcases h (Nat.gcd π x.natAbs) (Nat.gcd_dvd_left _ _)with e|e
 .right
  have h3:π∣x.natAbs * y.natAbs:=by
   rw[<-Int.natAbs_mul];exact þ.mp hd
  exact þ.mpr (Nat.Coprime.dvd_of_dvd_mul_left e h3)
 .left
  refine þ.mpr ?_;rw[<-e];exact Nat.gcd_dvd_right _ _
theorem Uc:∀ {n:Nat},2<=n->∃ π,CG π/\π∣n:=by
 intro n
 induction n using Nat.strongRecOn with
 | ind n ih=>
  intro h2
  by_cases c:∀ d,d∣n->d=1\/d=n
  .exact⟨n,Ud h2 c,Nat.dvd_refl n⟩
  .have ⟨d,hd⟩:=Classical.not_forall.mp c
   have(h1,h3):=Classical.not_imp.mp hd;have dp:0 < d:=Nat.pos_of_dvd_of_pos h1 (by omega);have dl:=û (by omega) h1;have(π,p1,p2):=ih d (by omega) (by omega);exact⟨π,p1,Nat.dvd_trans p2 h1⟩
theorem Ub{π:Nat}(h:CG π){r s:Rat}(hr:fq r)(hs:fq s)(hm:Mu π (r * s)):Mu π r\/Mu π s:=by
 have(x,rfl):=hr;have(y,rfl):=hs;have(z,e):=hm;rw[<-Rat.intCast_mul,Rat.intCast_inj]at e;rcases h.2 x y ⟨z,e⟩with⟨w,hw⟩|⟨w,hw⟩
 .exact .inl ⟨w,by rw[hw]⟩
 .exact .inr ⟨w,by rw[hw]⟩
theorem Mu.r8{r m:Rat}(h:Mu π (r+m))(hm:Mu π m):Mu π r:=by
 have(y,e):=h;have(z,rfl):=hm;refine⟨y - z,?_⟩;rw[Int.mul_sub,Rat.intCast_sub,<-e];grind
def Ro(p:Pq Rat):Prop:=∀ π:Nat,CG π->∃ t∈p,¬Mu π t.2
noncomputable def mY(c:Rat)(p:Pq Rat):Pq Rat:=p.map λt=>(t.1,c * t.2)
theorem Fh(c:Rat)(p:Pq Rat)(g:Qa Int->Rat):ao (mY c p) g=c * ao p g:=by
 induction p with
 | nil=>exact(Rat.mul_zero c).symm
 | cons t p ih=>
  show ao ((t.1,c * t.2)::mY c p) g=_;rw[zv,zv,ih];grind
theorem JT{c:Rat}{p:Pq Rat}(h:aA p):aA (mY c p):=by
 unfold aA mY;rw[List.map_map];exact h
theorem JS{c:Rat}{p:Pq Rat}(h:Ln n p):Ln n (mY c p):=λt ht=>by
 have(u,hu,rfl):=À.mp ht;exact h u hu
theorem R5(od:Od n O){f g h:Pq Rat}(nh:aA h)(ng:aA g)(lh:Ln n h)(lg:Ln n g)(ig:mm g)(pg:Ro g)(fi:∀ k,fq<|co f k)(d:Dv f g h):mm h:=by
 have main:∀ D:Nat,0 < D->(∀ t∈h,fq<|(D:Rat) * t.2)->mm h:=by
  intro D
  induction D using Nat.strongRecOn with
  | ind D ih=>
   intro D0 hD
   by_cases c:D=1
   .subst c
    intro t ht;have:=hD t ht
    rwa[show((1:Nat):Rat)=1 from rfl,Rat.one_mul]at this
   .have(π,hp,E,rfl):=Uc (n:=D) (by omega)
    have E0:0 < E:=Nat.pos_of_ne_zero λz=>by rw[z]at D0; omega
    have p2:=hp.1;refine ih E (by have:=Ã E p2; omega) E0 λt ht=>?_;have cs:((π * E:Nat):Rat)=(π:Rat) * (E:Rat):=by rw[Rat.natCast_mul]
    have all:∀ t∈mY ((π * E:Nat):Rat) h,Mu π t.2:=by
     refine Classical.byContradiction λhn=>?_;have(t,ht):=Classical.not_forall.mp hn;have(h1,h2):=Classical.not_imp.mp ht;have(a,ha,ma,ta):=JU od (π:=π) ⟨t,h1,h2⟩;have(b,hb,mb,tb):=JU od (π:=π) (pg π hp);have ip:mm (mY ((π * E:Nat):Rat) h):=λt ht=>by
      have(u,hu,rfl):=À.mp ht;exact hD u hu
     have(m,hm,e):=R6 od (JT nh) ng (JS lh) lg ip ig ha hb ta tb;have e2:co (aL (mY ((π * E:Nat):Rat) h) g) (zB a.1 b.1)=((π * E:Nat):Rat) * co f (zB a.1 b.1):=by
      unfold co;rw[zY,Fh,d,zY]
     have(z,hz):=fi (zB a.1 b.1);have e3:Mu π (a.2 * b.2+m):=by
      rw[<-e,e2,hz];exact⟨(E:Int) * z,by rw[<-Int.mul_assoc,Rat.intCast_mul,Rat.intCast_mul,cs]; rfl⟩
     rcases Ub hp (ip a ha) (ig b hb) (e3.r8 hm)with z|z
     .exact ma z
     .exact mb z
    have(z,hz):=all ((t.1,((π * E:Nat):Rat) * t.2)) (À.mpr ⟨t,ht,rfl⟩);refine⟨z,?_⟩;dsimp only at hz;rw[cs,Rat.intCast_mul,Rat.mul_assoc]at hz;have p0:(π:Rat)≠0:=λz=>by
     have:π=0:=ú.mp z;omega
    have:(π:Rat) * ((E:Rat) * t.2 - z)=0:=by
     rw[show(((π:Nat):Int):Rat)=(π:Rat) from rfl]at hz;grind
    rcases ý.mp this with w|w
    .exact absurd w p0
    .grind
 refine main (aX h) (Gd h 1 (by omega)) λt ht=>⟨iv (aX h) t.2,?_⟩;have e:=AR (m:=aX h) ((Oc h 1).2 t ht);rw[e,Rat.mul_comm]
theorem Es:∀ {n:Nat} {a b c:Qa Int},a.length=n->b.length=n->c.length=n->aV (zB a c) (zB b c)=aV a b
 | 0,[],[],[],_,_,_=>rfl
 | n+1,x::a,y::b,z::c,h1,h2,h3=>by
  show(if x+z=y+z then aV (zB a c) (zB b c)else decide (x+z < y+z))=if x=y then aV a b else decide (x < y)
  by_cases e:x=y
  .rw[if_pos e,if_pos (by omega),Es (Nat.succ.inj h1) (Nat.succ.inj h2)<|Nat.succ.inj h3]
  .rw[if_neg e,if_neg (by omega)]
   have:(x+z < y+z)↔x < y:=by omega
   rw[decide_eq_decide];exact this
theorem AW(n:Nat):Od n λa b=>aV b a=true where
 ni a h:=by rw[jR]at h; cases h
 tr h1 h2:=jU h2 h1
 Gr h:=(mT h).symm
 ad h1 h2 h3 h:=by rw[Es h2 h1 h3]; exact h
def BW(f:Qa Int->Int)(a b:Qa Int):Prop:=f a < f b\/f a=f b/\aV a b=true
def CP(n:Nat)(f:Qa Int->Int):Prop:=∀ {a b:Qa Int},a.length=n->b.length=n->f (zB a b)=f a+f b
theorem uU:∀ {n:Nat} {a b:Qa Int},a.length=n->b.length=n->(zB a b).sum=a.sum+b.sum
 | 0,[],[],_,_=>rfl
 | n+1,x::a,y::b,h1,h2=>by
  show(x+y)+(zB a b).sum=(x+a.sum)+(y+b.sum);rw[uU (Nat.succ.inj h1)<|Nat.succ.inj h2];omega
theorem KY:∀ {n j:Nat} {a b:Qa Int},a.length=n->b.length=n->(zB a b).getD j 0=a.getD j 0+b.getD j 0
 | 0,_,[],[],_,_=>rfl
 | n+1,0,x::a,y::b,_,_=>rfl
 | n+1,j+1,x::a,y::b,h1,h2=>KY (n:=n) (j:=j) (Nat.succ.inj h1)<|Nat.succ.inj h2
theorem KW(n:Nat):CP n List.sum:=uU
theorem Ua(n j:Nat):CP n λa=>a.getD j 0:=KY
theorem yJ{f:Qa Int->Int}(hf:CP n f):Od n (BW f) where
 ni a h:=by
  rcases h with h|⟨_,h⟩
  .omega
  .rw[jR]at h; cases h
 tr {a b c} h1 h2:=by
  rcases h1 with h1|⟨e1,h1⟩<;>rcases h2 with h2|⟨e2,h2⟩
  .exact .inl (by omega)
  .exact .inl (by omega)
  .exact .inl (by omega)
  .exact .inr ⟨by omega,jU h1 h2⟩
 Gr {a b} h:=by
  rcases(by omega:f a < f b\/f b < f a\/f a=f b)with e|e|e
  .exact .inl (.inl e)
  .exact .inr (.inl e)
  .rcases mT h with z|z
   .exact .inl (.inr ⟨e,z⟩)
   .exact .inr (.inr ⟨e.symm,z⟩)
 ad {a b c} h1 h2 h3 h:=by
  unfold BW at *;rw[hf h1 h3,hf h2 h3,Es h1 h2 h3];rcases h with h|⟨e,h⟩
  .exact .inl (by omega)
  .exact .inr ⟨by omega,h⟩
abbrev tE:Qa Int->Qa Int->Prop:=BW List.sum
abbrev mz(n:Nat):Od n tE:=yJ (KW n)
theorem Fw{a b:Qa Int}(h1:a.length=n)(h2:b.length=n):(zB a b).length=n:=by
 unfold zB;rw[List.length_zipWith,h1,h2,Nat.min_self]
noncomputable def b7(a b:Qa Int):Qa Int:=List.zipWith (· - ·) a b
theorem Fv:∀ {n:Nat} {a b:Qa Int},a.length=n->b.length=n->zB (b7 a b) b=a
 | 0,[],[],_,_=>rfl
 | n+1,x::a,y::b,h1,h2=>by
  show(x - y+y)::zB (b7 a b) b=_;rw[Fv (Nat.succ.inj h1)<|Nat.succ.inj h2,Int.sub_add_cancel]
theorem Fu:∀ {n:Nat} {a b:Qa Int},a.length=n->b.length=n->b7 (zB a b) b=a
 | 0,[],[],_,_=>rfl
 | n+1,x::a,y::b,h1,h2=>by
  show(x+y - y)::b7 (zB a b) b=_;rw[Fu (Nat.succ.inj h1)<|Nat.succ.inj h2,Int.add_sub_cancel]
theorem Ml{a b:Qa Int}(h1:a.length=n)(h2:b.length=n):(b7 a b).length=n:=by
 unfold b7;rw[List.length_zipWith,h1,h2,Nat.min_self]
theorem DC{f:Qa Int->Int}{p:Pq Rat}{x t:Qa Int×Rat}(hx:Top (BW f) p x)(ht:t∈p):f t.1<=f x.1:=by
 by_cases c:t.1=x.1
 .rw[c]; omega
 .rcases hx.top t ht c with z|⟨z,_⟩<;>omega
theorem JR{w:Qa Int->Int}(hw:CP n w){f g h:Pq Rat}(d:Dv f g h)(nf:aA f)(zf:∀ t∈f,t.2≠0)(nh:aA h)(zh:∀ t∈h,t.2≠0)(ng:aA g)(zg:∀ t∈g,t.2≠0)(lh:Ln n h)(lg:Ln n g){a:Int}(fa:∀ t∈f,w t.1<=a)(gb:∃ t∈g,b<=w t.1):∀ t∈h,w t.1<=a - b:=by
 intro t ht;have(v,hv,hb):=gb;have(x,hx):=mH (yJ hw) (List.ne_nil_of_mem ht);have(y,hy):=mH (yJ hw) (List.ne_nil_of_mem hv);have tp:=d.top (yJ hw) nf zf nh ng lh lg hx hy (zh x hx.mem) (zg y hy.mem);have h1:=fa _ tp.mem;dsimp only at h1;rw[hw (lh x hx.mem)<|lg y hy.mem]at h1;have h2:=DC hx ht;have h3:=DC hy hv;omega
theorem Mj(od:Od n O){F G T R H:Pq Rat}{lead top:Qa Int×Rat}(d:Dv F G H)(inv:∀ γ,ao F γ=ao (aL T G) γ+ao R γ)(nR:aA R)(zR:∀ t∈R,t.2≠0)(nG:aA G)(zG:∀ t∈G,t.2≠0)(lH:Ln n H)(lT:Ln n T)(lG:Ln n G)(hl:Top O G lead)(ht:Top O R top):
  ∃ e∈df H T,top.1=zB e.1 lead.1/\top.2=e.2 * lead.2:=by
 have dR:Dv R G (df H T):=λγ=>by
  rw[FY,<-d γ,inv γ];grind
 have lE:Ln n (df H T):=mR (P:=λe=>e.length=n) lH lT;have ne:df H T≠[]:=λz=>by
  have:=dR (ix top.1);rw[z]at this;exact zR top ht.mem<|(mJ nR ht.mem).symm.trans this
 have(e,he):=mH od ne;have nE:=Ab H T;have tp:=dR.top od nR zR (um nE) nG lE lG he hl (nE.nz e he.mem) (zG lead hl.mem);have k1:=XM od ht tp;dsimp only at k1;refine⟨e,he.mem,k1,?_⟩;rw[<-mJ nR ht.mem,k1];exact mJ nR tp.mem
theorem T9{R R' P:Pq Rat}(h:∀ γ,ao R' γ=ao R γ - ao P γ)(k:Qa Int):co R' k=co R k - co P k:=h _
theorem Nr(od:Od n O){G R R':Pq Rat}{lead top:Qa Int×Rat}{e:Qa Int}{c:Rat}(le:e.length=n)(hR:∀ γ,ao R' γ=ao R γ - ao (aL [(e,c)] G) γ)(nR:aA R)(nR':aA R')(BS:∀ t∈R',t.2≠0)(nG:aA G)(lG:Ln n G)(hl:Top O G lead)(ht:Top O R top)(k:top.1=zB e lead.1)(v:top.2=c * lead.2):
  ∀ t∈R',O t.1 top.1:=by
 intro t Hq;have n1:aA [(e,c)]:=by unfold aA; simp
 have l1:Ln n [(e,c)]:=λt ht=>by rw[qq.mp ht]; exact le
 have t1:Top O [(e,c)] (e,c):=⟨qq.mpr rfl,λt ht ne=>absurd (by rw[qq.mp ht]) ne⟩;have c1:=mJ nR' Hq;have c2:=T9 hR t.1
 by_cases z:t.1=top.1
 .have c3:=Ew od n1 nG l1 lG t1 hl
  dsimp only at c3;rw[c1,z,mJ nR ht.mem,k,c3,v]at c2;exact absurd (by rw[c2]; grind)<|BS t Hq
 .by_cases a:∃ u∈R,u.1=t.1
  .have(u,hu,e1):=a
   rw[<-e1];exact ht.top u hu (by rw[e1]; exact z)
  .rw[c1,KZ (p:=R) λu hu e1=>a ⟨u,hu,e1⟩]at c2
   have c4:co (aL [(e,c)] G) t.1≠0:=λq=>BS t Hq (by rw[c2,q]; grind);have(w,hw,ew):=Ex c4;have(x,hx,y,hy,rfl):=uO hw;cases qq.mp hx;rw[<-ew,k];refine od.yB (lG y hy) (lG lead hl.mem) le<|hl.top y hy λq=>z ?_;rw[<-ew,k,q]
theorem Mi{F G T R R':Pq Rat}{e:Qa Int}{c:Rat}(inv:∀ γ,ao F γ=ao (aL T G) γ+ao R γ)(hR:∀ γ,ao R' γ=ao R γ - ao (aL [(e,c)] G) γ)(γ:Qa Int->Rat):ao F γ=ao (aL (T++[(e,c)]) G) γ+ao R' γ:=by
 rw[inv γ,hR γ,zY,zY,zY,mU];grind
end K06
set_option exponentiation.threshold 10000
open PySem L2
open Lean in
local macro_rules|`(tactic|simp![$ls,*])=>do
 let u<-("↓YR ↓Sg ↓zog ↓Vq ↓YQ ↓zoh ↓zlr ↓ziV ↓YO ↓Vp ↓YN ↓YM ↓zoi ↓YL ↓zoj ↓Sf ↓Vn ↓YK ↓YJ ↓YI ↓Z9 ↓zls ↓Z8 ↓Vr ↓Vo ~Vs ~Z7 ~Z6 ~Vm ~YH ~zlt RD Sl Sk Sj Si Sh ↓Vv ↓Vu dM ↓zt ↓iT LW Jk ↓WL ↓Y2 LV ↓Y1 ↓Y0 ↓YZ ↓YY ↓YX ↓znN MZ ↓YW ↓VG ↓YV ↓znO ↓YU ↓Zp ↓zkT ↓znQ ↓znR ↓zkU ↓VF ↓VD ↓znS ↓Zo ↓Zn ↓VA ↓ziR ↓znT ↓Zm ↓Zl ↓zkV ↓znU ↓zkW ↓znV ↓Zk ↓zk4 ↓Yp ↓zlf ↓YD ↓E5 ↓zoc ↓XU ↓XQ bd WK Zg znA zkP N7 ziP zho zkQ Zf S3 S2 Ze ~znB ~znC WJ WI WH WG znD S0 SY WE WD WC SW SV Tr Zb Za znE Y9 WB WA Ti Th Tg Wz Wy Y6 Tf Wx Ww znF Wv Wu Wt WV WU ~znG ~znH zkR ziQ WT WS WR Y5 znI RY RW RV RU RT RS RQ RP RO WO WN znK WM znL Y4 Y3 AA KN LX VB ~zkX ~zkY ~Vz ~Vy qZ zn2 LU gL zn7 zn8 Yh Yg zlb ziT Vx Vw MY xb Ye YG zoa ~YC zod !List.getElem?_cons_zero !List.getElem?_cons_succ !List.set_cons_zero !List.set_cons_succ !List.cons_append !List.nil_append !List.length_cons !List.length_nil !List.replicate !Option.map_some !decide_eq_true_eq !List.mem_cons !List.not_mem_nil !true_or !or_true !or_false !false_or !if_true !if_false !ite_true !ite_false !true_and !and_true !and_false !false_and !Bool.not_true !Bool.not_false !Bool.false_eq_true !not_true !not_false_iff !Nat.zero_add !Nat.reduceAdd !Nat.reduceLeDiff !Nat.reduceEqDiff !Nat.reduceSub !Nat.reduceLT !List.map_cons !List.map_nil !List.getD_cons_zero !List.getD_cons_succ !List.drop_succ_cons !List.drop_zero !decide_true !decide_false !Bool.true_and !Bool.and_true !Bool.true_or !Bool.or_true !Bool.false_or !Bool.or_false !Bool.false_and !Bool.and_false !reduceCtorEq !List.length_map !List.length_append WQ znJ !String.reduceEq ↓!reduceIte !Int.reduceEq !Int.reduceNe !Int.reduceLT !Int.reduceLE !Int.reduceAdd !Int.reduceSub !Int.reduceNeg !Int.reduceToNat !Int.cast_ofNat_Int !implies_true !forall_const !Option.map_none".splitOn " ").toArray.mapM λx=>do
  let n:=(((x.replace "↓" "").replace "~" "").replace "!" "").toName
  let y:=mkIdent (if x.contains '!' then n else `L2++n)
  if x.startsWith "↓" then `(Parser.Tactic.simpLemma|↓$y:term) else if x.startsWith "~" then `(Parser.Tactic.simpLemma|nr $y) else `(Parser.Tactic.simpLemma|$y:term)
 `(tactic|simp (disch:=first|with_unfolding_all exact Vt rfl|omega | (simp only[List.length_cons,List.length_nil,List.length_map,List.length_append,List.length_take,List.length_drop,Nat.zero_add,Nat.reduceAdd]<;>omega) | fail) only[$ls,*,$u,*])
local macro_rules | `(tactic| simp!)=>`(tactic| simp![Option.map_none])
namespace K06
open PySem L2
abbrev bx(x y:Int):U:=.l [.int x,.int y]
theorem jM{x y w:Int}{Q:U×Qa U->Prop}(hw:0 < w)(Hl:w<=18446744073709551616)(k:∀ r x' y',0<=r->r < w->Q (.d<|.int r,[bx x' y',.d<|.int w])):Wo (zP [bx x y,.d<|.int w]) Q:=by
 simp![zP,N2];refine kX (λhx=>?_) λhx=>?_
 .simp![hx]
  exact k _ _ _ (î _ (by omega))<|ÿ _ hw
 .simp![hx]
  exact k _ _ _ (î _ (by omega))<|ÿ _ hw
theorem JQ{k:Int}(h0:0<=k)(h:k < (ns.length:Int)):∃ v:Int,cP (ns.map PyData.int) k=some (.int v):=by
 have hk:k.toNat < ns.length:=by omega
 refine⟨ns[k.toNat],?_⟩;unfold cP fV;rw[if_pos h0,if_pos (by rw[List.length_map]; exact h),bd,List.getElem?_map,qm hk];rfl
theorem R4{k:Int}{Q:U×Qa U->Prop}(h0:0<=k)(q:∀ x y,Q (bx x y,[.d<|.list<|ns.map .int,.d<|.int k])):Wo (BF [.d<|.list<|ns.map .int,.d<|.int k]) Q:=by
 simp![BF,NO,List.length_map];refine kX (λh1=>?_) λh1=>?_
 .have(v,hv):=JQ h0 h1
  simp![hv];exact q _ _
 .simp![List.length_map]
  refine kX (λh2=>?_) λh2=>?_
  .have hm:=ÿ k h2
   have hm0:=î k (show(ns.length:Int)≠0 by omega);have(v,hv):=JQ hm0 hm;simp![hv];exact q _ _
  .simp!
   exact q _ _
theorem BI{x y:Int}(hx:0<=x)(hy:0<=y):lM [.d<|.int x,.d<|.int y]=some (.d<|.int (Int.gcd x y:Nat),[.d<|.int x,.d<|.int y]):=by
 refine i7 ?_;simp![lM,Ou];refine Bn (λk ρ=>∃ a b:Int,ρ=[some<|.d<|.int a,some<|.d<|.int b]/\0<=a/\0<=b/\b.toNat=k/\Int.gcd a b=Int.gcd x y) _ ⟨x,y,rfl,hx,hy,rfl,rfl⟩ ?_;rintro k _ ⟨a,b,rfl,ha,hb,hk,hg⟩;simp!
 by_cases hz:b=0
 .subst hz
  have e:a=((Int.gcd x y:Nat):Int):=by rw[<-hg,Int.gcd_zero_right]; omega
  subst e;simp![bne_self_eq_false]
 .have dD:(b != 0)=true:=by simp[hz]
  simp![dD];refine⟨(a % b).toNat,?_,_,_,rfl,by omega,î _ hz,rfl,?_⟩
  .have:=ÿ a (show 0 < b by omega)
   have:=î a hz;omega
  .rw[Mm a b ha (by omega)]
   exact hg
theorem Er{a b:Nat}(h:a<=b)(hb:b.log2 < 9000):a.log2 < 9000:=by
 by_cases z:a=0
 .rw[z]; decide
 .exact Â ((Nat.le_log2 (by omega)).mpr<|qA (Nat.log2_self_le z) h) hb
theorem xm{n d:Int}(hd:d≠0)(hb:d.natAbs.log2 < 9000):pD [.d<|.int n,.d<|.int d]=some (.d<|fR<|Rat.divInt n d,[.d<|.int n,.d<|.int d]):=by
 have gl:Int.gcd n d<=d.natAbs:=Int.gcd_le_natAbs_right n hd;have gp:0 < Int.gcd n d:=ç n hd;have yq:=Er gl hb;refine i7 ?_;rw[<-Kk hd];unfold kK iu;rw[<-MR n d (show(0:Int) < (Int.gcd n d:Nat) by omega),<-MR d d (show(0:Int) < (Int.gcd n d:Nat) by omega)];simp![pD,OS];refine Bn (λk ρ=>∃ a b:Int,ρ=[some<|.d<|.int n,some<|.d<|.int d,some<|.d<|.int a,some<|.d<|.int b]/\0<=a/\0<=b/\b.toNat=k/\Int.gcd a b=Int.gcd n d) _ ⟨_,_,rfl,by split<;>omega,by split<;>omega,rfl,Yn n d⟩ ?_;rintro k _ ⟨a,b,rfl,ha,hb0,hk,hg⟩;simp!
 by_cases hz:b=0
 .subst hz
  have e:a=((Int.gcd n d:Nat):Int):=by rw[<-hg,Int.gcd_zero_right]; omega
  subst e;have c1:uh n ((Int.gcd n d:Nat):Int):=⟨by omega,by rw[Int.natAbs_natCast]; exact yq⟩;have c2:uh n (0 - ((Int.gcd n d:Nat):Int)):=⟨by omega,by rw[Int.zero_sub,Int.natAbs_neg,Int.natAbs_natCast]; exact yq⟩;simp!;refine kX (λh=>?_) λh=>?_
  .simp![h,uC (a:=n) c2,uC (a:=d) c2]
  .simp![h,uC (a:=n) c1,uC (a:=d) c1]
 .simp![hz]
  refine⟨(a % b).toNat,?_,_,_,rfl,by omega,î _ hz,rfl,?_⟩
  .have:=ÿ a (show 0 < b by omega)
   have:=î a hz;omega
  .rw[Mm a b ha (by omega)]
   exact hg
theorem OW{n d:Int}(hd:d≠0)(hb:d.natAbs.log2 < 9000):w5 [.d<|.int n,.d<|.int d]=some (.d<|fR<|Rat.divInt n d,[.d<|.int n,.d<|.int d]):=by
 have gl:Int.gcd n d<=d.natAbs:=Int.gcd_le_natAbs_right n hd;have gp:0 < Int.gcd n d:=ç n hd;have c1:∀ z:Int,oM z ((Int.gcd n d:Nat):Int):=λz=>⟨by omega,by rw[Int.natAbs_natCast]; exact Er gl hb⟩;refine i7 ?_;rw[<-Kk hd];unfold kK iu;simp![w5,Nx]
 by_cases h:d < 0
 .have cf:lM [.d<|.int (if -n < 0 then - -n else -n),.d<|.int (-d)]=some (.d<|.int (Int.gcd n d:Nat),[.d<|.int (if -n < 0 then - -n else -n),.d<|.int (-d)]):=by
   rw[BI (by split<;>omega) (by omega),EV,Int.neg_gcd,Int.gcd_neg]
  simp![h,cf,we<|c1 _]
 .have cf:lM [.d<|.int (if n < 0 then -n else n),.d<|.int d]=some (.d<|.int (Int.gcd n d:Nat),[.d<|.int (if n < 0 then -n else n),.d<|.int d]):=by
   rw[BI (by split<;>omega) (by omega),EV]
  simp![h,cf,we<|c1 _]
structure Sz (r:Rat):Prop where
 n:r.num.natAbs < 2^4000
 d:r.den < 2^4000
theorem Sz.di{r:Rat}(h:Sz r):(r.den:Int).natAbs < 2^4000:=by rw[Int.natAbs_natCast]; exact h.d
theorem PR(h:n < 2^4000):n.log2 < 4000:=pJ (by decide) h
theorem xS(h:n < 2^4000):n.log2 < 9000:=Ó (PR h) (by decide)
theorem fF(h:n < 2^4000):n.log2 < 1000000:=Ó (PR h) (by decide)
theorem Ep{a b:Nat}(h:a < 2^4000)(h':b < 2^4000):(a * b).log2 < 9000:=by
 refine Ó (pJ (k:=4000+4000) (by decide) ?_) (by decide);rw[Nat.pow_add];exact Nat.mul_lt_mul'' h h'
section
variable{a b:Rat}
theorem NJ(ha:Sz a)(hb:Sz b):xi [.d<|fR a,.d<|fR b]=some (.d<|fR<|a+b,[.d<|fR a,.d<|fR b]):=by
 refine i7 ?_;have da:=jD a;have db:=jD b;have Ik:((a.den:Int) * (b.den:Int))≠0:=Int.mul_ne_zero (by omega) (by omega);have lf:=xm (n:=a.num * (b.den:Int)+b.num * (a.den:Int)) Ik (by rw[Int.natAbs_mul,Int.natAbs_natCast,Int.natAbs_natCast]; exact Ep ha.d hb.d);rw[XJ]at lf;simp![xi,N1,jN (fF ha.n)<|fF hb.di,jN (fF hb.n)<|fF ha.di,jN (fF ha.di)<|fF hb.di,lf]
theorem NZ(ha:Sz a)(hb:Sz b):xg [.d<|fR a,.d<|fR b]=some (.d<|fR<|a * b,[.d<|fR a,.d<|fR b]):=by
 refine i7 ?_;have da:=jD a;have db:=jD b;have Ik:((a.den:Int) * (b.den:Int))≠0:=Int.mul_ne_zero (by omega) (by omega);have lf:=xm (n:=a.num * b.num) Ik (by rw[Int.natAbs_mul,Int.natAbs_natCast,Int.natAbs_natCast]; exact Ep ha.d hb.d);rw[XH]at lf;simp![xg,Oj,jN (fF ha.n)<|fF hb.n,jN (fF ha.di)<|fF hb.di,lf]
end
theorem Nq{x g:Int}(hx:0<=x)(hg:0 < g)(h:x.natAbs < 2^4000):(x / g).natAbs < 2^4000:=by
 have h1:x / g<=x:=Int.ediv_le_self g hx;have h2:0<=x / g:=Int.ediv_nonneg hx (by omega);omega
theorem mw{M:Nat}{r:Rat}(h:Bd M B r)(hM:0 < M)(h1:M < 2^4000)(h2:B < 2^4000):Sz r:=by
 have(a,b):=h.size hM;exact⟨Â b h2,Â a h1⟩
abbrev gg(p:Pq Rat):U:=.d (.tuple<|bJ fR p)
end K06
open PySem L2
namespace K06
open PySem L2
theorem Wf(c d:Nat):(c:Int) / (Int.gcd (c:Int) (d:Int):Nat) * (d:Int)=((Nat.lcm c d:Nat):Int):=by
 have e:Int.gcd (c:Int) (d:Int)=Nat.gcd c d:=rfl;rw[e,<-Int.natCast_ediv,<-Int.natCast_mul,Nat.div_mul_right_comm<|Nat.gcd_dvd_left c d];rfl
theorem ZY(bs:Pq Rat)(t:Qa Int×Rat):aX (bs++[t])=Nat.lcm (aX bs) t.2.den:=by
 unfold aX;rw[List.foldl_append];rfl
theorem zh0{M:Nat}{p:Pq Rat}(hb:PB M B p)(hl:p.length < 64)(hM:0 < M)(h1:M < 2^4000)(h2:B < 2^4000):
  BM [gg p]=some (.d<|.tuple [.list<|bJ PyData.int<|vj (aX p) p,.int (aX p:Int)],[gg p]):=by
 refine i7 ?_;have cM:∀ bs:Pq Rat,(∀ t∈bs,t∈p)->0 < aX bs/\aX bs<=M:=λbs hbs=>⟨Gd bs 1 (by decide),û hM<|u4 bs (λt ht=>(hb t<|hbs t ht).dvd) 1<|Nat.one_dvd _⟩;have ci:∀ {n:Nat},n<=M->(n:Int).natAbs < 2^4000:=λh=>by rw[Int.natAbs_natCast]; exact Â h h1
 have sz:∀ t∈p,Sz t.2:=λt ht=>mw (hb t ht) hM h1 h2;simp![BM,Om];rw[wc p];refine mS (λbs cs ρ=>∃ o2 o3,ρ=[some<|.d<|.tuple<|p.map λt=>.tuple [aI t.1,fR t.2],some<|.d<|.int (aX bs:Int),o2,o3]) ⟨none,none,rfl⟩ ?_ ?_
 .rintro bs t cs _ e ⟨o2,o3,rfl⟩
  have(c0,c1):=cM bs λv hv=>by rw[e]; exact É _ hv
  have tp:t∈p:=by rw[e]; simp
  have dt:=jD t.2;have cf:lM [.d<|.int (aX bs:Int),.d<|.int (t.2.den:Int)]=_:=BI (by omega) (by omega);have gl:Int.gcd (aX bs:Int) (t.2.den:Int)<=(t.2.den:Int).natAbs:=Int.gcd_le_natAbs_right _ (by omega);have gp:0 < Int.gcd (aX bs:Int) (t.2.den:Int):=ç _ (by omega);have lc:=Wf (aX bs) t.2.den;generalize Int.gcd (aX bs:Int) (t.2.den:Int)=g at cf gl gp lc;have cg:oM (aX bs:Int) (g:Int):=⟨by omega,by rw[Int.natAbs_natCast]; exact Er gl<|xS (sz t tp).di⟩;have s1:=Nq (x:=(aX bs:Int)) (g:=(g:Int)) (by omega) (by omega) (ci c1);simp![cf,we cg,jN (fF s1)<|fF (sz t tp).di,lc];rw[ZY];exact⟨_,_,rfl⟩
 .rintro _ ⟨o2,o3,rfl⟩
  have(c0,c1):=cM p λv hv=>hv;simp!;refine oQ (e:=λt=>.tuple [aI t.1,.int<|iv (aX p) t.2]) (by omega) (λt ht ys=>?_) ?_
  .have dt:=jD t.2
   have cg:oM (aX p:Int) (t.2.den:Int):=⟨by omega,xS (sz t ht).di⟩;have s1:=Nq (x:=(aX p:Int)) (g:=(t.2.den:Int)) (by omega) (by omega) (ci c1);simp![we cg,jN (fF (sz t ht).n)<|fF s1];rfl
  .rw[show(p.map λt=>PyData.tuple [aI t.1,.int<|iv (aX p) t.2])=bJ PyData.int (vj (aX p) p) by unfold bJ vj; rw[List.map_map]; rfl]
   simp!;rfl
theorem Eo{S:Pq Int}(nd:aA S)(c:Int):aA (fS c S):=by
 have:(fS c S).map (·.1)=S.map (·.1):=by unfold fS; rw[List.map_map]; rfl
 unfold aA;rw[this];exact nd
theorem zh6{S:Pq Int}{c:Int}(nd:aA S)(hl:S.length < 64)(hc:0 < c)(hg:c.natAbs.log2 < 9000):
  BK [.t<|aB PyData.int S,.d<|.int c]=some (gg<|kJ<|fS c S,[.d<|.dict<|aQ PyData.int S,.d<|.int c]):=by
 refine i7 ?_;have lt:(fS c S).length=S.length:=Ċ ..;simp![BK,Og];rw[wc S];refine Kl (b:=λt=>!decide (t.2=0)) (e:=λt=>.tuple [aI t.1,fR<|Rat.divInt t.2 c]) (by rw[qZ]; omega) (λt ht ys=>?_) ?_
 .simp!
  by_cases z:t.2=0
  .simp![z]
  .simp![z,OW (n:=t.2) (show c≠0 by omega) hg]
 .have fl:=Ô (λt:Qa Int×Int=>!decide (t.2=0)) S
  have es:wj (.l<|(S.filter λt=>!decide (t.2=0)).map λt=>.tuple [aI t.1,fR<|Rat.divInt t.2 c])=some (.l<|bJ fR<|kJ<|fS c S):=by
   have e:((S.filter λt=>!decide (t.2=0)).map λt=>PyData.tuple [aI t.1,fR<|Rat.divInt t.2 c])=bJ fR (nz<|fS c S):=by
    rw[TF (by omega)];unfold bJ fS;rw[List.map_map];rfl
   rw[e,Kh (q4<|Eo nd c)<|Nat.lt_of_le_of_lt (List.length_filter_le _ _) (by omega),Mh<|Eo nd c]
  simp![es]
theorem zh7{a b:Qa Int}(h:a.length=b.length)(hl:a.length < 64):BN [.d<|aI a,.d<|aI b]=some (.d<|aI<|zB a b,[.d<|aI a,.d<|aI b]):=by
 refine i7 ?_;simp![BN,Oq,xb h];refine oQ (e:=λt=>.int<|t.1+t.2) (by rw[List.length_zip]; omega) (λt ht ys=>?_) ?_
 .simp!
 .rw[show((a.zip b).map λt=>PyData.int<|t.1+t.2)=(zB a b).map PyData.int by unfold zB; rw[List.map_zipWith,List.zip,List.map_zipWith]]
  simp!;rfl
end K06
open PySem L2
namespace K06
open PySem L2
abbrev dT(p:Pq Rat):U:=.d (.dict<|aQ fR p)
theorem JP{u:U}{a b:Qb α}:(if u.own=true/\u.own=false then a else b)=b:=if_neg λ⟨h,h'⟩=>by rw[h]at h'; cases h'
theorem wA{p:Pq Rat}{u:U}(hu:u.fz=some (.dict<|aQ fR p))(nd:aA p)(hl:p.length < 64):u7 [u]=some (gg<|bK p,[dT p]):=by
 refine i7 ?_;simp![u7,ON,hu];refine oQ (e:=λt=>.tuple [aI t.1,fR t.2]) (by omega) (λt ht ys=>?_) ?_
 .simp![iC nd ht]
 .rw[show(p.map λt=>PyData.tuple [aI t.1,fR t.2])=bJ fR p from rfl]
  simp![Kh (c:=fR) nd hl]
theorem NH{M:Nat}{p q:Pq Rat}{u1 u2:U}{s:Int}(fG:lC u1=some (.t<|aB fR p))(gO:u2.fz=some (.dict<|aQ fR q))(hs:s=1\/s=-1)(np:aA p)(nq:aA q)(hp:PB M B p)(hq:PB M B q)(hM:0 < M)(h1:M < 2^4000)(h2:B+q.length * B < 2^4000)(l1:p.length < 500)(l2:q.length < 500):
  xp [u1,u2,.d<|.int s]=some (.t<|aB fR<|nz<|bj p<|bI s q,[u1,dT q,.d<|.int s]):=by
 refine i7 ?_;have sp:bI s q=q.map λt=>(t.1,(s:Rat) * t.2):=rfl;simp![xp,Ox,fG,gO];refine mS (λbs cs ρ=>∃ o4 o5,ρ=[some u1,some<|dT q,some<|.d<|.int s,some<|.t<|aB fR<|bj p<|bI s bs,o4,o5,none]) ⟨_,_,rfl⟩ ?_ ?_
 .rintro bs t cs _ e ⟨o4,o5,rfl⟩
  have tq:t∈q:=by rw[e]; simp
  have lb:bs.length+1<=q.length:=by rw[e,qu,qv]; omega
  have gl:=rJ (bI s bs) p;rw[show(bI s bs).length=bs.length from List.length_map ..]at gl;have gb:PB M (B+q.length * B) (bj p<|bI s bs):=λv hv=>(uz (bI s bs) hp (AQ hs λw hw=>hq w (by rw[e]; exact É _ hw)) v hv).le (by
   rw[show(bI s bs).length=bs.length from List.length_map ..];have:=Ã B (show bs.length<=q.length by omega);omega)
  have s1:=mw (E7 gb t.1) hM h1 h2;have s2:Sz ((s:Rat) * t.2):=mw (AQ hs hq (t.1,(s:Rat) * t.2)<|À.mpr ⟨t,tq,rfl⟩) hM h1 (by omega);simp![iC nq tq,Tx hs,NJ s1 s2];rw[n9 (by omega)];simp!;rw[show bI s (bs++[t])=bI s bs++[(t.1,(s:Rat) * t.2)] by unfold bI; rw[List.map_append]; rfl,MP];exact⟨_,_,rfl⟩
 .rintro _ ⟨o4,o5,rfl⟩
  have gn:aA (bj p<|bI s q):=oR _ np;have gl:=rJ (bI s q) p;rw[show(bI s q).length=q.length from List.length_map ..]at gl;generalize bj p (bI s q)=r at gn gl;simp!;refine mS (λbs cs ρ=>∃ o4,ρ=[some u1,some<|dT q,some<|.d<|.int s,some<|dT r,o4,o5,some<|.t<|aB fR<|nz bs]) ⟨_,rfl⟩ ?_ ?_
  .rintro bs t cs _ e ⟨o4,rfl⟩
   have tr:t∈r:=by rw[e]; simp
   have ln:(nz bs).length<=bs.length:=Ô _ _;have lb:bs.length+1<=r.length:=by rw[e,qu,qv]; omega
   simp![iC gn tr,Ed];rw[LN]
   by_cases z:t.2=0
   .simp![z,ne_eq]
    exact⟨_,rfl⟩
   .simp![z,ne_eq,iC gn tr,n9 (c:=fR) (p:=nz bs) (k:=t.1) (x:=t.2) (by omega)]
    rw[Ku (cs:=cs) (by rw[<-e]; exact gn)];exact⟨_,rfl⟩
  .rintro _ ⟨o4,rfl⟩
   simp![JP]
theorem F9{M N C:Nat}{p q:Pq Rat}{u1 u2:U}{Q:U×Qa U->Prop}(fG:u1.fz=some (.dict<|aQ fR p))(gO:u2.fz=some (.dict<|aQ fR q))(np:aA p)(nq:aA q)(hp:PB M B p)(hq:PB N C q)(lp:Ln n p)(lq:Ln n q)(ln:n < 64)(hM:0 < M)(hN:0 < N)(h1:M * N < 2^4000)(h2:M < 2^4000)(h3:N < 2^4000)(h4:B < 2^4000)(h5:C < 2^4000)(h6:p.length * q.length * (B * C) < 2^4000)(hBC:0 < B * C)
  (l1:p.length * q.length < 500) (lp6:p.length < 64) (lq6:q.length < 64) (kq:∀ ja,ja.fz=some (.dict<|aQ fR q)->(ja=u2\/ja=dT q)->Q (.t<|aB fR<|nz<|bj []<|aL p q,[dT p,ja])):Wo (pE [u1,u2]) Q:=by
 have fin:∀ (o1 o3 o4 o5 o6:Qb U) (r:Pq Rat),aA r->r.length < 500->∀ (Q:Fl->Prop),(∀ o5,Q<|.nx [some<|dT p,o1,some<|dT r,o3,o4,o5,o6,some<|.t<|aB fR<|nz r])->Wo (gm (zE 5) (cy (mB<|au (gU true) (au bP (dn (zk 2)<|zk 5)<|mC<|.int 0)<|mC<|.int 0) (iw 7 (zk 5)<|dn (zk 2)<|zk 5) cN) (r.map λt=>aI t.1) [some<|dT p,o1,some<|dT r,o3,o4,o5,o6,some<|.t []]) Q:=by
  intro o1 o3 o4 o5 o6 r gn gl Q hQ;refine mS (λbs cs ρ=>∃ o5,ρ=[some<|dT p,o1,some<|dT r,o3,o4,o5,o6,some<|.t<|aB fR<|nz bs]) ⟨_,rfl⟩ ?_ ?_
  .rintro bs t cs _ e ⟨o5,rfl⟩
   have tr:t∈r:=by rw[e]; simp
   have ln:(nz bs).length<=bs.length:=Ô _ _;have lb:bs.length+1<=r.length:=by rw[e,qu,qv]; omega
   simp![iC gn tr,Ed];rw[LN]
   by_cases z:t.2=0
   .simp![z,ne_eq]
    exact⟨_,rfl⟩
   .simp![z,ne_eq,iC gn tr,n9 (c:=fR) (p:=nz bs) (k:=t.1) (x:=t.2) (by omega)]
    rw[Ku (cs:=cs) (by rw[<-e]; exact gn)];exact⟨_,rfl⟩
  .rintro _ ⟨o5,rfl⟩
   exact hQ o5
 simp![pE,OI,fG];refine mS (λbs cs ρ=>∃ (x:U) (o3 o4 o5 o6:Qb U),ρ=[some<|dT p,some x,some<|.t<|aB fR<|bj []<|aL bs q,o3,o4,o5,o6,none]/\(x=u2\/x=dT q)) ⟨u2,_,_,_,_,rfl,.inl rfl⟩ ?_ ?_
 .rintro bs s cs _ e ⟨x,o3,o4,o5,o6,rfl,nj⟩
  have hx:x.fz=some (.dict<|aQ fR q):=by
   rcases nj with rfl|rfl
   .exact gO
   .rfl
  have sp:s∈p:=by rw[e]; simp
  have lbs:bs.length+1<=p.length:=by rw[e,qu,qv]; omega
  have lpm:(aL bs q).length+q.length<=p.length * q.length:=by
   rw[wM];have:=Ã q.length lbs;rw[Nat.add_mul,Nat.one_mul]at this;exact this
  simp![hx];refine mS (λds fs ρ=>∃ (o4 o5 o6:Qb U),ρ=[some<|dT p,some<|dT q,some<|.t<|aB fR<|bj []<|aL bs q++ds.map λt=>(zB s.1 t.1,s.2 * t.2),some<|.d<|aI s.1,o4,o5,o6,none]) ⟨_,_,_,by rw[List.map_nil,List.append_nil]⟩ ?_ ?_
  .rintro ds t fs _ e2 ⟨o4,o5,o6,rfl⟩
   have tq:t∈q:=by rw[e2]; simp
   have lds:ds.length+1<=q.length:=by rw[e2,qu,qv]; omega
   have hle:s.1.length=t.1.length:=by rw[lp s sp,lq t tq]
   have s1:=mw (hp s sp) hM h2 h4;have s2:=mw (hq t tq) hN h3 h5;have hb:PB (M * N) (B * C) (aL bs q++ds.map λt=>(zB s.1 t.1,s.2 * t.2)):=λv hv=>by
    rcases Ä.mp hv with z|z
    .have(a,ha,b,hb,rfl):=uO z
     exact(hp a (by rw[e]; exact É _ ha)).mul<|hq b hb
    .have(b,hb,rfl):=À.mp z
     exact(hp s sp).mul<|hq b (by rw[e2]; exact É _ hb)
   have ll:(aL bs q++ds.map λt=>(zB s.1 t.1,s.2 * t.2)).length<=p.length * q.length:=by
    rw[qu,List.length_map];omega
   have gl:=rJ (aL bs q++ds.map λt=>(zB s.1 t.1,s.2 * t.2)) [];rw[List.length_nil,Nat.zero_add]at gl;have gb:PB (M * N) (p.length * q.length * (B * C)) (bj []<|aL bs q++ds.map λt=>(zB s.1 t.1,s.2 * t.2)):=λv hv=>(uz _ (C:=0) GI hb v hv).le (by
    have:=Ã (B * C) ll;omega)
   have s3:=mw (E7 gb<|zB s.1 t.1) (â hM hN) h1 h6;have s4:Sz (s.2 * t.2):=mw ((hp s sp).mul<|hq t tq) (â hM hN) h1 (by
    have h7:1 * (B * C)<=p.length * q.length * (B * C):=Ã _ (by
     have:1 * 1<=p.length * q.length:=Ï (by omega) (by omega);omega)
    omega)
   simp![xb hle];refine oQ (e:=λt=>.int<|t.1+t.2) (by rw[List.length_zip,lp s sp]; omega) (λt ht ys=>?_) ?_
   .simp!
   .rw[show((s.1.zip t.1).map λt=>PyData.int<|t.1+t.2)=(zB s.1 t.1).map PyData.int by unfold zB; rw[List.map_zipWith,List.zip,List.map_zipWith]]
    simp![show PyData.tuple ((zB s.1 t.1).map PyData.int)=aI (zB s.1 t.1) from rfl,iC np sp,iC nq tq,NZ s1 s2,NJ s3 s4];rw[n9 (by omega)];simp!;rw[List.map_append,<-List.append_assoc,List.map_cons,List.map_nil,MP];exact⟨_,_,_,rfl⟩
  .rintro _ ⟨o4,o5,o6,rfl⟩
   simp!;rw[ZA];exact⟨dT q,_,_,_,_,rfl,.inr rfl⟩
 .rintro _ ⟨x,o3,o4,o5,o6,rfl,hx⟩
  have gl:=rJ (aL p q) [];rw[List.length_nil,wM]at gl;simp!;refine fin _ _ _ _ _ _ (oR _ lS) (by omega) _ λo5=>?_;rcases hx with rfl|rfl
  .simp![JP]
   exact kq x gO<|.inl rfl
  .simp!
   exact kq (dT q) rfl<|.inr rfl
end K06
open PySem L2
namespace K06
open PySem L2
noncomputable def vz(g:Nat)(S:Pq Int):Nat:=S.foldl (λg t=>Nat.gcd g t.2.natAbs) g
abbrev gc(S:Pq Int):Nat:=vz 0 S
theorem We(bs:Pq Int)(t:Qa Int×Int):gc (bs++[t])=Nat.gcd (gc bs) t.2.natAbs:=by
 show vz 0 _=_;unfold vz;rw[List.foldl_append];rfl
theorem wz:∀ (S:Pq Int) (g:Nat),vz g S∣g/\∀ t∈S,vz g S∣t.2.natAbs
 | [],g=>⟨Nat.dvd_refl g,λt ht=>by cases ht⟩
 | t::S,g=>by
  have(h1,h2):=wz S (Nat.gcd g t.2.natAbs);refine⟨Nat.dvd_trans h1<|Nat.gcd_dvd_left _ _,λu hu=>?_⟩;rcases qw.mp hu with rfl|hu
  .exact Nat.dvd_trans h1 (Nat.gcd_dvd_right _ _)
  .exact h2 u hu
theorem KU{d:Nat}:∀ {S:Pq Int} {g:Nat},d∣g->(∀ t∈S,d∣t.2.natAbs)->d∣vz g S
 | [],g,h,_=>h
 | t::S,g,h,k=>KU (S:=S) (Nat.dvd_gcd h<|k t qp) λu hu=>k u<|qo _ hu
theorem Az{S:Pq Int}(h:S≠[])(z:∀ t∈S,t.2≠0):0 < gc S:=by
 have(t,ht):=ä S h;exact Nat.pos_of_dvd_of_pos ((wz S 0).2 t ht) (by have:=z t ht; omega)
noncomputable def pp(S:Pq Int):Pq Int:=S.map λt=>(t.1,t.2 / (gc S:Int))
noncomputable def zR(S:Pq Int):Pq Rat:=S.map λt=>(t.1,(t.2:Rat))
theorem Ay{S:Pq Int}{t:Qa Int×Int}(ht:t∈S):(gc S:Int) * (t.2 / (gc S:Int))=t.2:=Int.mul_ediv_cancel' (þ.mpr<|(wz S 0).2 t ht)
theorem Em{S:Pq Int}:mm (zR S):=λt ht=>by
 have(u,hu,rfl):=À.mp ht;exact⟨u.2,rfl⟩
theorem rn{S:Pq Int}(h:aA S):aA (zR S):=by
 unfold aA zR;rw[List.map_map];exact h
theorem Aa{S:Pq Int}(h:Ln n S):Ln n (zR S):=λt ht=>by
 have(u,hu,rfl):=À.mp ht;exact h u hu
theorem DB{S:Pq Int}(h:∀ t∈S,t.2≠0):∀ t∈zR S,t.2≠0:=λt ht=>by
 have(u,hu,rfl):=À.mp ht;exact λz=>h u hu<|Þ.mp z
theorem T8{π:Nat}{z:Int}(h:Mu π (z:Rat)):(π:Int)∣z:=by
 have(y,e):=h;exact⟨y,ü.mp e⟩
theorem T7{S:Pq Int}(h:S≠[])(z:∀ t∈S,t.2≠0):Ro (zR<|pp S):=by
 intro π hp;refine Classical.byContradiction λhn=>?_;have g0:=Az h z;have all:∀ t∈S,π * gc S∣t.2.natAbs:=λt ht=>by
  have m:Mu π (((t.2 / (gc S:Int):Int)):Rat):=Classical.byContradiction λhm=>hn ⟨_,À.mpr ⟨_,À.mpr ⟨t,ht,rfl⟩,rfl⟩,hm⟩;have(y,hy):=T8 m;refine þ.mp ⟨y,?_⟩;rw[<-Ay ht,hy,Int.natCast_mul];grind
 have d:=KU (g:=0) (Nat.dvd_zero _) all;have le:=û g0 d;have:=hp.1;have h2:=Ã (gc S) this;show False;omega
theorem DA{S:Pq Int}(h:aA S):aA (pp S):=by
 unfold aA pp;rw[List.map_map];exact h
theorem JB{S:Pq Int}(h:∀ t∈S,t.2≠0):∀ t∈pp S,t.2≠0:=λt ht=>by
 have(u,hu,rfl):=À.mp ht;intro z;have:=Ay hu;dsimp only at z;rw[z,Int.mul_zero]at this;exact h u hu this.symm
theorem R3{S:Pq Int}(h:∀ t∈S,t.2.natAbs<=B):∀ t∈pp S,t.2.natAbs<=B:=λt ht=>by
 have(u,hu,rfl):=À.mp ht;have e:=Ay hu
 by_cases g:gc S=0
 .show(u.2 / (gc S:Int)).natAbs<=B
  rw[g,show((0:Nat):Int)=0 from rfl,Int.ediv_zero];exact Ð _
 .have h1:(gc S) * (u.2 / (gc S:Int)).natAbs=u.2.natAbs:=by
   have:=congrArg Int.natAbs e;rw[Int.natAbs_mul,Int.natAbs_natCast]at this;exact this
  have h2:=h u hu;have h3:1 * (u.2 / (gc S:Int)).natAbs<=gc S * (u.2 / (gc S:Int)).natAbs:=Ã _ (by omega);show(u.2 / (gc S:Int)).natAbs<=B;omega
abbrev sv(p:Pq Rat):Pq Int:=vj (aX p) p
abbrev ct(p:Pq Rat):Rat:=Rat.divInt (gc (sv p):Int) (aX p:Int)
theorem wY{p:Pq Rat}{t:Qa Int×Rat}(h:t∈p):t.2.den∣aX p:=(Oc p 1).2 t h
theorem Bi(p:Pq Rat):0 < aX p:=Gd p 1 (by omega)
theorem oD{p:Pq Rat}(h:∀ t∈p,t.2≠0):∀ t∈sv p,t.2≠0:=λt ht=>by
 have(u,hu,rfl):=À.mp ht;intro z;have e:=AR (wY hu);dsimp only at z;rw[z]at e;have c0:(aX p:Rat)≠0:=λq=>by have:=ú.mp q; have:=Bi p; omega
 exact(ý.mp e.symm).elim (h u hu) c0
theorem Af{p:Pq Rat}(h:p≠[]):sv p≠[]:=λz=>h<|ø.mp z
theorem DI{p:Pq Rat}(h:aA p):aA (sv p):=by
 unfold aA;show((p.map λt=>(t.1,iv (aX p) t.2)).map _).Nodup;rw[List.map_map];exact h
theorem JA(p:Pq Rat):ct p=(gc (sv p):Rat) / (aX p:Rat):=by
 show Rat.divInt _ _=_;rw[Rat.divInt_eq_div];rfl
theorem Lo(p:Pq Rat):(aX p:Rat)≠0:=λq=>by
 have:=ú.mp q;have:=Bi p;omega
theorem Jz{p:Pq Rat}(h:p≠[])(z:∀ t∈p,t.2≠0):ct p≠0:=λe=>by
 have g0:=Az (Af h) (oD z);rw[JA]at e;have e2:(gc (sv p):Rat)=0:=by
  have:(gc (sv p):Rat) / (aX p:Rat) * (aX p:Rat)=0 * (aX p:Rat):=by rw[e]
  rw[Rat.div_mul_cancel<|Lo p,Rat.zero_mul]at this;exact this
 have:=ú.mp e2;omega
theorem Kg{p:Pq Rat}(h:p≠[])(z:∀ t∈p,t.2≠0)(g:Qa Int->Rat):ao p g=ct p * ao (zR<|pp<|sv p) g:=by
 have c0:=Lo p;have e1:=JA p;have one:∀ t∈p,t.2=ct p * ((iv (aX p) t.2 / (gc (sv p):Int):Int):Rat):=λt ht=>by
  have e2:=Ay (S:=sv p) (t:=(t.1,iv (aX p) t.2)) (À.mpr ⟨t,ht,rfl⟩);have e3:=AR (wY ht);dsimp only at e2;have e4:((gc (sv p):Nat):Rat) * ((iv (aX p) t.2 / (gc (sv p):Int):Int):Rat)=t.2 * (aX p:Rat):=by
   rw[<-e3];have:=congrArg (λi:Int=>(i:Rat)) e2;rw[Rat.intCast_mul]at this;exact this
  rw[e1,Rat.div_def,Rat.mul_assoc,Rat.mul_comm (aX p:Rat)⁻¹,<-Rat.mul_assoc,e4,Rat.mul_assoc,Rat.mul_inv_cancel _ c0,Rat.mul_one]
 have main:∀ (q:Pq Rat),(∀ t∈q,t∈p)->ao q g=ct p * ao (q.map λt=>(t.1,((iv (aX p) t.2 / (gc (sv p):Int):Int):Rat))) g:=by
  intro q
  induction q with
  | nil=>intro _; exact(Rat.mul_zero _).symm
  | cons t q ih=>
   intro hq;rw[List.map_cons,zv,zv,ih λu hu=>hq u<|qo _ hu];have:=one t (hq t qp);dsimp only;grind
 have:=main p λt ht=>ht;rw[this];unfold zR pp sv vj;rw[List.map_map,List.map_map];rfl
theorem OE{M:Nat}{p:Pq Rat}(nd:aA p)(zp:∀ t∈p,t.2≠0)(dW:p≠[])(hb:PB M B p)(hl:p.length < 64)(hM:0 < M)(h1:M < 2^4000)(h2:B < 2^4000):
  xq [gg p]=some (.d<|.tuple [.dict<|aQ PyData.int<|pp<|sv p,fR<|ct p],[gg p]):=by
 refine i7 ?_;have oc:=zh0 hb hl hM h1 h2;have g0:=Az (Af dW) (oD zp);have c0:=Bi p;have cM:aX p<=M:=û hM (u4 p (λt ht=>(hb t ht).dvd) 1<|Nat.one_dvd _);have gB:gc (sv p)<=B:=by
  have(t,ht):=ä p dW;have hd:=(wz (sv p) 0).2 (t.1,iv (aX p) t.2) (À.mpr ⟨t,ht,rfl⟩);have z:=oD zp (t.1,iv (aX p) t.2) (À.mpr ⟨t,ht,rfl⟩);have le:=DL hM (hb t ht) (wY ht) (u4 p (λt ht=>(hb t ht).dvd) 1<|Nat.one_dvd _);dsimp only at z;exact qA (û (by omega) hd) le
 have sl:(sv p).length=p.length:=Ċ ..;simp![xq,OK,oc];rw[wc<|sv p];refine mS (λbs cs ρ=>∃ o4 o5,ρ=[some<|gg p,some<|.d<|.list<|(sv p).map λt=>.tuple [aI t.1,.int t.2],some<|.d<|.int (aX p:Int),some<|.d<|.int (gc bs:Int),o4,o5]) ⟨_,_,rfl⟩ ?_ ?_
 .rintro bs t cs _ e ⟨o4,o5,rfl⟩
  have cf:lM [.d<|.int (gc bs:Int),.d<|.int (if t.2 < 0 then -t.2 else t.2)]=_:=BI (by omega) (by split<;>omega);have eg:Int.gcd (gc bs:Int) (if t.2 < 0 then -t.2 else t.2)=gc (bs++[t]):=by
   rw[We];show Nat.gcd _ _=_;congr 1;split<;>omega
  rw[eg]at cf;simp![cf];exact⟨_,_,rfl⟩
 .rintro _ ⟨o4,o5,rfl⟩
  simp!;refine E5 (c:=PyData.int) (b:=λt=>true) (k:=(·.1)) (v:=λt:Qa Int×Int=>t.2 / (gc (sv p):Int)) (by omega) (λt ht ys=>?_) ?_
  .have dv:=uC (a:=t.2) (b:=(gc (sv p):Int)) ⟨by omega,by rw[Int.natAbs_natCast]; exact xS<|Â gB h2⟩
   rw[Int.fdiv_eq_ediv_of_nonneg _ (by omega)]at dv;simp![dv,wa]
  .rw[List.filter_eq_self.mpr λ_ _=>rfl,AO (show aA ((sv p).map λa=>(a.1,a.2 / (gc (sv p):Int))) from DA (DI nd))]
   simp![OW (n:=(gc (sv p):Int)) (d:=(aX p:Int)) (by omega) (by rw[Int.natAbs_natCast]; exact xS<|Â cM h1)];rfl
end K06
open PySem L2
namespace K06
open PySem L2
theorem T6(S:Pq Int):fo (.d<|.dict<|aQ PyData.int S)=some (aB PyData.int S):=by
 show(if gZ (aQ PyData.int S)=true then oG (aQ PyData.int S)else none)=_;rw[if_pos<|ux S,Bj]
theorem R1{u:U}{S:Pq Int}(h:fo u=some (aB PyData.int S)):uu u=some (.l<|(S.map (·.1)).map aI):=by
 unfold uu;rw[h];show some (U.l<|(aB PyData.int S).map λq=>gN q.1)=_;unfold aB;rw[List.map_map,List.map_map];congr 2;exact Û λt _=>Ee t.1
theorem Wd{k:Qa Int}:iY [.d<|aI k]=some (.d<|.tuple [.int k.sum,aI k],[.d<|aI k]):=by
 refine i7 ?_;have e:kR (.d<|aI k)=some (.d<|.int k.sum):=AA;simp![iY,JW,e]
theorem Lm{k:Qa Int}:n6 iY (aI k)=some (k.sum,k):=by
 unfold n6;rw[Wd];show(iV<|k.map PyData.int).map _=_;rw[rN];rfl
theorem T5{a b:Qa Int}(h:gA a.sum a b.sum b=true):tE b a:=by
 unfold gA at h;split at h
 .rename_i e
  exact .inr ⟨e.symm,h⟩
 .exact .inl (of_decide_eq_true h)
theorem Wc(dW:ks≠[]):∃ k∈ks,vR iY (.l<|ks.map aI)=some (.d<|aI k)/\∀ k'∈ks,k'≠k->tE k' k:=by
 have ev:(ks.map aI).mapM (n6 iY)=some (ks.map λk=>(k.sum,k)):=by
  have:=Nm (f:=n6 iY) (g:=λd=>((n6 iY d).getD (0,[]))) (xs:=ks.map aI) λd hd=>by
   have(k,_,rfl):=À.mp hd;rw[Lm];rfl
  rw[this,List.map_map];congr 1;refine Û λk _=>?_;show(n6 iY<|aI k).getD (0,[])=_;rw[Lm];rfl
 have h0:=à.mpr dW;have vl:(ks.map λk=>(k.sum,k)).length=ks.length:=Ċ ..;have(h1,h2):=L8 (ks.map λk=>(k.sum,k)) (ks.length - 1) (by omega);generalize hj:argBest (dc<|ks.map λk=>(k.sum,k)) (ks.length - 1)=j at h1 h2;have Cm:j < ks.length:=by omega
 have at_:∀ i,(hi:i < ks.length)->(ks.map λk=>(k.sum,k)).getD i (0,[])=(ks[i].sum,ks[i]):=λi hi=>by
  rw[qC,List.getElem?_map,qm hi];rfl
 refine⟨ks[j],ó Cm,?_,λk' hk ne=>?_⟩
 .show((ks.map aI).mapM<|n6 iY).bind _=_
  rw[ev,bd,List.length_map,hj,List.getElem?_map,qm Cm];rfl
 .have(i,hi,rfl):=ß hk
  rcases h2 i (by omega)with e|e
  .rw[at_ i hi,at_ j Cm]at e
   exact absurd (congrArg Prod.snd e) ne
  .unfold dc at e
   rw[at_ i hi,at_ j Cm]at e;exact T5 e
theorem Ll{u:U}{S:Pq Int}(h:fo u=some (aB PyData.int S))(dW:S≠[]):∃ t∈S,uu u=some (.l<|(S.map (·.1)).map aI)/\vR iY (.l<|(S.map (·.1)).map aI)=some (.d<|aI t.1)/\Top tE (zR S) (t.1,(t.2:Rat)):=by
 have(k,hk,e,tp):=Wc (ks:=S.map (·.1)) (λz=>dW<|ø.mp z);have(t,ht,rfl):=À.mp hk;refine⟨t,ht,R1 h,e,À.mpr ⟨t,ht,rfl⟩,λu hu ne=>?_⟩;have(v,hv,rfl):=À.mp hu;exact tp v.1 (À.mpr ⟨v,hv,rfl⟩) ne
noncomputable def mE(p:Pq α)(k:Qa Int):Pq α:=p.filter λt=>decide<|t.1≠k
theorem X6{p:Pq Rat}(nd:aA p){k:Qa Int}{x:Rat}(h:aR p k=some x)(g:Qa Int->Rat):ao (mE p k) g=ao p g - x * g k:=by
 have(s,t,e):=List.append_of_mem (wO h);subst e;unfold aA at nd;rw[List.map_append,List.map_cons,List.nodup_append]at nd;have(_,n2,n3):=nd;have f1:s.filter (λt=>decide<|t.1≠k)=s:=ĉ.mpr λu hu=>by
  simpa using n3 u.1 (À.mpr ⟨u,hu,rfl⟩) k qp
 have f2:t.filter (λt=>decide<|t.1≠k)=t:=ĉ.mpr λu hu=>by
  have:=(ì.mp n2).1;simpa using λz=>this<|À.mpr ⟨u,hu,z⟩
 unfold mE;rw[List.filter_append,f1,List.filter_cons_of_neg (by simp),f2,mU,mU,zv];grind
theorem Wb{S:Pq Int}{k:Qa Int}:t5 (aB PyData.int S) (kL k)=aB PyData.int (mE S k):=by
 unfold t5 aB mE;rw[List.filter_map];congr 1;refine List.filter_congr λt _=>?_;show decide (kL t.1≠kL k)=decide (t.1≠k);rw[decide_eq_decide];exact not_congr rE
theorem T4{S:Pq Int}{k:Qa Int}{x:Int}(h:aR S k=some x):yL (.t<|aB PyData.int S) (aI k)=some (.t<|aB PyData.int<|mE S k):=by
 have e:bN (aI k)=some (kL k):=lB k;show(bN<|aI k).bind _=_;rw[e,bd,if_pos,Wb];refine æ.mpr ⟨(kL k,.int x),À.mpr ⟨_,wO h,rfl⟩,by simp⟩
theorem T3{S:Pq Int}{k:Qa Int}{x:Int}:zR (bu S k x)=bu (zR S) k (x:Rat):=XF (λi:Int=>(i:Rat)) S k x
theorem Lk{S:Pq Int}{k:Qa Int}:aR (zR S) k=(aR S k).map λi:Int=>(i:Rat):=Yj (λi:Int=>(i:Rat)) S k
end K06
open PySem L2
namespace K06
open PySem L2
structure Off (n:Nat) (R G:Pq Int) (e:Qa Int) (c:Int) (C:Nat) (R':Pq Int):Prop where
 nd:aA R'
 nz:∀ t∈R',t.2≠0
 ln:Ln n R'
 li:∀ γ,ao (zR R') γ=ao (zR R) γ - ao (aL [(e,(c:Rat))]<|zR G) γ
 ky:∀ t∈R',(∃ u∈R,u.1=t.1)\/∃ v∈G,t.1=zB e v.1
 bd:∀ t∈R',t.2.natAbs<=C
 le:R'.length<=R.length+G.length
theorem zmX{BR BG:Nat}{R G:Pq Int}{e:Qa Int}{c:Int}{Q:U×Qa U->Prop}(n3:n<=3)(nR:aA R)(BS:∀ t∈R,t.2≠0)(lR:Ln n R)(nG:aA G)(zG:∀ t∈G,t.2≠0)(lG:Ln n G)(le:e.length=n)(c0:c≠0)(gl:G.length < 64)(rl:R.length<=200000)(bR:∀ t∈R,t.2.natAbs<=BR)(bG:∀ t∈G,t.2.natAbs<=BG)(bc:c.natAbs.log2 < 1000000)(bG2:BG < 2^4000)
  (q:∀ R',Off n R G e c (BR+G.length * (c.natAbs * BG)) R'->Q (.d .none,[.t<|aB PyData.int R',.d<|.dict<|aQ PyData.int G,.d<|aI e,.d<|.int c])):Wo (BA [.t<|aB PyData.int R,.d<|.dict<|aQ PyData.int G,.d<|aI e,.d<|.int c]) Q:=by
 simp![BA,Nv];rw[wc G];refine mS (λbs cs ρ=>∃ R' o4 o5 o6 o7,Off n R bs e c (BR+bs.length * (c.natAbs * BG)) R'/\ρ=[some<|.t<|aB PyData.int R',some<|.d<|.dict<|aQ PyData.int G,some<|.d<|aI e,some<|.d<|.int c,o4,o5,o6,o7]) ⟨R,_,_,_,_,⟨nR,BS,lR,λγ=>?_,λt ht=>.inl ⟨t,ht,rfl⟩,λt ht=>by have:=bR t ht; omega,by omega⟩,rfl⟩ ?_ ?_
 .rw[zY]
  show _=_ - ao [(e,(c:Rat))] (λa=>ao (zR []) λb=>γ<|zB a b);rw[zv,zX];show _=_ - ((c:Rat) * 0+0);grind
 .rintro bs t cs _ eG ⟨R',o4,o5,o6,o7,f,rfl⟩
  have tG:t∈G:=by rw[eG]; simp
  have lt:=lG t tG;have lb:bs.length+1<=G.length:=by rw[eG,qu,qv]; omega
  have lt2:t.2.natAbs.log2 < 1000000:=fF (Â (bG t tG) bG2);have pw:=zh7 (a:=e) (b:=t.1) (by rw[le,lt]) (by omega);have f':=f.le;have ml:(c * t.2).natAbs<=c.natAbs * BG:=by
   rw[Int.natAbs_mul];exact Í _<|bG t tG
  have dist:(bs.length+1) * (c.natAbs * BG)=bs.length * (c.natAbs * BG)+c.natAbs * BG:=Nat.succ_mul ..;have lv:((aR R'<|zB e t.1).getD 0).natAbs<=BR+bs.length * (c.natAbs * BG):=by
   cases q:aR R' (zB e t.1)with
   | none=>exact Ð _
   | some x=>exact f.bd _<|wO q
  have xR:∀ γ,ao (aL [(e,(c:Rat))]<|zR<|bs++[t]) γ=ao (aL [(e,(c:Rat))]<|zR bs) γ+((c * t.2:Int):Rat) * γ (zB e t.1):=λγ=>by
   rw[zY,zY,zv,zv,zX,zX];unfold zR;rw[List.map_append,mU,List.map_cons,List.map_nil,zv,zX,Rat.intCast_mul];grind
  simp![pw,jN (a:=c) (b:=t.2) bc lt2]
  by_cases z:(aR R'<|zB e t.1).getD 0 - c * t.2=0
  .obtain⟨x,hx⟩:∃ x,aR R' (zB e t.1)=some x:=by
    cases q:aR R' (zB e t.1)with
    | some x=>exact⟨x,rfl⟩
    | none=>
     rw[q]at z;have z':(0:Int) - c * t.2=0:=z;have:=Int.mul_eq_zero.mp (show c * t.2=0 by omega);exact absurd this (by intro w; rcases w with w|w; exact c0 w; exact zG t tG w)
   have ex:x=c * t.2:=by
    rw[hx]at z;have z':x - c * t.2=0:=z;omega
   have zb:((aR R'<|zB e t.1).getD 0 - c * t.2 != 0)=false:=by rw[z]; rfl
   rw[zb];simp![Bool.false_eq_true,T4 hx];refine⟨mE R'<|zB e t.1,_,_,_,_,⟨f.nd.sublist<|List.filter_sublist.map _,λu hu=>f.nz u (Æ.mp hu).1,λu hu=>f.ln u (Æ.mp hu).1,λγ=>?_,λu hu=>?_,λu hu=>?_,?_⟩,rfl⟩
   .have hz:zR (mE R'<|zB e t.1)=mE (zR R') (zB e t.1):=by
     unfold zR mE;rw[List.filter_map];rfl
    have hl:aR (zR R') (zB e t.1)=some (x:Rat):=by rw[Lk,hx]; rfl
    rw[hz,X6 (rn f.nd) hl,f.li γ,xR γ,ex];grind
   .rcases f.ky u (Æ.mp hu).1 with h|⟨v,hv,h⟩
    .exact .inl h
    .exact .inr ⟨v,É _ hv,h⟩
   .have:=f.bd u (Æ.mp hu).1
    rw[dist];omega
   .have:=Ô (λt':Qa Int×Int=>decide<|t'.1≠zB e t.1) R'
    rw[qu,List.length_singleton];show(R'.filter _).length<=_;omega
  .have zb:((aR R'<|zB e t.1).getD 0 - c * t.2 != 0)=true:=bne_iff_ne.mpr z
   rw[zb];simp![n9 (c:=PyData.int) (p:=R') (k:=zB e t.1) (x:=(aR R'<|zB e t.1).getD 0 - c * t.2) (by omega)];have pl:=uQ R' (zB e t.1) ((aR R'<|zB e t.1).getD 0 - c * t.2);refine⟨bu R' (zB e t.1)<|(aR R'<|zB e t.1).getD 0 - c * t.2,_,_,_,_,⟨f.nd.put _ _,λu hu=>?_,λu hu=>?_,λγ=>?_,λu hu=>?_,λu hu=>?_,?_⟩,rfl⟩
   .rcases pj hu with⟨h,_⟩|rfl
    .exact f.nz u h
    .exact z
   .rcases pj hu with⟨h,_⟩|rfl
    .exact f.ln u h
    .exact Fw le lt
   .have e1:(((aR R'<|zB e t.1).getD 0 - c * t.2:Int):Rat)=(aR (zR R')<|zB e t.1).getD 0+(-((c * t.2:Int):Rat)):=by
     rw[Lk,Rat.intCast_sub];cases aR R' (zB e t.1)with
     | none=>
      show((0:Int):Rat) - _=0+_;rw[show((0:Int):Rat)=0 from rfl];grind
     | some x=>
      show(x:Rat) - _=(x:Rat)+_;grind
    rw[T3,e1,LR<|rn f.nd,f.li γ,xR γ];grind
   .rcases pj hu with⟨h,_⟩|rfl
    .rcases f.ky u h with h|⟨v,hv,h⟩
     .exact .inl h
     .exact .inr ⟨v,É _ hv,h⟩
    .exact .inr ⟨t,by simp,rfl⟩
   .rw[dist]
    rcases pj hu with⟨h,_⟩|rfl
    .have:=f.bd u h
     omega
    .show((aR R'<|zB e t.1).getD 0 - c * t.2).natAbs<=_
     omega
   .rw[qu,List.length_singleton]
    omega
 .rintro _ ⟨R',o4,o5,o6,o7,f,rfl⟩
  simp!;exact q R' f
end K06
set_option exponentiation.threshold 100000
open PySem L2
namespace K06
open PySem L2
def Ps(k:Qa Int):Prop:=∀ i∈k,0<=i
theorem oY:∀ {k:Qa Int},Ps k->0<=k.sum/\∀ i∈k,i<=k.sum
 | [],_=>⟨Ò _,λi hi=>by cases hi⟩
 | x::k,h=>by
  have(h1,h2):=oY (k:=k) λi hi=>h i<|qo _ hi;have h0:=h x qp;have e:(x::k).sum=x+k.sum:=rfl;rw[e];refine⟨by omega,λi hi=>?_⟩;rcases qw.mp hi with rfl|hi
  .omega
  .have:=h2 i hi
   omega
theorem Kf{k:Qa Int}(h:k≠[]):∃ m:Int,tZ (.d<|aI k)=some (.d<|.int m)/\(0<=m↔Ps k):=by
 cases k with
 | nil=>exact absurd rfl h
 | cons x k=>
  have(h1,h2):=FW k x;refine⟨rC x k,?_,λh i hi=>by have:=h2 i hi; omega,λh=>h _ h1⟩;show(iV<|(x::k).map PyData.int).bind _=_;rw[rN];rfl
theorem X5{a:Int}(h:a.fmod b=0):a=a.fdiv b * b:=by
 have:=Int.fmod_add_mul_fdiv a b;rw[h,Int.zero_add,Int.mul_comm]at this;exact this.symm
structure Wq (n:Nat) (B KK:Nat) (F G:Pq Int) (lead:Qa Int) (R T:Pq Int):Prop where
 inv:∀ γ,ao (zR F) γ=ao (aL (zR T)<|zR G) γ+ao (zR R) γ
 nR:aA R
 zR:∀ t∈R,t.2≠0
 lR:Ln n R
 sR:∀ t∈R,t.1.sum<=12
 nT:aA T
 zT:∀ t∈T,t.2≠0
 lT:Ln n T
 pT:∀ t∈T,Ps t.1
 sT:∀ t∈T,t.1.sum<=12
 bl:∀ t∈T,∀ u∈R,tE u.1 (zB t.1 lead)
 bR:∀ t∈R,t.2.natAbs<=B * KK^T.length
 eR:R.length<=64+64 * T.length
 vT:∀ t∈T,t.2.natAbs < 2^61123
theorem Wq.len{KK:Nat}{F G:Pq Int}{lead:Qa Int}{R T:Pq Int}(n3:n<=3)(w:Wq n B KK F G lead R T):T.length<=2197:=by
 have:=Lb (E:=12) w.nT λt ht=>⟨w.lT t ht,λk hk=>⟨w.pT t ht k hk,by have:=(oY<|w.pT t ht).2 k hk; have:=w.sT t ht; omega⟩⟩;exact qA this<|qA (Î (by omega) n3) (by decide)
theorem zf7{BG:Nat}{F G:Pq Int}{Q:U×Qa U->Prop}(n1:1<=n)(n3:n<=3)(nF:aA F)(zF:∀ t∈F,t.2≠0)(lF:Ln n F)(sF:∀ t∈F,t.1.sum<=12)(bF:∀ t∈F,t.2.natAbs<=B)(eF:F.length<=64)(hk:rm F)(nG:aA G)(zG:∀ t∈G,t.2≠0)(lG:Ln n G)(bD:G≠[])(pG:∀ t∈G,Ps t.1)(bG:∀ t∈G,t.2.natAbs<=BG)(eG:G.length < 64)(hB:B < 2^4000)(HP:BG < 2^20)
  (k0:(∀ H:Pq Rat,aA H->Ln n H->(∀ t∈H,Ps t.1)->mm H->¬Dv (zR F) (zR G) H)->Q (.d .none,[.d<|.dict<|aQ PyData.int F,.d<|.dict<|aQ PyData.int G]))
  (k1:∀ T:Pq Int,aA T->(∀ t∈T,t.2≠0)->Ln n T->(∀ t∈T,Ps t.1)->(∀ t∈T,t.2.natAbs < 2^61123)->Dv (zR F) (zR G) (zR T)->Q (.t<|aB PyData.int T,[.d<|.dict<|aQ PyData.int F,.d<|.dict<|aQ PyData.int G])):
  Wo (BJ [.d<|.dict<|aQ PyData.int F,.d<|.dict<|aQ PyData.int G]) Q:=by
 have(lead,fe,l1,l2,j8):=Ll (T6 G) bD;have ll:=lG lead fe;have lz:=zG lead fe;have BG0:1<=BG:=by have:=bG lead fe; omega
 have PH:=rn nG;have zGz:=DB zG;have PX:=Aa lG;have copy:lC (.d<|.dict<|aQ PyData.int F)=some (.t<|aB PyData.int F):=DK hk;have B8:aR G lead.1=some lead.2:=iC nG fe;simp![BJ,OR,copy,l1,l2];refine Bn (λk ρ=>∃ R T o5 o6,k=2198 - T.length/\Wq n B (1+G.length * BG) F G lead.1 R T/\ρ=[some<|.d<|.dict<|aQ PyData.int F,some<|.d<|.dict<|aQ PyData.int G,some<|.t<|aB PyData.int R,some<|.d<|aI lead.1,some<|.t<|aB PyData.int T,o5,o6]) 2198 ⟨F,[],_,_,rfl,⟨λγ=>?_,nF,zF,lF,sF,List.nodup_nil,λt ht=>(by cases ht),λt ht=>(by cases ht),λt ht=>(by cases ht),λt ht=>(by cases ht),λt ht=>(by cases ht),λt ht=>?_,by omega,λt ht=>(by cases ht)⟩,rfl⟩ ?_
 .show _=ao (aL [] _) γ+_
  rw[zY,zX];grind
 .have:=bF t ht
  simpa using this
 .rintro k _ ⟨R,T,o5,o6,rfl,wq,rfl⟩
  have tl:=wq.len n3
  by_cases hR:R=[]
  .subst hR
   simp![List.isEmpty_nil,Bool.not_true,Bool.false_eq_true];refine k1 T wq.nT wq.zT wq.lT wq.pT wq.vT λγ=>?_;have:=wq.inv γ;rw[show zR ([]:Pq Int)=[] from rfl,zX,Rat.add_zero]at this;exact this
  .have(top,cw,t1,t2,jV):=Ll (u:=.t (aB PyData.int R)) rfl hR
   have xx:=wq.lR top cw;have tz:=wq.zR top cw;have PQ:aR R top.1=some top.2:=iC wq.nR cw;have em:List.isEmpty R=false:=by
    cases R with
    | nil=>exact absurd rfl hR
    | cons a R=>rfl
   have zl:=xb (show top.1.length=lead.1.length by omega);simp![em,Bool.not_false,t1,t2,zl];refine oQ (e:=λt=>.int<|t.1 - t.2) (by rw[List.length_zip]; omega) (λt ht ys=>?_) ?_
   .simp!
   .rw[show((top.1.zip lead.1).map λt=>PyData.int<|t.1 - t.2)=(b7 top.1 lead.1).map PyData.int by unfold b7; rw[List.map_zipWith,List.zip,List.map_zipWith]]
    have pl:=Ml xx ll;have pa:=Fv xx ll;have xG:b7 top.1 lead.1≠[]:=λz=>by rw[z]at pl; simp at pl; omega
    have(m,hm,mp):=Kf xG;have xZ:tZ (.d<|.tuple<|(b7 top.1 lead.1).map .int)=some (.d<|.int m):=hm;have no:∀ H:Pq Rat,aA H->Ln n H->(∀ t∈H,Ps t.1)->mm H->Dv (zR F) (zR G) H->Ps (b7 top.1 lead.1)/\top.2.fmod lead.2=0:=λH nH lH pH iH dH=>by
     have(e,he,e1,e2):=Mj (mz n) dH wq.inv (rn wq.nR) (DB wq.zR) PH zGz lH (Aa wq.lT) PX j8 jV;dsimp only at e1 e2;have pe:Ps e.1:=mR (P:=Ps) pH (λt ht=>by
      have(u,hu,rfl):=À.mp ht;exact wq.pT u hu) e he
     have le:e.1.length=n:=mR (P:=λe=>e.length=n) lH (Aa wq.lT) e he;refine⟨by rw[e1,Fu le ll]; exact pe,?_⟩;have ie:fq e.2:=by
      have Q1:=Eu H (zR T) (ix e.1);rw[show ao (df H<|zR T) (ix e.1)=e.2 from mJ (um<|Ab _ _) he]at Q1;have(y,hy):=A0 (p:=H) (g:=ix e.1) λt ht=>(iH t ht).mul uJ;have(z,hz):=A0 (p:=zR T) (g:=ix e.1) λt ht=>(Em t ht).mul uJ;refine⟨y - z,?_⟩;rw[Q1,hy,hz,Rat.intCast_sub]
     have(z,hz):=ie;rw[hz,<-Rat.intCast_mul,Rat.intCast_inj]at e2;rw[e2];exact Int.mul_fmod_left ..
    have xV:¬(Ps (b7 top.1 lead.1)/\top.2.fmod lead.2=0)->Q (.d .none,[.d<|.dict<|aQ PyData.int F,.d<|.dict<|aQ PyData.int G]):=λz=>k0 λH a b c d e=>z<|no H a b c d e;simp![xZ];refine kX (λc=>?_) λc=>?_
    .simp!
     exact xV λz=>by have:=mp.mpr z.1; omega
    .have md:=Ui (a:=top.2) (b:=lead.2) lz
     simp![PQ,B8,md];refine kX (λc2=>?_) λc2=>?_
     .simp!
      exact xV λz=>by simp[z.2]at c2
     .have ez:top.2.fmod lead.2=0:=by simpa using c2
      have ps:Ps (b7 top.1 lead.1):=mp.mp (by omega);have eP:U.d (PyData.tuple<|(b7 top.1 lead.1).map PyData.int)=.d (aI<|b7 top.1 lead.1):=rfl;rw[eP];have dv:=uC (a:=top.2) (b:=lead.2) ⟨lz,xS<|Â (bG lead fe)<|Ó HP (by decide)⟩;have ev:=X5 ez;generalize hv:top.2.fdiv lead.2=v at dv ev;generalize he:b7 top.1 lead.1=e at *;have v0:v≠0:=λz=>by rw[z,Int.zero_mul]at ev; exact tz ev
      have O2:v.natAbs<=top.2.natAbs:=by
       rw[ev,Int.natAbs_mul];exact Nat.le_mul_of_pos_right _ (by omega)
      have fresh:∀ t∈T,t.1≠e:=λt ht z=>by
       have:=wq.bl t ht top cw;rw[z,pa]at this;exact(mz n).ni _ this
      have fr:(T.any λt=>decide<|t.1=e)=false:=by
       rw[List.any_eq_false];intro t ht;simpa using fresh t ht
      have pe:bu T e v=T++[(e,v)]:=by
       unfold bu;rw[fr,if_neg qf]
      have PD:aA (T++[(e,v)]):=by rw[<-pe]; exact wq.nT.put _ _
      have G0:aR (T++[(e,v)]) e=some v:=iC PD (t:=(e,v)) (by simp);have pu:=n9 (c:=PyData.int) (p:=T) (k:=e) (x:=v) (by omega);rw[pe]at pu;simp![PQ,B8,dv,pu,G0];have bT:=wq.bR top cw;have KK:1+G.length * BG<=2^26:=by
       have:=Ï (show G.length<=63 by omega) (é HP);omega
      have nW:v.natAbs < 2^61123:=by
       have h1:(1+G.length * BG)^T.length<=(2^26)^2197:=qA (Ĉ KK _) (Î (by decide) tl);have h2:=Ï (é hB) h1;refine Â (qA O2<|qA bT h2) (by decide)
      have eR:=wq.eR;refine zmX (BR:=B * (1+G.length * BG)^T.length) (BG:=BG) n3 wq.nR wq.zR wq.lR nG zG lG pl v0 eG (by omega) wq.bR bG (Ó (pJ (k:=61123) (by decide) nW) (by decide)) (Ó HP (by decide)) λR' off=>?_;simp!;have below:=Nr (mz n) pl off.li (rn wq.nR) (rn off.nd) (DB off.nz) PH PX j8 jV pa.symm (by dsimp only; rw[ev,Rat.intCast_mul]);have bw:∀ u∈R',tE u.1 top.1:=λu hu=>below (u.1,(u.2:Rat))<|À.mpr ⟨u,hu,rfl⟩;have st:=wq.sR top cw;have sl:=oY (pG lead fe);have se:e.sum+lead.1.sum=top.1.sum:=by rw[<-uU pl ll,pa]
      refine⟨2198 - (T.length+1),by omega,R',T++[(e,v)],_,_,by rw[qu,List.length_singleton],⟨λγ=>?_,off.nd,off.nz,off.ln,λt ht=>?_,PD,λt ht=>?_,λt ht=>?_,λt ht=>?_,λt ht=>?_,λt ht u hu=>?_,λt ht=>?_,?_,λt ht=>?_⟩,rfl⟩
      .have:=Mi wq.inv off.li γ
       unfold zR at this ⊢;rw[List.map_append];exact this
      .rcases bw t ht with z|⟨z,_⟩<;>omega
      .rcases Ä.mp ht with ht|ht
       .exact wq.zT t ht
       .rw[qq.mp ht]; exact v0
      .rcases Ä.mp ht with ht|ht
       .exact wq.lT t ht
       .rw[qq.mp ht]; exact pl
      .rcases Ä.mp ht with ht|ht
       .exact wq.pT t ht
       .rw[qq.mp ht]; exact ps
      .rcases Ä.mp ht with ht|ht
       .exact wq.sT t ht
       .rw[qq.mp ht]
        show e.sum<=12;omega
      .rcases Ä.mp ht with ht|ht
       .exact(mz n).tr (bw u hu) (wq.bl t ht top cw)
       .rw[qq.mp ht]
        show tE u.1 (zB e lead.1);rw[pa];exact bw u hu
      .refine qA (off.bd t ht) ?_
       have eX:B * (1+G.length * BG)^(T++[(e,v)]).length=B * (1+G.length * BG)^T.length * (1+G.length * BG):=by rw[qu,List.length_singleton,Nat.pow_succ,Nat.mul_assoc]
       rw[eX];generalize hX:B * (1+G.length * BG)^T.length=X at *;have h1:=Í G.length (Ã BG<|qA O2 bT);have h2:G.length * (X * BG)=X * (G.length * BG):=by rw[Nat.mul_left_comm]
       have h3:X * (1+G.length * BG)=X+X * (G.length * BG):=by rw[Nat.mul_add,Nat.mul_one]
       rw[h3,<-h2];exact Nat.add_le_add_left h1 X
      .have:=off.le
       rw[qu,List.length_singleton];omega
      .rcases Ä.mp ht with ht|ht
       .exact wq.vT t ht
       .rw[qq.mp ht]; exact nW
end K06
open PySem L2
namespace K06
open PySem L2
theorem uL{L:Qa (Qa Int)}(hL:(L.map λa=>hT<|kL a).Nodup){p:Pq α}(nd:aA p)(ky:∀ t∈p,t.1∈L):rm p:=by
 have inj:∀ a∈L,∀ b∈L,hT (kL a)=hT (kL b)->a=b:=Kt hL;unfold rm rF;rw[Bool.and_eq_true_iff];constructor
 .rw[List.all_eq_true]
  intro ks hk;have(a,_,rfl):=À.mp hk;rw[CU,List.all_eq_true];intro k hk;have(i,_,rfl):=À.mp hk;rfl
 .rw[decide_eq_true_iff,List.map_map]
  have mem:∀ a∈p.map (·.1),a∈L:=λa ha=>by
   have(t,ht,rfl):=À.mp ha;exact ky t ht
  refine ï.mpr<|List.Pairwise.imp_of_mem (λ{a b} ha hb (dW:a≠b)=>?_) nd;exact λe=>dW<|inj a (mem a ha) b (mem b hb) e
theorem T2:((n8 5 1).map λa=>hT<|kL a).Nodup:=by decide +kernel
theorem T1:((n8 5 2).map λa=>hT<|kL a).Nodup:=by decide +kernel
theorem TZ:((n8 5 3).map λa=>hT<|kL a).Nodup:=by decide +kernel
def Pw(n E:Nat)(p:Pq α):Prop:=∀ t∈p,t.1.length=n/\∀ k∈t.1,0<=k/\k<=(E:Int)
theorem Jy{p:Pq α}(n1:1<=n)(n3:n<=3)(nd:aA p)(h:Pw n 5 p):rm p:=by
 rcases(by omega:n=1\/n=2\/n=3)with rfl|rfl|rfl
 .exact uL T2 nd λt ht=>uY (h t ht).1 (h t ht).2
 .exact uL T1 nd λt ht=>uY (h t ht).1 (h t ht).2
 .exact uL TZ nd λt ht=>uY (h t ht).1 (h t ht).2
theorem Lj(h:n < 2^1200):n < 10^400:=qj h (by
 have e1:(2:Nat)^1200=8^400:=by rw[show(8:Nat)=2^3 from rfl,<-Nat.pow_mul]
 rw[e1];exact Ĉ (by decide) 400)
theorem El{M E:Nat}{p:Pq Rat}(h:PB M B p)(hM:0 < M)(h1:M < 2^1200)(h2:B < 2^1200)(hw:Pw n E p)(n3:n<=3)(hE:E < 64)(hl:p.length < 64):fX 3 105150 (.tuple<|bJ fR p):=by
 refine(Yf (n:=400) (m:=63) (λt ht=>?_) (λt ht k hk=>?_) (λt ht=>?_) (by omega)).mono (qe _) (by decide)
 .have(a,b):=(h t ht).size hM
  exact⟨Lj<|Â b h2,Lj<|Â a h1⟩
 .have:=(hw t ht).2 k hk
  omega
 .rw[(hw t ht).1]
  exact n3
theorem Ke{E:Nat}:∀ {k:Qa Int},(∀ i∈k,0<=i/\i<=(E:Int))->k.sum<=(k.length * E:Nat)
 | [],_=>by simp
 | x::k,h=>by
  have:=Ke (k:=k) λi hi=>h i<|qo _ hi;have h0:=h x qp;have e:(x::k).sum=x+k.sum:=rfl;have e2:(x::k).length * E=k.length * E+E:=Nat.succ_mul ..;rw[e,e2];omega
structure PO (n E M B:Nat) (p:Pq Rat):Prop where
 nd:aA p
 nz:∀ t∈p,t.2≠0
 pw:Pw n E p
 pb:PB M B p
 le:p.length < 64
section
variable{E M:Nat}{p:Pq Rat}
theorem PO.ln(h:PO n E M B p):Ln n p:=λt ht=>(h.pw t ht).1
theorem PO.ps(h:PO n E M B p):∀ t∈p,Ps t.1:=λt ht k hk=>((h.pw t ht).2 k hk).1
theorem PO.sm(h:PO n E M B p):∀ t∈p,t.1.sum<=(n * E:Nat):=λt ht=>by
 have:=Ke (h.pw t ht).2;rw[(h.pw t ht).1]at this;exact this
end
theorem Jx{E:Nat}{p:Pq Rat}(h:Pw n E p):Pw n E (pp<|sv p):=λt ht=>by
 have(u,hu,rfl):=À.mp ht;have(v,hv,rfl):=À.mp hu;exact h v hv
theorem Jw{M:Nat}{p:Pq Rat}(hM:0 < M)(hb:PB M B p):∀ t∈pp (sv p),t.2.natAbs<=B:=R3 λt ht=>by
 have(u,hu,rfl):=À.mp ht;exact DL hM (hb u hu) (wY hu)<|u4 p (λt ht=>(hb t ht).dvd) 1<|Nat.one_dvd _
theorem Kd(p:Pq Rat):(pp<|sv p).length=p.length:=by
 unfold pp sv vj;rw[List.length_map,List.length_map]
theorem Kc{p:Pq Rat}(h:p≠[])(z:∀ t∈p,t.2≠0){M:Nat}(hM:0 < M)(hb:PB M B p):0 < (ct p).num/\(ct p).num.natAbs<=B/\(ct p).den<=M:=by
 have g0:=Az (Af h) (oD z);have c0:=Bi p;have cM:aX p<=M:=û hM (u4 p (λt ht=>(hb t ht).dvd) 1<|Nat.one_dvd _);have gB:gc (sv p)<=B:=by
  have(t,ht):=ä p h;have hd:=(wz (sv p) 0).2 (t.1,iv (aX p) t.2) (À.mpr ⟨t,ht,rfl⟩);have z:=oD z (t.1,iv (aX p) t.2) (À.mpr ⟨t,ht,rfl⟩);have le:=DL hM (hb t ht) (wY ht) (u4 p (λt ht=>(hb t ht).dvd) 1<|Nat.one_dvd _);dsimp only at z;exact qA (û (by omega) hd) le
 have(f1,f2,_,f4,f5):=xf (n:=(gc (sv p):Int)) (d:=(aX p:Int)) (by omega);have(r1,r2):=A8 (n:=(gc (sv p):Int)) (d:=(aX p:Int)) (by omega);rw[<-r1];have r3:(ct p).den<=aX p:=by
  have:((ct p).den:Int)<=((aX p:Nat):Int).natAbs:=by rw[<-r2]; exact f4
  rw[Int.natAbs_natCast]at this;omega
 refine⟨?_,by rw[Int.natAbs_natCast]at f5; omega,by omega⟩;have p1:0 < (gc (sv p):Int) * iu (gc (sv p):Int) (aX p:Int):=Int.mul_pos (by omega) (by omega);rw[<-f1]at p1;exact Int.pos_of_mul_pos_left p1 (by omega)
theorem TY{S:Pq Int}(k:Qa Int):fq (co (zR S) k):=A0 λt ht=>(Em t ht).mul uJ
theorem TX{f g F G h:Pq Rat}{a b:Rat}(a0:a≠0)(hf:∀ γ,ao f γ=a * ao F γ)(hg:∀ γ,ao g γ=b * ao G γ)(d:Dv f g h):Dv F G (mY (b / a) h):=λγ=>by
 have h1:=d γ;rw[hf,zY]at h1;have h2:(ao h λx=>ao g λy=>γ<|zB x y)=b * ao h λx=>ao G λy=>γ (zB x y):=by
  rw[<-FN];exact uW λt _=>hg _
 rw[h2]at h1;rw[zY,Fh,Rat.div_def,Rat.mul_comm b,Rat.mul_assoc,<-h1,<-Rat.mul_assoc,Rat.inv_mul_cancel _ a0,Rat.one_mul]
theorem Wa{f g F G h T:Pq Rat}{a b:Rat}(b0:b≠0)(hf:∀ γ,ao f γ=a * ao F γ)(hg:∀ γ,ao g γ=b * ao G γ)(d:Dv F G T)(hh:∀ γ,ao h γ=a / b * ao T γ):Dv f g h:=λγ=>by
 have h2:(ao T λx=>ao g λy=>γ<|zB x y)=b * ao T λx=>ao G λy=>γ (zB x y):=by
  rw[<-FN];exact uW λt _=>hg _
 rw[hf,d γ,zY,zY,hh,h2,Rat.div_def,Rat.mul_assoc,<-Rat.mul_assoc b⁻¹,Rat.inv_mul_cancel _ b0,Rat.one_mul]
theorem V9{S:Pq Int}{a b:Rat}(b0:0 < b.num)(γ:Qa Int->Rat):ao (fS ((a.den:Int) * b.num)<|S.map λt=>(t.1,t.2 * a.num * (b.den:Int))) γ=a / b * ao (zR S) γ:=by
 have one:∀ z:Int,Rat.divInt (z * a.num * (b.den:Int)) ((a.den:Int) * b.num)=a / b * (z:Rat):=λz=>by
  have da:=jD a;have db:=jD b;rw[Rat.divInt_eq_div,Rat.intCast_mul,Rat.intCast_mul,Rat.intCast_mul];have ea:=uZ a;have eb:=uZ b;have da0:((a.den:Int):Rat)≠0:=λq=>by have:=Þ.mp q; omega
  have db0:((b.den:Int):Rat)≠0:=λq=>by have:=Þ.mp q; omega
  have bn0:(b.num:Rat)≠0:=λq=>by have:=Þ.mp q; omega
  have bb0:b≠0:=λq=>by rw[q]at b0; simp at b0
  have eU:a * ((a.den:Int):Rat)=(a.num:Rat):=ea;have vB:b * ((b.den:Int):Rat)=(b.num:Rat):=eb;rw[<-eU,<-vB];rw[<-vB]at bn0;grind
 induction S with
 | nil=>exact(Rat.mul_zero _).symm
 | cons t S ih=>
  show Rat.divInt (t.2 * a.num * (b.den:Int)) ((a.den:Int) * b.num) * γ t.1+ao (fS _ _) γ=a / b * ((t.2:Rat) * γ t.1+ao (zR S) γ);rw[one,ih];grind
end K06
open PySem L2
namespace K06
open PySem L2
structure Qt (n:Nat) (f g h:Pq Rat):Prop where
 nf:Nf h
 ln:Ln n h
 ps:∀ t∈h,Ps t.1
 dv:Dv f g h
theorem V8{S:Pq Int}{c:Int}(hc:c≠0)(h:∀ t∈S,t.2≠0):nz (fS c S)=fS c S:=by
 refine ĉ.mpr λt ht=>?_;have(u,hu,rfl):=À.mp ht;simp only[ne_eq,decide_not,Bool.not_eq_eq_eq_not,Bool.not_true,decide_eq_false_iff_not];intro z;have e:=(xf (n:=u.2) hc).1;rw[(A8 (n:=u.2) hc).1,z]at e;have d1:=(xf (n:=u.2) hc).2.1;have e':0=u.2 * iu u.2 c:=by rw[<-e]; exact(Int.zero_mul _).symm
 rcases Int.mul_eq_zero.mp e'.symm with w|w
 .exact h u hu w
 .omega
theorem NG{E M E' M' B':Nat}{f g:Pq Rat}{Q:U×Qa U->Prop}(n1:1<=n)(n3:n<=3)(hE:E<=5)(Cp:E'<=5)(hf:PO n E M B f)(sf:∀ t∈f,t.1.sum<=12)(hg:PO n E' M' B' g)(bD:g≠[])(hM:0 < M)(p7:0 < M')(h1:M < 2^1200)(h2:B < 2^1200)(gQ:M' < 2^1200)(gz:B' < 2^20)(hl:∀ h,Qt n f g h->h.length < 64)
  (k0:(∀ h,¬Qt n f g h)->Q (.d .none,[gg f,gg g])) (k1:∀ h,Qt n f g h->Q (gg h,[gg f,gg g])):Wo (xk [gg f,gg g]) Q:=by
 have up:∀ {a:Nat},a < 2^1200->a < 2^4000:=λh=>qj h<|Î (by decide) (by decide);have Gq:B' < 2^4000:=qj gz (Î (by decide) (by decide));have nf:=El hf.pb hM h1 h2 hf.pw n3 (by omega) hf.le;have n0:=El (p:=[]) (M:=1) (B:=1) (n:=n) (E:=0) (λt ht=>by cases ht) (by decide) (by decide) (by decide) (λt ht=>by cases ht) n3 (by decide) (by decide);have e0:vK false (gg f) (.d<|.tuple [])=some (.d<|.bool<|PyData.eqv (.tuple<|bJ fR f)<|.tuple []):=nf.eqD (neg:=false) n0 (by decide) (by decide)
 by_cases vA:f=[]
 .subst vA
  have e1:PyData.eqv (.tuple<|bJ fR ([]:Pq Rat)) (.tuple [])=true:=by decide
  rw[e1]at e0;simp![xk,Ga,e0];refine k1 [] ⟨⟨.nil,λt ht=>(by cases ht)⟩,λt ht=>(by cases ht),λt ht=>(by cases ht),λγ=>?_⟩;rw[zY,zX,zX]
 .have e1:PyData.eqv (.tuple<|bJ fR f) (.tuple [])=false:=by
   cases f with
   | nil=>exact absurd rfl vA
   | cons t f=>simp[bJ,PyData.eqv,PyData.eqvAll]
  rw[e1]at e0;have wf:=OE hf.nd hf.nz vA hf.pb hf.le hM (up h1) (up h2);have wg:=OE hg.nd hg.nz bD hg.pb hg.le p7 (up gQ) Gq;have GF:=Jx hf.pw;have Pn:=Jx hg.pw;have nF:=DA (DI hf.nd);have nG:=DA (DI hg.nd);have zF:=JB (oD hf.nz);have zG:=JB (oD hg.nz);have lF:Ln n (pp<|sv f):=λt ht=>(GF t ht).1;have lG:Ln n (pp<|sv g):=λt ht=>(Pn t ht).1;have elF:=Kd f;have elG:=Kd g;have fl:=hf.le;have gl:=hg.le;have Gne:pp (sv g)≠[]:=λz=>bD<|Ì (by rw[<-elG,z]; rfl);have lf:=Kg vA hf.nz;have lg:=Kg bD hg.nz;have cf0:=Jz vA hf.nz;have cg0:=Jz bD hg.nz;have(fn0,QH,QK):=Kc vA hf.nz hM hf.pb;have(QD,QC,gdM):=Kc bD hg.nz p7 hg.pb;have eT:∀ {r:Rat},fR r=.tuple [.int r.num,.int (r.den:Int)]:=λ{r}=>rfl;simp![xk,Ga,e0,Bool.false_eq_true,wf,wg];refine zf7 (B:=B) (BG:=B') n1 n3 nF zF lF (λt ht=>?_) (Jw hM hf.pb) (by omega) (Jy n1 n3 nF λt ht=>⟨(GF t ht).1,λk hk=>by have:=(GF t ht).2 k hk; omega⟩) nG zG lG Gne (λt ht k hk=>((Pn t ht).2 k hk).1) (Jw p7 hg.pb) (by omega) (up h2) gz (λno=>?_) λT nT zT lT pT vT dT=>?_
  .have(u,hu,rfl):=À.mp ht
   have(v,hv,rfl):=À.mp hu;exact sf v hv
  .have iN:jE false (.d .none) (.d .none)=some (.d<|.bool true):=rfl
   simp![iN];refine k0 λh q=>?_;have dH:=TX cf0 lf lg q.dv;have nH:=JT (c:=ct g / ct f) (um q.nf);have lH:=JS (c:=ct g / ct f) q.ln;have iH:=R5 (mz n) nH (rn nG) lH (Aa lG) Em (T7 (Af bD)<|oD hg.nz) (λk=>TY k) dH;exact no _ nH lH (λt ht=>by
    have(u,hu,rfl):=À.mp ht;exact q.ps u hu) iH dH
  .have iN:jE false (.t<|aB PyData.int T) (.d .none)=some (.d<|.bool false):=rfl
   simp![iN];rw[wc T];have c0:0 < ((ct f).den:Int) * (ct g).num:=Int.mul_pos (by have:=jD (ct f); omega) QD;have zS:∀ t∈T.map λt=>(t.1,t.2 * (ct f).num * ((ct g).den:Int)),t.2≠0:=λt ht=>by
    have(u,hu,rfl):=À.mp ht;have:=jD (ct g);exact Int.mul_ne_zero (Int.mul_ne_zero (zT u hu) (by omega)) (by omega)
   have nS:aA (T.map λt=>(t.1,t.2 * (ct f).num * ((ct g).den:Int))):=by
    unfold aA;rw[List.map_map];exact nT
   have kS:∀ {P:Qa Int->Prop},(∀ t∈T,P t.1)->∀ t∈kJ (fS (((ct f).den:Int) * (ct g).num)<|T.map λt=>(t.1,t.2 * (ct f).num * ((ct g).den:Int))),P t.1:=λ{P} hp=>Na λt ht=>by
    have(u,hu,rfl):=À.mp ht;have(v,hv,rfl):=À.mp hu;exact hp v hv
   have qt:Qt n f g (kJ<|fS (((ct f).den:Int) * (ct g).num)<|T.map λt=>(t.1,t.2 * (ct f).num * ((ct g).den:Int))):=⟨E8 _,kS (P:=λk=>k.length=n) lT,kS (P:=Ps) pT,Wa cg0 lf lg dT λγ=>by rw[Fk,V9 QD]⟩;have Gs:T.length < 64:=by
    have:=hl _ qt;rw[<-Mh (Eo nS _),V8 (by omega) zS,(e7 _).length_eq]at this;unfold fS at this;rw[List.length_map,List.length_map]at this;exact this
   have fc:=zh6 (c:=((ct f).den:Int) * (ct g).num) nS (by rw[List.length_map]; exact Gs) c0 (by
    rw[Int.natAbs_mul,Int.natAbs_natCast];exact Ep (Â QK<|up h1)<|Â QC Gq)
   have lfn:(ct f).num.natAbs.log2 < 1000000:=fF (Â QH<|up h2);have G1:((ct g).den:Int).natAbs.log2 < 1000000:=by
    rw[Int.natAbs_natCast];exact fF<|Â gdM<|up gQ
   have lfd:((ct f).den:Int).natAbs.log2 < 1000000:=by
    rw[Int.natAbs_natCast];exact fF<|Â QK<|up h1
   have lgn:(ct g).num.natAbs.log2 < 1000000:=fF (Â QC Gq);refine E5 (c:=PyData.int) (b:=λt=>true) (k:=(·.1)) (v:=λt:Qa Int×Int=>t.2 * (ct f).num * ((ct g).den:Int)) (by omega) (λt ht ys=>?_) ?_
   .have l1:t.2.natAbs.log2 < 1000000:=Ó (pJ (k:=61123) (by decide)<|vT t ht) (by decide)
    have l2:(t.2 * (ct f).num).natAbs.log2 < 1000000:=by
     rw[Int.natAbs_mul];refine Ó (pJ (k:=61123+4000) (by decide) ?_) (by decide);rw[Nat.pow_add];exact Nat.mul_lt_mul'' (vT t ht)<|Â QH<|up h2
    simp![eT,jN l1 lfn,jN l2 G1,wa]
   .rw[List.filter_eq_self.mpr λ_ _=>rfl,AO nS]
    simp![eT,jN lfd lgn,fc];exact k1 _ qt
end K06
open PySem L2
namespace K06
open PySem L2
theorem IP{d:Int}(h:1<=d)(h2:d<=1000000):d.natAbs.log2 < 9000:=Ó (pJ (k:=30) (by decide) (by omega)) (by decide)
theorem Im{n d:Int}(hn:n.natAbs<=5)(h1:1<=d)(h3:d<=3):Bd 6 30 (Rat.divInt n d):=by
 have:d∣((6:Nat):Int):=by
  rcases(by omega:d=1\/d=2\/d=3)with rfl|rfl|rfl<;>decide
 exact(Tw (M:=6) (by omega) this (by decide)).le (by omega)
theorem V7{x y:Int}{Q:U×Qa U->Prop}(k:∀ r x' y',Bd 6 30 r->Q (.d<|fR r,[bx x' y'])):Wo (BL [bx x y]) Q:=by
 simp![BL,Oi];refine jM (by decide) (by decide) λr2 x2 y2 h2 h3=>?_;simp!;refine jM (by decide) (by decide) λr3 x3 y3 h4 h5=>?_;simp![xm (n:=r2 - 5) (d:=1+r3) (by omega)<|IP (by omega) (by omega)];exact k _ _ _<|Im (by omega) (by omega) (by omega)
theorem PO.put{E M:Nat}{p:Pq Rat}(h:PO n E M B p){k:Qa Int}{r:Rat}(h1:k.length=n)(h2:∀ i∈k,0<=i/\i<=(E:Int))(h3:Bd M B r)(h4:r≠0)(l:p.length < 63):PO n E M B (bu p k r):=by
 have mem:∀ {P:Qa Int×Rat->Prop},(∀ t∈p,P t)->P (k,r)->∀ t∈bu p k r,P t:=λa b t ht=>by
  rcases pj ht with⟨z,_⟩|rfl
  .exact a t z
  .exact b
 exact⟨h.nd.put k r,mem h.nz h4,mem (P:=λt=>t.1.length=n/\∀ i∈t.1,0<=i/\i<=(E:Int)) h.pw ⟨h1,h2⟩,mem h.pb h3,by have:=uQ p k r; omega⟩
theorem PO.nil{E M:Nat}:PO n E M B []:=⟨lS,λt h=>(by cases h),λt h=>(by cases h),λt h=>(by cases h),by decide⟩
theorem X4{x y n w:Int}{Q:Qa D×En->Prop}(h0:0<=n)(h1:n<=3)(w0:0 < w)(w4:w<=4)(k:∀ (e:Qa Int) (x' y':Int),e.length=n.toNat->(∀ z∈e,0<=z/\z < w)->Q (e.map PyData.int,[none,some<|.d<|.int w,some<|bx x' y'])):
  Wo (g7 1 (zE 0) gW (aO zP<|zj (zk 2)<|zj (zk 1) zu) (gK 0 n.toNat) [none,some<|.d<|.int w,some<|bx x y] []) Q:=by
 refine Jr (λi ρ ys=>∃ (x' y':Int) (e:Qa Int),ρ=[none,some<|.d<|.int w,some<|bx x' y']/\ys=e.map PyData.int/\e.length=i/\∀ z∈e,0<=z/\z < w) (by rw[w6,qZ]; omega) ?_ ⟨_,_,[],rfl,rfl,rfl,λr hr=>by cases hr⟩ ?_ ?_
 .rintro i _ _ ⟨x',y',pt,rfl,rfl,hl,_⟩
  rw[List.length_map];omega
 .rintro i d _ _ hd ⟨x',y',e,rfl,rfl,hl,hb⟩
  simp!;refine jM w0 (by omega) λr x2 y2 r0 r1=>?_;simp!;exact⟨_,_,e++[r],rfl,by rw[List.map_append]; rfl,by rw[qu,List.length_singleton]; omega,λs hs=>by
   rcases Ä.mp hs with z|z
   .exact hb s z
   .rw[qq.mp z]; exact⟨r0,r1⟩⟩
 .rintro _ _ ⟨x',y',e,rfl,rfl,hl,hb⟩
  rw[w6]at hl;exact k e _ _ hl hb
theorem F4{x y n m:Int}{Q:U×Qa U->Prop}(h0:0<=n)(h1:n<=3)(m0:0<=m)(m5:m<=5)
  (k:∀ p x' y',PO n.toNat 2 6 30 p->p.length<=5->Q (.t<|aB fR p,[bx x' y',.d<|.int n,.d<|.int m,.d<|.int 3])):Wo (u5 [bx x y,.d<|.int n,.d<|.int m,.d<|.int 3]) Q:=by
 simp![u5,OG];refine jM (by omega) (by omega) λr x2 y2 r0 r1=>?_;simp!;refine LL (λi ρ=>i<=5/\∃ (x' y':Int) (p:Pq Rat) (o5 o6 o7:Qb U),ρ=[some<|bx x' y',some<|.d<|.int n,some<|.d<|.int m,some<|.d<|.int 3,some<|.t<|aB fR p,o5,o6,o7]/\PO n.toNat 2 6 30 p/\p.length<=i) ⟨by omega,_,_,[],_,_,_,rfl,PO.nil,qe _⟩ ?_ ?_
 .rintro i d _ hd ⟨i5,x',y',p,o5,o6,o7,rfl,dp,lp⟩
  have(hi,rfl):=FQ hd;simp!;refine V7 λr x3 y3 br=>?_;simp!;refine X4 h0 h1 (by decide) (by decide) λe x4 y4 le he=>?_;simp![Ed,show PyData.tuple (e.map PyData.int)=aI e from rfl]
  by_cases z:r=0
  .simp![z,ne_eq]
   exact⟨by omega,_,_,_,_,_,_,rfl,dp,by omega⟩
  .simp![z,ne_eq,n9 (c:=fR) (p:=p) (k:=e) (x:=r) (by omega)]
   have:=uQ p e r;exact⟨by omega,_,_,_,_,_,_,rfl,dp.put le (λi hi=>by have:=he i hi; omega) br z (by omega),by omega⟩
 .rintro _ ⟨_,x',y',p,o5,o6,o7,rfl,dp,lp⟩
  rw[w6]at lp;simp!;exact k p _ _ dp (by omega)
noncomputable def dg(p:Pq Rat):Int:=rf (p.map λt=>t.1.sum) (-1)
theorem FV{p:Pq Rat}{u:U}(hu:u.fz=some (.dict<|aQ fR p))(hl:p.length < 500):rP [u]=some (.d<|.int<|dg p,[dT p]):=by
 refine i7 ?_;simp![rP,OD,hu];refine oQ (e:=λt=>.int t.1.sum) (by omega) (λt ht ys=>?_) ?_
 .have e:kR (.d<|aI t.1)=some (.d<|.int t.1.sum):=AA
  simp![e]
 .rw[show(p.map λt=>PyData.int t.1.sum)=(p.map λt=>t.1.sum).map PyData.int by rw[List.map_map]; rfl]
  simp![LX];rfl
theorem DH{p:Pq Rat}{t:Qa Int×Rat}(h:t∈p):t.1.sum<=dg p:=by
 rcases Fq (p.map λt=>t.1.sum) (-1)with⟨z,_⟩|⟨_,z⟩
 .rw[List.map_eq_nil_iff.mp z]at h
  cases h
 .exact z _ (À.mpr ⟨t,h,rfl⟩)
theorem Ae{p:Pq Rat}(h:p≠[]):∃ t∈p,dg p=t.1.sum:=by
 rcases Fq (p.map λt=>t.1.sum) (-1)with⟨z,_⟩|⟨z,_⟩
 .exact absurd (ø.mp z) h
 .have(t,ht,e):=À.mp z
  exact⟨t,ht,e.symm⟩
end K06
open PySem L2
namespace K06
open PySem L2
noncomputable def zs(n:Nat):Qa Int:=List.replicate n 0
theorem Ax(k:Nat):PyData.tuple (List.replicate k [PyData.int 0]).flatten=aI (List.replicate k 0):=by
 unfold aI;congr 1
 induction k with
 | zero=>rfl
 | succ k ih=>rw[List.replicate_succ,List.replicate_succ,List.flatten_cons,ih]; rfl
noncomputable def cI(p:Int×Int):D:=.tuple [.int p.1,.int p.2]
theorem zAr{z:Qa Int}{p:Int×Int}{r:Rat}:As (.t<|aB cI [(z,p)]) (aI z) (fR r)=some (.t<|aB fR [(z,r)]):=by
 show(bN<|aI z).bind _=_;rw[lB,bd,if_pos (by rw[wo,sizeLine_eq]; show 1 < 16777216; omega)];show some (U.t<|dI [(kL z,cI p)] (kL z)<|fR r)=_;unfold dI;simp[aB]
theorem R0{z:Qa Int}{v:α}:aR [(z,v)] z=some v:=by
 unfold aR;simp
theorem zAs(h:i < l.length):cP (l.map PyData.int) (i:Int)=some (.int<|l.getD i 0):=by
 unfold cP fV;rw[if_pos (by omega),if_pos (by rw[List.length_map]; omega),bd,List.getElem?_map,Int.toNat_natCast,qm h,qC,qm h];rfl
theorem zAt(h:i < l.length):fV l.length (i:Int)=some i:=by
 unfold fV;rw[if_pos (by omega),if_pos (by omega),Int.toNat_natCast]
theorem RZ{x:Int}:(l.map PyData.int).set i (.int x)=(l.set i x).map PyData.int:=by
 rw[List.map_set]
theorem rpN(h:n<=3):vI (.l [.int 0]) (.d<|.int (n:Int))=some (.l<|(zs n).map .int):=by
 have hz:sizeLine=16777216:=sizeLine_eq;rcases(by omega:n=0\/n=1\/n=2\/n=3)with rfl|rfl|rfl|rfl <;>
 .unfold vI
  dsimp only;rw[if_pos ⟨by decide,by decide,by rw[hz]; decide⟩];rfl
theorem Li:∀ {l:Qa Int} {i:Nat} (_:i < l.length),(l.set i<|l.getD i 0+1).sum=l.sum+1
 | x::l,0,_=>by
  show(x+1)+l.sum=(x+l.sum)+1;omega
 | x::l,i+1,h=>by
  show x+(l.set i<|l.getD i 0+1).sum=(x+l.sum)+1;rw[Li (by simpa using h)];omega
theorem EJ(h:Ps l):Ps (l.set i<|l.getD i 0+1):=λk hk=>by
 rcases List.mem_or_eq_of_mem_set hk with z|z
 .exact h k z
 .rw[z,qC]
  cases e:l[i]? with
  | none=>exact(by decide:(0:Int)<=0+1)
  | some v=>
   have:=h v (Ê e);show 0<=v+1;omega
theorem Su(n:Nat):Ps (zs n):=λk hk=>by rw[List.eq_of_mem_replicate hk]; exact Ò _
theorem Ek:∀ n:Nat,(zs n).sum=0
 | 0=>rfl
 | n+1=>by
  show(0:Int)+(zs n).sum=0;rw[Ek n];rfl
theorem Jv{x y:Int}{Q:U×Qa U->Prop}(n1:1<=n)(n3:n<=3)(b1:1<=b)(b6:b<=6)(k:∀ q x' y',PO n 5 6 30 q->(∀ t∈q,t.1.sum < b)->q≠[]->q.length<=3->Q (.t<|aB fR q,[bx x' y',.d<|.int (n:Int),.d<|.int b])):Wo (xl [bx x y,.d<|.int (n:Int),.d<|.int b]) Q:=by
 simp![xl,NM];refine jM (by decide) (by decide) λr2 x2 y2 h2 h3=>?_;simp!;refine jM (by decide) (by decide) λr3 x3 y3 h4 h5=>?_;simp![Int.toNat_natCast,Ax];have e1:U.t [(kL<|List.replicate n 0,PyData.tuple [.int<|1+r2,.int<|1+r3])]=.t (aB cI [(zs n,(1+r2,1+r3))]):=rfl;have e2:(List.replicate n 0:Qa Int)=zs n:=rfl;have e3:cI (1+r2,1+r3)=.tuple [.int<|1+r2,.int<|1+r3]:=rfl;rw[e1];simp![Int.toNat_natCast,Ax,e2,R0,e3,xm (n:=1+r2) (d:=1+r3) (by omega)<|IP (by omega) (by omega),zAr];have r0:Rat.divInt (1+r2) (1+r3)≠0:=λz=>by
  have(f1,f2,_):=xf (n:=1+r2) (d:=1+r3) (by omega);have(l1,_):=A8 (n:=1+r2) (d:=1+r3) (by omega);rw[l1,z,show(0:Rat).num=0 from rfl,Int.zero_mul]at f1;have:=Int.mul_pos (show 0 < 1+r2 by omega) (show 0 < iu (1+r2) (1+r3) by omega);omega
 have p0:PO n 5 6 30 [(zs n,Rat.divInt (1+r2)<|1+r3)]:=⟨by unfold aA; simp,λt ht=>by rw[qq.mp ht]; exact r0,λt ht=>by
  rw[qq.mp ht];exact⟨List.length_replicate,λk hk=>by rw[List.eq_of_mem_replicate hk]; decide⟩,λt ht=>by rw[qq.mp ht]; exact Im (by omega) (by omega) (by omega),by show 1 < 64; omega⟩
 refine jM (by decide) (by decide) λr4 x4 y4 h6 h7=>?_;simp!;refine DX (λi ρ=>i<=2/\∃ x' y' q o4 o5 o6 o7,ρ=[some<|bx x' y',some<|.d<|.int (n:Int),some<|.d<|.int b,some<|.t<|aB fR q,o4,o5,o6,o7]/\PO n 5 6 30 q/\(∀ t∈q,t.1.sum < b)/\q≠[]/\q.length<=1+i) ⟨by omega,_,_,_,_,_,_,_,rfl,p0,λt ht=>?_,by simp,by simp⟩ ?_ ?_
 .rw[qq.mp ht]
  show(zs n).sum < b;rw[Ek];omega
 .rintro i _ hi ⟨i2,x',y',q,o4,o5,o6,o7,rfl,pq,sq,nq,lq⟩
  simp![rpN n3];refine jM (by omega) (by omega) λr5 x5 y5 h8 h9=>?_;simp!;refine DX (λj ρ=>∃ x' y' e o6 o7,ρ=[some<|bx x' y',some<|.d<|.int (n:Int),some<|.d<|.int b,some<|.t<|aB fR q,some<|.d<|.int<|0+(i:Int),some<|.l<|List.map PyData.int e,o6,o7]/\e.length=n/\Ps e/\e.sum=(j:Int)) ⟨_,_,zs n,_,_,rfl,List.length_replicate,Su n,Ek n⟩ ?_ ?_
  .rintro j _ hj ⟨x',y',e,o6,o7,rfl,le,pe,se⟩
   simp!;refine jM (by omega) (by omega) λa x6 y6 a0 a1=>?_;have ea:a=((a.toNat:Nat):Int):=by omega
   have e1:=zAs (l:=e) (i:=a.toNat) (by omega);have e2:=zAt (l:=e) (i:=a.toNat) (by omega);rw[<-ea]at e1 e2;simp![e1,e2,RZ];refine⟨_,_,e.set a.toNat<|e.getD a.toNat 0+1,_,_,rfl,by rw[List.length_set]; exact le,EJ pe,?_⟩;rw[Li (by omega),se];rfl
  .rintro _ ⟨x',y',e,o6,o7,rfl,le,pe,se⟩
   have es:=KN (ks:=e);simp![es];refine kX (λc=>?_) λc=>?_
   .simp!
    refine jM (by decide) (by decide) λr6 x6 y6 h10 Cq=>?_;have ev:PyData.tuple [.int<|1+r6,.int 1]=fR ((1+r6:Int):Rat):=rfl;have eP:PyData.tuple (e.map PyData.int)=aI e:=rfl;simp![ev,eP,n9 (c:=fR) (p:=q) (k:=e) (x:=((1+r6:Int):Rat)) (by omega)];have pl:=uQ q e ((1+r6:Int):Rat);have bd1:Bd 6 30 ((1+r6:Int):Rat):=((Bd.int<|1+r6).wide 6).le (by omega);have nz1:((1+r6:Int):Rat)≠0:=λz=>by have:=Þ.mp z; omega
    refine⟨by omega,_,_,_,_,_,_,_,rfl,pq.put le (λk hk=>⟨pe k hk,?_⟩) bd1 nz1 (by omega),λt ht=>?_,λz=>?_,by omega⟩
    .have:=(oY pe).2 k hk
     omega
    .rcases pj ht with⟨h,_⟩|rfl
     .exact sq t h
     .show e.sum < b
      omega
    .have e3:=MQ q e ((1+r6:Int):Rat)
     rw[z]at e3;split at e3
     .exact nq (ø.mp e3.symm)
     .simp at e3
   .simp!
    exact⟨by omega,_,_,_,_,_,_,_,rfl,pq,sq,nq,by omega⟩
 .rintro _ ⟨_,x',y',q,o4,o5,o6,o7,rfl,pq,sq,nq,lq⟩
  simp!;exact k q _ _ pq sq nq (by omega)
end K06
open PySem L2
namespace K06
open PySem L2
abbrev OL:Qa Int->Qa Int->Prop:=λa b=>aV b a=true
theorem Aw(p:Pq Rat):fo (dT p)=some (aB fR p):=by
 show(if gZ (aQ fR p)=true then oG (aQ fR p)else none)=_;rw[if_pos<|ux p,Bj]
theorem Kb(k:Qa Int):kL k=k.map λn=>(Sum.inl n:Key):=rfl
theorem Lh{u:U}{p:Pq Rat}(h:fo u=some (aB fR p))(dW:p≠[]):∃ t∈p,vQ u=some (.d<|aI t.1)/\Top OL p t:=by
 have(k,hk,e,le):=ZZ (ks:=p.map (·.1)) λz=>dW<|ø.mp z;have(t,ht,rfl):=À.mp hk;refine⟨t,ht,?_,ht,λu hu ne=>(le u.1<|À.mpr ⟨u,hu,rfl⟩).resolve_left ne⟩;unfold vQ;rw[h,bd];have em:(aB fR p).mapM (λq=>iS q.1)=some (p.map (·.1)):=by
  have:∀ q:Pq Rat,(aB fR q).mapM (λx=>iS x.1)=some (q.map (·.1)):=by
   intro q
   induction q with
   | nil=>rfl
   | cons a q ih=>
    unfold aB at ih ⊢;rw[List.map_cons,List.mapM_cons,ih];show(iS<|kL a.1).bind _=_;rw[Kb,Fj];rfl
  exact this p
 rw[em,bd,e];rfl
theorem IY{p:Pq Rat}:DN (.t<|aB fR p)=some (.d<|.int (p.length:Int)):=by
 show some (U.d<|.int ((aB fR p).length:Int))=_;rw[wo]
noncomputable def vU(n:Nat):Qa (Qa Int):=(n8 6 n).filter λk=>decide<|k.sum<=6
theorem Ux:((vU 1).map λa=>hT<|kL a).Nodup:=by decide +kernel
theorem Uw:((vU 2).map λa=>hT<|kL a).Nodup:=by decide +kernel
theorem Uv:((vU 3).map λa=>hT<|kL a).Nodup:=by decide +kernel
theorem yI{k:Qa Int}(h:k.length=n)(p:Ps k)(s:k.sum<=6):k∈vU n:=Æ.mpr ⟨uY h λi hi=>⟨p i hi,by have:=(oY p).2 i hi; omega⟩,decide_eq_true s⟩
theorem Ju{p:Pq α}(n1:1<=n)(n3:n<=3)(nd:aA p)(ln:Ln n p)(ps:∀ t∈p,Ps t.1)(sm:∀ t∈p,t.1.sum<=6):rm p:=by
 rcases(by omega:n=1\/n=2\/n=3)with rfl|rfl|rfl
 .exact uL Ux nd λt ht=>yI (ln t ht) (ps t ht)<|sm t ht
 .exact uL Uw nd λt ht=>yI (ln t ht) (ps t ht)<|sm t ht
 .exact uL Uv nd λt ht=>yI (ln t ht) (ps t ht)<|sm t ht
theorem IX{p:Pq α}(n1:1<=n)(n3:n<=3)(nd:aA p)(ln:Ln n p)(ps:∀ t∈p,Ps t.1)(sm:∀ t∈p,t.1.sum<=6):p.length<=84:=by
 have h:=List.Nodup.length_le_of_subset nd (l₂:=vU n) λa ha=>by
  have(t,ht,rfl):=À.mp ha;exact yI (ln t ht) (ps t ht)<|sm t ht
 rw[List.length_map]at h;refine qA h ?_;rcases(by omega:n=1\/n=2\/n=3)with rfl|rfl|rfl<;>decide
theorem Lg{s:Int}(q:Pq Rat)(γ:Qa Int->Rat):ao (bI s q) γ=(s:Rat) * ao q γ:=Fh (s:Rat) q γ
theorem Uu{r:Rat}(h0:r≠0)(h:Bd 6 30 r):∃ m:Nat,1<=m/\m<=30/\Bd m 6 (Rat.divInt (r.den:Int) r.num)/\r * Rat.divInt (r.den:Int) r.num=1/\r.num≠0:=by
 have(h1,h2):=h.size (by decide);have n0:r.num≠0:=λz=>h0<|Rat.num_eq_zero.mp z;have d0:=jD r;have e1:r * (r.den:Rat)=(r.num:Rat):=uZ r;have en:(r.num:Rat)≠0:=λz=>n0<|Þ.mp z;have e2:Rat.divInt (r.den:Int) r.num * (r.num:Rat)=(r.den:Rat):=by
  rw[Rat.divInt_eq_div,Rat.div_mul_cancel en];rfl
 refine⟨r.num.natAbs,by omega,h2,⟨if r.num < 0 then -(r.den:Int)else(r.den:Int),?_,by split<;>omega⟩,?_,n0⟩
 .have e3:((r.num.natAbs:Nat):Rat)=if r.num < 0 then -(r.num:Rat)else(r.num:Rat):=by
   split
   .rename_i c
    rw[<-Rat.intCast_neg,<-show((r.num.natAbs:Int))=-r.num by omega];rfl
   .rename_i c
    have:(r.num.natAbs:Int)=r.num:=by omega
    rw[<-this];rfl
  rw[e3];split
  .rw[Rat.intCast_neg,Rat.mul_neg,e2]
   rfl
  .rw[e2]
   rfl
 .have:r * Rat.divInt (r.den:Int) r.num * (r.num:Rat)=1 * (r.num:Rat):=by
   rw[Rat.mul_assoc,e2,e1,Rat.one_mul]
  have h3:(r * Rat.divInt (r.den:Int) r.num - 1) * (r.num:Rat)=0:=by
   generalize r * Rat.divInt (r.den:Int) r.num=z at this ⊢;grind
  rcases ý.mp h3 with w|w
  .grind
  .exact absurd w en
end K06
open PySem L2
namespace K06
open PySem L2
structure Lq (n m:Nat) (f g:Pq Rat) (d:Int) (least:Qa Int) (L T:Pq Rat):Prop where
 inv:∀ γ,ao f γ=ao (aL T g) γ+ao L γ
 nL:aA L
 zL:∀ t∈L,t.2≠0
 lL:Ln n L
 pL:∀ t∈L,Ps t.1
 sL:∀ t∈L,t.1.sum<=6
 nT:aA T
 zT:∀ t∈T,t.2≠0
 lT:Ln n T
 pT:∀ t∈T,Ps t.1
 sT:∀ t∈T,t.1.sum<=d
 ab:∀ t∈T,∀ u∈L,OL u.1 (zB t.1 least)
 bL:PB (6 * m^T.length) (30 * 5400^T.length) L
 bT:PB (6 * m^T.length) (30 * 5400^T.length) T
theorem V6{a Z:Nat}(h:a<=5):0+a * (30 * Z * 6 * 30)<=30 * Z * 900:=by
 have:=Ã (30 * Z * 6 * 30) h;omega
theorem Lf:∀ {a b:Qa Int},Ps a->Ps b->Ps (zB a b)
 | [],_,_,_=>λk hk=>by cases hk
 | _::_,[],_,_=>λk hk=>by cases hk
 | x::a,y::b,ha,hb=>λk hk=>by
  rcases qw.mp (show k∈(x+y)::zB a b from hk)with rfl|hk
  .have:=ha x qp
   have:=hb y qp;omega
  .exact Lf (λk hk=>ha k<|qo _ hk) (λk hk=>hb k<|qo _ hk) k hk
theorem Ka{k K:Nat}(hm:m<=180)(hk:k<=K):m^k<=180^K:=qA (Ĉ hm k) (Î (by decide) hk)
theorem Ss{f g h:Pq Rat}(n3:n<=3)(hf:PO n 2 6 30 f)(hg:PO n 2 6 30 g)(bD:g≠[])(nh:aA h)(zh:∀ t∈h,t.2≠0)(lh:Ln n h)(ph:∀ t∈h,Ps t.1)(d:Dv f g h):Pw n 2 h/\h.length<=27:=by
 have(v,hv):=ä g bD;have pw:Pw n 2 h:=λt ht=>⟨lh t ht,λk hk=>⟨ph t ht k hk,by
  have(j,hj,rfl):=ß hk;have at_:∀ (p:Qa Int) (h:j < p.length),p.getD j 0=p[j]:=λp h=>by rw[qC,qm h]; rfl
  have:=JR (w:=λa=>a.getD j 0) (Ua n j) d hf.nd hf.nz nh zh hg.nd hg.nz lh hg.ln (a:=2) (b:=0) (λu hu=>by
   show u.1.getD j 0<=2
   by_cases kA:j < u.1.length
   .rw[at_ _ kA]
    exact((hf.pw u hu).2 _<|ó kA).2
   .rw[qC,List.getElem?_eq_none (by omega)]
    decide) ⟨v,hv,by
   show 0<=v.1.getD j 0
   by_cases kA:j < v.1.length
   .rw[at_ _ kA]
    exact((hg.pw v hv).2 _<|ó kA).1
   .rw[qC,List.getElem?_eq_none (by omega)]
    decide⟩ t ht
  have this:t.1.getD j 0<=2 - 0:=this;rw[at_ _ hj]at this;omega⟩⟩
 refine⟨pw,?_⟩;have:=Lb (E:=2) nh pw;exact qA this<|qA (Î (by omega) n3) (by decide)
theorem X3{f g:Pq Rat}{u1 u2:U}{Q:U×Qa U->Prop}(n1:1<=n)(n3:n<=3)(hf:PO n 2 6 30 f)(hg:PO n 2 6 30 g)(gl:g.length<=5)(bD:g≠[])(fG:u1.fz=some (.dict<|aQ fR f))(gO:u2.fz=some (.dict<|aQ fR g))
  (k0:(∀ h,¬Qt n f g h)->Q (.d .none,[dT f,dT g]))
  (k1:∀ T M B,aA T->(∀ t∈T,t.2≠0)->Pw n 2 T->T.length<=27->Dv f g T->0 < M->0 < B->M < 2^1200->B < 2^1200->PB M B T->Q (.t<|aB fR T,[dT f,dT g])):Wo (BO [u1,u2]) Q:=by
 have fl:=hf.le;have d1:=FV (u:=u1) fG (by omega);have d2:=FV (u:=u2) gO (by omega);have(least,hG,m1,j8):=Lh (Aw g) bD;have ll:=hg.ln least hG;have lz:=hg.nz least hG;have B8:aR g least.1=some least.2:=iC hg.nd hG;have sf:∀ t∈f,t.1.sum<=6:=λt ht=>by
  have:=hf.sm t ht;have:n * 2<=3 * 2:=Ã 2 n3;omega
 have hk:=Ju n1 n3 hf.nd hf.ln hf.ps sf;have copy:lC (dT f)=some (.t<|aB fR f):=DK hk;have(m0,m01,PM,O6,rQ,GR):=Uu lz (hg.pb least hG);have uf:=xm (n:=(least.2.den:Int)) (d:=least.2.num) GR (by
  have(_,h2):=(hg.pb least hG).size (by decide);exact Ó (pJ (k:=30) (by decide) (by omega)) (by decide))
 have eT:∀ {r:Rat},fR r=.tuple [.int r.num,.int (r.den:Int)]:=λ{r}=>rfl;generalize hU:Rat.divInt (least.2.den:Int) least.2.num=sE at *;have dgf:dg f<=6:=by
  by_cases z:f=[]
  .rw[z]
   decide
  .have(t,ht,e):=Ae z
   rw[e];exact sf t ht
 have dgg:0<=dg g:=by
  have:=DH hG;have:=(oY<|hg.ps least hG).1;omega
 simp![BO,OC,d1,d2,m1,B8,copy];refine Bn (λk ρ=>∃ L T o7 o8 o9 jx,k=85 - T.length/\Lq n (m0 * 6) f g (dg f - dg g) least.1 L T/\ρ=[some<|dT f,some<|dT g,some<|.d<|.int<|dg f - dg g,some<|.d<|aI least.1,some<|.d<|fR least.2,some<|.t<|aB fR T,some<|.t<|aB fR L,o7,o8,o9,jx]) 85 ⟨f,[],_,_,_,_,rfl,⟨λγ=>?_,hf.nd,hf.nz,hf.ln,hf.ps,sf,List.nodup_nil,λt ht=>(by cases ht),λt ht=>(by cases ht),λt ht=>(by cases ht),λt ht=>(by cases ht),λt ht=>(by cases ht),λt ht=>?_,λt ht=>(by cases ht)⟩,rfl⟩ ?_
 .show _=ao (aL [] _) γ+_
  rw[zY,zX];grind
 .have:=hf.pb t ht
  simpa using this
 .rintro k _ ⟨L,T,o7,o8,o9,jx,rfl,lq,rfl⟩
  have tl:T.length<=84:=IX n1 n3 lq.nT lq.lT lq.pT λt ht=>by have:=lq.sT t ht; omega
  by_cases hL:L=[]
  .subst hL
   simp![IY];have QZ:Dv f g T:=λγ=>by
    have:=lq.inv γ;rw[zX,Rat.add_zero]at this;exact this
   have(pw,G5):=Ss n3 hf hg bD lq.nT lq.zT lq.lT lq.pT QZ;refine k1 T _ _ lq.nT lq.zT pw G5 QZ (â (by decide)<|Nat.pow_pos (by omega)) (â (by decide)<|Nat.pow_pos (by decide)) ?_ ?_ lq.bT
   .exact Â (Í 6<|Ka (show m0 * 6<=180 by omega) G5) (by decide)
   .exact Â (Í 30<|Î (by decide) G5) (by decide)
  .have(top,cw,t1,jV):=Lh (u:=.t (aB fR L)) rfl hL
   have xx:=lq.lL top cw;have tz:=lq.zL top cw;have lkL:aR L top.1=some top.2:=iC lq.nL cw;have l0:(0:Int) < (L.length:Int):=by have:=à.mpr hL; omega
   have zl:=xb (show top.1.length=least.1.length by omega);simp![IY,l0,decide_true,t1,zl];refine oQ (e:=λt=>.int<|t.1 - t.2) (by rw[List.length_zip]; omega) (λt ht ys=>?_) ?_
   .simp!
   .rw[show((top.1.zip least.1).map λt=>PyData.int<|t.1 - t.2)=(b7 top.1 least.1).map PyData.int by unfold b7; rw[List.map_zipWith,List.zip,List.map_zipWith]]
    have pl:=Ml xx ll;have pa:=Fv xx ll;have xG:b7 top.1 least.1≠[]:=λz=>by rw[z]at pl; simp at pl; omega
    have(m,hm,mp):=Kf xG;have xZ:tZ (.d<|.tuple<|(b7 top.1 least.1).map .int)=some (.d<|.int m):=hm;have sN:kR (.d<|.tuple<|(b7 top.1 least.1).map .int)=some (.d<|.int (b7 top.1 least.1).sum):=AA;have no:∀ h,Qt n f g h->Ps (b7 top.1 least.1)/\(b7 top.1 least.1).sum<=dg f - dg g:=λh q=>by
     have(e,he,e1,e2):=Mj (AW n) q.dv lq.inv lq.nL lq.zL hg.nd hg.nz q.ln lq.lT hg.ln j8 jV;have pe:Ps e.1:=mR (P:=Ps) q.ps lq.pT e he;have le:e.1.length=n:=mR (P:=λe=>e.length=n) q.ln lq.lT e he;have sh:∀ t∈h,t.1.sum<=dg f - dg g:=by
      have(v,hv,ev):=Ae bD;exact JR (KW n) q.dv hf.nd hf.nz (um q.nf) q.nf.nz hg.nd hg.nz q.ln hg.ln (λt ht=>DH ht) ⟨v,hv,by rw[ev]; exact Ò _⟩
     have se:e.1.sum<=dg f - dg g:=mR (P:=λe=>e.sum<=dg f - dg g) sh lq.sT e he;rw[e1,Fu le ll];exact⟨pe,se⟩
    have xV:¬(Ps (b7 top.1 least.1)/\(b7 top.1 least.1).sum<=dg f - dg g)->Q (.d .none,[dT f,dT g]):=λz=>k0 λh q=>z<|no h q;simp![xZ];refine kX (λc=>?_) λc=>?_
    .simp!
     exact xV λz=>by have:=mp.mpr z.1; omega
    .simp![sN]
     refine kX (λc2=>?_) λc2=>?_
     .simp!
      exact xV λz=>by omega
     .have ps:Ps (b7 top.1 least.1):=mp.mp (by omega)
      have eP:U.d (PyData.tuple<|(b7 top.1 least.1).map PyData.int)=.d (aI<|b7 top.1 least.1):=rfl;rw[eP];generalize he:b7 top.1 least.1=e at *;have bt:=lq.bL top cw;have Mk:(m0 * 6)^T.length<=180^84:=Ka (by omega) tl;have Bk:5400^T.length<=5400^84:=Î (by decide) tl;have st:=mw bt (â (by decide)<|Nat.pow_pos (by omega)) (Â (Í 6 Mk) (by decide)) (Â (Í 30 Bk) (by decide));have su:=mw O6 (by omega) (Â PM (by decide)) (by decide);have tm:=NZ st su;have i0:bP (.d<|fR least.2) (.d<|.int 0)=some (.d<|.int least.2.num):=rfl;have i1:bP (.d<|fR least.2) (.d<|.int 1)=some (.d<|.int (least.2.den:Int)):=rfl;simp![i0,i1,uf,lkL,tm];have c0:top.2 * sE≠0:=λz=>by
       rcases ý.mp z with w|w
       .exact tz w
       .rw[w,Rat.mul_zero]at rQ
        exact absurd rQ (by decide)
      have cl:top.2 * sE * least.2=top.2:=by
       rw[Rat.mul_assoc,Rat.mul_comm sE,rQ,Rat.mul_one]
      have bc:Bd (6 * (m0 * 6)^T.length * m0) (30 * 5400^T.length * 6) (top.2 * sE):=bt.mul O6;have fresh:∀ t∈T,t.1≠e:=λt ht z=>by
       have:=lq.ab t ht top cw;rw[z,pa]at this;exact(AW n).ni _ this
      have fr:(T.any λt=>decide<|t.1=e)=false:=by
       rw[List.any_eq_false];intro t ht;simpa using fresh t ht
      have pe:bu T e (top.2 * sE)=T++[(e,top.2 * sE)]:=by
       unfold bu;rw[fr,if_neg qf]
      have G0:aR T e=none:=Br.mpr fr;generalize hc:top.2 * sE=c at *;have hdo:fo (.t [(kL e,fR c)])=some [(kL e,fR c)]:=rfl;have hup:∀ ρ:En,yK 5 ρ (.t<|aB fR T) [(kL e,fR c)]=some (.u<|.d .none,ρ.set 5<|some<|.t<|aB fR<|T++[(e,c)]):=λρ=>by
       show(if(aB fR T).length < sizeLine/\(mf (aB fR T)<|kL e).isNone=true then some (Ar.u<|U.d .none,ρ.set 5<|some<|U.t<|dI (aB fR T) (kL e)<|fR c)else none)=_;rw[if_pos ⟨by rw[wo,sizeLine_eq]; omega,by rw[LO,G0]; rfl⟩,wa,pe]
      simp![hdo,hup];have eK:U.t [(kL e,fR c)]=.t (aB fR [(e,c)]):=rfl;rw[eK];have n1c:aA [(e,c)]:=by unfold aA; simp
      have Q2:PB (6 * (m0 * 6)^T.length * m0) (30 * 5400^T.length * 6) [(e,c)]:=λt ht=>by rw[qq.mp ht]; exact bc
      have l1c:Ln n [(e,c)]:=λt ht=>by rw[qq.mp ht]; exact pl
      have Mp:0 < 6 * (m0 * 6)^T.length * m0:=â (â (by decide)<|Nat.pow_pos (by omega)) (by omega);have Ir:6 * (m0 * 6)^T.length * m0<=6 * 180^84 * 30:=Ï (Í 6 Mk) PM;have RA:30 * 5400^T.length * 6<=30 * 5400^84 * 6:=Ã 6 (Í 30 Bk);have Bp:0 < 30 * 5400^T.length * 6:=â (â (by decide)<|Nat.pow_pos (by decide)) (by decide);have lt:∀ {a b:Nat},a<=b->b < 2^4000->a < 2^4000:=λh1 h2=>Â h1 h2;have GG:(aL [(e,c)] g).length=g.length:=by rw[wM]; simp
      refine F9 (M:=6 * (m0 * 6)^T.length * m0) (N:=6) (B:=30 * 5400^T.length * 6) (C:=30) (n:=n) gL rfl n1c hg.nd Q2 hg.pb l1c hg.ln (by omega) Mp (by decide) (lt (Ã 6 Ir) (by decide)) (lt Ir (by decide)) (by decide) (lt RA (by decide)) (by decide) (lt (Ï (show 1 * g.length<=5 by omega)<|Ã 30 RA) (by decide)) (â Bp (by decide)) (by show 1 * g.length < 500; omega) (by show 1 < 64; omega) (by omega) λja Hm GN=>?_;obtain rfl:ja=dT g:=GN.elim id id;have gn:aA (bj []<|aL [(e,c)] g):=oR _ lS;have gpl:=rJ (aL [(e,c)] g) [];have HR:∀ γ,ao (nz<|bj []<|aL [(e,c)] g) γ=ao (aL [(e,c)] g) γ:=λγ=>by
       rw[show ao (nz _) γ=_ from uA _ γ,uP _ γ lS,zX,Rat.zero_add]
      have gk:∀ t∈nz (bj []<|aL [(e,c)] g),∃ v∈g,t.1=zB e v.1:=λt ht=>wQ (Pk:=λk=>∃ v∈g,k=zB e v.1) (aL [(e,c)] g) (λt ht=>(by cases ht)) (λt ht=>by
       have(x,hx,y,hy,rfl):=uO ht;cases qq.mp hx;exact⟨y,hy,rfl⟩) t (Æ.mp ht).1
      have gb:PB (6 * (m0 * 6)^T.length * m0 * 6) (30 * 5400^T.length * 900) (nz<|bj []<|aL [(e,c)] g):=PB.nz λt ht=>(uz (aL [(e,c)] g) GI (LP Q2 hg.pb) t ht).le (by
       rw[GG];exact V6 gl)
      have yr:(nz<|bj []<|aL [(e,c)] g).length<=5:=by
       have:=Ô (λt:Qa Int×Rat=>decide<|t.2≠0) (bj []<|aL [(e,c)] g);unfold L2.nz;rw[GG,List.length_nil]at gpl;omega
      have ngz:=q4 gn;generalize nz (bj []<|aL [(e,c)] g)=P at *;have Lw:PB (6 * (m0 * 6)^T.length * m0 * 6) (30 * 5400^T.length * 900) L:=λt ht=>by
       have:=((lq.bL t ht).wide<|m0 * 6).le (C:=30 * 5400^T.length * 900) (Í _ (by omega));rw[Nat.mul_assoc (6 * (m0 * 6)^T.length) m0 6];exact this
      have ll84:L.length<=84:=IX n1 n3 lq.nL lq.lL lq.pL lq.sL;have Ml2:6 * (m0 * 6)^T.length * m0 * 6<=6 * 180^84 * 30 * 6:=Ã 6 Ir;have RB:30 * 5400^T.length * 900<=30 * 5400^84 * 900:=Ã 900 (Í 30 Bk);have pa2:=NH (s:=-1) (M:=6 * (m0 * 6)^T.length * m0 * 6) (B:=30 * 5400^T.length * 900) (p:=L) (q:=P) (u1:=.t (aB fR L)) (u2:=.t (aB fR P)) (RG<|Ju n1 n3 lq.nL lq.lL lq.pL lq.sL) gL (.inr rfl) lq.nL ngz Lw gb (â Mp (by decide)) (lt Ml2 (by decide)) (lt (Nat.add_le_add RB<|Ï yr RB) (by decide)) (by omega) (by omega);simp![pa2];have sub:∀ γ,ao (nz<|bj L<|bI (-1) P) γ=ao L γ - ao (aL [(e,c)] g) γ:=λγ=>by
       rw[show ao (nz _) γ=_ from uA _ γ,uP _ γ lq.nL,Lg,HR γ,show(((-1:Int)):Rat)=-1 from rfl];grind
      have PF:aA (nz<|bj L<|bI (-1) P):=q4 (oR _ lq.nL);have OX:∀ t∈nz (bj L<|bI (-1) P),t.2≠0:=λt ht=>by simpa using (Æ.mp ht).2
      have Ha:∀ {A:Qa Int->Prop},(∀ t∈L,A t.1)->(∀ v∈g,A<|zB e v.1)->∀ t∈nz (bj L<|bI (-1) P),A t.1:=λ{A} h1 h2 t ht=>wQ (Pk:=A) (bI (-1) P) h1 (λu hu=>by
       have(w,hw,rfl):=À.mp hu;have(v,hv,ev):=gk w hw;show A w.1;rw[ev];exact h2 v hv) t (Æ.mp ht).1
      have above:=Nr (AW n) pl sub lq.nL PF OX hg.nd hg.ln j8 jV pa.symm cl.symm;have bL':PB (6 * (m0 * 6)^T.length * m0 * 6) (30 * 5400^T.length * 900+(bI (-1) P).length * (30 * 5400^T.length * 900)) (nz<|bj L<|bI (-1) P):=PB.nz (uz (bI (-1) P) Lw<|AQ (.inr rfl) gb);have psl:(bI (-1) P).length<=5:=by
       unfold bI;rw[List.length_map];exact yr
      have eM:6 * (m0 * 6)^(T++[(e,c)]).length=6 * (m0 * 6)^T.length * m0 * 6:=by
       rw[qu,List.length_singleton,Nat.pow_succ];generalize (m0 * 6)^T.length=Z;rw[Nat.mul_assoc,Nat.mul_assoc]
      have eB:30 * 5400^(T++[(e,c)]).length=30 * 5400^T.length * 5400:=by
       rw[qu,List.length_singleton,Nat.pow_succ,Nat.mul_assoc]
      refine⟨85 - (T.length+1),by omega,nz<|bj L<|bI (-1) P,T++[(e,c)],_,_,_,_,by rw[qu,List.length_singleton],⟨Mi lq.inv sub,PF,OX,Ha (A:=λk=>k.length=n) lq.lL λv hv=>Fw pl<|hg.ln v hv,Ha (A:=Ps) lq.pL λv hv=>?_,Ha (A:=λk=>k.sum<=6) lq.sL λv hv=>?_,?_,λt ht=>?_,λt ht=>?_,λt ht=>?_,λt ht=>?_,λt ht u hu=>?_,λt ht=>?_,λt ht=>?_⟩,rfl⟩
      .exact Lf ps (hg.ps v hv)
      .show(zB e v.1).sum<=6
       rw[uU pl<|hg.ln v hv];have:=DH hv;omega
      .rw[<-pe]
       exact lq.nT.put _ _
      .rcases Ä.mp ht with ht|ht
       .exact lq.zT t ht
       .rw[qq.mp ht]; exact c0
      .rcases Ä.mp ht with ht|ht
       .exact lq.lT t ht
       .rw[qq.mp ht]; exact pl
      .rcases Ä.mp ht with ht|ht
       .exact lq.pT t ht
       .rw[qq.mp ht]; exact ps
      .rcases Ä.mp ht with ht|ht
       .exact lq.sT t ht
       .rw[qq.mp ht]
        show e.sum<=_;omega
      .rcases Ä.mp ht with ht|ht
       .exact(AW n).tr (above u hu) (lq.ab t ht top cw)
       .rw[qq.mp ht]
        show OL u.1 (zB e least.1);rw[pa];exact above u hu
      .rw[eM,eB]
       refine(bL' t ht).le ?_;have:=Ã (30 * 5400^T.length * 900) psl;generalize 30 * 5400^T.length=Z at this ⊢;omega
      .rw[eM,eB]
       rcases Ä.mp ht with ht|ht
       .have:=((lq.bT t ht).wide<|m0 * 6).le (C:=30 * 5400^T.length * 5400) (Í _ (by omega))
        rw[Nat.mul_assoc (6 * (m0 * 6)^T.length) m0 6];exact this
       .rw[qq.mp ht]
        refine(bc.wide 6).le ?_;generalize 30 * 5400^T.length=Z;omega
end K06
open PySem L2
namespace K06
open PySem L2
theorem EN:∀ p:Pq Rat,(bJ fR p).mapM jI=some (aB fR p)
 | []=>rfl
 | t::p=>by
  show((PyData.tuple [aI t.1,fR t.2])::bJ fR p).mapM jI=_;rw[List.mapM_cons,EN p];show((bN<|aI t.1).bind _:Qb _).bind _=_;rw[lB];rfl
theorem Le(p:Pq Rat):∀ acc:Pq Rat,(aB fR p).foldl (λa q=>dI a q.1 q.2) (aB fR acc)=aB fR (p.foldl (λys t=>bu ys t.1 t.2) acc):=by
 induction p with
 | nil=>intro acc; rfl
 | cons t p ih=>
  intro acc;show(aB fR p).foldl _ (dI (aB fR acc) (kL t.1)<|fR t.2)=_;rw[wa];exact ih _
theorem X2{p:Pq Rat}(nd:aA p)(hl:p.length < 1000):AN (gg p)=some (.t<|aB fR p):=by
 show((bJ fR p).mapM jI).bind _=_;rw[EN];show(if(bJ fR p).length < sizeLine then some (U.t<|t6<|aB fR p)else none)=_;have hz:sizeLine=16777216:=sizeLine_eq;rw[if_pos (by unfold bJ; rw[List.length_map]; omega)];have:=Le p [];unfold t6;rw[show([]:Qa (Qa Key×D))=aB fR [] from rfl,this];show some (U.t<|aB fR<|Cv p)=_;rw[AO nd]
noncomputable def kj(p:Pq Rat):jn:=p.map λt=>(kL t.1,[.inl t.2.num,.inl (t.2.den:Int)])
theorem Ad:∀ p:Pq Rat,lU (aB fR p)=some (kj p)
 | []=>rfl
 | t::p=>by
  show(bN<|fR t.2).bind (λv=>(lU<|aB fR p).bind λr=>some<|(kL t.1,v)::r)=_;rw[Ad p];rfl
theorem Sr{a b:Qa Int}(h:kL a=kL b):a=b:=(List.map_inj_right λx y e=>by cases e; rfl).mp h
theorem X1{p q:Pq Rat}(hp:p.Perm q)(nd:aA q):gR (kj p) (kj q)=true:=by
 unfold gR;rw[show((kj p).length==(kj q).length)=true by unfold kj; rw[List.length_map,List.length_map,hp.length_eq]; exact beq_self_eq_true _,Bool.true_and];refine Ø.mpr λx hx=>?_;have(t,ht,rfl):=À.mp hx;have(j,hj):=List.mem_iff_getElem?.mp (hp.mem_iff.mp ht);refine decide_eq_true<|Mc ?_ (j:=j) ?_
 .unfold kj
  rw[List.map_map];show(q.map λt=>kL t.1).Nodup;exact ï.mpr<|(ï.mp nd).imp λh e=>h<|Sr e
 .unfold kj
  rw[List.getElem?_map,hj];rfl
theorem Ut{w:Bool}{u v:U}{p q:Pq Rat}(hu:fo u=some (aB fR p))(hv:fo v=some (aB fR q))(hp:p.Perm q)(nd:aA q):oF w u v=some (.d<|.bool w):=by
 unfold oF;rw[hu,hv];show(lU<|aB fR p).bind (λf=>(lU<|aB fR q).bind λg=>some<|U.d<|.bool<|gR f g==w)=_;rw[Ad,Ad];show some (U.d<|.bool<|gR (kj p) (kj q)==w)=_;rw[X1 hp nd];cases w<;>rfl
theorem QQ{w:Bool}{u v:U}{p:Pq Rat}(hu:fo u=some (aB fR p))(hv:fo v=some []):oF w u v=some (.d<|.bool<|p.isEmpty==w):=by
 unfold oF;rw[hu,hv];show(lU<|aB fR p).bind (λf=>(lU []).bind λg=>some<|U.d<|.bool<|gR f g==w)=_;rw[Ad];show some (U.d<|.bool<|gR (kj p) []==w)=_;cases p with
 | nil=>rfl
 | cons t p=>rfl
theorem oX{E M:Nat}{p:Pq Rat}(h:PO n E M B p):PO n E M B (bK p):=by
 have m:∀ {t},t∈bK p->t∈p:=λht=>(e7 p).mem_iff.mp ht;exact⟨by
  have:=(e7 p).map (·.1);exact this.nodup_iff.mpr h.nd,λt ht=>h.nz t<|m ht,λt ht=>h.pw t<|m ht,λt ht=>h.pb t<|m ht,by rw[(e7 p).length_eq]; exact h.le⟩
theorem uj(p:Pq Rat)(γ:Qa Int->Rat):ao (bK p) γ=ao p γ:=MN (e7 p) γ
theorem J9{f g h:Pq Rat}:Dv (bK f) (bK g) h↔Dv f g h:=by
 have e:∀ γ,ao (aL h<|bK g) γ=ao (aL h g) γ:=λγ=>by
  rw[zY,zY];exact uW λt _=>uj g _
 constructor
 .intro d γ
  rw[<-uj f γ,d γ,e γ]
 .intro d γ
  rw[uj f γ,d γ,e γ]
theorem Jt{f g h:Pq Rat}:Dv f g (bK h)↔Dv f g h:=by
 have e:∀ γ,ao (aL (bK h) g) γ=ao (aL h g) γ:=λγ=>by rw[zY,zY,uj]
 constructor
 .intro d γ
  rw[d γ,e γ]
 .intro d γ
  rw[d γ,e γ]
theorem EM{p:Pq Rat}(nd:aA p)(z:∀ t∈p,t.2≠0):Nf (bK p):=⟨wN nd,λt ht=>z t<|(e7 p).mem_iff.mp ht⟩
theorem X0{p q:Pq Rat}(np:aA p)(zp:∀ t∈p,t.2≠0)(nq:aA q)(zq:∀ t∈q,t.2≠0)(h:∀ γ,ao p γ=ao q γ):p.Perm q:=by
 have e:=A6 (EM np zp) (EM nq zq) λγ=>by rw[uj,uj,h γ]
 have:=(e7 p).symm;rw[e]at this;exact this.trans<|e7 q
section
variable{E M E' M' B':Nat}{f g:Pq Rat}{u1 u2:U}{Q:U×Qa U->Prop}
theorem Nk(n1:1<=n)(n3:n<=3)(hE:E<=5)(Cp:E'<=5)(hf:PO n E M B f)(sf:∀ t∈f,t.1.sum<=12)(hg:PO n E' M' B' g)(bD:g≠[])(hM:0 < M)(p7:0 < M')(h1:M < 2^1200)(h2:B < 2^1200)(gQ:M' < 2^1200)(gz:B' < 2^20)(fG:u1.fz=some (.dict<|aQ fR f))(gO:u2.fz=some (.dict<|aQ fR g))(no:∀ h,¬Qt n f g h)
  (q:Q (.d<|.bool true,[dT f,dT g,.d .none])):Wo (gY [u1,u2,.d .none]) Q:=by
 have t1:=wA fG hf.nd hf.le;have t2:=wA gO hg.nd hg.le;have nN:bK g≠[]:=λz=>bD (by have:=(e7 g).length_eq; rw[z]at this; exact Ì this.symm);have iN:jE false (.d .none) (.d .none)=some (.d<|.bool true):=rfl;have Px:∀ h,¬Qt n (bK f) (bK g) h:=λh q=>no h ⟨q.nf,q.ln,q.ps,J9.mp q.dv⟩;simp![gY,FZ,t1,t2];refine NG n1 n3 hE Cp (oX hf) (λt ht=>sf t<|(e7 f).mem_iff.mp ht) (oX hg) nN hM p7 h1 h2 gQ gz (λh q=>absurd q<|Px h) (λ_=>?_) λh q=>absurd q<|Px h;simp![iN];exact q
theorem ZX{MD BD:Nat}{D:Pq Rat}{u3:U}(n1:1<=n)(n3:n<=3)(hE:E<=5)(Cp:E'<=5)(hf:PO n E M B f)(sf:∀ t∈f,t.1.sum<=12)(hg:PO n E' M' B' g)(bD:g≠[])(gl:g.length<=5)(hM:0 < M)(p7:0 < M')(h1:M < 2^1200)(h2:B < 2^1200)(gQ:M' < 2^1200)(gz:B' < 2^20)(b0:0 < B')(hD:PO n 5 MD BD D)(dl:D.length<=27)(m0:0 < MD)(Io:0 < BD)(m1:MD < 2^1200)(b1:BD < 2^1200)(fG:u1.fz=some (.dict<|aQ fR f))(gO:u2.fz=some (.dict<|aQ fR g))(xW:u3.fz=some (.dict<|aQ fR D))(hn:jE false u3 (.d .none)=some (.d<|.bool false))(dv:Dv f g D)
  (q:Q (.d<|.bool true,[dT f,dT g,dT D])):Wo (gY [u1,u2,u3]) Q:=by
 have t1:=wA fG hf.nd hf.le;have t2:=wA gO hg.nd hg.le;have t3:=wA xW hD.nd hD.le;have nN:bK g≠[]:=λz=>bD (by have:=(e7 g).length_eq; rw[z]at this; exact Ì this.symm);have jy:=oX hD;have qD:Qt n (bK f) (bK g) (bK D):=⟨EM hD.nd hD.nz,jy.ln,jy.ps,J9.mpr<|Jt.mpr dv⟩;have un:∀ h,Qt n (bK f) (bK g) h->h=bK D:=λh q=>Wg (mz n) (oX hg).nd (oX hg).nz nN (oX hg).ln q.ln qD.ln q.nf qD.nf q.dv qD.dv;simp![gY,FZ,t1,t2];refine NG n1 n3 hE Cp (oX hf) (λt ht=>sf t<|(e7 f).mem_iff.mp ht) (oX hg) nN hM p7 h1 h2 gQ gz (λh q=>by rw[un h q]; exact jy.le) (λno=>absurd qD<|no _) λh qh=>?_;rw[un h qh];have nD:=El jy.pb m0 m1 b1 jy.pw n3 (by decide) jy.le;have rp:t9 (gg<|bK D)=some (.d<|.str<|PyData.shown<|.tuple<|bJ fR<|bK D):=nD.repr (by decide) (by decide);have dp:=X2 jy.nd (by have:=jy.le; omega);have es:∀ s:Str,gU false (.d<|.str s) (.d<|.str s)=some (.d<|.bool true):=λs=>by simp[gU,sV,yQ]
 simp![hn,t3,rp,es,dp];have sl:(bK D).length=D.length:=(e7 D).length_eq;have up:∀ {a:Nat},a < 2^1200->a < 2^4000:=λh=>qj h<|Î (by decide) (by decide);have lm:∀ {a b:Nat},a < 2^1200->b < 2^1200->a * b < 2^4000:=λha hb=>qj (Nat.mul_lt_mul'' ha hb) (by rw[<-Nat.pow_add]; exact Î (by decide) (by decide));have yp:B' < 2^1200:=Ó gz (by decide);have G6:(bK D).length * g.length<=135:=by
  rw[sl];exact Ï dl gl
 refine F9 (M:=MD) (N:=M') (B:=BD) (C:=B') (n:=n) gL rfl jy.nd hg.nd jy.pb hg.pb jy.ln hg.ln (by omega) m0 p7 (lm m1 gQ) (up m1) (up gQ) (up b1) (up yp) ?_ (â Io b0) (by omega) jy.le hg.le λja Hm GN=>?_
 .refine Â (Ï G6<|é<|Nat.mul_lt_mul'' b1 yp) ?_
  rw[<-Nat.pow_add];decide
 .obtain rfl:ja=dT g:=GN.elim id id
  have pm:(nz<|bj []<|aL (bK D) g).Perm f:=X0 (q4<|oR _ lS) (λt ht=>by simpa using (Æ.mp ht).2) hf.nd hf.nz λγ=>by
   rw[show ao (nz _) γ=_ from uA _ γ,uP _ γ lS,zX,Rat.zero_add];exact((Jt.mpr dv) γ).symm
  have eq:=Ut (w:=true) (u:=.t (aB fR<|nz<|bj []<|aL (bK D) g)) (v:=dT f) rfl (Aw f) pm hf.nd;simp![eq];exact q
end
end K06
open PySem L2
namespace K06
open PySem L2
theorem XZ(p:Pq Rat)(g h:Qa Int->Rat):(ao p λa=>g a+h a)=ao p g+ao p h:=by
 induction p with
 | nil=>exact(Rat.zero_add 0).symm
 | cons t p ih=>
  rw[zv,zv,zv,ih];grind
theorem XY(p q:Pq Rat)(γ:Qa Int->Rat):ao (aL p q) γ=ao (aL q p) γ:=by
 rw[zY,zY]
 induction p with
 | nil=>
  show(0:Rat)=ao q λa=>ao [] λb=>γ<|zB a b;rw[wZ λt _=>by rw[zX,Rat.mul_zero]]
 | cons t p ih=>
  rw[zv,ih];have e:(ao q λa=>ao (t::p) λb=>γ<|zB a b)=ao q λa=>t.2 * γ (zB a t.1)+ao p λb=>γ (zB a b):=uW λu _=>zv ..;rw[e,XZ,FN];congr 2;exact uW λu _=>by rw[FL]
theorem Ld:∀ {n:Nat} {b:Qa Int},b.length=n->zB (zs n) b=b
 | 0,[],_=>rfl
 | n+1,y::b,h=>by
  show(0+y)::zB (zs n) b=_;rw[Ld<|Nat.succ.inj h,Int.zero_add]
abbrev mu(a b:Pq Rat):Pq Rat:=nz (bj []<|aL a b)
theorem J8(a b:Pq Rat)(γ:Qa Int->Rat):ao (mu a b) γ=ao (aL a b) γ:=by
 rw[show ao (nz _) γ=_ from uA _ γ,uP _ γ lS,zX,Rat.zero_add]
theorem Lc{P:Qa Int->Prop}{a b:Pq Rat}(h:∀ u∈a,∀ v∈b,P<|zB u.1 v.1):∀ t∈mu a b,P t.1:=λt ht=>wQ (Pk:=P) (aL a b) (λt ht=>(by cases ht)) (λt ht=>by
 have(x,hx,y,hy,rfl):=uO ht;exact h x hx y hy) t (Æ.mp ht).1
theorem XX{a b:Qa Int}{A B:Int}(ha:∀ k∈a,0<=k/\k<=A)(hb:∀ k∈b,0<=k/\k<=B):∀ k∈zB a b,0<=k/\k<=A+B:=by
 unfold zB
 induction a generalizing b with
 | nil=>intro k hk; simp at hk
 | cons x a ih=>
  cases b with
  | nil=>intro k hk; simp at hk
  | cons y b=>
   intro k hk;rw[List.zipWith_cons_cons]at hk;rcases qw.mp hk with rfl|hk
   .have h1:=ha x qp
    have h2:=hb y qp;omega
   .exact ih (λk hk=>ha k<|qo _ hk) (λk hk=>hb k<|qo _ hk) k hk
theorem J7{a b:Pq Rat}:(mu a b).length<=a.length * b.length:=by
 have h1:=Ô (λt:Qa Int×Rat=>decide<|t.2≠0) (bj []<|aL a b);have h2:=rJ (aL a b) [];rw[wM,List.length_nil]at h2;show(List.filter _ _).length<=_;omega
section
variable{a b:Pq Rat}
theorem Js(ha:PO n 2 6 30 a)(hb:PO n 2 6 30 b)(la:a.length<=5)(lb:b.length<=5):PO n 4 36 22500 (mu a b) where
 nd:=q4 (oR _ lS)
 nz t ht:=by simpa using (Æ.mp ht).2
 pw:=Lc (P:=λk=>k.length=n/\∀ i∈k,0<=i/\i<=((4:Nat):Int)) λu hu v hv=>⟨Fw (ha.ln u hu)<|hb.ln v hv,XX (A:=2) (B:=2) (ha.pw u hu).2 (hb.pw v hv).2⟩
 pb:=PB.nz λt ht=>(uz (C:=0) (aL a b) GI (LP ha.pb hb.pb) t ht).le (by
  rw[wM];have:=Ï la lb;omega)
 le:=by
  have:=J7 (a:=a) (b:=b);have:=Ï la lb;omega
theorem J6(n3:n<=3)(ha:PO n 2 6 30 a)(hb:PO n 2 6 30 b):∀ t∈mu a b,t.1.sum<=12:=Lc (P:=λk=>k.sum<=12) λu hu v hv=>by
 show(zB u.1 v.1).sum<=12;rw[uU (ha.ln u hu)<|hb.ln v hv];have:=ha.sm u hu;have:=hb.sm v hv;have:n * 2<=3 * 2:=Ã 2 n3;omega
theorem PO.GC{E M:Nat}(hE:E<=4)(n3:n<=3)(h:PO n E M B a):∀ t∈a,t.1.sum<=12:=λt ht=>by
 have:=h.sm t ht;have:n * E<=3 * 4:=Ï n3 hE;omega
theorem PO.BX{E E' M:Nat}(hE:E<=E')(h:PO n E M B a):PO n E' M B a:=⟨h.nd,h.nz,λt ht=>⟨(h.pw t ht).1,λk hk=>by have:=(h.pw t ht).2 k hk; omega⟩,h.pb,h.le⟩
end
theorem Ac(a b:Pq Rat):Dv (mu a b) b a:=λγ=>J8 a b γ
theorem Us(a b:Pq Rat):Dv (mu a b) a b:=λγ=>by rw[J8,XY]
theorem Ur{g:Pq Rat}(h:Ln n g):Dv g g [(zs n,1)]:=λγ=>by
 rw[zY,zv,zX,Rat.one_mul,Rat.add_zero];exact uW λt ht=>by rw[Ld<|h t ht]
theorem Uq{w g l one m:Pq Rat}(hw:Dv w g one)(ng:aA g)(zg:∀ t∈g,t.2≠0)(lg:Ln n g)(pg:∀ t∈g,Ps t.1)(bD:g≠[])(l1:Ln n one)(p1:∀ t∈one,Ps t.1)(nl:aA l)(zl:∀ t∈l,t.2≠0)(lne:l≠[])(ls:∀ t∈l,t.1.sum < dg g)(hm:∀ γ,ao m γ=ao w γ+ao l γ):∀ h,¬Qt n m g h:=λh q=>by
 have dl:Dv l g (df h one):=λγ=>by
  have h1:=hm γ;rw[q.dv γ,hw γ]at h1;rw[FY];grind
 have lE:Ln n (df h one):=mR (P:=λe=>e.length=n) q.ln l1;have nE:=Ab h one;have ne:df h one≠[]:=λz=>by
  have(t,ht):=ä l lne;have:=dl (ix t.1);rw[z]at this;exact zl t ht<|(mJ nl ht).symm.trans this
 have(x,hx):=mH (mz n) ne;have(y,hy):=mH (mz n) bD;have tp:=dl.top (mz n) nl zl (um nE) ng lE lg hx hy (nE.nz x hx.mem) (zg y hy.mem);have h1:=ls _ tp.mem;dsimp only at h1;rw[uU (lE x hx.mem)<|lg y hy.mem]at h1;have px:Ps x.1:=mR (P:=Ps) q.ps p1 x hx.mem;have:=(oY px).1;have(v,hv,ev):=Ae bD;have:=DC hy hv;omega
theorem V5{g:Pq Rat}(n1:1<=n)(nd:aA g)(ln:Ln n g)(hl:g.length < 64):AX (dT g)=some (.l<|(oE<|g.map (·.1)).map aI):=by
 have em:∀ q:Pq Rat,(aB fR q).mapM (λx=>iS x.1)=some (q.map (·.1)):=by
  intro q
  induction q with
  | nil=>rfl
  | cons a q ih=>
   unfold aB at ih ⊢;rw[List.map_cons,List.mapM_cons,ih];show(iS<|kL a.1).bind _=_;rw[Kb,Fj];rfl
 unfold AX;rw[Aw,bd,em,bd,if_pos]
 .rfl
 .refine⟨by rw[List.length_map]; exact hl,nd,Ø.mpr λk hk=>?_,Ø.mpr λk hk=>?_⟩
  .have(t,ht,rfl):=À.mp hk
   cases g with
   | nil=>cases ht
   | cons a g=>
    refine decide_eq_true ?_;show t.1.length=a.1.length;rw[ln t ht,ln a qp]
  .have(t,ht,rfl):=À.mp hk
   have:=ln t ht;cases h:t.1 with
   | nil=>rw[h]at this; simp at this; omega
   | cons x xs=>rfl
theorem zAu:∃ g8:Qa (Qa Int),jF (ks.map aI) (some (-2)) none=g8.map aI/\g8.Sublist ks/\g8.length<=2/\(ks≠[]->g8≠[]):=by
 unfold jF;rw[List.length_map];have s0:HT.dU ks.length 0 (some (-2))=ks.length - 2:=by
  unfold HT.dU;simp;omega
 have s1:HT.dU ks.length ks.length none=ks.length:=rfl;rw[s0,s1];refine⟨(ks.drop<|ks.length - 2).take<|ks.length - (ks.length - 2),by rw[<-List.map_drop,<-List.map_take],(List.take_sublist _ _).trans<|List.drop_sublist _ _,?_,λh z=>?_⟩
 .rw[List.length_take,List.length_drop]
  omega
 .have:=congrArg List.length z
  rw[List.length_take,List.length_drop,List.length_nil]at this;have:=à.mpr h;omega
theorem XW{p:Pq Rat}(nd:aA p)(hl:p.length < 1000):AM (.l<|bJ fR p)=some (.t<|aB fR p):=by
 show((bJ fR p).mapM jI).bind _=_;rw[EN];show(if(bJ fR p).length < sizeLine then some (U.t<|t6<|aB fR p)else none)=_;have hz:sizeLine=16777216:=sizeLine_eq;rw[if_pos (by unfold bJ; rw[List.length_map]; omega)];have:=Le p [];unfold t6;rw[show([]:Qa (Qa Key×D))=aB fR [] from rfl,this];show some (U.t<|aB fR<|Cv p)=_;rw[AO nd]
section
variable{E M:Nat}{f g D:Pq Rat}{u1 u2 u3:U}{Q:U×Qa U->Prop}
theorem P7{MD BD:Nat}(n1:1<=n)(n3:n<=3)(hf:PO n E M B f)(sf:∀ t∈f,t.1.sum<=12)(hg:PO n 2 6 30 g)(bD:g≠[])(gl:g.length<=5)(hE:E<=5)(hM:0 < M)(h1:M < 2^1200)(h2:B < 2^1200)(hD:PO n 5 MD BD D)(dl:D.length<=27)(m0:0 < MD)(Io:0 < BD)(m1:MD < 2^1200)(b1:BD < 2^1200)(fG:u1.fz=some (.dict<|aQ fR f))(gO:u2.fz=some (.dict<|aQ fR g))(xW:u3.fz=some (.dict<|aQ fR D))(hn:jE false u3 (.d .none)=some (.d<|.bool false))(dv:Dv f g D)
  (q:Q (.d<|.bool true,[dT f,dT g,dT D])):Wo (gY [u1,u2,u3]) Q:=ZX n1 n3 hE (by decide) hf sf hg bD gl hM (by decide) h1 h2 (by decide) (by decide) (by decide) hD dl m0 Io m1 b1 fG gO xW hn dv q
theorem vm(n1:1<=n)(n3:n<=3)(hf:PO n 4 36 22500 f)(sf:∀ t∈f,t.1.sum<=12)(hg:PO n 2 6 30 g)(bD:g≠[])(gl:g.length<=5)(hD:PO n 2 6 30 D)(dl:D.length<=5)(fG:u1.fz=some (.dict<|aQ fR f))(gO:u2.fz=some (.dict<|aQ fR g))(xW:u3.fz=some (.dict<|aQ fR D))(hn:jE false u3 (.d .none)=some (.d<|.bool false))(dv:Dv f g D)
  (q:Q (.d<|.bool true,[dT f,dT g,dT D])):Wo (gY [u1,u2,u3]) Q:=P7 n1 n3 hf sf hg bD gl (by decide) (by decide) (by decide) (by decide) (hD.BX (by decide)) (by omega) (by decide) (by decide) (by decide) (by decide) fG gO xW hn dv q
theorem IW(h:PO n 2 6 30 f):PO n 4 36 22500 f:=⟨h.nd,h.nz,(h.BX (E':=4) (by decide)).pw,λt ht=>((h.pb t ht).wide 6).le (by decide),h.le⟩
theorem IV{a b:Pq Rat}(n3:n<=3)(ha:PO n 2 6 30 a)(hb:PO n 2 6 30 b)(la:a.length<=5)(lb:b.length<=5)(fG:u1.fz=some (.dict<|aQ fR a))(gO:u2.fz=some (.dict<|aQ fR b))(q:∀ ja,ja.fz=some (.dict<|aQ fR b)->(ja=u2\/ja=dT b)->Q (.t<|aB fR<|mu a b,[dT a,ja])):Wo (pE [u1,u2]) Q:=by
 have l25:=Ï la lb;refine F9 (M:=6) (N:=6) (B:=30) (C:=30) (n:=n) fG gO ha.nd hb.nd ha.pb hb.pb ha.ln hb.ln (by omega) (by decide) (by decide) (by decide) (by decide) (by decide) (by decide) (by decide) ?_ (by decide) (by omega) (by omega) (by omega) q;exact Â (Ã (30 * 30) l25) (by decide)
theorem J5{c:Rat}(c0:c≠0)(hc:Bd 6 30 c):PO n 2 6 30 [(zs n,c)]:=⟨by unfold aA; simp,λt ht=>by rw[qq.mp ht]; exact c0,λt ht=>by
 rw[qq.mp ht];exact⟨List.length_replicate,λk hk=>by rw[List.eq_of_mem_replicate hk]; decide⟩,λt ht=>by rw[qq.mp ht]; exact hc,by show 1 < 64; omega⟩
theorem Uo:Dv [] g []:=λγ=>by rw[zY,zX,zX]
end
theorem V4:Bd 6 30 (1:Rat):=(Bd.one.wide 6).le (by decide)
noncomputable def nV:Rat:=Rat.divInt (-2) 3
theorem e23:PyData.tuple [.int (-2),.int 3]=fR nV:=by
 have h1:nV.num=-2:=by decide +kernel
 have h2:nV.den=3:=by decide +kernel
 unfold fR;rw[h1,h2];rfl
theorem Um:Bd 6 30 nV:=Im (by decide) (by decide) (by decide)
theorem SU:nV≠0:=by decide +kernel
end K06
open PySem L2
namespace K06
open PySem L2
def Alk(q p:Bool×En):Prop:=p=q
def Mid(n:Nat)(L:Int->Int->Pq Rat->En)(fl:Fl):Prop:=∃ x4 y4 g,PO n 2 6 30 g/\g.length<=5/\g≠[]/\fl=.nx (L x4 y4 g)
theorem SS(ns:Qa Int)(hl:ns.length<=63):∃ outs,uo [.d<|.list<|ns.map .int]=some (.d<|.bool true,outs):=by
 suffices h:Wo (uo [.d<|.list<|ns.map .int]) λo=>o.1=.d (.bool true) by
  obtain⟨⟨a,outs⟩,e,ha⟩:=h;subst ha;exact⟨outs,e⟩
 have esl:tQ (.d<|.list<|ns.map .int) none (some 3)=some (.l<|(ns.take 3).map .int):=by
  show some (U.l<|jF (ns.map PyData.int) none<|some 3)=_;rw[TH (by decide),List.map_take];rfl
 simp![uo,JC,esl];refine DX (λi ρ=>∃ o1 o2 o3 o4 o5 o6 o7 o8 o9 jx vh,ρ=[some<|.d<|.list<|ns.map .int,o1,o2,o3,o4,o5,o6,o7,o8,o9,jx,vh]) ⟨_,_,_,_,_,_,_,_,_,_,_,rfl⟩ ?_ ?_
 .rintro i _ hi ⟨o1,o2,o3,o4,o5,o6,o7,o8,o9,jx,vh,rfl⟩
  simp!;refine R4 (by omega) λx y=>?_;simp!;refine jM (by decide) (by decide) λr x1 y1 r0 r1=>?_;obtain⟨n,hn,n1,n3⟩:∃ n:Nat,1+r=(n:Int)/\1<=n/\n<=3:=⟨(1+r).toNat,by omega,by omega,by omega⟩;obtain⟨m,hm,m0,m5⟩:∃ m:Int,cP [PyData.int 5,.int 5,.int 4] ((n:Int) - 1)=some (.int m)/\0<=m/\m<=5:=by
   rcases(by omega:n=1\/n=2\/n=3)with rfl|rfl|rfl
   .exact⟨5,rfl,by decide,by decide⟩
   .exact⟨5,rfl,by decide,by decide⟩
   .exact⟨4,rfl,by decide,by decide⟩
  simp![hn,hm];refine F4 (n:=(n:Int)) (by omega) (by omega) m0 m5 λone x2 y2 h1 l1=>?_;rw[Int.toNat_natCast]at h1;simp![hm];refine F4 (n:=(n:Int)) (by omega) (by omega) m0 m5 λj3 x3 y3 h2 l2=>?_;rw[Int.toNat_natCast]at h2;have eqo:=QQ (w:=true) (u:=.t (aB fR j3)) (v:=.t []) rfl rfl;simp![eqo];refine Wo.mono (Q:=Mid n λx4 y4 g=>[some<|.d<|.list<|ns.map .int,some<|.d<|.int<|0+(i:Int),some<|bx x4 y4,some<|.d<|.int (n:Int),some<|.t<|aB fR one,some<|.t<|aB fR g,o6,o7,o8,o9,jx,vh]) ?_ ?_
  .by_cases z:j3=[]
   .subst z
    rw[if_pos (show(([]:Pq Rat).isEmpty==true)=true from rfl)];simp!;refine Jv (b:=3) n1 n3 (by decide) (by decide) λq x4 y4 pq sq nq lq=>?_;simp!;refine⟨_,_,q,⟨pq.nd,pq.nz,λt ht=>⟨pq.ln t ht,λk hk=>⟨pq.ps t ht k hk,?_⟩⟩,pq.pb,pq.le⟩,by omega,nq,rfl⟩;have:=(oY<|pq.ps t ht).2 k hk;have:=sq t ht;omega
   .have em:j3.isEmpty=false:=by
     cases j3 with
     | nil=>exact absurd rfl z
     | cons a j3=>rfl
    rw[em,if_neg (show ¬((false==true)=true) by decide)];simp!;exact⟨_,_,j3,h2,l2,z,rfl⟩
  .rintro _ ⟨x4,y4,g,hg,gl,bD,rfl⟩
   have hW:=Js h1 hg l1 gl;have sW:=J6 n3 h1 hg;have eN:U.t [(kL<|List.replicate n 0,fR nV)]=.t (aB fR [(zs n,nV)]):=rfl;have e1:U.t [(kL<|List.replicate n 0,PyData.tuple [.int 1,.int 1])]=.t (aB fR [(zs n,1)]):=rfl;have e0:U.t []=.t (aB fR []):=rfl;have hc:=J5 (n:=n) SU Um;have h1c:=J5 (n:=n) (c:=1) (by decide) (V4);have QB:=PO.nil (n:=n) (E:=2) (M:=6) (B:=30);simp!;refine IV n3 h1 hg l1 gl gL gL λug hug _=>?_;simp![Int.toNat_natCast,Ax,e23,eN];refine vm n1 n3 hW sW hg bD gl h1 l1 gL hug rfl rfl (Ac one g) ?_;simp![e0];refine vm n1 n3 (IW QB) (λt ht=>by cases ht) hg bD gl QB (by decide) gL rfl gL rfl Uo ?_;have eq1:=QQ (w:=false) (u:=dT one) (v:=.t []) (Aw one) rfl;simp![eq1];refine Wo.mono (Q:=Alk (false,[some<|.d<|.list<|ns.map .int,some<|.d<|.int<|0+(i:Int),some<|bx x4 y4,some<|.d<|.int (n:Int),some<|dT one,some<|dT g,some<|dT<|mu one g,some<|.t<|aB fR [(zs n,nV)],o8,o9,jx,vh])) ?_ ?_
   .by_cases z:one=[]
    .have em:one.isEmpty=true:=by rw[z]; rfl
     rw[em,if_neg (show ¬((true==false)=true) by decide)];simp!;rfl
    .have em:one.isEmpty=false:=by
      cases one with
      | nil=>exact absurd rfl z
      | cons a one=>rfl
     rw[em,if_pos (show((false==false)=true) from rfl)];simp!;refine vm n1 n3 hW sW h1 z l1 hg gl rfl rfl rfl rfl (Us one g) ?_;simp!;rfl
   .rintro _ rfl
    simp![Int.toNat_natCast,Ax,e1];refine vm n1 n3 (IW hg) (hg.GC (by decide) n3) hg bD gl h1c (by show 1<=5; omega) rfl rfl gL rfl (Ur hg.ln) ?_;simp!;refine IV n3 h1 hc l1 (by show 1<=5; omega) rfl gL λun hun _=>?_;simp!;refine vm n1 n3 (Js h1 hc l1 (by show 1<=5; omega)) (J6 n3 h1 hc) hc (by simp) (by show 1<=5; omega) h1 l1 gL hun rfl rfl (Ac one _) ?_;simp![hm];refine F4 (n:=(n:Int)) (by omega) (by omega) m0 m5 λfr x5 y5 h3 l3=>?_;rw[Int.toNat_natCast]at h3;have so:=V5 n1 hg.nd hg.ln hg.le;have(g8,ec,sub,lk2,ne2):=zAu (ks:=oE (g.map (·.1)));have gv:∀ k∈g8,∃ t∈g,t.1=k:=λk hk=>by
     have(t,ht,e):=À.mp ((BB _).mem_iff.mp<|sub.subset hk);exact⟨t,ht,e⟩
    obtain⟨val,PN⟩:∃ val:Qa Int->Rat,∀ k∈g8,aR g k=some (val k):=⟨λk=>(aR g k).getD 0,λk hk=>by
     have(t,ht,rfl):=gv k hk;show aR g t.1=some ((aR g t.1).getD 0);rw[iC hg.nd ht];rfl⟩
    have ndk:g8.Nodup:=((BB _).nodup_iff.mpr hg.nd).sublist sub;simp![so];rw[ec];refine oQ (g:=aI) (as:=g8) (e:=λk=>.tuple [aI k,fR<|val k]) (by omega) (λk hk ys=>?_) ?_
    .simp![PN k hk]
    .generalize kr:g8.map (λk=>(k,val k))=p2
     have et:(g8.map λk=>PyData.tuple [aI k,fR<|val k])=bJ fR p2:=by
      rw[<-kr];unfold bJ;rw[List.map_map];rfl
     have sA:∀ t∈p2,t∈g:=λt ht=>by
      rw[<-kr]at ht;have(k,hk,rfl):=À.mp ht;exact wO<|PN k hk
     have PC:aA p2:=by
      unfold aA;rw[<-kr,List.map_map];have:g8.map ((·.1) ∘ λk=>(k,val k))=g8:=List.map_id g8;rw[this];exact ndk
     have IG:p2.length<=2:=by rw[<-kr,List.length_map]; exact lk2
     have hp:PO n 2 6 30 p2:=⟨PC,λt ht=>hg.nz t<|sA t ht,λt ht=>hg.pw t<|sA t ht,λt ht=>hg.pb t<|sA t ht,by omega⟩;have xG:p2≠[]:=λz=>by
      have h1:g8=[]:=Ì (by have:=congrArg List.length z; rw[<-kr,List.length_map]at this; exact this);refine ne2 (λw=>bD ?_) h1;have:=(BB<|g.map (·.1)).length_eq;rw[w,List.length_map]at this;exact Ì this.symm
     rw[et];have dl:=XW PC (by omega);simp![dl];have e2:[PyData.dict<|aQ fR g,.dict<|aQ fR p2]=[g,p2].map λp=>.dict (aQ fR p):=rfl;rw[e2];refine mS (λbs cs ρ=>∃ uf jx,U.fz uf=some (.dict<|aQ fR fr)/\ρ=[some<|.d<|.list<|ns.map .int,some<|.d<|.int<|0+(i:Int),some<|bx x5 y5,some<|.d<|.int (n:Int),some<|dT one,some<|dT g,some<|dT<|mu one g,some<|dT [(zs n,nV)],some uf,some<|dT p2,jx,vh]) ⟨.t<|aB fR fr,_,gL,rfl⟩ ?_ ?_
     .rintro bs b cs _ eb ⟨uf,jx,Qk,rfl⟩
      have bin:b∈[g,p2]:=by rw[eb]; simp
      obtain⟨hb,nb,lb⟩:PO n 2 6 30 b/\b≠[]/\b.length<=5:=by
       simp only[qw,List.not_mem_nil,or_false]at bin;rcases bin with rfl|rfl
       .exact⟨hg,bD,gl⟩
       .exact⟨hp,xG,by omega⟩
      simp!;refine X3 n1 n3 h3 hb lb nb Qk rfl (λno=>?_) λT M B nT zT pT lT dvT mp bp m1 b1 pbT=>?_
      .simp!
       refine Nk n1 n3 (by decide) (by decide) h3 (h3.GC (by decide) n3) hb nb (by decide) (by decide) (by decide) (by decide) (by decide) (by decide) rfl rfl no ?_;simp!;exact⟨_,_,rfl,rfl⟩
      .simp!
       have hT:PO n 5 M B T:=⟨nT,zT,λt ht=>⟨(pT t ht).1,λk hk=>by have:=(pT t ht).2 k hk; omega⟩,pbT,by omega⟩;refine P7 n1 n3 h3 (h3.GC (by decide) n3) hb nb lb (by decide) (by decide) (by decide) (by decide) hT lT mp bp m1 b1 rfl rfl gL rfl dvT ?_;simp!;exact⟨_,_,rfl,rfl⟩
     .rintro _ ⟨uf,jx,Qk,rfl⟩
      have QY:=FV (u:=dT g) rfl (by have:=hg.le; omega);have dg6:dg g<=6:=by
       have(t,ht,e):=Ae bD;rw[e];have:=hg.sm t ht;have:n * 2<=3 * 2:=Ã 2 n3;omega
      simp![QY];refine kX (λc=>?_) λc=>?_
      .simp![QY]
       refine Jv (b:=dg g) n1 n3 (by omega) dg6 λq x6 y6 pq sq nq lq=>?_;have wl:=J7 (a:=one) (b:=g);have w25:=Ï l1 gl;have xF:PB 36 22500 q:=λt ht=>((pq.pb t ht).wide 6).le (by decide);have pa:=NH (s:=1) (M:=36) (B:=22500) (p:=mu one g) (q:=q) (u1:=dT (mu one g)) (u2:=.t (aB fR q)) (DK<|Jy n1 n3 hW.nd (hW.BX (E':=5) (by decide)).pw) gL (.inl rfl) hW.nd pq.nd hW.pb xF (by decide) (by decide) (Â (Nat.add_le_add_left (Ã 22500 lq) _) (by decide)) (by omega) (by omega);simp![pa];have lmo:∀ γ,ao (nz<|bj (mu one g)<|bI 1 q) γ=ao (mu one g) γ+ao q γ:=λγ=>by
        rw[show ao (nz<|bj (mu one g)<|bI 1 q) γ=_ from uA _ γ,uP _ γ hW.nd,Lg,show(((1:Int)):Rat)=1 from rfl,Rat.one_mul]
       have P0:∀ {A:Qa Int->Prop},(∀ t∈mu one g,A t.1)->(∀ t∈q,A t.1)->∀ t∈nz (bj (mu one g)<|bI 1 q),A t.1:=λ{A} a1 a2 t ht=>wQ (Pk:=A) (bI 1 q) a1 (λu hu=>by
        have(w,hw,rfl):=À.mp hu;exact a2 w hw) t (Æ.mp ht).1
       have GG:(bI 1 q).length<=3:=by
        unfold bI;rw[List.length_map];exact lq
       have hmo:PO n 5 36 90000 (nz<|bj (mu one g)<|bI 1 q):=⟨q4<|oR _ hW.nd,λt ht=>by simpa using (Æ.mp ht).2,P0 (A:=λk=>k.length=n/\∀ i∈k,0<=i/\i<=((5:Nat):Int)) (hW.BX (E':=5) (by decide)).pw pq.pw,PB.nz λt ht=>(uz (bI 1 q) hW.pb (AQ (.inl rfl) xF) t ht).le (by omega),by
        have a1:=Ô (λt:Qa Int×Rat=>decide<|t.2≠0) (bj (mu one g)<|bI 1 q);have a2:=rJ (bI 1 q) (mu one g);show(List.filter _ _).length < 64;omega⟩
       refine Nk n1 n3 (by decide) (by decide) hmo (P0 (A:=λk=>k.sum<=12) sW λt ht=>by have:=sq t ht; omega) hg bD (by decide) (by decide) (by decide) (by decide) (by decide) (by decide) gL rfl (Uq (Ac one g) hg.nd hg.nz hg.ln hg.ps bD h1.ln h1.ps pq.nd pq.nz nq sq lmo) ?_;simp!;refine vm n1 n3 hW sW hg bD gl h1 l1 rfl rfl rfl rfl (Ac one g) ?_;simp!;exact⟨_,_,_,_,_,_,_,_,_,_,_,rfl⟩
      .simp!
       exact⟨_,_,_,_,_,_,_,_,_,_,_,rfl⟩
 .rintro _ ⟨o1,o2,o3,o4,o5,o6,o7,o8,o9,jx,vh,rfl⟩
  simp!
abbrev J4(K:qc):Sp:=lP K 1 uo
theorem all_mk{l:PySem.W.OpenLaw}{fa:Qg}(X:K.In h)(G:h.Ns mainGlobals mg)(hfa:mg "law"=some (.ref fa))
  (a0:cD K "common_factor" Ov)
  (a1:cD K "fraction" NA)
  (a2:cD K "over_common" zev)
  (a3:cD K "from_common" Ob)
  (a4:cD K "powers_plus" Oa)
  (a5:cD K "rank" JX)
  (a6:cD K "without_content" OQ)
  (a7:cD K "take_off" Nz)
  (a8:cD K "whole_quotient" OV)
  (a9:cD K "parted_by" NR)
  (Rj:cD K "_law_box" NQ)
  (Ri:cD K "_law_take" N5)
  (Rh:cD K "_law_fraction" OU)
  (Rg:cD K "_law_plus" N4)
  (Rf:cD K "_law_times" N9)
  (Rc:cD K "_law_poly_add" OT)
  (Rb:cD K "_law_poly_mult" OP)
  (Ra:cD K "_law_poly_told" OO)
  (Q9:cD K "_law_small" N8)
  (Q8:cD K "_law_small_poly" OH)
  (Q7:cD K "_law_degree" OA)
  (Q6:cD K "_law_low" NP)
  (Q5:cD K "_law_parted" Oz)
  (Q4:cD K "_law_is" Ny)
  (Q3:cD K "law" JD)
  (z0:PySem.W.nsIn K mainGlobals "abs"=some none)
  (z1:PySem.W.nsIn K mainGlobals "tuple"=some none)
  (z2:PySem.W.nsIn K mainGlobals "sorted"=some none)
  (z3:PySem.W.nsIn K mainGlobals "zip"=some none)
  (z4:PySem.W.nsIn K mainGlobals "sum"=some none)
  (z5:PySem.W.nsIn K mainGlobals "dict"=some none)
  (z6:PySem.W.nsIn K mainGlobals "max"=some none)
  (z7:PySem.W.nsIn K mainGlobals "list"=some none)
  (z8:PySem.W.nsIn K mainGlobals "min"=some none)
  (z9:PySem.W.nsIn K mainGlobals "len"=some none)
  (Gh:PySem.W.nsIn K mainGlobals "int"=some none)
  (Gg:PySem.W.nsIn K mainGlobals "range"=some none)
  (Gf:PySem.W.nsIn K mainGlobals "repr"=some none)
  (Gj:CV K IQ OZ=true)
  : ∃ fd:FuncData,(∀ (s:Qd) (v:Qc),BindsTo s fd ⟨[v],[]⟩ [("_law_script",v)])/\∀ base:Heap,K.In base->base.Ns mainGlobals mg->bW l.prog w K mg base gF 6 fa fd ["_law_script"] (lP K 1 uo):=by
 have(_,fd,F,g):=Q3;cases hfa.symm.trans (PySem.W.mg_of X G g);refine⟨fd,λs v=>by have(_,_,_,_,_,_,_,_,_,rfl,_):=F.ex; exact .of_eq rfl,λbase _ _=>?_⟩;have hB:Bl mg ["abs", "tuple", "sorted", "zip", "sum", "dict", "max", "list", "min", "len", "int", "range", "repr"]:=Bl.cons (Ë X G z0) (Bl.cons (Ë X G z1)<|Bl.cons (Ë X G z2)<|Bl.cons (Ë X G z3)<|Bl.cons (Ë X G z4)<|Bl.cons (Ë X G z5)<|Bl.cons (Ë X G z6)<|Bl.cons (Ë X G z7)<|Bl.cons (Ë X G z8)<|Bl.cons (Ë X G z9)<|Bl.cons (Ë X G Gh)<|Bl.cons (Ë X G Gg)<|Bl.cons (Ë X G Gf)<|Bl.nil);have hT:=RL Gj
 let Z:Zs:=⟨l.prog,w,K,mg,base⟩
 have B:Bs Z:=⟨hB,hT⟩;have C0:=zgB B (a0.z X G);have C1:=zmL B (a1.z X G) C0;have C2:=zim B (a2.z X G) C0;have C3:=ziq B (a3.z X G) C1;have C4:=zil B (a4.z X G);have C5:=Ug B (a5.z X G);have C6:=zfr B (a6.z X G) C0 C1 C2;have C7:=zmM B (a7.z X G) C4;have C8:=zf4 B (a8.z X G) C5 C7;have C9:=zlC B (a9.z X G) C3 C6 C8;have C10:=zlA B (Rj.z X G);have CN:=zj4 B (Ri.z X G);have yH:=zf3 B (Rh.z X G);have Rz:=zj5 B (Rg.z X G) yH;have Ry:=zin B (Rf.z X G) yH;have Rx:=zf5 B (Rc.z X G) Rz;have ID:=zfs B (Rb.z X G) Rz Ry;have C17:=zfp B (Ra.z X G);have C18:=zio B (Q9.z X G) CN yH;have C19:=zeW B (Q8.z X G) CN C18;have Rw:=zhP B (Q7.z X G);have C21:=zlB B (Q6.z X G) CN yH;have C22:=zhT B (Q5.z X G) yH Ry Rx ID Rw;have C23:=zmN B (Q4.z X G) C9 ID C17;exact Ue (Z:=Z) B F C10 CN Rx ID C19 Rw C21 C22 C23
theorem walk{l:PySem.W.OpenLaw}{q:Qe}{loose:Qa Str}{XP:(Str->Qb Qc)->Heap->Prop}{YP:Qh->Heap->Prop}{d:DefRec}{K:Params->qc}(hn:l.most=some 63)(yg:d.params.defaults=[])
  (hY:∀ (w:Qh) (h:Heap),YP w h->(K w.params).In h)
  (F:∀ (w:Qh) (mg:Str->Qb Qc) (fa:Qg) (h:Heap),(K w.params).In h->h.Ns mainGlobals mg->mg d.name=some (.ref fa)->
   ∃ fd:FuncData,(∀ (s:Qd) (u:Qc),BindsTo s fd ⟨[u],[]⟩ [("_law_script",u)])/\∀ base:Heap,(K w.params).In base->base.Ns mainGlobals mg->bW l.prog w (K w.params) mg base gF 6 fa fd ["_law_script"] (J4<|K w.params)):
  PySem.W.WalkO q loose XP YP l.row.toRowW d [] (λf vs=>PySem.call f vs):=
 L2.mV (n:=63) (k:=6) (x := "_law_script") (CX:=λ_=>gF) (sp:=λw=>J4<|K w.params) hn (by decide) yg ⟨rfl,by decide,by decide,rfl⟩ hY F (λw H a ns hl hO hS=>UU hO hS<|SS ns hl) λ_ _ _ _ _ z=>z
end K06
namespace PySem.W.Fast
def tw8566088901647899670:=()
def tw16013723802698186941:=()
def tw12723443410413181735:=()
def tw4657341545134019260:=()
def tw4273163466943027221:=()
def tw9617090529222144782:=()
def tw12622812243824255812:=()
def tw1529969295588501653:=()
def tw16165709128199307496:=()
def tw18443899836703993457:=()
def tw9497991390957884471:=()
def tw13062377354371310207:=()
def tw10838515552024982340:=()
def tw13306027594379499891:=()
def tw15399408164863306081:=()
def tw18389009322638401504:=()
def tw8905260751835072608:=()
def tw2828220144406976835:=()
def tw6468027681383677872:=()
def tw11165839484459934363:=()
def tw1244942215469030687:=()
def tw8770615654376054540:=()
def tw7423717604882091811:=()
def tw10097165395808674312:=()
def tw17147294980529071306:=()
def tw4711846763662297989:=()
def tw18294992520416329929:=()
def tw641592000276133352:=()
def tw15708612257287728036:=()
def tw1040399276201842000:=()
def tw428733373548099585:=()
def tw6484046868105471759:=()
def tw1959368418230777490:=()
def tw7875176964128986525:=()
def tw2553527650396292322:=()
def tw6669578747000010295:=()
def tw15393149002010104908:=()
def tw5099101962354007157:=()
def tw5518605508142216582:=()
def tw17927378135829486134:=()
def tw14447403336110501087:=()
def tw11080925279100717023:=()
def tw18415827600324162571:=()
def tw17925671698390255480:=()
def tw6371868717844318272:=()
def tw2793014208830254241:=()
def tw9329468956375971562:=()
def tw15136895670019571793:=()
def tw6750518041337371675:=()
def tw8842632882395161357:=()
def tw5666940135506732599:=()
def tw3886161029528718314:=()
def tw3893026137984036897:=()
def tw15177725604915524394:=()
def tw14040295428564866236:=()
def tw6719798478694697170:=()
def tw2252720531402867137:=()
def tw1541508015206029401:=()
def tw5672816079938616409:=()
def tw7942698094500841537:=()
def tw6401498720097717588:=()
def tw12506378759865989215:=()
def tw2369690712539512276:=()
def tw8570259988967498478:=()
def tw8898053715626649062:=()
def tw16813420807902359653:=()
def tw16522622630919113800:=()
def tw18324202599228552363:=()
def tw18029441226189718537:=()
def tw9855122403357117802:=()
def tw14237185662292281404:=()
def tw3601761325904987103:=()
def tw17026599617333354652:=()
def tw9110369300629284748:=()
def tw7321834737445091240:=()
def tw11332517473582734005:=()
def tw4114898818778939537:=()
def tw11613458671463968338:=()
def tw9016307953430050494:=()
def tw15647180185094348148:=()
def tw14904047974414517393:=()
def tw7738933190224611499:=()
def tw607261965872316740:=()
def tw9668410900600684440:=()
def tw7521701226228668503:=()
def tw12449834493570336163:=()
def tw3182117841853561679:=()
def tw3196049092966593492:=()
def tw9973855038662546639:=()
def tw6497274802849131115:=()
def tw773267886830390601:=()
def tw7424137238548978057:=()
def tw6060164216235564544:=()
def tw12666056359045639002:=()
def tw4900474766557310336:=()
def tw976637567298694371:=()
def tw11136447284266477936:=()
def tw15817200648412512862:=()
def tw11157080108638244669:=()
def tw10807696000453079784:=()
def tw1543688470009076809:=()
def tw2623636725111493144:=()
def tw13673795926478201491:=()
end PySem.W.Fast
open PySem PySem.W PyProof.Rows
set_option maxRecDepth 100000 in
set_option maxHeartbeats 0 in
theorem PySem.Challenge.cw_undivide_k06_parted_by_holds : PySem.Challenge.rw_undivide_k06_parted_by.Holds := by
 w_on; o_law; k_head; (case hw=>w_witness2)
 k_fill
 refine K06.walk (l:=PySem.Challenge.rw_undivide_k06_parted_by) rfl rfl (λw h Y=>PySem.W.kIn_of Y) ?F
 case F=>
  intro w mg fa h KX G xY;refine' K06.all_mk KX G xY ?a0 ?a1 ?a2 ?a3 ?a4 ?a5 ?a6 ?a7 ?a8 ?a9 ?Rj ?Ri ?Rh ?Rg ?Rf ?Rc ?Rb ?Ra ?Q9 ?Q8 ?Q7 ?Q6 ?Q5 ?Q4 ?Q3 ?z0 ?z1 ?z2 ?z3 ?z4 ?z5 ?z6 ?z7 ?z8 ?z9 ?Gh ?Gg ?Gf ?Gj
  any_goals (refine' L2.fnK ?_ ?_ ?_ ?_<;>try k_is)
  (case z0=>k_is)
  (case z1=>k_is)
  (case z2=>k_is)
  (case z3=>k_is)
  (case z4=>k_is)
  (case z5=>k_is)
  (case z6=>k_is)
  (case z7=>k_is)
  (case z8=>k_is)
  (case z9=>k_is)
  (case Gh=>k_is)
  (case Gg=>k_is)
  (case Gf=>k_is)
  (case Gj=>kernel_rfl)
