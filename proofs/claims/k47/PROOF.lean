import PyProof.Rows.All
import Wide.All
import OpenK.AllK
import Wide.FinOn
import Lean
import PyProof.EqAt
import PyProof.EqKinds
import PyProof.TupleCall
import PySem.Challenge.RW_undivide_k47_whole_back_from_webs
set_option Elab.async false
set_option linter.all false
set_option maxRecDepth 100000
set_option compiler.extract_closed false
local macro_rules | `(tactic| omega)=> `(tactic| lia)
noncomputable section
open Lean in
local macro_rules|`(tactic|have($a,$b,*):=$e)=>do
 let p<-(#[a]++b.getElems).mapM λx=>match x with|`($i:ident)=>`(Parser.Tactic.rcasesPatLo|$i:ident)|_=>`(Parser.Tactic.rcasesPatLo|_)
 `(tactic|obtain⟨$p,*⟩:=$e)
namespace L2
open PySem PySem.Spec PyProof.Rows
abbrev À.{u,v}:=@List.mem_map.{u,v}
abbrev Á.{u}:=@List.mem_append.{u}
abbrev Â.{u}:=@List.mem_append_left.{u}
abbrev Ã:=@PySem.boot_len
abbrev Ä:=@PySem.W.mg_none_of
abbrev Å:=@PySem.F.slot_list_append
abbrev Æ:=@PySem.F.type_list_append
abbrev Ç.{u}:=@List.mem_of_getElem?.{u}
abbrev È:=@PySem.F.plainAttrs_list
abbrev É:=@PyProof.Rows.boot_isinstance
abbrev Ê:=@Nat.mul_le_mul_right
abbrev Ë:=@Nat.lt_of_le_of_lt
abbrev Ì:=@Nat.zero_le
abbrev Í:=@PyProof.Rows.boot_tuple
abbrev Î:=@PySem.W.kia_one
abbrev Ï:=@PySem.Heap.SameBut.update
abbrev Ð:=@Nat.lt_irrefl
abbrev Ñ:=@PyProof.Rows.callWith_type1
abbrev Ò.{u}:=@List.pairwise_cons.{u}
abbrev Ó:=@PySem.F.slot_dict_keyiterator_next
abbrev Ô.{u}:=@List.pairwise_append.{u}
abbrev Õ.{u}:=@List.mem_filter.{u}
abbrev Ö.{u,v}:=@List.map_congr_left.{u,v}
abbrev Ø:=@Nat.lt_succ_self
abbrev Ù:=@PySem.F.slot_dict_get
abbrev Ú:=@PySem.Heap.get?_update_self
abbrev Û:=@PyProof.Rows.boot_int
abbrev Ü:=@Nat.le_of_eq
abbrev Ý:=@List.mem_range
abbrev Þ.{u}:=@List.all_eq_true.{u}
abbrev ß.{u}:=@List.getElem?_set_self.{u}
abbrev à:=@PySem.Obj.data_mapFields
abbrev á:=@PySem.Obj.isFreed_of_fields
abbrev â:=@Nat.pow_le_pow_right
abbrev ã.{u}:=@Option.isSome_iff_exists.{u}
abbrev ä:=@Nat.lt_or_ge
abbrev å.{u}:=@List.any_eq_true.{u}
abbrev æ:=@Int.mul_ediv_cancel_left
abbrev ç:=@PySem.mem_of_lookup
abbrev è:=@PySem.F.slot_tuple_hash
abbrev é.{u}:=@List.length_eq_zero_iff.{u}
abbrev ê:=@Int.emod_nonneg
abbrev ë:=@Int.emod_lt_of_pos
abbrev ì:=@PySem.Heap.get?_update_other
abbrev í:=@PySem.Calls.callWith_builtin
abbrev î:=@PySem.F.entry_dict_get
abbrev ï.{u}:=@List.length_filter_le.{u}
abbrev ð:=@Nat.mul_le_mul
abbrev ñ:=@Int.dvd_gcd_mul_iff_dvd_mul
abbrev ò:=@PySem.Calls.evalArgs_plain
abbrev ó:=@Bool.and_eq_true_iff
abbrev ô:=@Int.eq_of_mul_eq_mul_right
abbrev õ.{u}:=@List.nodup_cons.{u}
abbrev ö:=@PySem.Calls.spliced_cons
abbrev ø:=@Nat.lt_trans
abbrev Qa.{u}:=@List.{u}
abbrev Qb.{u}:=@Option.{u}
abbrev Qc:=Value
abbrev Qd:=Shared
abbrev Qe:=Program
abbrev Qf:=Around
abbrev Qg:=Addr
abbrev Qh:=World
abbrev qa:=@wpAny_bind
abbrev qb:=@wpAny_pure
abbrev qc:=PySem.W.Frag
abbrev qd:=@Heap.get?_push_of_some
abbrev qe:=@Nat.le_refl
abbrev qf:=@Bool.false_ne_true
abbrev qg:=@Heap.get?_push_size
abbrev qh:=@Heap.lt_size
abbrev qi:=@Nat.lt_of_lt_of_le
abbrev qj:=@Nat.ne_of_lt
abbrev qk.{u}:=@List.getElem?_eq_some_iff.{u}
abbrev qm.{u}:=@List.getElem?_eq_getElem.{u}
abbrev qo.{u}:=@List.mem_cons_of_mem.{u}
abbrev qp.{u}:=@List.mem_cons_self.{u}
abbrev qq.{u}:=@List.mem_singleton.{u}
abbrev qr.{u,v}:=@Option.map_eq_some_iff.{u,v}
abbrev qt.{u}:=@List.length_append.{u}
abbrev qu.{u}:=@List.length_cons.{u}
abbrev qv.{u}:=@List.mem_cons.{u}
abbrev qw.{u}:=@List.mem_append_right.{u}
abbrev qx.{u}:=@Option.some.inj.{u}
abbrev qy:=@Nat.le_trans
abbrev qA:=@wpAny_newObj_type
abbrev qB.{u}:=@List.getD_eq_getElem?_getD.{u}
abbrev qC.{u}:=@List.getElem?_set_ne.{u}
abbrev Key:=Sum Int Str
def sF:Key->Qc->Bool
 | .inl k,v=>Value.isInt k v
 | .inr x,v=>Value.isStrOf x v
def GK(w:Qh):Key->Int
 | .inl k=>hashInt k
 | .inr x=>hashStr w x
theorem i7:∀ {k:Key} {v:Qc},sF k v=true->(∃ i t,k=Sum.inl i/\v=Value.int i t)\/(∃ x t,k=Sum.inr x/\v=Value.str x t)
 | .inl i,v,h=>by
  have(t,e):=Value.isInt_shape (k:=i) (v:=v) h;exact .inl ⟨i,t,rfl,e⟩
 | .inr x,v,h=>by
  have(t,e):=Value.isStrOf_shape (x:=x) (v:=v) h;exact .inr ⟨x,t,rfl,e⟩
theorem Yr(i:Int)(t:Tok):sF (.inl i) (.int i t)=true:=by simp[sF,Value.isInt]
theorem Yq(x:Str)(t:Tok):sF (.inr x) (.str x t)=true:=by simp[sF,Value.isStrOf]
theorem Sv(a b:Int):decide ((Sum.inl a:Key)=Sum.inl b)=(a==b):=by
 by_cases e:a=b
 .subst e; simp
 .have h:¬(Sum.inl a:Key)=Sum.inl b:=λq=>e<|Sum.inl.inj q
  rw[decide_eq_false h];exact(beq_eq_false_iff_ne.mpr e).symm
theorem Su(a b:Str):decide ((Sum.inr a:Key)=Sum.inr b)=decide (a=b):=by
 by_cases e:a=b
 .subst e; simp
 .have h:¬(Sum.inr a:Key)=Sum.inr b:=λq=>e<|Sum.inr.inj q
  rw[decide_eq_false h,decide_eq_false e]
theorem Ss(a:Int)(b:Str):decide ((Sum.inl a:Key)=Sum.inr b)=false:=decide_eq_false (λq=>nomatch q)
theorem Sr(a:Str)(b:Int):decide ((Sum.inr a:Key)=Sum.inl b)=false:=decide_eq_false (λq=>nomatch q)
def zC(prog:Qe)(w:Qh):PySem.KeyKind prog w Key where
 is:=sF
 hash:=GK w
 inj:=λv a b ha hb=>by
  rcases i7 ha with⟨i,t,rfl,rfl⟩|⟨x,t,rfl,rfl⟩
  .rcases i7 hb with⟨j,u,rfl,e⟩|⟨y,u,rfl,e⟩
   .injection e with e1 _; rw[e1]
   .exact nomatch e
  .rcases i7 hb with⟨j,u,rfl,e⟩|⟨y,u,rfl,e⟩
   .exact nomatch e
   .injection e with e1 _; rw[e1]
 byValue:=λk v h=>by
  rcases i7 h with⟨i,t,rfl,rfl⟩|⟨x,t,rfl,rfl⟩<;>rfl
 pyHash:=λhv h=>by
  rcases i7 hv with⟨i,t,rfl,rfl⟩|⟨x,t,rfl,rfl⟩
  .exact wpAny_pyHash_int h
  .exact wpAny_pyHash_str h
 eqBool:=λhu hv h=>by
  rcases i7 hu with⟨i,t,rfl,rfl⟩|⟨x,t,rfl,rfl⟩
  .rcases i7 hv with⟨j,u,rfl,rfl⟩|⟨y,u,rfl,rfl⟩
   .rw[Sv]at h; exact wpAny_eqBool_int h
   .rw[Ss]at h; exact SeqAt.EqAt.int_str i t y u _ _ _ _ h
  .rcases i7 hv with⟨j,u,rfl,rfl⟩|⟨y,u,rfl,rfl⟩
   .rw[Sr]at h; exact SeqAt.EqAt.str_int x t j u _ _ _ _ h
   .rw[Su]at h; exact wpAny_eqBool_str h
 «strs»:=λk x t v h=>by
  rcases i7 h with⟨i,u,rfl,e⟩|⟨y,u,rfl,e⟩
  .exact nomatch e
  .injection e with e1 _
   subst e1;cases v<;>rfl
theorem zjP(prog:Qe)(w:Qh)(i:Int)(t:Tok):(zC prog w).is (.inl i) (.int i t)=true:=Yr i t
theorem zjQ(prog:Qe)(w:Qh)(x:Str)(t:Tok):(zC prog w).is (.inr x) (.str x t)=true:=Yq x t
inductive V where
 | aI|bl (b:Bool) | int (i:Int) | str (x:Str) | iS (b:Array UInt8) | rA (b:UInt64) | ref (a:Qg) | ty (n:String)
 deriving DecidableEq
def zD:V->Qc->Prop
 | .aI,u=>u=Value.none
 | .bl b,u=>u=Value.bool b
 | .int i,u=>∃ t,u=Value.int i t
 | .str x,u=>∃ t,u=Value.str x t
 | .iS b,u=>∃ t,u=Value.bytes b t
 | .rA b,u=>∃ t,u=Value.float b t
 | .ref a,u=>u=Value.ref a
 | .ty n,u=>u=Value.type n
abbrev zF:Qa V->Qa Qc->Prop:=Paired zD
theorem zF.length{xs:Qa V}{us:Qa Qc}(r:zF xs us):xs.length=us.length:=Paired.length r
theorem zF.get:∀ {xs:Qa V} {us:Qa Qc} {i:Nat} {x:V},zF xs us->xs[i]?=some x->∃ u,us[i]?=some u/\zD x u
 | _,_,_,_,.nil,e=>by simp at e
 | _,_,0,_,.cons r _,e=>by simp at e; subst e; exact⟨_,rfl,r⟩
 | _,_,i+1,x,.cons _ t,e=>by
  have(u,h1,h2):=zF.get (i:=i) (x:=x) t (by simpa using e);exact⟨u,by simpa using h1,h2⟩
theorem zF.set{x:V}{u:Qc}(r:zD x u):∀ {xs:Qa V} {us:Qa Qc} (i:Nat),zF xs us->zF (xs.set i x) (us.set i u)
 | _,_,_,.nil=>.nil
 | _,_,0,.cons _ t=>.cons r t
 | _,_,i+1,.cons q t=>.cons q<|zF.set r i t
theorem zF.append:∀ {xs ys:Qa V} {us ws:Qa Qc},zF xs us->zF ys ws->zF (xs++ys) (us++ws)
 | _,_,_,_,.nil,s=>s
 | _,_,_,_,.cons r t,s=>.cons r<|zF.append t s
theorem zF.take:∀ {xs:Qa V} {us:Qa Qc} (n:Nat),zF xs us->zF (xs.take n) (us.take n)
 | _,_,0,_=>.nil
 | _,_,_+1,.nil=>.nil
 | _,_,n+1,.cons r t=>.cons r<|zF.take n t
theorem zF.drop:∀ {xs:Qa V} {us:Qa Qc} (n:Nat),zF xs us->zF (xs.drop n) (us.drop n)
 | _,_,0,r=>r
 | _,_,_+1,.nil=>.nil
 | _,_,n+1,.cons _ t=>zF.drop n t
def ff:Qb V->Qb Qc->Prop
 | some v,some u=>zD v u
 | none,none=>True
 | _,_=>False
def KV{κ:Type}:Qa (κ×V)->Qa (κ×Qc)->Prop:=Paired λ(p:κ×V) (q:κ×Qc)=>p.1=q.1/\zD p.2 q.2
def kV:Key->V
 | .inl i=>.int i
 | .inr x=>.str x
structure IK (prog:Qe) (w:Qh) (J:Type) [DecidableEq J] where
 is:Heap->J->Qc->Prop
 hash:J->Int
 draws:J->Nat
 gK:Nat
 inj:∀ {h:Heap} {v:Qc} {x y:J},is h x v->is h y v->x=y
 keeps:∀ {h h':Heap} {k:J} {v:Qc} {d:Qg} {o:Obj} {es ep},is h k v->h.get? d=some o->o.data=.dict es ep->Heap.SameBut d h h'->is h' k v
 pyHash:∀ {A:Qf} {E:Qc->Qd->Prop} {s:Qd} {k:J} {v:Qc} {Q:Int->Qd->Prop},A.units+gK < cLine->is s.heap k v->Q (hash k) {s with toks:=s.toks+draws k}->
  wpAny (model prog w) A (PySem.pyHash v) Q E s
 eqBool:∀ {A:Qf} {E:Qc->Qd->Prop} {s:Qd} {x y:J} {u v:Qc} {Q:Bool->Qd->Prop},A.units+gK < cLine->is s.heap x u->is s.heap y v->Q (decide<|x=y) s->
  wpAny (model prog w) A (PySem.eqBool u v) Q E s
 quiet:∀ {A:Qf} {E:Qc->Qd->Prop} {s:Qd} {k:J} {v:Qc} {Q:Bool->Qd->Prop} (n:Nat),gK<=n->is s.heap k v->Q true s->wpAny (model prog w) A (eqIsQuiet n v) Q E s
section
variable{prog:Qe}{w:Qh}{J:Type}[DecidableEq J](I:IK prog w J)
inductive aO (h:Heap):Qa J->Qa Qc->Prop
 | nil:aO h [] []
 | cons {k:J} {v:Qc} {ks:Qa J} {vs:Qa Qc}:I.is h k v->aO h ks vs->aO h (k::ks) (v::vs)
def eC(h:Heap)(ks:Qa J)(a:Qg):Prop:=∃ o items n,h.get? a=some o/\o.cls=.type "tuple"/\o.data=.seq items n/\aO I h ks items.toList
def yu(ks:Qa J):Int:=reduceHash (Builtin.Tuple.tupleHashOf<|ks.map I.hash)
def yB(ks:Qa J):Nat:=(ks.map I.draws).sum+1
variable{I}
theorem aO.inj{h:Heap}{x y:Qa J}{vs:Qa Qc}(hx:aO I h x vs)(hy:aO I h y vs):x=y:=by
 induction hx generalizing y with
 | nil=>cases hy; rfl
 | cons h1 _ ih=>
  cases hy with
  | cons h2 t2=>rw[I.inj h1 h2,ih t2]
theorem aO.keeps{h h':Heap}{x:Qa J}{vs:Qa Qc}{d:Qg}{o:Obj}{es ep}(hx:aO I h x vs)(ho:h.get? d=some o)(hd:o.data=.dict es ep)(hs:Heap.SameBut d h h'):aO I h' x vs:=by
 induction hx with
 | nil=>exact .nil
 | cons h1 _ ih=>exact .cons (I.keeps h1 ho hd hs) ih
theorem eC.typeIs{s:Qd}{ks:Qa J}{a:Qg}(x:eC I s.heap ks a):s.TypeIs (.ref a) "tuple":=let ⟨o,_,_,ho,hc,_⟩:=x; ⟨o,ho,hc⟩
theorem eC.tup{h:Heap}{ks:Qa J}{a:Qg}(x:eC I h ks a):∃ items,h.IsTuple a items:=let ⟨o,ai,n,ho,hc,hd,_⟩:=x; ⟨ai,o,ho,hc,n,hd⟩
theorem eC.inj{h:Heap}{a:Qg}{x y:Qa J}(hx:eC I h x a)(hy:eC I h y a):x=y:=by
 have(o,items,n,ho,_,hd,hi):=hx;have(o',Fw,n',c9,_,jI,ip):=hy;obtain rfl:o=o':=qx (ho.symm.trans c9);rw[hd]at jI;injection jI with h1 _;subst h1;exact hi.inj ip
theorem eC.keeps{h h':Heap}{ks:Qa J}{a d:Qg}{o:Obj}{es ep}(x:eC I h ks a)(ho:h.get? d=some o)(hd:o.data=.dict es ep)(hs:Heap.SameBut d h h'):eC I h' ks a:=by
 have(o',items,n,c9,hc,jI,hi):=x;have rg:a≠d:=by
  rintro rfl;obtain rfl:o'=o:=qx (c9.symm.trans ho);rw[hd]at jI; exact nomatch jI
 exact⟨o',items,n,(hs.2 a rg).trans c9,hc,jI,hi.keeps ho hd hs⟩
variable{A:Qf}{E:Qc->Qd->Prop}{s:Qd}
theorem Jm{ks:Qa J}{a:Qg}{Q:Int->Qd->Prop}(hu:A.units+(I.gK+1) < cLine)(hk:eC I s.heap ks a)(h:Q (yu I ks) {s with toks:=s.toks+yB I ks}):
  wpAny (model prog w) A (pyHash<|.ref a) Q E s:=by
 have hT:=hk.typeIs;have(o,items,n,ho,_,hd,hi):=hk;unfold pyHash
 first|unfold pyHashByItsType|skip
 first|refine qa (wpAny_cRoomFor_or (.inr (by omega)) ?_) | skip
 refine qa<|wpAny_specialOf hT è.lookup ?_;show wpAny _ _ (if(some (Value.builtin "tuple.__hash__")==some Value.none)=true then _ else _) Q E s;rw[if_neg (by rw[beq_builtin_none]; exact qf)];refine qa<|wpAny_specialOf hT è.lookup ?_;show wpAny _ _ (callSpecialIfBoundUnlessNone? (.ref a) "__hash__" _ >>= _) Q E s;refine qa<|wpAny_callSpecialIfBoundUnlessNone?_slot hT è<|wpAny_call_entry è hT PySem.F.entry_tuple_hash ?_<|PySem.F.args_tuple_hash_1 _;show wpAny _ _ (Builtin.Tuple.tupleItemsOf (.ref a) >>= _) _ _ s;refine qa<|wpAny_tupleItemsOf ho hd ?_;refine qa ?_;rw[<-Array.forIn_toList];refine wpAny_forIn_list _
  (λrest (b:Array Int) s'=>∃ done left,ks=done++left/\aO I s.heap left rest/\b.toList=done.map I.hash/\s'={s with toks:=s.toks+(done.map I.draws).sum})
  _ ?_ ?_ _ _ ⟨[],ks,rfl,hi,rfl,rfl⟩
 .rintro x rest b s' ⟨done,left,rfl,hl,hb,rfl⟩
  cases hl with
  | @cons k _ m9 _ h1 A6=>
   refine qa (I.pyHash (s:={s with toks:=s.toks+(done.map I.draws).sum}) (by show A.units+1+I.gK < _; omega) h1 ?_)
   first
    | exact qb ⟨done++[k],m9,by simp,A6,by simp[hb],by simp[Nat.add_assoc]⟩
    | exact qa<|qb<|qb ⟨done++[k],m9,by simp,A6,by simp[hb],by simp[Nat.add_assoc]⟩
 .rintro b s' ⟨done,left,rfl,hl,hb,rfl⟩
  cases hl;rw[List.append_nil]at h;show wpAny _ _ (retInt<|Builtin.Tuple.tupleHashOf b.toList) _ _ _;rw[hb];refine wpAny_ret_mkInt ?_;show wpAny _ _ (if(decide (-(2:Int)^63<=Builtin.Tuple.tupleHashOf (done.map I.hash)) && decide (Builtin.Tuple.tupleHashOf (done.map I.hash) < 2^63))=true then _ else _) Q E _;unfold yu reduceHash at h;unfold yB at h
  by_cases hr:(decide (-(2:Int)^63<=Builtin.Tuple.tupleHashOf (done.map I.hash)) && decide (Builtin.Tuple.tupleHashOf (done.map I.hash) < 2^63))=true
  .rw[if_pos hr]
   rw[if_pos hr]at h;exact qb (by simpa [Nat.add_assoc] using h)
  .rw[if_neg hr]
   rw[if_neg hr]at h;exact qa<|wpAny_rule<|qb (by simpa [Nat.add_assoc] using h)
theorem ZP{x y:Qa J}{a b:Qg}{P:Fin->Qd->Prop}(hu:A.units+I.gK < cLine)(hx:eC I s.heap x a)(hy:eC I s.heap y b)(h:P (.done<|.ret<|.bool<|decide<|x=y) s):
  wpAny (model prog w) A (Builtin.«tuple.__eq__» ⟨[.ref a,.ref b],[]⟩) P E s:=by
 have hTb:=hy.typeIs;have(oa,xs,na,lP,_,nE,hia):=hx;have(ob,ys,nb,nC,_,cK,hib):=hy;show wpAny _ _ (isInstance (.ref b) (.type "tuple") >>= _) _ _ s;refine qa<|wpAny_isInstance hTb isSubtype_tuple_tuple ?_;simp only[Bool.not_true,Bool.false_eq_true,if_false];refine qa<|wpAny_tupleItemsOf lP nE ?_;refine qa<|wpAny_tupleItemsOf nC cK ?_;refine qa ?_;refine wpAny_forIn_list _
  (λrest r s'=>r.1=none/\s'=s/\∃ x' y' f9 gS,rest=List.zip f9 gS/\aO I s.heap x' f9/\aO I s.heap y' gS/\decide (x'=y')=decide (x=y)/\(f9.length==gS.length)=(xs.size==ys.size))
  _ ?_ ?_ _ _ ⟨rfl,rfl,x,y,xs.toList,ys.toList,rfl,hia,hib,rfl,by simp⟩
 .rintro⟨u,v⟩ rest r s' ⟨hr,rfl,x',y',f9,gS,hz,fA,A2,nD,hlen⟩
  cases fA with
  | nil=>simp at hz
  | @cons k1 u' M7 EJ h1 FH=>
   cases A2 with
   | nil=>simp at hz
   | @cons k2 v' M5 EH h2 FG=>
    simp only[List.zip_cons_cons,List.cons.injEq,Prod.mk.injEq]at hz;obtain⟨⟨rfl,rfl⟩,rfl⟩:=hz;refine qa<|I.eqBool (x:=k1) (y:=k2) hu h1 h2 ?_
    by_cases hk:k1=k2
    .subst hk
     rw[decide_eq_true rfl];simp only[Bool.not_true,Bool.false_eq_true,if_false];refine qb ⟨rfl,rfl,M7,M5,EJ,EH,rfl,FH,FG,?_,by simpa using hlen⟩;rw[<-nD]
     by_cases NH:M7=M5
     .simp[NH]
     .simp[NH]
    .rw[decide_eq_false hk]
     simp only[Bool.not_false,if_true];have hf:decide (x=y)=false:=by rw[<-nD]; simp[hk]
     rw[hf]at h;exact qa<|qb<|qb<|qb h
 .rintro⟨r1,r2⟩ s' ⟨hr,rfl,x',y',f9,gS,hz,fA,A2,nD,hlen⟩
  simp only at hr;subst hr;refine qb ?_;have F6:(xs.size==ys.size)=decide (x=y):=by
   rw[<-nD,<-hlen];cases fA with
   | nil=>
    cases A2 with
    | nil=>simp
    | cons _ _=>simp
   | cons _ _=>
    cases A2 with
    | nil=>simp
    | cons _ _=>simp at hz
  show P (.done<|.ret<|.bool<|xs.size==ys.size) s';rw[F6]; exact h
theorem Hm{x y:Qa J}{a b:Qg}{Q:Bool->Qd->Prop}(hu:A.units+(I.gK+1) < cLine)(hx:eC I s.heap x a)(hy:eC I s.heap y b)(h:Q (decide<|x=y) s):
  wpAny (model prog w) A (eqBool (.ref a)<|.ref b) Q E s:=by
 unfold eqBool
 try with_reducible refine wpAny_holding ?_
 show wpAny _ _ (if(Value.ref a==Value.ref b)=true then _ else _) Q E s
 by_cases F8:(Value.ref a==Value.ref b)=true
 .rw[if_pos F8]
  have e:a=b:=by have:=eq_of_beq F8; injection this
  subst e;obtain rfl:=hx.inj hy;exact qa<|wpAny_rule<|qb (by simpa using h)
 .rw[if_neg F8]
  exact qa (wpAny_richCompare_same_room (op:=.Eq) hx.typeIs hy.typeIs PySem.F.slot_tuple_eq
   (wpAny_call_entry PySem.F.slot_tuple_eq hx.typeIs PySem.F.entry_tuple_eq (ZP (by show A.units+1+I.gK < _; omega) hx hy ⟨_,rfl,(λe=>nomatch e),wpAny_truthy_bool h⟩)<|PySem.F.args_tuple_eq_2 _ _) (by omega))
theorem Ko{ks:Qa J}{a:Qg}{Q:Bool->Qd->Prop}(n:Nat)(hn:I.gK+1<=n)(hk:eC I s.heap ks a)(h:Q true s):wpAny (model prog w) A (eqIsQuiet n<|.ref a) Q E s:=by
 have hT:=hk.typeIs;obtain⟨m,rfl⟩:∃ m,n=m+1:=⟨n - 1,by omega⟩;have(o,items,n',ho,_,hd,hi):=hk;unfold eqIsQuiet;refine qa<|wpAny_specialOf hT PySem.F.slot_tuple_eq.lookup ?_;show wpAny _ _ (isInstance (.ref a) (.type "tuple") >>= _) _ _ s;refine qa<|wpAny_isInstance hT isSubtype_tuple_tuple ?_;simp only[Bool.not_true,Bool.false_eq_true,if_false];refine qa<|wpAny_seqItems ho hd ?_;refine qa ?_;show wpAny _ _ (forIn items _ _) _ _ s;rw[<-Array.forIn_toList];refine wpAny_forIn_list _ (λrest r s'=>r.1=none/\s'=s/\∃ m9,aO I s.heap m9 rest) _ ?_ ?_ _ _ ⟨rfl,rfl,ks,hi⟩
 .rintro v rest r s' ⟨hr,rfl,m9,kR⟩
  cases kR with
  | cons h1 t1=>
   refine qa<|I.quiet m (by omega) h1 ?_;simp only[Bool.not_true,Bool.false_eq_true,if_false];exact qb ⟨rfl,rfl,_,t1⟩
 .rintro⟨r1,r2⟩ s' ⟨hr,rfl,_⟩
  simp only at hr;subst hr;exact qb h
end
def FA(prog:Qe)(w:Qh):IK prog w Key where
 is:=λ_ k v=>(zC prog w).is k v=true
 hash:=(zC prog w).hash
 draws:=λ_=>1
 gK:=0
 inj:=λhx hy=>(zC prog w).inj _ _ _ hx hy
 keeps:=λx _ _ _=>x
 pyHash:=λ_ hk h=>(zC prog w).pyHash hk h
 eqBool:=λ_ hx hy h=>(zC prog w).eqBool hx hy h
 quiet:=λn _ hk h=>by rw[eqIsQuiet_byValue n<|(zC prog w).byValue _ _ hk]; exact qb h
def wd{prog:Qe}{w:Qh}{J:Type}[DecidableEq J](I:IK prog w J):IK prog w (Key ⊕ Qa J) where
 is:=λh x v=>match x with
  | .inl k=>(zC prog w).is k v=true
  | .inr ks=>∃ a,v=.ref a/\eC I h ks a
 hash:=λx=>match x with
  | .inl k=>(zC prog w).hash k
  | .inr ks=>yu I ks
 draws:=λx=>match x with
  | .inl _=>1
  | .inr ks=>yB I ks
 gK:=I.gK+1
 inj:=λ{h v x y} hx hy=>by
  cases x with
  | inl k=>
   cases y with
   | inl k'=>exact congrArg Sum.inl<|(zC prog w).inj _ _ _ hx hy
   | inr ks=>
    have(a,rfl,_):=hy;rcases i7 hx with⟨i,t,_,e⟩|⟨z,t,_,e⟩<;>cases e
  | inr ks=>
   have(a,rfl,hx):=hx;cases y with
   | inl k'=>rcases i7 hy with⟨i,t,_,e⟩|⟨z,t,_,e⟩<;>cases e
   | inr m9=>
    have(b,e,hy):=hy;cases e;exact congrArg Sum.inr (hx.inj hy)
 keeps:=λ{h h' k v d o es ep} x ho hd hs=>by
  cases k with
  | inl k=>exact x
  | inr ks=>
   have(a,e,x):=x;exact⟨a,e,x.keeps ho hd hs⟩
 pyHash:=λ{A E s k v Q} hu hk h=>by
  cases k with
  | inl k=>exact(zC prog w).pyHash hk h
  | inr ks=>
   have(a,rfl,x):=hk;exact Jm hu x h
 eqBool:=λ{A E s x y u v Q} hu hx hy h=>by
  cases x with
  | inl k=>
   cases y with
   | inl k'=>exact(zC prog w).eqBool hx hy (by simpa using h)
   | inr ks=>
    have(b,rfl,hy):=hy;have(ai,ht):=hy.tup;have h':Q false s:=by simpa using h
    rcases i7 hx with⟨i,t,rfl,rfl⟩|⟨z,t,rfl,rfl⟩
    .exact SeqAt.EqAt.int_tuple i t ht (by omega) _ _ _ _ h'
    .exact SeqAt.EqAt.str_tuple z t ht (by omega) _ _ _ _ h'
  | inr ks=>
   have(a,rfl,hx):=hx;have(ai,ht):=hx.tup;cases y with
   | inl k'=>
    have h':Q false s:=by simpa using h
    rcases i7 hy with⟨i,t,rfl,rfl⟩|⟨z,t,rfl,rfl⟩
    .exact SeqAt.EqAt.tuple_int i t ht (by omega) _ _ _ _ h'
    .exact SeqAt.EqAt.tuple_str z t ht (by omega) _ _ _ _ h'
   | inr m9=>
    have(b,rfl,hy):=hy;exact Hm hu hx hy (by simpa using h)
 quiet:=λ{A E s k v Q} n hn hk h=>by
  cases k with
  | inl k=>rw[eqIsQuiet_byValue n<|(zC prog w).byValue _ _ hk]; exact qb h
  | inr ks=>
   have(a,rfl,x):=hk;exact Ko n hn x h
def Sq{prog:Qe}{w:Qh}{J:Type}[DecidableEq J](I:IK prog w J)(hI:I.gK<=7):HeapKind prog w (Qa J) where
 is:=eC I
 hash:=yu I
 draws:=yB I
 room:=λA=>A.units+(I.gK+1) < cLine
 inj:=λhx hy=>hx.inj hy
 keeps:=λx ho hd hs=>x.keeps ho hd hs
 pyHash:=λhu hk h=>Jm hu hk h
 eqBool:=λhu hx hy h=>Hm hu hx hy h
 quiet:=λhk h=>Ko 8 (by omega) hk h
abbrev K1:=Key ⊕ Qa Key
instance dK1:DecidableEq K1:=instDecidableEqSum
abbrev K2:=Key ⊕ Qa K1
instance dK2:DecidableEq K2:=instDecidableEqSum
abbrev K3:=Key ⊕ Qa K2
instance dK3:DecidableEq K3:=instDecidableEqSum
instance dL3:DecidableEq (Qa K3):=instDecidableEqList
def uL(prog:Qe)(w:Qh):HeapKind prog w (Qa K3):=Sq (wd<|wd<|wd<|FA prog w) (by show 3<=7; decide)
inductive HO where
 | lst (xs:Qa V)
 | tup (xs:Qa V)
 | dK (kvs:Qa (Key×V)) | dT (kvs:Qa (Qa Key×V))
 | set (S:Int->Bool) (n:Nat)
 | ins (C dx:Qg) (fs:Qa (Str×V))
 | own (x:Qg)
 | xd (fs:Qa (Str×V))
 | met (f x:Qg)
 | E5 (lo hi:Int)
 | bg (o:Obj) (u:HO)
 | jC (ps:Array Qc)
 | ext (φ:Heap->Prop)
 | sub (b:Qg) (p u:HO)
 | dX (kvs:Qa (Qa K3×V))
def HO.flat:HO->Bool
 | .lst _=>true
 | .dK _=>true
 | .dT _=>true
 | .dX _=>true
 | _=>false
abbrev Hp:=Qg->Qb HO
def upd(H:Hp)(a:Qg)(o:HO):Hp:=λb=>if b=a then some o else H b
theorem zr{H:Hp}{a:Qg}{o:HO}:upd H a o a=some o:=by unfold upd; rw[if_pos rfl]
theorem zt{H:Hp}{a b:Qg}{o:HO}(h:b≠a):upd H a o b=H b:=by unfold upd; rw[if_neg h]
theorem UX{H:Hp}{a:Qg}{o u:HO}:upd (upd H a o) a u=upd H a u:=by
 funext b; unfold upd; split<;>rfl
theorem sA{H:Hp}{a b:Qg}{o u:HO}(h:H a=some o)(h':H b=some u)(d:o≠u):a≠b:=by
 intro e; subst e; rw[h]at h'; exact d<|qx h'
theorem i6{H:Hp}{a b:Qg}{o:HO}(h:H a=some o)(h':H b=none):a≠b:=by
 intro e; subst e; rw[h]at h'; cases h'
def zA8(K:qc)(a:Qg)(xs:Qa V):Prop:=∃ (o:Obj) (ai:Array Qc) (n:Nat),K.lookup a=some o/\o.cls=.type "tuple"/\o.data=.seq ai n/\ai.size<=sizeLine/\zF xs ai.toList/\∃ i r,xs=.int i::r
def aP(K:qc)(H:Hp)(a:Qg)(xs:Qa V):Prop:=H a=some (.tup xs)\/zA8 K a xs
theorem aP.keeps{K:qc}{H H':Hp}{a:Qg}{xs:Qa V}(h:aP K H a xs)(ht:∀ b ys,H b=some (.tup ys)->H' b=some (.tup ys)):aP K H' a xs:=h.imp (ht _ _) id
def lC(h:Heap)(a:Qg)(items:Array Qc):Prop:=∃ o,h.get? a=some o/\o.cls=.type "tuple"/\(∃ n,o.data=.seq items n)/\(o.dict=none\/∃ i t r,items.toList=.int i t::r)
theorem lC.tup{h:Heap}{a:Qg}{items:Array Qc}(x:lC h a items):IsTup h a items:=let ⟨o,e,c,d,_⟩:=x; ⟨o,e,c,d⟩
theorem lC.lt{h:Heap}{a:Qg}{items:Array Qc}(x:lC h a items):a < h.objs.size:=x.tup.lt
theorem lC.new(h:Heap)(items:Array Qc):lC (h.push {cls:=.type "tuple",data:=.seq items}) h.objs.size items:=⟨_,qg _ rfl,rfl,⟨_,rfl⟩,.inl rfl⟩
def N0(K:qc)(H:Hp)(ks:Qa Key)(a:Qg):Prop:=aP K H a (ks.map kV)
def NI{J:Type}(P:Qa J->Qg->Prop)(x:Key ⊕ Qa J)(v:V):Prop:=match x with
 | .inl k=>v=kV k
 | .inr ks=>∃ b,v=.ref b/\P ks b
def iz{J:Type}(K:qc)(H:Hp)(P:Qa J->Qg->Prop)(xs:Qa (Key ⊕ Qa J))(a:Qg):Prop:=∃ vs,aP K H a vs/\Paired (NI P) xs vs
def N3(K:qc)(H:Hp):Qa K3->Qg->Prop:=iz K H (iz K H<|iz K H<|N0 K H)
theorem Jl{α β:Type}{F G:α->β->Prop}:∀ {kH:Qa α} {l₂:Qa β},Paired F kH l₂->(∀ a b,F a b->G a b)->Paired G kH l₂
 | _,_,.nil,_=>.nil
 | _,_,.cons r t,f=>.cons (f _ _ r)<|Jl t f
theorem iz.keeps{J:Type}{K:qc}{H H':Hp}{P P':Qa J->Qg->Prop}{xs:Qa (Key ⊕ Qa J)}{a:Qg}(h:iz K H P xs a)(ht:∀ b ys,H b=some (.tup ys)->H' b=some (.tup ys))(hp:∀ ks b,P ks b->P' ks b):iz K H' P' xs a:=by
 have(vs,h1,h2):=h;refine⟨vs,h1.keeps ht,Jl h2 λx v z=>?_⟩;cases x with
 | inl k=>exact z
 | inr ks=>have(b,e,z):=z; exact⟨b,e,hp _ _ z⟩
theorem N3.keeps{K:qc}{H H':Hp}{xs:Qa K3}{a:Qg}(h:N3 K H xs a)(ht:∀ b ys,H b=some (.tup ys)->H' b=some (.tup ys)):N3 K H' xs a :=
 iz.keeps h ht λ_ _ h=>iz.keeps h ht λ_ _ h=>iz.keeps h ht λ_ _ h=>aP.keeps h ht
section
variable(P:Qe)(w:Qh)(K:qc)
def zI(H:Hp)(h:Heap)(a:Qg):HO->Prop
 | .lst xs=>xs.length<=sizeLine/\∃ (ai:Qa Qc) (n:Nat),zF xs ai/\h.get? a=some {cls:=.type "list",data:=.seq ai.toArray n}
 | .tup xs=>xs.length<=sizeLine/\∃ ai:Qa Qc,zF xs ai/\lC h a ai.toArray
 | .dK kvs=>kvs.length<=sizeLine/\(a==sysModules)=false/\∃ vs,KV kvs vs/\h.DictOf (zC P w) a vs
 | .dT kvs=>kvs.length<=sizeLine/\(a==sysModules)=false/\∃ xs:Qa (Qa Key×Qg×Qc),
   Paired (λ(p:Qa Key×V) (q:Qa Key×Qg×Qc)=>p.1=q.1/\aP K H q.2.1 (p.1.map kV)/\zD p.2 q.2.2) kvs xs/\
   ∃ o es ep,h.get? a=some o/\o.ExactDict/\o.data=.dict es ep/\es.toList=xs.map (entryOfKey<|tupleKind<|zC P w)/\(xs.map (·.1)).Nodup
 | .dX kvs=>kvs.length<=sizeLine/\(a==sysModules)=false/\∃ xs:Qa (Qa K3×Qg×Qc),
   Paired (λ(p:Qa K3×V) (q:Qa K3×Qg×Qc)=>p.1=q.1/\N3 K H p.1 q.2.1/\zD p.2 q.2.2) kvs xs/\
   ∃ o es ep,h.get? a=some o/\o.ExactDict/\o.data=.dict es ep/\es.toList=xs.map (entryOfKey<|uL P w)/\(xs.map (·.1)).Nodup
 | .set S n=>h.SetOf (intKind P w) a S n
 | .ins C dx fs=>H dx=some (.own a)/\fs.length<=1000/\dx≠a/\h.get? a=some (PySem.W.instObj C dx)/\
   ∃ mA,h.Ns1 dx mA/\(∀ f,ff (fs.lookup f)<|mA f)/\PySem.Within mA (fs.map (·.1))
 | .own _=>∃ o,h.get? a=some o
 | .xd fs=>∃ mA,h.Ns1 a mA/\∀ f,ff (fs.lookup f)<|mA f
 | .E5 lo hi=>∃ t u v,h.get? a=some {cls:=.type "range",data:=.fields #[.int lo t,.int hi u,.int 1 v]}
 | .bg o u=>h.get? a=some o/\zI H h a u
 | .jC ps=>h.get? a=some {cls:=.none,data:=.fields ps}
 | .met f x=>h.get? a=some (PySem.W.methodObj (.ref f)<|.ref x)
 | .ext φ=>φ h/\(∃ o,h.get? a=some o)/\∀ h1 h2:Heap,φ h1->(∀ o,h1.get? a=some o->h2.get? a=some o)->φ h2
 | .sub b p u=>zI H h a u/\H b=some (.own a)/\b≠a/\p.flat=true/\zI H h b p
def bD(H:Hp)(h:Heap):Prop:=∀ a o,H a=some o->zI P w K H h a o
end
section
variable{P:Qe}{w:Qh}{K:qc}{H H':Hp}{h h':Heap}{a:Qg}{o:HO}
theorem zI.lt(x:zI P w K H h a o):a < h.objs.size:=by
 induction o with
 | sub b p u _ ih=>exact ih x.1
 | lst xs=>have(_,_,_,_,e):=x; exact qh e
 | tup xs=>have(_,_,_,p):=x; exact p.lt
 | dK kvs=>have(_,_,_,_,o,_,_,e,_):=x; exact qh e
 | dT kvs=>have(_,_,_,_,o,_,_,e,_):=x; exact qh e
 | dX kvs=>have(_,_,_,_,o,_,_,e,_):=x; exact qh e
 | set S n=>have(o,_,_,_,e,_):=x; exact qh e
 | ins C dx fs=>have(_,_,_,e,_):=x; exact qh e
 | own y=>have(_,e):=x; exact qh e
 | xd fs=>obtain⟨_,⟨_,_,_,e,_⟩,_⟩:=x; exact qh e
 | E5 lo hi=>have(_,_,_,e):=x; exact qh e
 | bg ob u _=>have(e,_):=x; exact qh e
 | jC ps=>exact qh (show h.get? a=some _ from x)
 | met f y=>exact qh (show h.get? a=some _ from x)
 | ext φ=>obtain⟨_,⟨_,e⟩,_⟩:=x; exact qh e
theorem Paired.gF{α β:Type}{F G:α->β->Prop}:∀ {kH:Qa α} {l₂:Qa β},Paired F kH l₂->(∀ a b,F a b->G a b)->Paired G kH l₂
 | _,_,.nil,_=>.nil
 | _,_,.cons r t,f=>.cons (f _ _ r)<|Paired.gF t f
theorem zI.kD(x:zI P w K H h a o)(f:o.flat=true)(k:∀ u,h.get? a=some u->h'.get? a=some u)(ht:∀ b xs,H b=some (.tup xs)->H' b=some (.tup xs)):zI P w K H' h' a o:=by
 cases o with
 | lst xs=>have(z,ai,n,r,e):=x; exact⟨z,ai,n,r,k _ e⟩
 | dK kvs=>have(z,y,vs,r,ob,es,ep,e,c):=x; exact⟨z,y,vs,r,ob,es,ep,k _ e,c⟩
 | dT kvs=>
  have(z,y,xs,r,ob,es,ep,e,c):=x;exact⟨z,y,xs,Paired.gF r λp q z=>⟨z.1,z.2.1.keeps ht,z.2.2⟩,ob,es,ep,k _ e,c⟩
 | dX kvs=>
  have(z,y,xs,r,ob,es,ep,e,c):=x;exact⟨z,y,xs,Paired.gF r λp q z=>⟨z.1,z.2.1.keeps ht,z.2.2⟩,ob,es,ep,k _ e,c⟩
 | _=>cases f
theorem zI.cz(x:zI P w K H h a o)(k:∀ b u,(b=a\/H b=some (.own a))->h.get? b=some u->h'.get? b=some u)
  (ho:∀ b,H b=some (.own a)->H' b=some (.own a)) (ht:∀ b xs,H b=some (.tup xs)->H' b=some (.tup xs)):zI P w K H' h' a o:=by
 induction o with
 | lst xs=>have(z,ai,n,r,e):=x; exact⟨z,ai,n,r,k _ _ (.inl rfl) e⟩
 | tup xs=>have(z,ai,r,ob,e,c):=x; exact⟨z,ai,r,ob,k _ _ (.inl rfl) e,c⟩
 | dK kvs=>have(z,y,vs,r,ob,es,ep,e,c):=x; exact⟨z,y,vs,r,ob,es,ep,k _ _ (.inl rfl) e,c⟩
 | dT kvs=>
  have(z,y,xs,r,ob,es,ep,e,c):=x;exact⟨z,y,xs,Paired.gF r λp q z=>⟨z.1,z.2.1.keeps ht,z.2.2⟩,ob,es,ep,k _ _ (.inl rfl) e,c⟩
 | dX kvs=>
  have(z,y,xs,r,ob,es,ep,e,c):=x;exact⟨z,y,xs,Paired.gF r λp q z=>⟨z.1,z.2.1.keeps ht,z.2.2⟩,ob,es,ep,k _ _ (.inl rfl) e,c⟩
 | set S n=>have(ob,es,ep,t,e,c):=x; exact⟨ob,es,ep,t,k _ _ (.inl rfl) e,c⟩
 | ins C dx fs=>
  obtain⟨d,z,ne,e,mA,⟨od,es,ep,e2,c⟩,r⟩:=x;exact⟨ho _ d,z,ne,k _ _ (.inl rfl) e,mA,⟨od,es,ep,k _ _ (.inr d) e2,c⟩,r⟩
 | own y=>have(ob,e):=x; exact⟨ob,k _ _ (.inl rfl) e⟩
 | xd fs=>obtain⟨mA,⟨od,es,ep,e,c⟩,r⟩:=x; exact⟨mA,⟨od,es,ep,k _ _ (.inl rfl) e,c⟩,r⟩
 | E5 lo hi=>have(t,u,v,e):=x; exact⟨t,u,v,k _ _ (.inl rfl) e⟩
 | bg ob u ih=>have(e,q):=x; exact⟨k _ _ (.inl rfl) e,ih q⟩
 | jC ps=>
  have e:h.get? a=some {cls:=.none,data:=.fields ps}:=x;show h'.get? a=some {cls:=.none,data:=.fields ps};exact k a _ (.inl rfl) e
 | met f y=>
  have e:h.get? a=some (PySem.W.methodObj (.ref f)<|.ref y):=x;show h'.get? a=some (PySem.W.methodObj (.ref f)<|.ref y);exact k a _ (.inl rfl) e
 | ext φ=>obtain⟨p,⟨o,e⟩,st⟩:=x; exact⟨st _ _ p λo q=>k _ _ (.inl rfl) q,⟨o,k _ _ (.inl rfl) e⟩,st⟩
 | sub b p u _ ih=>have(y,e,n,f,q):=x; exact⟨ih y,ho _ e,n,f,q.kD f (λu z=>k _ _ (.inr e) z) ht⟩
theorem bD.lt(x:bD P w K H h)(e:H a=some o):a < h.objs.size:=(x a o e).lt
theorem bD.fresh(x:bD P w K H h)(e:h.objs.size<=a):H a=none:=by
 cases q:H a with
 | none=>rfl
 | some u=>exact absurd (qi (x.lt q) e)<|Ð _
theorem bD.kept(x:bD P w K H h)(k:∀ b u,h.get? b=some u->h'.get? b=some u):bD P w K H h':=λa o e=>
 (x a o e).cz (λb u _ q=>k b u q) (λ_ q=>q) λ_ _ q=>q
theorem bD.laid(x:bD P w K H h)(k:∀ b u,h.get? b=some u->h'.get? b=some u)(hp:h.objs.size<=a)(new:zI P w K (upd H a o) h' a o):bD P w K (upd H a o) h':=λb u e=>by
 have hn:=x.fresh hp
 by_cases hb:b=a
 .subst hb; rw[zr]at e; cases e; exact new
 .rw[zt hb]at e
  exact(x b u e).cz (λc v _ q=>k c v q) (λc q=>by rw[zt<|i6 q hn]; exact q) λc xs q=>by rw[zt<|i6 q hn]; exact q
end
def Rd(H:Hp)(a:Qg)(u:HO):Prop:=H a=some u\/∃ o,H a=some (.bg o u)
theorem Rd.ok{P:Qe}{w:Qh}{K:qc}{H:Hp}{h:Heap}{a:Qg}{u:HO}(r:Rd H a u)(x:bD P w K H h):zI P w K H h a u:=by
 rcases r with r|⟨o,r⟩
 .exact x a u r
 .have(_,q):=x a _ r
  exact q
def wY:Qb HO->Prop
 | some (.lst _)=>True
 | some (.dK _)=>True
 | some (.dT _)=>True
 | some (.set _ _)=>True
 | some (.ins _ _ _)=>True
 | some (.ext _)=>True
 | some (.sub _ _ _)=>True
 | some (.dX _)=>True
 | _=>False
section
variable{P:Qe}{w:Qh}{K:qc}{H:Hp}{h h':Heap}{x e:Qg}{o':HO}
theorem bD.write(ok:bD P w K H h)(mu:wY (H x))(he:e=x\/H e=some (.own x))(k:∀ b u,b≠e->h.get? b=some u->h'.get? b=some u)(tS:∃ u,h'.get? e=some u)
  (new:zI P w K (upd H x o') h' x o'):bD P w K (upd H x o') h':=λb u q=>by
 have vT:∀ c y,H c=some (.own y)->c≠x:=λc y r z=>by subst z; rw[r]at mu; exact mu
 have Fe:∀ c xs,H c=some (.tup xs)->c≠x:=λc xs r z=>by subst z; rw[r]at mu; exact mu
 by_cases hb:b=x
 .subst hb; rw[zr]at q; cases q; exact new
 .rw[zt hb]at q
  by_cases rn:b=e
  .have q':H b=some (.own x):=by
    rcases he with z|z
    .exact absurd (rn.trans z) hb
    .rw[rn]; exact z
   rw[q]at q'; cases q';have(v,hv):=tS;exact⟨v,by rw[rn]; exact hv⟩
  .refine(ok b u q).cz (λc v hc r=>k c v ?_ r) (λc r=>by rw[zt<|vT c b r]; exact r) λc xs r=>by rw[zt<|Fe c xs r]; exact r
   rcases hc with rfl|hc
   .exact rn
   .rintro rfl
    rcases he with z|z
    .exact vT c b hc z
    .rw[hc]at z; cases z; exact hb rfl
end
structure Un (fs ex:Qa Qg) (H H':Hp) (h h':Heap):Prop where
 keep:∀ b o,h.get? b=some o->H b=none->b∉fs->b∉ex->h'.get? b=some o
 slot:∀ b o,h.get? b=some o->H b=none->b∈fs->b∉ex->∃ sl,h'.get? b=some {o with slots:=sl}
 free:∀ b o,h.get? b=some o->H b=none->b∉ex->H' b=none
 there:∀ b o,h.get? b=some o->b∉ex->∃ o',h'.get? b=some o'
 dZ:∀ b xs,H b=some (.tup xs)->H' b=some (.tup xs)
 dE:∀ b o u,H b=some (.bg o u)->H' b=some (.bg o u)
 eX:∀ b ps,H b=some (.jC ps)->∃ more,H' b=some (.jC<|ps++more)
section
variable{fs fs' ex ex':Qa Qg}{H H1 H2:Hp}{h h1 h2 h':Heap}{a x e:Qg}{o:HO}
theorem Un.any(u:Un fs ex H H1 h h1){b:Qg}{ob:Obj}(q:h.get? b=some ob)(n:H b=none)(hx:b∉ex):∃ sl,h1.get? b=some {ob with slots:=sl}:=by
 by_cases hb:b∈fs
 .exact u.slot b ob q n hb hx
 .exact⟨ob.slots,u.keep b ob q n hb hx⟩
theorem Un.kept(k:∀ b u,h.get? b=some u->h'.get? b=some u):Un fs ex H H h h' :=
 ⟨λb ob q _ _ _=>k b ob q,λb ob q _ _ _=>⟨ob.slots,k b ob q⟩,λ_ _ _ n _=>n,λb ob q _=>⟨ob,k b ob q⟩,λ_ _ q=>q,λ_ _ _ q=>q,λ_ ps q=>⟨#[],by rw[q]; simp⟩⟩
theorem Un.refl:Un fs ex H H h h:=Un.kept λ_ _ q=>q
theorem Un.laid(k:∀ b u,h.get? b=some u->h'.get? b=some u)(hp:h.objs.size<=a)(hn:H a=none):Un fs ex H (upd H a o) h h' where
 keep:=λb u q _ _ _=>k b u q
 slot:=λb u q _ _ _=>⟨u.slots,k b u q⟩
 free:=λb u q n _=>by rw[zt<|qj<|qi (qh q) hp]; exact n
 there:=λb u q _=>⟨u,k b u q⟩
 dZ:=λb xs q=>by rw[zt<|i6 q hn]; exact q
 dE:=λb u xs q=>by rw[zt<|i6 q hn]; exact q
 eX:=λb ps q=>⟨#[],by rw[zt<|i6 q hn,q]; simp⟩
theorem Un.write(mu:wY (H x))(he:e=x\/H e=some (.own x))(k:∀ b u,b≠e->h.get? b=some u->h'.get? b=some u)(tS:∃ u,h'.get? e=some u):Un fs ex H (upd H x o) h h':=by
 have hx:∀ b,H b=none->b≠x:=λb n z=>by subst z; rw[n]at mu; exact mu
 have hb:∀ b,H b=none->b≠e:=λb n z=>by
  subst z;rcases he with r|r
  .exact hx b n r
  .rw[n]at r; cases r
 have hm:∀ b u,H b=some u->¬wY (some u)->b≠x:=λb u q nm z=>by subst z; rw[q]at mu; exact nm mu
 refine⟨λb u q n _ _=>k b u (hb b n) q,λb u q n _ _=>⟨u.slots,k b u (hb b n) q⟩,λb u q n _=>by rw[zt<|hx b n]; exact n,λb u q _=>?_,
  λb xs q=>by rw[zt<|hm b _ q λz=>z]; exact q,λb u xs q=>by rw[zt<|hm b _ q λz=>z]; exact q,λb ps q=>⟨#[],by rw[zt<|hm b _ q λz=>z,q]; simp⟩⟩
 by_cases rn:b=e
 .subst rn; exact tS
 .exact⟨u,k b u rn q⟩
end
def AG(h:Heap)(H:Hp):Qa Qg:=(List.range h.objs.size).filter λa=>(H a).isSome
def l5(h:Heap)(H:Hp):Heap:=PySem.W.hideAll h (AG h H)
theorem Yp(h:Heap)(H:Hp):(l5 h H).objs.size=h.objs.size:=PySem.W.hideAll_size _ _
theorem XJ{h:Heap}{H:Hp}{b:Qg}{o:Obj}(e:h.get? b=some o)(n:H b=none):(l5 h H).get? b=some o :=
 PySem.W.hideAll_get _ e λhm=>by
  have q:(H b).isSome=true:=(Õ.mp hm).2;rw[n]at q; simp at q
theorem UW{h:Heap}{H:Hp}{b:Qg}{o:Obj}(e:(l5 h H).get? b=some o):h.get? b=some o/\H b=none:=by
 have e':h.get? b=some o:=PySem.W.of_hideAll (AG h H) e;refine⟨e',?_⟩;cases q:H b with
 | none=>rfl
 | some x=>
  have hm:b∈AG h H:=Õ.mpr ⟨Ý.mpr<|qh e',by simp[q]⟩;have z:(l5 h H).get? b=none:=PySem.W.hideAll_none (AG h H) hm;rw[z]at e; cases e
def UU(g h:Heap)(L:Qg):Qa (Qg×Obj):=(List.range h.objs.size).filterMap λa=>if a=L\/(g.get? a).isSome=true then none else(h.get? a).map λo=>(a,o)
def rest(g h:Heap)(L d:Qg):Qa (Qg×Obj):=(UU g h L).filter λp=>decide<|p.1≠d
structure Mod (K:qc) (mg:Str->Qb Qc) (base:Heap):Prop where
 cY:K.In base
 glob:base.Ns mainGlobals mg
 blt:∃ mb,base.Ns builtinsNs mb/\∀ x:Str,x ≠ "__name__"->mb x=bootBuiltins x
 nolimit:base.NoLimit
structure Cx where
 prog:Qe
 w:Qh
 K:qc
 mg:Str->Qb Qc
 base:Heap
 A:Qf
 N:Qa Str
 aZ:Qd
 H₀:Hp
 env:Env
 outer:Qa Env
 stack:Qa Env
 ex:Qa Qg
 fn:Str->Bool
 calm:Bool
 pn:Qa (Qg×Obj)
 xe:Qc->Qd->Prop
def ji(l:Qa Env):Qa Qg:=l.filterMap (·.frame)
abbrev Cx.fs(X:Cx):Qa Qg:=ji X.outer
def Bj(sc:Scope)(x:Str):Prop:=sc.names.lookup x=some .local\/sc.names.lookup x=some .cell\/sc.names.lookup x=some .free
def Loc(sc:Scope)(x:Str):Prop:=sc.names.lookup x=some .local\/sc.names.lookup x=some .cell
def zA9(env:Env)(h:Heap)(m:Str->Qb Qc)(x:Str)(u:Qc):Prop :=
 (env.kindOf x=some .local/\m x=some u)\/((env.kindOf x=some .cell\/env.kindOf x=some .free)/\∃ c,env.cells.lookup x=some c/\h.IsCell c (some u))
structure Cx.Ok (X:Cx):Prop where
 mod:Mod X.K X.mg X.base
 kind:X.env.scope.kind=.function
 glob:X.env.globals=mainGlobals
 blt:X.env.builtins=builtinsNs
 above:X.aZ.heap.objs.size<=X.env.locals
 inj:∀ x y c,X.env.cells.lookup x=some c->X.env.cells.lookup y=some c->x=y
 has:∀ x,(X.env.kindOf x=some .cell\/X.env.kindOf x=some .free)->∃ c,X.env.cells.lookup x=some c
 tW:∀ x c,X.fn x=true->X.env.cells.lookup x=some c->X.aZ.heap.objs.size<=c
 hd:X.calm=true->X.A.handled=none
 frames:X.A.frames=some X.stack
 vP:X.stack=X.outer\/(X.stack=X.env::X.outer/\X.env.frame=some X.env.locals)
 Be:∀ b∈X.ex,b≠X.env.locals/\∀ x c,X.env.cells.lookup x=some c->c≠b
 bs:∀ b o,X.base.get? b=some o->X.aZ.heap.get? b=some o/\X.H₀ b=none
 lU:X.base.objs.size<=X.aZ.heap.objs.size
 jb:∀ b o,X.base.get? b=some o->b∉X.ex
 kS:∀ b∈X.ex,b∉X.fs
 dg:X.aZ.heap.FunFrames X.base X.outer
 o9:∀ b∈X.fs,X.H₀ b=none
structure Inv (X:Cx) (pins:Qa (Qg×Obj)) (σ:Qa (Qb V)) (H:Hp) (s:Qd):Prop where
 ok:X.Ok
 os:s.os=X.aZ.os
 bare:AllBare s.gens
 base:Un X.fs X.ex X.H₀ H X.aZ.heap s.heap
 loc:∃ m,s.heap.Ns X.env.locals m/\∀ (i:Nat) (x:Str) (v:V),X.N[i]?=some x->σ[i]?=some (some v)->Bj X.env.scope x->∃ u,zD v u/\zA9 X.env s.heap m x u
 cell:∀ x c,X.env.cells.lookup x=some c->∃ v,s.heap.IsCell c v
 free:H X.env.locals=none
 bJ:∀ x c,X.env.cells.lookup x=some c->H c=none
 pin:∀ p∈X.pn++pins,s.heap.get? p.1=some p.2/\H p.1=none/\p.1≠X.env.locals/\p.1∉X.fs/\∀ v,p.2.data≠.cell v
 aw:bD X.prog X.w X.K H s.heap
 len:σ.length=X.N.length
section
variable{X:Cx}{pins:Qa (Qg×Obj)}{σ:Qa (Qb V)}{H H':Hp}{s:Qd}{h':Heap}
theorem Cx.Ok.Fg(ok:X.Ok){b:Qg}{o:Obj}(e:X.base.get? b=some o):b∉X.fs:=λhb=>by
 have:=(ok.dg.mem hb).1;rw[e]at this; cases this
theorem Inv.bs(I:Inv X pins σ H s):∀ b o,X.base.get? b=some o->s.heap.get? b=some o/\H b=none:=λb o e=>
 ⟨I.base.keep b o (I.ok.bs b o e).1 (I.ok.bs b o e).2 (I.ok.Fg e)<|I.ok.jb b o e,I.base.free b o (I.ok.bs b o e).1 (I.ok.bs b o e).2<|I.ok.jb b o e⟩
theorem Inv.bk(I:Inv X pins σ H s):∀ b o,X.base.get? b=some o->s.heap.get? b=some o:=λb o e=>(I.bs b o e).1
theorem Inv.mod(I:Inv X pins σ H s):Mod X.K X.mg X.base:=I.ok.mod
theorem Inv.aW(I:Inv X pins σ H s):X.K.In s.heap:=I.ok.mod.cY.keeps I.bk
theorem Inv.fr(I:Inv X pins σ H s):∃ m,Fr X.base X.env.locals s.heap m :=
 let ⟨m,hn,_⟩:=I.loc
 ⟨m,hn,I.bk,qy I.ok.lU I.ok.above⟩
theorem Inv.lt(I:Inv X pins σ H s):X.env.locals < s.heap.objs.size:=let ⟨_,hn,_⟩:=I.loc; hn.lt
theorem Inv.sz(I:Inv X pins σ H s):X.aZ.heap.objs.size<=s.heap.objs.size:=qy I.ok.above (Nat.le_of_lt I.lt)
theorem Inv.Ff(I:Inv X pins σ H s){a:Qg}(h:s.heap.objs.size<=a):a∉X.fs:=λhb=>by
 have(_,o,ho,_):=I.ok.dg.mem hb;exact absurd (qi (qh ho)<|qy I.sz h)<|Ð _
theorem Inv.lT(I:Inv X pins σ H s):∀ x c,X.env.cells.lookup x=some c->c≠X.env.locals:=λx c e z=>by
 have(v,o,ho,hd):=I.cell x c e;obtain⟨m,⟨o',es,ep,c9,jI,_⟩,_⟩:=I.loc;rw[z,c9]at ho; cases ho; rw[jI]at hd; cases hd
theorem Inv.dg(I:Inv X pins σ H s):s.heap.FunFrames X.base X.outer:=by
 have all:∀ (l:Qa Env),(∀ b∈ji l,b∈X.fs)->X.aZ.heap.FunFrames X.base l->s.heap.FunFrames X.base l:=by
  intro l
  induction l with
  | nil=>intro _ _; trivial
  | cons env r ih=>
   intro hs hl;obtain⟨hk,⟨L,o,hf,hn,ho,hd⟩,hr⟩:=hl;have hL:L∈X.fs:=hs L (by unfold ji; rw[List.filterMap_cons,hf]; exact qp);have(sl,e):=I.base.slot L o ho (I.ok.o9 L hL) hL λz=>I.ok.kS L z hL;exact⟨hk,⟨L,_,hf,hn,e,hd⟩,ih (λb hb=>hs b (by unfold ji; rw[List.filterMap_cons,hf]; exact qo _ hb)) hr⟩
 exact all X.outer (λ_ hb=>hb) I.ok.dg
theorem Inv.stack(I:Inv X pins σ H s):s.heap.FunFrames X.base X.stack:=by
 rcases I.ok.vP with e|⟨e,hf⟩
 .rw[e]; exact I.dg
 .rw[e]
  have(m,hn,_):=I.loc;refine .cons (by rw[I.ok.kind]; decide) hf hn ?_ I.dg;exact Heap.get?_none_of_le<|qy I.ok.lU I.ok.above
theorem Inv.fK(I:Inv X pins σ H s):∀ b∈ji X.stack,b∈X.env.locals::X.fs:=λb hb=>by
 rcases I.ok.vP with e|⟨e,hf⟩
 .rw[e]at hb; exact qo _ hb
 .rw[e]at hb
  unfold ji at hb;rw[List.filterMap_cons,hf]at hb;exact hb
theorem Inv.iL(I:Inv X pins σ H s):∀ b∈ji X.stack,H b=none:=λb hb=>by
 rcases qv.mp (I.fK b hb)with e|hb
 .rw[e]; exact I.free
 .have(_,o,ho,_):=I.ok.dg.mem hb
  exact I.base.free b o ho (I.ok.o9 b hb) λz=>I.ok.kS b z hb
theorem Inv.step{g':Array GenState}{t':Nat}{d':Drawn}{ch:Qa Qg}(I:Inv X pins σ H s)
  (je:∀ b∈ch,(b∈X.ex\/X.aZ.heap.objs.size<=b)/\b≠X.env.locals/\(∀ x c,X.env.cells.lookup x=some c->c≠b)/\∀ p∈X.pn++pins,p.1≠b)
  (keep:∀ b o,b≠X.env.locals->b∉X.fs->b∉ch->s.heap.get? b=some o->H b=none->h'.get? b=some o)
  (slot:∀ b o,b≠X.env.locals->b∈X.fs->b∉ch->s.heap.get? b=some o->H b=none->∃ sl,h'.get? b=some {o with slots:=sl}) (free:∀ b o,b∉ch->s.heap.get? b=some o->H b=none->H' b=none)
  (there:∀ b o,b∉ch->s.heap.get? b=some o->∃ o',h'.get? b=some o')
  (dZ:∀ b xs,H b=some (.tup xs)->H' b=some (.tup xs)) (dE:∀ b o u,H b=some (.bg o u)->H' b=some (.bg o u)) (eX:∀ b ps,H b=some (.jC ps)->∃ more,H' b=some (.jC<|ps++more))
  (ns:∀ m,s.heap.Ns X.env.locals m->h'.Ns X.env.locals m) (aw:bD X.prog X.w X.K H' h') (hg:AllBare g'):
  Inv X pins σ H' {s with heap:=h',gens:=g',drawn:=d',toks:=t'}:=by
 have Nu:∀ b o,X.aZ.heap.get? b=some o->b≠X.env.locals:=λb o e=>qj<|qi (qh e) I.ok.above;have AR:∀ b o,X.aZ.heap.get? b=some o->b∉X.ex->b∉ch:=λb o e hx hb=>by
  rcases(je b hb).1 with z|z
  .exact hx z
  .exact absurd (qi (qh e) z) (Ð _)
 have cellK:∀ x c,X.env.cells.lookup x=some c->∀ v,s.heap.IsCell c v->h'.IsCell c v:=λx c e v ⟨o,ho,hd⟩=>by
  have vX:c∉ch:=λz=>(je c z).2.2.1 x c e rfl
  by_cases hc:c∈X.fs
  .have(sl,q):=slot c o (I.lT x c e) hc vX ho (I.bJ x c e)
   exact⟨_,q,hd⟩
  .exact⟨o,keep c o (I.lT x c e) hc vX ho<|I.bJ x c e,hd⟩
 refine⟨I.ok,I.os,hg,⟨λb o e n hb hx=>?_,λb o e n hb hx=>?_,λb o e n hx=>?_,λb o e hx=>?_,λb xs e=>dZ b xs<|I.base.dZ b xs e,λb o xs e=>dE b o xs<|I.base.dE b o xs e,λb ps e=>?_⟩,?_,λx c e=>?_,?_,λx c e=>?_,λp hp=>?_,aw,I.len⟩
 .exact keep b o (Nu b o e) hb (AR b o e hx) (I.base.keep b o e n hb hx) (I.base.free b o e n hx)
 .have(sl,e1):=I.base.slot b o e n hb hx
  have(sl',e2):=slot b _ (Nu b o e) hb (AR b o e hx) e1 (I.base.free b o e n hx);exact⟨sl',e2⟩
 .have(o',e1):=I.base.there b o e hx
  exact free b o' (AR b o e hx) e1<|I.base.free b o e n hx
 .have(o',e1):=I.base.there b o e hx
  exact there b o' (AR b o e hx) e1
 .have(m1,e1):=I.base.eX b ps e
  have(m2,e2):=eX b _ e1;exact⟨m1++m2,by rw[e2,Array.append_assoc]⟩
 .have(m,hn,hl):=I.loc
  refine⟨m,ns m hn,λi x v e1 e2 e3=>?_⟩;have(u,r,l):=hl i x v e1 e2 e3;refine⟨u,r,?_⟩;rcases l with l|⟨k,c,e,z⟩
  .exact .inl l
  .exact .inr ⟨k,c,e,cellK x c e _ z⟩
 .have(v,z):=I.cell x c e
  exact⟨v,cellK x c e v z⟩
 .obtain⟨m,⟨o,_,_,ho,_⟩,_⟩:=I.loc
  exact free _ o (λz=>(je _ z).2.1 rfl) ho I.free
 .have(v,o,ho,hd):=I.cell x c e
  exact free c o (λz=>(je c z).2.2.1 x c e rfl) ho<|I.bJ x c e
 .have(e,n,ne,nf,d):=I.pin p hp
  have vX:p.1∉ch:=λz=>(je p.1 z).2.2.2 p hp rfl;exact⟨keep p.1 p.2 ne nf vX e n,free p.1 p.2 vX e n,ne,nf,d⟩
theorem Inv.un{t':Nat}(I:Inv X pins σ H s)(u:Un X.fs [] H H' s.heap h')(aw:bD X.prog X.w X.K H' h'):Inv X pins σ H' {s with heap:=h',toks:=t'}:=by
 obtain⟨m,⟨o,es,ep,ho,r⟩,_⟩:=id I.loc;have(sl,hL):=u.any ho I.free (by simp);exact I.step (g':=s.gens) (d':=s.drawn) (ch:=[]) (λ_ z=>nomatch z) (λb o _ hb _ e n=>u.keep b o e n hb (by simp)) (λb o _ hb _ e n=>u.slot b o e n hb (by simp)) (λb o _ e n=>u.free b o e n (by simp)) (λb o _ e=>u.there b o e (by simp)) u.dZ u.dE u.eX (λm' hm=>by
  have(o',rD,gJ,c9,r'):=hm;rw[ho]at c9; cases c9;exact⟨_,rD,gJ,hL,r'⟩) aw I.bare
theorem Inv.call{g':Array GenState}{t':Nat}{d':Drawn}{ch:Qa Qg}(I:Inv X pins σ H s)(u:Un (ji X.stack) ch H H' s.heap h')(aw:bD X.prog X.w X.K H' h')(hg:AllBare g')
  (je:∀ b∈ch,(b∈X.ex\/X.aZ.heap.objs.size<=b)/\b≠X.env.locals/\(∀ x c,X.env.cells.lookup x=some c->c≠b)/\∀ p∈X.pn++pins,p.1≠b):
  Inv X pins σ H' {s with heap:=h',gens:=g',drawn:=d',toks:=t'}:=by
 obtain⟨m,⟨o,es,ep,ho,r⟩,_⟩:=id I.loc;have(sl,hL):=u.any ho I.free λz=>(je _ z).2.1 rfl;exact I.step (ch:=ch) je (λb o hL hb hc e n=>u.keep b o e n (λz=>(qv.mp<|I.fK b z).elim hL hb) hc) (λb o _ _ hc e n=>u.any e n hc) (λb o hc e n=>u.free b o e n hc) (λb o hc e=>u.there b o e hc) u.dZ u.dE u.eX (λm' hm=>by
  have(o',rD,gJ,c9,r'):=hm;rw[ho]at c9; cases c9;exact⟨_,rD,gJ,hL,r'⟩) aw hg
theorem Inv.turned{t':Nat}{it:Qg}(I:Inv X pins σ H s)(k:∀ b o,b≠it->s.heap.get? b=some o->h'.get? b=some o)(hn:H it=none)(hL:it≠X.env.locals)
  (h1:it∈X.ex\/X.aZ.heap.objs.size<=it) (h2:∀ x c,X.env.cells.lookup x=some c->c≠it) (h3:∀ p∈X.pn++pins,p.1≠it):Inv X pins σ H {s with heap:=h',toks:=t'}:=by
 have vW:∀ b u,H b=some u->b≠it:=λb u e z=>by rw[z,hn]at e; cases e
 refine I.step (g':=s.gens) (d':=s.drawn) (ch:=[it]) (λb hb=>?_) (λb o _ _ hc e _=>k b o (λz=>hc (by simp[z])) e) (λb o _ _ hc e _=>⟨o.slots,k b o (λz=>hc (by simp[z])) e⟩) (λ_ _ _ _ n=>n)
  (λb o hc e=>⟨o,k b o (λz=>hc (by simp[z])) e⟩) (λ_ _ e=>e) (λ_ _ _ e=>e) (λb ps e=>⟨#[],by rw[e]; simp⟩) (λm hm=>?_) (λb u e=>?_) I.bare
 .have e:b=it:=by simpa using hb
  subst e;exact⟨h1,hL,h2,h3⟩
 .have(o,es,ep,ho,r):=hm
  exact⟨o,es,ep,k _ o (Ne.symm hL) ho,r⟩
 .refine(I.aw b u e).cz (λc v hc q=>k c v ?_ q) (λ_ q=>q) λ_ _ q=>q
  rcases hc with z|z
  .rw[z]; exact vW b u e
  .exact vW c _ z
theorem Inv.tok(I:Inv X pins σ H s)(t:Nat):Inv X pins σ H {s with toks:=t}:=I.un (h':=s.heap) (t':=t) Un.refl I.aw
theorem Inv.kept{t':Nat}(I:Inv X pins σ H s)(k:∀ b u,s.heap.get? b=some u->h'.get? b=some u):Inv X pins σ H {s with heap:=h',toks:=t'}:=I.un (Un.kept k) (I.aw.kept k)
theorem Inv.laid{a:Qg}{o:HO}{t':Nat}(I:Inv X pins σ H s)(k:∀ b u,s.heap.get? b=some u->h'.get? b=some u)(hp:s.heap.objs.size<=a)(new:zI X.prog X.w X.K (upd H a o) h' a o):
  Inv X pins σ (upd H a o) {s with heap:=h',toks:=t'}:=I.un (Un.laid k hp<|I.aw.fresh hp) (I.aw.laid k hp new)
theorem Inv.write{x e:Qg}{o:HO}{t':Nat}(I:Inv X pins σ H s)(mu:wY (H x))(he:e=x\/H e=some (.own x))(k:∀ b u,b≠e->s.heap.get? b=some u->h'.get? b=some u)(tS:∃ u,h'.get? e=some u)
  (new:zI X.prog X.w X.K (upd H x o) h' x o):Inv X pins σ (upd H x o) {s with heap:=h',toks:=t'}:=I.un (Un.write mu he k tS) (I.aw.write mu he k tS new)
theorem Inv.weak{aG:Qa (Qb V)}(I:Inv X pins σ H s)(hl:aG.length=σ.length)(w:∀ (i:Nat) v,aG[i]?=some (some v)->σ[i]?=some (some v)):Inv X pins aG H s :=
 ⟨I.ok,I.os,I.bare,I.base,let ⟨m,hn,A6⟩:=I.loc; ⟨m,hn,λi x v e1 e2 e3=>A6 i x v e1 (w i v e2) e3⟩,I.cell,I.free,I.bJ,I.pin,I.aw,hl.trans I.len⟩
theorem Inv.dP{oK:Qa (Qg×Obj)}(I:Inv X pins σ H s)(h:∀ p∈oK,s.heap.get? p.1=some p.2/\H p.1=none/\p.1≠X.env.locals/\p.1∉X.fs/\∀ v,p.2.data≠.cell v):Inv X oK σ H s :=
 ⟨I.ok,I.os,I.bare,I.base,I.loc,I.cell,I.free,I.bJ,λp hp=>(Á.mp hp).elim (λz=>I.pin p<|Â _ z)<|h p,I.aw,I.len⟩
theorem Kn{N:Qa Str}(hN:N.Nodup){i j:Nat}{x:Str}(a:N[i]?=some x)(b:N[j]?=some x):i=j:=by
 have(h1,e1):=qk.mp a;have(h2,e2):=qk.mp b;exact(List.getElem_inj hN).mp<|e1.trans e2.symm
theorem KO{M:Model}{A:Qf}{E:Qc->Qd->Prop}{i:Nat}{x:Str}{v:V}{u:Qc}{Q:Unit->Qd->Prop}(I:Inv X pins σ H s)(hN:X.N.Nodup)(hi:X.N[i]?=some x)(hx:Loc X.env.scope x)(r:zD v u)
  (h:∀ s',Inv X pins (σ.set i<|some v) H s'->(∃ a,Heap.SameBut a s.heap s'.heap/\(a=X.env.locals\/X.env.cells.lookup x=some a))->Q () s') (hf:X.fn x=true\/X.env.scope.names.lookup x=some .local:=by first|exact .inl rfl|exact .inr rfl|assumption):wpAny M A (storeName X.env x u) Q E s:=by
 have(m,hn,hl):=id I.loc;have F7:(X.env.scope.kind==.class || (X.env.scope.kind==.module && X.env.locals != X.env.globals))=false:=by rw[I.ok.kind]; rfl
 have wy:i < σ.length:=by rw[I.len]; exact(qk.mp hi).1
 have lT:=I.lT;have tracked:∀ {a:Qg} {h':Heap},(∃ o,s.heap.get? a=some o/\H a=none)->Heap.SameBut a s.heap h'->bD X.prog X.w X.K H h':=λ{a h'} ha hs b ob e=>by
  have(_,_,oY):=ha;refine(I.aw b ob e).cz (λc w' hc q=>(hs.2 c ?_).trans q) (λ_ q=>q) λ_ _ q=>q;rintro rfl;rcases hc with rfl|hc
  .rw[oY]at e; cases e
  .rw[oY]at hc; cases hc
 rcases hx with hk|hk
 .refine wpAny_storeName_local hk hn (λh' hn' hs=>?_) F7
  have(oL,_,_,hoL,_):=id hn;refine h _ ⟨I.ok,I.os,I.bare,⟨λb o e n hb hx=>?_,λb o e n hb hx=>?_,I.base.free,λb o e hx=>?_,I.base.dZ,I.base.dE,I.base.eX⟩,⟨_,hn',λj y v' e1 e2 e3=>?_⟩,λy c e=>?_,I.free,I.bJ,λp hp=>?_,tracked ⟨oL,hoL,I.free⟩ hs,by simpa using I.len⟩ ⟨_,hs,.inl rfl⟩
  .exact(hs.2 b<|qj<|qi (qh e) I.ok.above).trans (I.base.keep b o e n hb hx)
  .have(sl,e1):=I.base.slot b o e n hb hx
   exact⟨sl,(hs.2 b<|qj<|qi (qh e) I.ok.above).trans e1⟩
  .have(o',e1):=I.base.there b o e hx
   exact⟨o',(hs.2 b<|qj<|qi (qh e) I.ok.above).trans e1⟩
  .by_cases hj:j=i
   .subst hj
    rw[hi]at e1; cases e1;rw[List.getElem?_set_self wy]at e2;cases e2;exact⟨u,r,.inl ⟨hk,by simp⟩⟩
   .rw[qC<|Ne.symm hj]at e2
    have(u',r',q):=hl j y v' e1 e2 e3;refine⟨u',r',?_⟩;rcases q with⟨k,e⟩|⟨k,c,e,z⟩
    .refine .inl ⟨k,?_⟩
     have:y≠x:=λe=>hj<|Kn hN e1<|e▸hi;simp[this,e]
    .exact .inr ⟨k,c,e,z.sameBut hs<|lT y c e⟩
  .have(w',z):=I.cell y c e
   exact⟨w',z.sameBut hs<|lT y c e⟩
  .have(e,n,ne,nf,d):=I.pin p hp
   exact⟨(hs.2 p.1 ne).trans e,n,ne,nf,d⟩
 .have F5:X.fn x=true:=by
   rcases hf with z|z
   .exact z
   .rw[z]at hk; cases hk
  have(c,hc):=I.ok.has x (.inl hk);have(w',z):=I.cell x c hc;refine wpAny_storeName_cell I.ok.kind hk hc z λh' jg hs=>?_;have(oc,NO,FW):=id z;refine h {s with heap:=h'} ⟨I.ok,I.os,I.bare,⟨λb o e n hb hx=>?_,λb o e n hb hx=>?_,I.base.free,λb o e hx=>?_,I.base.dZ,I.base.dE,I.base.eX⟩,⟨m,hn.sameBut hs<|Ne.symm<|lT x c hc,λj y v' e1 e2 e3=>?_⟩,λy c' e=>?_,I.free,I.bJ,λp hp=>?_,tracked ⟨oc,NO,I.bJ x c hc⟩ hs,by simpa using I.len⟩ ⟨c,hs,.inr hc⟩
  .exact(hs.2 b<|qj<|qi (qh e)<|I.ok.tW x c F5 hc).trans (I.base.keep b o e n hb hx)
  .have(sl,e1):=I.base.slot b o e n hb hx
   exact⟨sl,(hs.2 b<|qj<|qi (qh e)<|I.ok.tW x c F5 hc).trans e1⟩
  .have(o',e1):=I.base.there b o e hx
   exact⟨o',(hs.2 b<|qj<|qi (qh e)<|I.ok.tW x c F5 hc).trans e1⟩
  .by_cases hj:j=i
   .subst hj
    rw[hi]at e1; cases e1;rw[List.getElem?_set_self wy]at e2;cases e2;exact⟨u,r,.inr ⟨.inl hk,c,hc,jg⟩⟩
   .rw[qC<|Ne.symm hj]at e2
    have(u',r',q):=hl j y v' e1 e2 e3;refine⟨u',r',?_⟩;rcases q with q|⟨k,c',e,z'⟩
    .exact .inl q
    .refine .inr ⟨k,c',e,z'.sameBut hs ?_⟩
     rintro rfl;exact hj<|Kn hN e1<|I.ok.inj _ _ _ e hc▸hi
  .by_cases NU:c'=c
   .subst NU; exact⟨_,jg⟩
   .have(w2,z2):=I.cell y c' e
    exact⟨w2,z2.sameBut hs NU⟩
  .have(e,n,ne,nf,d):=I.pin p hp
   refine⟨(hs.2 p.1 ?_).trans e,n,ne,nf,d⟩;intro q;rw[q,NO]at e;have q':oc=p.2:=qx e;exact d w' (by rw[<-q']; exact FW)
theorem Ac{M:Model}{A:Qf}{E:Qc->Qd->Prop}{i:Nat}{x:Str}{v:V}{u:Qc}{Q:Unit->Qd->Prop}(I:Inv X pins σ H s)(hN:X.N.Nodup)(hi:X.N[i]?=some x)(hx:Loc X.env.scope x)(r:zD v u)
  (h:∀ s',Inv X pins (σ.set i<|some v) H s'->Q () s') (hf:X.fn x=true\/X.env.scope.names.lookup x=some .local:=by first|exact .inl rfl|exact .inr rfl|assumption):wpAny M A (storeName X.env x u) Q E s :=
 KO I hN hi hx r (λs' I' _=>h s' I') hf
theorem Inv.wU{s':Qd}{ch:Qa Qg}(I:Inv X pins σ H s)(ho:s'.os=s.os)(u:Un (ji X.stack) ch H H' s.heap s'.heap)(aw:bD X.prog X.w X.K H' s'.heap)(hg:AllBare s'.gens)
  (je:∀ b∈ch,(b∈X.ex\/X.aZ.heap.objs.size<=b)/\b≠X.env.locals/\(∀ x c,X.env.cells.lookup x=some c->c≠b)/\∀ p∈X.pn++pins,p.1≠b):Inv X pins σ H' s':=by
 have(h',g',d',t',o'):=s';have e:o'=s.os:=ho;subst e;exact I.call (g':=g') (t':=t') (d':=d') u aw hg je
end
abbrev XK:=Qc->Qb Qg->Hp->Prop
abbrev St:=Qa (Qb V)
abbrev VK:=V->Hp->Prop
abbrev TE:=St->Hp->VK->Prop
abbrev TT:=St->Hp->(Bool->Hp->Prop)->Prop
abbrev TA:=St->Hp->(Qa V->Hp->Prop)->Prop
structure Ends where
 nx:St->Hp->Prop
 rt:VK
 bk:St->Hp->Prop:=λ_ _=>False
 ct:St->Hp->Prop:=λ_ _=>False
abbrev TS:=Ends->St->Hp->Prop
def EP(X:Cx)(pins:Qa (Qg×Obj))(σ:St)(Q:VK)(u:Qc)(s':Qd):Prop:=∃ v H',Inv X pins σ H' s'/\zD v u/\Q v H'
def TP(X:Cx)(pins:Qa (Qg×Obj))(σ:St)(Q:Bool->Hp->Prop)(b:Bool)(s':Qd):Prop:=∃ H',Inv X pins σ H' s'/\Q b H'
def AP(X:Cx)(pins:Qa (Qg×Obj))(σ:St)(Q:Qa V->Hp->Prop)(us:Qa Qc)(s':Qd):Prop:=∃ vs H',Inv X pins σ H' s'/\zF vs us/\Q vs H'
def SP(X:Cx)(pins:Qa (Qg×Obj))(D:Ends)(f:Flow)(s':Qd):Prop :=
 match f with
 | .next=>∃ aG H',Inv X pins aG H' s'/\D.nx aG H'
 | .brk=>∃ aG H',Inv X pins aG H' s'/\D.bk aG H'
 | .cont=>∃ aG H',Inv X pins aG H' s'/\D.ct aG H'
 | .ret u=>∃ v aG H',Inv X pins aG H' s'/\zD v u/\D.rt v H'
def PE(X:Cx)(e:Expr)(t:TE):Prop :=
 ∀ (pins:Qa (Qg×Obj)) (s:Qd) (σ:St) (H:Hp) (Q:VK),Inv X pins σ H s->t σ H Q->wpAny (model X.prog X.w) X.A (eval e X.env) (EP X pins σ Q) X.xe s
def PT(X:Cx)(e:Expr)(t:TT):Prop :=
 ∀ (pins:Qa (Qg×Obj)) (s:Qd) (σ:St) (H:Hp) (Q:Bool->Hp->Prop),Inv X pins σ H s->t σ H Q->wpAny (model X.prog X.w) X.A (isTrue e X.env<|eval e X.env) (TP X pins σ Q) X.xe s
def PW(X:Cx)(e:Expr)(t:TT):Prop :=
 ∀ (whole:Sem Qc) (pins:Qa (Qg×Obj)) (s:Qd) (σ:St) (H:Hp) (Q:Bool->Hp->Prop),Inv X pins σ H s->t σ H Q->wpAny (model X.prog X.w) X.A (isTrue e X.env whole) (TP X pins σ Q) X.xe s
theorem PW.pt{X:Cx}{e:Expr}{t:TT}(h:PW X e t):PT X e t:=h _
def PA(X:Cx)(es:Qa Expr)(t:TA):Prop :=
 ∀ (pos:Pos) (pins:Qa (Qg×Obj)) (s:Qd) (σ:St) (H:Hp) (Q:Qa V->Hp->Prop),Inv X pins σ H s->t σ H Q->wpAny (model X.prog X.w) X.A (spliced<|backTo pos<|starEach es X.env) (AP X pins σ Q) X.xe s
def PS(X:Cx)(st:Stmt)(t:TS):Prop :=
 ∀ (pins:Qa (Qg×Obj)) (s:Qd) (σ:St) (H:Hp) (D:Ends),Inv X pins σ H s->t D σ H->wpAny (model X.prog X.w) X.A (exec st X.env) (SP X pins D) X.xe s
def dG(X:Cx)(st:Qa Stmt)(t:TS):Prop :=
 ∀ (pins:Qa (Qg×Obj)) (s:Qd) (σ:St) (H:Hp) (D:Ends),Inv X pins σ H s->t D σ H->wpAny (model X.prog X.w) X.A (execs st X.env) (SP X pins D) X.xe s
theorem aA{α:Type}{t:Sem α}{Q Q':α->Qd->Prop}{M:Model}{A:Qf}{E:Qc->Qd->Prop}{s:Qd}(h:wpAny M A t Q E s)(hQ:∀ a s,Q a s->Q' a s):wpAny M A t Q' E s:=wpAny_mono h hQ λ_ _ x=>x
section
variable{X:Cx}
def dS(i:Nat):TE:=λσ H Q=>∃ v,σ[i]?=some (some v)/\Q v H
def tC(v:V):TE:=λ_ H Q=>Q v H
theorem So{i:Nat}{x:Str}{pos:Pos}(hN:X.N[i]?=some x)(hv:Bj X.env.scope x)(hd:(x==("__debug__":Str))=false:=by decide)(jf:(x==("__classdict__":Str))=false:=by decide):PE X (.Name x pos) (dS i):=by
 intro pins s σ H Q I h;have(v,e,h):=h;have(m,hn,hl):=I.loc;have(u,r,l):=hl i x v hN e hv;have fin:EP X pins σ Q u s:=⟨v,H,I,r,h⟩;rcases l with⟨hk,hm⟩|⟨hk,c,hc,oZ⟩
 .exact wpAny_Name (wpAny_loadName_local I.ok.kind hk hn hm fin) hd
 .rcases hk with hk|hk
  .exact wpAny_Name (wpAny_loadName_cell I.ok.kind hk hc oZ fin) hd
  .exact wpAny_Name (wpAny_loadName_free I.ok.kind hk hc oZ fin jf) hd
theorem Sm{i j pos}:PE X (.Constant (.int i) j pos) (tC<|.int i):=λ_ _ _ H _ I h=>wpAny_Constant_int ⟨.int i,H,I.tok _,⟨_,rfl⟩,h⟩
theorem OX{b j pos}:PE X (.Constant (.bool b) j pos) (tC<|.bl b):=λ_ _ _ H _ I h=>Constant_bool ⟨.bl b,H,I,rfl,h⟩
theorem Sl{j pos}:PE X (.Constant .none j pos) (tC .aI):=λ_ _ _ H _ I h=>Constant_none ⟨.aI,H,I,rfl,h⟩
theorem Sk{x j pos}:PE X (.Constant (.str x) j pos) (tC<|.str x):=λ_ _ _ H _ I h=>Calls.Constant_str ⟨.str x,H,I.tok _,⟨_,rfl⟩,h⟩
def Gl(X:Cx)(x:Str):Prop:=X.env.kindOf x=some .globalImplicit
theorem DY{E:Qc->Qd->Prop}{pins:Qa (Qg×Obj)}{s:Qd}{σ:St}{H:Hp}{x:Str}{u:Qc}{pos:Pos}{Q:Qc->Qd->Prop}(I:Inv X pins σ H s)(hg:Gl X x)(hm:X.mg x=some u)(h:Q u s)
  (hd:(x==("__debug__":Str))=false:=by decide):wpAny (model X.prog X.w) X.A (eval (.Name x pos) X.env) Q E s :=
 Calls.Name_function_global I.ok.kind hg (Calls.loadGlobal_global (by rw[I.ok.glob]; exact I.mod.glob.keeps I.bk) hm h) hd
theorem og{E:Qc->Qd->Prop}{pins:Qa (Qg×Obj)}{s:Qd}{σ:St}{H:Hp}{x:Str}{u:Qc}{pos:Pos}{Q:Qc->Qd->Prop}(I:Inv X pins σ H s)(hg:Gl X x)(hm:X.mg x=none)(hv:bootBuiltins x=some u)(h:Q u s)
  (hn:x ≠ "__name__":=by decide) (hd:(x==("__debug__":Str))=false:=by decide):wpAny (model X.prog X.w) X.A (eval (.Name x pos) X.env) Q E s:=by
 have(mb,h1,h2):=I.mod.blt;exact Calls.Name_function_global I.ok.kind hg (Calls.loadGlobal_builtin (by rw[I.ok.glob]; exact I.mod.glob.keeps I.bk) hm (by rw[I.ok.blt]; exact h1.keeps I.bk) ((h2 x hn).trans hv) h) hd
theorem UT{x:Str}{v:V}{u:Qc}{pos:Pos}(hg:Gl X x)(hm:X.mg x=some u)(r:zD v u)(hd:(x==("__debug__":Str))=false:=by decide):PE X (.Name x pos) (tC v):=
 λ_ _ _ H _ I h=>DY I hg hm ⟨v,H,I,r,h⟩ hd
theorem US{x:Str}{v:V}{u:Qc}{pos:Pos}(hg:Gl X x)(hm:X.mg x=none)(hv:bootBuiltins x=some u)(r:zD v u)(hn:x ≠ "__name__":=by decide)(hd:(x==("__debug__":Str))=false:=by decide):PE X (.Name x pos) (tC v):=
 λ_ _ _ H _ I h=>og I hg hm hv ⟨v,H,I,r,h⟩ hn hd
variable{a b:Expr}{ta tb:TE}{pos:Pos}
def PC(X:Cx)(op:CmpOp)(a b:Expr)(t:TE):Prop :=
 ∀ (pins:Qa (Qg×Obj)) (s:Qd) (σ:St) (H:Hp) (Q:VK),Inv X pins σ H s->t σ H Q->
  wpAny (model X.prog X.w) X.A (eval a X.env) (λv aC=>wpAny (model X.prog X.w) X.A (eval b X.env) (λu gD=>wpAny (model X.prog X.w) X.A (compareOp op v u) (EP X pins σ Q) X.xe gD) X.xe aC) X.xe s
theorem XH(b:Expr){op:CmpOp}(h:op≠.In)(h2:op≠.NotIn):behindInMarks op b=false:=by
 have e1:(op==CmpOp.In)=false:=by cases op<;>first|rfl|exact absurd rfl h
 have e2:(op==CmpOp.NotIn)=false:=by cases op<;>first|rfl|exact absurd rfl h2
 cases b<;>simp[behindInMarks,e1,e2]
def tB(t:TE):TT:=λσ H Q=>t σ H λx H1=>∃ c,x=.bl c/\Q c H1
theorem Io{op:CmpOp}{t:TE}(h:PC X op a b t)(h1:behindInMarks op b=false:=by first|exact XH _ (by decide) (by decide) | rfl):PT X (.Compare a [op] [b] pos) (tB t):=by
 intro pins s σ H Q I hw;refine wpAny_isTrue_Compare1 (aA (h pins s σ H _ I hw) λv s1 h1=>aA h1 λu s2 h2=>aA h2 λc s3 hZ=>?_) h1;have(x,H1,I1,r1,q1):=hZ;have(d,rfl,q):=q1;cases r1;exact wpAny_truthy_bool ⟨H1,I1,q⟩
theorem Sj{e:Expr}{t:TE}(h:PE X e t)(he:∀ whole,isTrue e X.env whole=(do let v <-whole; standAt e.pos; holding [v] (truthy v)):=by intro _; rfl):PT X e (tB t):=by
 intro pins s σ H Q I hw;refine isTrue_plain (aA (h pins s σ H _ I hw) λv s1 hZ=>?_)<|he _;have(x,H1,I1,r1,q1):=hZ;have(d,rfl,q):=q1;cases r1;exact wpAny_truthy_bool ⟨H1,I1,q⟩
variable{tA lH:TT}{rest:Qa Expr}
def B4(t u:TT):TT:=λσ H Q=>t σ H λc H1=>if c=true then u σ H1 Q else Q false H1
def EU(t u:TT):TT:=λσ H Q=>t σ H λc H1=>if c=true then Q true H1 else u σ H1 Q
def B3(t:TT):TT:=λσ H Q=>t σ H λc H1=>Q (!c) H1
theorem UR(ha:PT X a tA):PW X (.BoolOp .And [a] pos) tA:=by
 intro wh pins s σ H Q I h;refine isTrue_and<|aA (ha pins s σ H Q I h) λc s1 e=>?_;cases c with
 | true=>exact isTrue_and_nil e
 | false=>exact e
theorem Si(ha:PT X a tA):PW X (.BoolOp .Or [a] pos) tA:=by
 intro wh pins s σ H Q I h;refine isTrue_or<|aA (ha pins s σ H Q I h) λc s1 e=>?_;cases c with
 | false=>exact isTrue_or_nil e
 | true=>exact e
theorem Sg(ha:PT X a tA)(hb:PW X (.BoolOp .And (b::rest) pos) lH):PW X (.BoolOp .And (a::b::rest) pos) (B4 tA lH):=by
 intro wh pins s σ H Q I h;refine isTrue_and<|aA (ha pins s σ H _ I h) λc s1 hZ=>?_;have(H1,I1,q1):=hZ;cases c with
 | true=>exact hb wh pins s1 σ H1 Q I1 q1
 | false=>exact⟨H1,I1,q1⟩
theorem OW(ha:PT X a tA)(hb:PW X (.BoolOp .Or (b::rest) pos) lH):PW X (.BoolOp .Or (a::b::rest) pos) (EU tA lH):=by
 intro wh pins s σ H Q I h;refine isTrue_or<|aA (ha pins s σ H _ I h) λc s1 hZ=>?_;have(H1,I1,q1):=hZ;cases c with
 | true=>exact⟨H1,I1,q1⟩
 | false=>exact hb wh pins s1 σ H1 Q I1 q1
theorem Sf(ha:PT X a tA):PT X (.UnaryOp .Not a pos) (B3 tA):=by
 intro pins s σ H Q I h;exact isTrue_not<|ha pins s σ H (λc H1=>Q (!c) H1) I h
def CN(ta tb:TE):TE:=λσ H Q=>ta σ H λx H1=>∃ c,x=.bl c/\if c=true then tb σ H1 Q else Q (.bl false) H1
def CM(ta:TE):TE:=λσ H Q=>ta σ H λx H1=>∃ c,x=.bl c/\Q (.bl (!c)) H1
theorem Se{op}{t:TE}(h:PE X a t):PE X (.BoolOp op [a] pos) t:=λpins s σ H Q I hw=>BoolOp_one<|h pins s σ H Q I hw
theorem Sd(ha:PE X a ta)(hb:PE X (.BoolOp .And (b::rest) pos) tb):PE X (.BoolOp .And (a::b::rest) pos) (CN ta tb):=by
 intro pins s σ H Q I h;refine BoolOp_and<|aA (ha pins s σ H _ I h) λv s1 hZ=>?_;have(x,H1,I1,r1,q1):=hZ;have(c,rfl,q1):=q1;cases r1;refine wpAny_truthy_bool ?_;cases c with
 | true=>exact hb pins s1 σ H1 Q I1 q1
 | false=>exact⟨.bl false,H1,I1,rfl,q1⟩
theorem Sb(ha:PE X a ta):PE X (.UnaryOp .Not a pos) (CM ta):=by
 intro pins s σ H Q I h;refine UnaryOp_<|aA (ha pins s σ H _ I h) λv s1 hZ=>?_;have(x,H1,I1,r1,q1):=hZ;have(c,rfl,q1):=q1;cases r1;exact not_of<|wpAny_truthy_bool ⟨.bl (!c),H1,I1,rfl,q1⟩
def AH(t:TT)(ta tb:TE):TE:=λσ H Q=>t σ H λc H1=>if c=true then ta σ H1 Q else tb σ H1 Q
theorem XG{c:Expr}(hc:PT X c tA)(ha:PE X a ta)(hb:PE X b tb):PE X (.IfExp c a b pos) (AH tA ta tb):=by
 intro pins s σ H Q I h;refine wpAny_IfExp<|aA (hc pins s σ H _ I h) λd s1 hZ=>?_;have(H1,I1,q1):=hZ;cases d with
 | true=>exact ha pins s1 σ H1 Q I1 q1
 | false=>exact hb pins s1 σ H1 Q I1 q1
end
def bq(K:qc)(H:Hp)(a:Qg)(xs:Qa V):Prop :=
 Rd H a (.lst xs)\/
  ∃ (o:Obj) (ai:Array Qc) (n:Nat),K.lookup a=some o/\o.cls=.type "list"/\o.dict=none/\o.data=.seq ai n/\ai.size<=sizeLine/\zF xs ai.toList
def bj(K:qc)(H:Hp)(a:Qg)(xs:Qa V):Prop :=
 Rd H a (.tup xs)\/
  ∃ (o:Obj) (ai:Array Qc) (n:Nat),K.lookup a=some o/\o.cls=.type "tuple"/\o.data=.seq ai n/\ai.size<=sizeLine/\zF xs ai.toList
def zBa:Qc->Qb V
 | .none=>some .aI
 | .bool b=>some<|.bl b
 | .int i _=>some<|.int i
 | .str x _=>some<|.str x
 | .bytes b _=>some<|.iS b
 | .float b _=>some<|.rA b
 | .ref a=>some<|.ref a
 | .type n=>some<|.ty n
 | _=>none
theorem zD.abs{x:V}{u:Qc}(r:zD x u):zBa u=some x:=by
 cases x with
 | aI=>cases r; rfl
 | bl _=>cases r; rfl
 | int _=>have(t,rfl):=r; rfl
 | str _=>have(t,rfl):=r; rfl
 | iS _=>have(t,rfl):=r; rfl
 | rA _=>have(t,rfl):=r; rfl
 | ref _=>cases r; rfl
 | ty _=>cases r; rfl
theorem zD.inj{x y:V}{u:Qc}(r:zD x u)(q:zD y u):x=y:=qx (r.abs.symm.trans q.abs)
theorem zF.inj:∀ {xs ys:Qa V} {us:Qa Qc},zF xs us->zF ys us->xs=ys
 | _,_,_,.nil,.nil=>rfl
 | _,_,_,.cons r t,.cons r' t'=>by rw[r.inj r',zF.inj t t']
section
variable{X:Cx}{pins:Qa (Qg×Obj)}{σ:St}{H:Hp}{s:Qd}{a:Qg}{xs ys:Qa V}
theorem bq.of{K:qc}(h:H a=some (.lst xs)):bq K H a xs:=.inl (.inl h)
theorem Inv.list(I:Inv X pins σ H s)(h:bq X.K H a xs):∃ ai:Qa Qc,zF xs ai/\PlainL s.heap a ai.toArray/\xs.length<=sizeLine:=by
 rcases h with h|⟨o,ai,n,hk,hc,hd,hs,hz,r⟩
 .have(z,ai,n,r,e):=h.ok I.aw
  exact⟨ai,r,⟨_,n,e,rfl,rfl,rfl⟩,z⟩
 .refine⟨ai.toList,r,⟨o,n,I.aW a o hk,hc,hd,by simpa using hs⟩,?_⟩
  have e:=r.length;simp only[Array.length_toList]at e;omega
theorem Inv.tuple(I:Inv X pins σ H s)(h:bj X.K H a xs):∃ ai:Qa Qc,zF xs ai/\IsTup s.heap a ai.toArray/\xs.length<=sizeLine:=by
 rcases h with h|⟨o,ai,n,hk,hc,hs,hz,r⟩
 .have(z,ai,r,p):=h.ok I.aw
  exact⟨ai,r,p.tup,z⟩
 .refine⟨ai.toList,r,⟨o,I.aW a o hk,hc,n,by simpa using hs⟩,?_⟩
  have e:=r.length;simp only[Array.length_toList]at e;omega
theorem Inv.kI(I:Inv X pins σ H s)(h:bq X.K H a xs)(h':bq X.K H a ys):xs=ys:=by
 obtain⟨ai,r,⟨o,n,e,_,_,d⟩,_⟩:=I.list h;obtain⟨its',r',⟨o',n',e',_,_,d'⟩,_⟩:=I.list h';rw[e]at e'; cases e';rw[d]at d';injection d' with d1 _;have:ai=its':=by simpa using congrArg Array.toList d1
 subst this;exact r.inj r'
theorem Inv.bG(I:Inv X pins σ H s)(h:bj X.K H a xs)(h':bj X.K H a ys):xs=ys:=by
 obtain⟨ai,r,⟨o,e,_,n,d⟩,_⟩:=I.tuple h;obtain⟨its',r',⟨o',e',_,n',d'⟩,_⟩:=I.tuple h';rw[e]at e'; cases e';rw[d]at d';injection d' with d1 _;have:ai=its':=by simpa using congrArg Array.toList d1
 subst this;exact r.inj r'
end
abbrev Cx.eW(X:Cx)(E:Qc->Qd->Prop):Cx:={X with xe:=E}
abbrev Cx.oM(X:Cx):Cx:=X.eW λ_ _=>False
theorem Cx.Ok.eW{X:Cx}(ok:X.Ok)(E:Qc->Qd->Prop):(X.eW E).Ok :=
 ⟨ok.mod,ok.kind,ok.glob,ok.blt,ok.above,ok.inj,ok.has,ok.tW,ok.hd,ok.frames,ok.vP,ok.Be,ok.bs,ok.lU,ok.jb,ok.kS,ok.dg,ok.o9⟩
theorem Cx.Ok.bU{X:Cx}{E:Qc->Qd->Prop}(ok:(X.eW E).Ok):X.Ok :=
 ⟨ok.mod,ok.kind,ok.glob,ok.blt,ok.above,ok.inj,ok.has,ok.tW,ok.hd,ok.frames,ok.vP,ok.Be,ok.bs,ok.lU,ok.jb,ok.kS,ok.dg,ok.o9⟩
section
variable{X:Cx}{pins:Qa (Qg×Obj)}{σ:St}{H:Hp}{s:Qd}{E:Qc->Qd->Prop}
theorem Inv.eW(I:Inv X pins σ H s)(E:Qc->Qd->Prop):Inv (X.eW E) pins σ H s:=⟨I.ok.eW E,I.os,I.bare,I.base,I.loc,I.cell,I.free,I.bJ,I.pin,I.aw,I.len⟩
theorem Inv.bU(I:Inv (X.eW E) pins σ H s):Inv X pins σ H s:=⟨I.ok.bU,I.os,I.bare,I.base,I.loc,I.cell,I.free,I.bJ,I.pin,I.aw,I.len⟩
theorem SP.bU{D:Ends}{f:Flow}{s':Qd}(h:SP (X.eW E) pins D f s'):SP X pins D f s':=by
 cases f with
 | next=>have(aG,H',I,q):=h; exact⟨aG,H',I.bU,q⟩
 | brk=>have(aG,H',I,q):=h; exact⟨aG,H',I.bU,q⟩
 | cont=>have(aG,H',I,q):=h; exact⟨aG,H',I.bU,q⟩
 | ret u=>have(v,aG,H',I,r,q):=h; exact⟨v,aG,H',I.bU,r,q⟩
theorem dG.oM{st:Qa Stmt}{t:TS}(h:dG X.oM st t):dG X st t:=λpins s σ H D I hw=>
 wpAny_mono (h pins s σ H D (I.eW _) hw) (λ_ _ q=>q.bU) λ_ _ z=>False.elim z
end
section
variable{X:Cx}{st:Stmt}{rest:Qa Stmt}{t u:TS}{e:Expr}{te:TE}{pos:Pos}
def CL:TS:=λD σ H=>D.nx σ H
def uj(t u:TS):TS:=λD σ H=>t {D with nx:=u D} σ H
theorem UQ:dG X [] CL:=λ_ _ σ H _ I h=>wpAny_execs_nil ⟨σ,H,I,h⟩
theorem XF(h1:PS X st t)(h2:dG X rest u):dG X (st::rest) (uj t u):=by
 intro pins s σ H D I h;refine wpAny_execs_cons<|aA (h1 pins s σ H {D with nx:=u D} I h) λf s1 q=>?_;cases f with
 | next=>
  have(aG,H',I',q):=q;exact h2 pins s1 aG H' D I' q
 | ret v=>exact q
 | brk=>exact q
 | cont=>exact q
theorem UP(h1:PS X st t):dG X [st] t:=by
 intro pins s σ H D I h;refine wpAny_execs_cons<|aA (h1 pins s σ H D I h) λf s1 q=>?_;cases f with
 | next=>exact wpAny_execs_nil q
 | ret v=>exact q
 | brk=>exact q
 | cont=>exact q
theorem Inv.quiet{pins:Qa (Qg×Obj)}{σ:St}{H:Hp}{s:Qd}(I:Inv X pins σ H s):interactive X.env=false:=by simp[interactive,I.ok.kind]
def CK(te:TE):TS:=λD σ H=>te σ H λ_ H1=>D.nx σ H1
theorem UO(he:PE X e te)(hs:swapsWith e none pos.line X.env=pure false:=by rfl):PS X (.Expr e pos) (CK te):=by
 intro pins s σ H D I h;exact wpAny_Expr_any (aA (he pins s σ H _ I h) λv s1 ⟨x,H1,I1,r1,q1⟩=>⟨σ,H1,I1,q1⟩) I.quiet hs
def ui(te:TE):TS:=λD σ H=>te σ H D.rt
theorem Sa(he:PE X e te):PS X (.Return (some e) pos) (ui te):=by
 intro pins s σ H D I h;exact wpAny_Return_some<|aA (he pins s σ H _ I h) λv s1 ⟨x,H1,I1,r1,q1⟩=>⟨x,σ,H1,I1,r1,q1⟩
def B9(c:TT)(t u:TS):TS:=λD σ H=>c σ H λb H1=>if b=true then t D σ H1 else u D σ H1
theorem OV{c:Expr}{a b:Qa Stmt}{tc:TT}(hc:PT X c tc)(ha:dG X a t)(hb:dG X b u):PS X (.If c a b pos) (B9 tc t u):=by
 intro pins s σ H D I h;refine wpAny_If<|aA (hc pins s σ H _ I h) λd s1 hZ=>?_;have(H1,I1,q1):=hZ;cases d with
 | true=>exact ha pins s1 σ H1 D I1 q1
 | false=>exact hb pins s1 σ H1 D I1 q1
end
abbrev TG:=V->St->Hp->(St->Hp->Prop)->Prop
abbrev gX:=Qa V->St->Hp->(St->Hp->Prop)->Prop
def PG(X:Cx)(target:Expr)(t:TG):Prop :=
 ∀ (pins:Qa (Qg×Obj)) (s:Qd) (σ:St) (H:Hp) (v:V) (u:Qc) (Q:St->Hp->Prop),Inv X pins σ H s->zD v u->t v σ H Q->
  wpAny (model X.prog X.w) X.A (assign target X.env u) (λ_ s'=>∃ aG H',Inv X pins aG H' s'/\Q aG H') X.xe s
def ph(X:Cx)(ts:Qa Expr)(t:gX):Prop :=
 ∀ (pins:Qa (Qg×Obj)) (s:Qd) (σ:St) (H:Hp) (vs:Qa V) (us:Qa Qc) (Q:St->Hp->Prop),Inv X pins σ H s->zF vs us->t vs σ H Q->
  wpAny (model X.prog X.w) X.A (assignInOrder ((assignEach ts X.env).map (·.2)) us) (λ_ s'=>∃ aG H',Inv X pins aG H' s'/\Q aG H') X.xe s
abbrev xt:=V->V->V->Hp->(Hp->Prop)->Prop
def B8(X:Cx)(t:xt):Prop :=
 ∀ (pins:Qa (Qg×Obj)) (s:Qd) (σ:St) (H:Hp) (o i v:V) (ov iv u:Qc) (Q:Hp->Prop),Inv X pins σ H s->zD o ov->zD i iv->zD v u->t o i v H Q->
  wpAny (model X.prog X.w) X.A (setItem ov iv u) (λ_ s'=>∃ H',Inv X pins σ H' s'/\Q H') X.xe s
section
variable{X:Cx}{pos:Pos}
def i3(i:Nat):TG:=λv σ H Q=>Q (σ.set i<|some v) H
theorem UN{i:Nat}{x:Str}(hN:X.N.Nodup)(hi:X.N[i]?=some x)(hx:Loc X.env.scope x)(hf:X.fn x=true\/X.env.scope.names.lookup x=some .local:=by first|exact .inl rfl|exact .inr rfl|assumption):PG X (.Name x pos) (i3 i):=by
 intro pins s σ H v u Q I r h;exact wpAny_assign_Name<|Ac I hN hi hx r (λs' I'=>⟨_,H,I',h⟩) hf
def xr:gX:=λvs σ H Q=>vs=[]/\Q σ H
def uK(t:TG)(u:gX):gX:=λvs σ H Q=>∃ v r,vs=v::r/\t v σ H λaG H'=>u r aG H' Q
theorem UM:ph X [] xr:=by
 intro pins s σ H vs us Q I r h;have(e,h):=h;subst e;cases r;exact assignInOrder_nil ⟨σ,H,I,h⟩
theorem XE{e:Expr}{es:Qa Expr}{t:TG}{u:gX}(h1:PG X e t)(h2:ph X es u)
  (hs:(assignEach (e::es) X.env).map (·.2)=assign e X.env::(assignEach es X.env).map (·.2):=by rfl):ph X (e::es) (uK t u):=by
 intro pins s σ H vs us Q I r h;have(v,vr,e1,h):=h;subst e1;cases r with
 | cons r rr=>
  rw[hs];refine assignInOrder_cons<|aA (h1 pins s σ H _ _ _ I r h) λ_ s1 hZ=>?_;have(dI,H1,I1,q1):=hZ;exact h2 pins s1 dI H1 _ _ Q I1 rr q1
def xq(K:qc)(n:Nat)(t:gX):TG:=λv σ H Q=>∃ a xs,v=.ref a/\bj K H a xs/\xs.length=n/\t xs σ H Q
theorem SE{es:Qa Expr}{k:Nat}{t:gX}{n:Nat}(hc:X.calm=true)(h:ph X es t)
  (hn:(assignEach es X.env).length=n:=by rfl) (tO:(assignEach es X.env).findIdx? (·.1)=none:=by rfl):PG X (.Tuple es k pos) (xq X.K n t):=by
 intro pins s σ H v u Q I r hw;have(a,xs,e1,hq,hl,hw):=hw;subst e1;cases r;have(ai,rv,ht,hz):=I.tuple hq;refine assign_Tuple_tuple (I.ok.hd hc) ht (by simp[hn,<-hl,rv.length]) tO λh' hx=>?_;have I1:Inv X pins σ H {s with heap:=h'}:=I.kept (t':=s.toks) λb o e=>hx b o (qj<|qh e) e;exact h pins _ σ H xs _ Q I1 (by simpa using rv) hw
def B7(to ti:TE)(t:xt):TG:=λv σ H Q=>to σ H λo H1=>ti σ H1 λi H2=>t o i v H2 λH3=>Q σ H3
theorem SD{o i:Expr}{to ti:TE}{t:xt}(ho:PE X o to)(hi:PE X i ti)(hs:B8 X t)
  (ha:∀ v,assign (.Subscript o i pos) X.env v=(do
   let ov <-holding [v] (eval o X.env)
   let iv <-holding [v,ov] (eval i X.env)
   standAt pos
   holding [v,ov,iv] (setItem ov iv v)
   release [v,ov,iv] []):=by intro _; rfl):PG X (.Subscript o i pos) (B7 to ti t):=by
 intro pins s σ H v u Q I r h;rw[ha];refine qa<|wpAny_holding<|aA (ho pins s σ H _ I h) λov s1 hZ=>?_;have(x,H1,I1,r1,q1):=hZ;refine qa<|wpAny_holding<|aA (hi pins s1 σ H1 _ I1 q1) λiv s2 hZ=>?_;have(y,H2,I2,r2,q2):=hZ;refine qa<|wpAny_standAt<|qa<|wpAny_holding<|aA (hs pins s2 σ H2 x y v ov iv u _ I2 r1 r2 r q2) λ_ s3 hZ=>?_;have(H3,I3,q3):=hZ;exact wpAny_release ⟨σ,H3,I3,q3⟩
def l0(te:TE)(g:TG):TS:=λD σ H=>te σ H λx H1=>g x σ H1 D.nx
theorem SA{tg e:Expr}{te:TE}{g:TG}(he:PE X e te)(hg:PG X tg g)(hs:swapsWithSole [tg] e pos.line X.env=pure false:=by rfl)(hw:swappedStores [tg] e X.env=pure none:=by rfl)
  (h1:(assignEach [tg] X.env).map (·.2)=[assign tg X.env]:=by rfl):PS X (.Assign [tg] e pos) (l0 te g):=by
 intro pins s σ H D I h;refine wpAny_Assign_stores (aA (he pins s σ H _ I h) λv s1 hZ=>?_) hs hw;have(x,H1,I1,r1,q1):=hZ;rw[h1];exact aA (hg pins s1 σ H1 x v _ I1 r1 q1) λ_ s2 q=>q
theorem Sy{i:Nat}{x:Str}{e:Expr}{te:TE}{pos':Pos}(hN:X.N.Nodup)(hi:X.N[i]?=some x)(hx:Loc X.env.scope x)(he:PE X e te)(hs:swapsWith e (some<|.Name x pos') pos.line X.env=pure false:=by rfl)(hf:X.fn x=true\/X.env.scope.names.lookup x=some .local:=by first|exact .inl rfl|exact .inr rfl|assumption):
  PS X (.Assign [.Name x pos'] e pos) (l0 te<|i3 i):=by
 intro pins s σ H D I h;refine wpAny_Assign_Name (aA (he pins s σ H _ I h) λv s1 hZ=>?_) hs;have(y,H1,I1,r1,q1):=hZ;exact Ac I1 hN hi hx r1 (λs2 I2=>⟨_,H1,I2,q1⟩) hf
def B6(i j:Nat)(ta:TA):TS:=λD σ H=>ta σ H λvs H1=>∃ v w,vs=[v,w]/\D.nx ((σ.set i<|some v).set j<|some w) H1
theorem Sx{i j:Nat}{x y:Str}{a b:Expr}{ta:TA}{px py pt:Pos}{kt k2 qN}(hc:X.calm=true)(hN:X.N.Nodup)(hi:X.N[i]?=some x)(hj:X.N[j]?=some y)(F4:i≠j)
  (hx:X.env.scope.names.lookup x=some .local) (hy:X.env.scope.names.lookup y=some .local) (ha:PA X [a,b] ta)
  (hw:swappedStores [.Tuple [.Name x px,.Name y py] kt pt] (.Tuple [a,b] k2 qN) X.env=pure (some [x,y]))
  (hs:swapsWithSole [.Tuple [.Name x px,.Name y py] kt pt] (.Tuple [a,b] k2 qN) pos.line X.env=pure false:=by rfl):
  PS X (.Assign [.Tuple [.Name x px,.Name y py] kt pt] (.Tuple [a,b] k2 qN) pos) (B6 i j ta):=by
 intro pins s σ H D I h;rw[exec_Assign_arm];refine qa<|wpAny_standAt ?_;rw[hs];refine qa<|qb ?_;rw[if_neg (by decide)];refine qa<|Tuple_<|aA (ha _ pins s σ H _ I h) λus s1 hZ=>?_;have(vs,H1,I1,r1,q1):=hZ;have(v,w,e1,q1):=q1;subst e1;obtain⟨u1,u2,rfl,rv,fM⟩:∃ u1 u2,us=[u1,u2]/\zD v u1/\zD w u2:=by
  cases r1 with
  | cons p q=>
   cases q with
   | cons p' q'=>
    cases q';exact⟨_,_,rfl,p,p'⟩
 refine qA ?_ (by show 2<=sizeLine; decide);have I2:Inv X pins σ H1 {s1 with heap:=s1.heap.push {cls:=.type "tuple",data:=.seq [u1,u2].toArray}}:=I1.kept (t':=s1.toks) λb o e=>qd _ e;rw[hw];refine qa<|qb ?_;show wpAny (model X.prog X.w) X.A (do rule "assign.swapped-stores"; let items <-unpackItems (.ref s1.heap.objs.size) 2 none; assignInOrder [λv=>bindName X.env y v,λv=>bindName X.env x v] items.reverse; pure Flow.next) _ _ _;refine qa<|wpAny_rule<|qa<|unpackItems_tuple (items:=#[u1,u2]) (I.ok.hd hc) (IsTup.new s1.heap _) λh' fA=>?_;have I3:=I2.kept (h':=h') (t':=s1.toks) λb o e=>fA b o (qj<|qh e) e;show wpAny _ _ (assignInOrder [λv=>bindName X.env y v,λv=>bindName X.env x v] [u2,u1] >>= λ_=>pure Flow.next) _ _ _;refine qa<|assignInOrder_cons<|wpAny_bindName<|Ac I3 hN hj (.inl hy) fM (λs2 I4=>?_)<|.inr hy;refine assignInOrder_cons<|wpAny_bindName<|Ac I4 hN hi (.inl hx) rv (λs3 I5=>assignInOrder_nil<|qb ?_)<|.inr hx;rw[List.set_comm _ _<|Ne.symm F4]at I5;exact⟨_,H1,I5,q1⟩
end
section
variable{X:Cx}{pos:Pos}
def Dj(c:TT)(tb:TS):TS:=λD σ H=>∃ W:Nat->St->Hp->Prop,(∃ m,W m σ H)/\∀ m σ H,W m σ H->
 c σ H λb H1=>if b=true then ∃ N:St->Hp->Prop,(∀ aG H',N aG H'->∃ m',m' < m/\W m' aG H')/\tb {D with nx:=N,ct:=N,bk:=D.nx} σ H1 else D.nx σ H1
theorem XD{c:Expr}{body:Qa Stmt}{tc:TT}{tb:TS}(hp:PassesOwn (model X.prog X.w) X.A X.env X.xe)(hc:PT X c tc)(hb:dG X body tb):PS X (.While c body [] pos) (Dj tc tb):=by
 intro pins s σ H D I h;obtain⟨W,⟨m0,w0⟩,turn⟩:=h;refine wpAny_While<|codeAny_whileLoop (λn s'=>∃ aG H',Inv X pins aG H' s'/\W n aG H') ?_ m0 ⟨σ,H,I,w0⟩;rintro n s1 ⟨dI,H1,I1,w1⟩;refine wpAny_passesOwn hp<|aA (hc pins s1 dI H1 _ I1<|turn n dI H1 w1) λb s2 hZ=>?_;have(H2,I2,q2):=hZ;cases b with
 | true=>
  have(N,hN,q2):=q2;rw[if_pos rfl];refine wpAny_passesOwn hp<|aA (hb pins s2 dI H2 _ I2 q2) λf s3 q3=>?_;cases f with
  | next=>
   have(fe,H3,I3,n3):=q3;have(m',hm,w3):=hN fe H3 n3;exact⟨m',hm,fe,H3,I3,w3⟩
  | cont=>
   have(fe,H3,I3,n3):=q3;have(m',hm,w3):=hN fe H3 n3;exact⟨m',hm,fe,H3,I3,w3⟩
  | brk=>exact q3
  | ret v=>exact q3
 | false=>
  rw[if_neg qf];exact wpAny_execs_nil ⟨dI,H2,I2,q2⟩
end
structure It where
 go:Nat->Hp->Prop
 vG:Nat->Hp->V->Hp->Prop
 stop:Nat->Hp->Prop
def g7(X:Cx)(pins:Qa (Qg×Obj))(H:Hp)(b:Qg):Prop :=
 H b=none/\b≠X.env.locals/\b∉X.fs/\(b∈X.ex\/X.aZ.heap.objs.size<=b)/\(∀ x c,X.env.cells.lookup x=some c->c≠b)/\∀ p∈X.pn++pins,p.1≠b
theorem Inv.eY{X:Cx}{pins:Qa (Qg×Obj)}{σ:St}{H H':Hp}{s:Qd}{b:Qg}(I:Inv X pins σ H s)(hb:s.heap.objs.size<=b)(hn:H' b=none):g7 X pins H' b:=by
 refine⟨hn,Nat.ne_of_gt<|qi I.lt hb,I.Ff hb,.inr<|qy I.sz hb,λx c e z=>?_,λp hp z=>?_⟩
 .have(v,q):=I.cell x c e
  exact absurd (qi q.lt (by rw[z]; exact hb))<|Ð _
 .exact absurd (qi (qh (I.pin p hp).1) (by rw[z]; exact hb)) (Ð _)
structure Turn (P:Qe) (w:Qh) (K:qc) (tg:Expr) (J:It) (fp:Qa Qg) (it:Qg) (tn:Nat->Heap->Prop):Prop where
 mem:it∈fp
 obj:∀ i h,tn i h->∀ b∈fp,∃ o,h.get? b=some o/\∀ v,o.data≠.cell v
 keep:∀ i h h',tn i h->(∀ b∈fp,∀ o,h.get? b=some o->h'.get? b=some o)->tn i h'
 item:∀ (X:Cx),X.prog=P->X.w=w->X.K=K->X.calm=true->∀ (i:Nat) (pins:Qa (Qg×Obj)) (s:Qd) (σ:St) (H:Hp) (E:Qc->Qd->Prop),Inv X pins σ H s->(∀ b∈fp,g7 X pins H b)->tn i s.heap->J.go i H->
  wpAny (model P w) X.A (pyNext<|.ref it) (λr s1=>∃ u,r=some u/\
   wpAny (model P w) X.A (letOwnedTupleGo tg (.ref it) u) (λ_ s2=>∃ x H',Inv X pins σ H' s2/\zD x u/\J.vG i H x H'/\tn (i+1) s2.heap/\∀ b∈fp,H' b=none) E s1) E s
 done:∀ (X:Cx),X.prog=P->X.w=w->X.K=K->X.calm=true->∀ (i:Nat) (pins:Qa (Qg×Obj)) (s:Qd) (σ:St) (H:Hp) (E:Qc->Qd->Prop),Inv X pins σ H s->(∀ b∈fp,g7 X pins H b)->tn i s.heap->J.stop i H->
  wpAny (model P w) X.A (pyNext<|.ref it) (λr s1=>r=none/\Inv X pins σ H s1) E s
 self:∀ (A:Qf) (i:Nat) (s:Qd) (Q:Qc->Qd->Prop) (E:Qc->Qd->Prop),tn i s.heap->Q (.ref it) s->wpAny (model P w) A (pyIter<|.ref it) Q E s
abbrev TI:=St->Hp->(It->Hp->Prop)->Prop
def Gz(X:Cx)(pins:Qa (Qg×Obj))(σ:St)(tg:Expr)(R:It->Hp->Prop)(AY:Qc)(s2:Qd):Prop :=
 ∃ (it:Qg) (fp:Qa Qg) (tn:Nat->Heap->Prop) (J:It) (H':Hp),AY=.ref it/\Inv X pins σ H' s2/\Turn X.prog X.w X.K tg J fp it tn/\tn 0 s2.heap/\(∀ b∈fp,g7 X pins H' b)/\R J H'
def PI(X:Cx)(tg iter:Expr)(wi:TI):Prop :=
 ∀ (pins:Qa (Qg×Obj)) (s:Qd) (σ:St) (H:Hp) (R:It->Hp->Prop),Inv X pins σ H s->wi σ H R->
  wpAny (model X.prog X.w) X.A (eval iter X.env) (λv s1=>wpAny (model X.prog X.w) X.A (pyIter v) (Gz X pins σ tg R) X.xe s1) X.xe s
theorem uJ{M:Model}{A:Qf}{E:Qc->Qd->Prop}{s:Qd}{tg:Expr}{it:Qg}{u:Qc}{o:Obj}{n:String}{vs:Array Qc}{Q:Unit->Qd->Prop}(ho:s.heap.get? it=some o)(hc:o.cls=.type n)(hd:o.data=.fields vs)
  (hn:["enumerate", "zip", "dict_itemiterator", "dict_reverseitemiterator", "odict_iterator", "itertools.zip_longest", "itertools.pairwise"].contains n=false) (hQ:Q () s):wpAny M A (letOwnedTupleGo tg (.ref it) u) Q E s:=by
 unfold letOwnedTupleGo;cases tg<;>first
  | exact qb hQ
  | (cases u<;>first
    | exact qb hQ
    | (refine qa<|wpAny_load ho ?_
       rw[hc,hd];show wpAny M A (if(["enumerate", "zip", "dict_itemiterator", "dict_reverseitemiterator", "odict_iterator", "itertools.zip_longest", "itertools.pairwise"].contains n && vs[0]?==some (rawInt _))=true then _ else _) Q E s;rw[if_neg (by intro h; rw[hn,Bool.false_and]at h; cases h)];exact qb hQ))
def Oz(K:qc)(a:Qg):It :=
 ⟨λi H=>∃ xs x,bq K H a xs/\xs[i]?=some x,λi H x H'=>H'=H/\∀ xs,bq K H a xs->xs[i]?=some x,λi H=>∃ xs,bq K H a xs/\xs.length<=i⟩
def Oy(K:qc)(a:Qg):It :=
 ⟨λi H=>∃ xs x,bj K H a xs/\xs[i]?=some x,λi H x H'=>H'=H/\∀ xs,bj K H a xs->xs[i]?=some x,λi H=>∃ xs,bj K H a xs/\xs.length<=i⟩
def w4(lo:Int)(n:Nat):It:=⟨λi _=>i < n,λi H x H'=>H'=H/\x=.int (lo+i),λi _=>n<=i⟩
theorem Yo{P:Qe}{w:Qh}{K:qc}{tg:Expr}(a it:Qg):Turn P w K tg (Oz K a) [it] it (λi h=>h.IsListIter it a i) where
 mem:=by simp
 obj:=λi h st b hb=>by
  have e:b=it:=by simpa using hb
  subst e;have(o,e,c,d):=st;exact⟨o,e,λv z=>by rw[d]at z; cases z⟩
 keep:=λi h h' st k=>st.at λo e=>k it (by simp) o e
 item:=by
  intro X hP hw hK hc i pins s σ H E I hf st hg;subst hP hw hK;have(xs,x,hq,hx):=hg;have(ai,rv,p,hz):=I.list hq;have(u,hu,ru):=rv.get hx;have(f0,f1,f2,f3,f4,f5):=hf it (by simp);refine wpAny_pyNext_list_item st p.isList (x:=u) (by simpa using hu) λh' gT sb=>?_;have I1:Inv X pins σ H {s with heap:=h'}:=I.turned (t':=s.toks) (λb o hb e=>(sb.2 b hb).trans e) f0 f1 f3 f4 f5;have(o,e,c,d):=id gT;exact⟨u,rfl,uJ (s:={s with heap:=h'}) e c d (by decide) ⟨x,H,I1,ru,⟨rfl,λys hy=>by rw[I.kI hy hq]; exact hx⟩,gT,λb hb=>(hf b hb).1⟩⟩
 done:=by
  intro X hP hw hK hc i pins s σ H E I hf st hg;subst hP hw hK;have(xs,hq,hx):=hg;have(ai,rv,p,hz):=I.list hq;have(f0,f1,f2,f3,f4,f5):=hf it (by simp);have hl:=rv.length;exact wpAny_pyNext_list_end (I.ok.hd hc) st p.isList (by simp; omega) λh' eb=>⟨rfl,I.turned (t':=s.toks) (λb o hb e=>eb b o hb e) f0 f1 f3 f4 f5⟩
 self:=λ_ _ _ _ _ st h=>wpAny_pyIter_listiter st h
theorem ZO{P:Qe}{w:Qh}{K:qc}{tg:Expr}(a it:Qg):Turn P w K tg (Oy K a) [it] it (λi h=>h.IsTupleIter it a i) where
 mem:=by simp
 obj:=λi h st b hb=>by
  have e:b=it:=by simpa using hb
  subst e;have(o,e,c,d):=st;exact⟨o,e,λv z=>by rw[d]at z; cases z⟩
 keep:=λi h h' st k=>st.at λo e=>k it (by simp) o e
 item:=by
  intro X hP hw hK hc i pins s σ H E I hf st hg;subst hP hw hK;have(xs,x,hq,hx):=hg;have(ai,rv,p,hz):=I.tuple hq;have(u,hu,ru):=rv.get hx;have(f0,f1,f2,f3,f4,f5):=hf it (by simp);refine wpAny_pyNext_tuple_item st (show s.heap.IsTuple a ai.toArray from p) (x:=u) (by simpa using hu) λh' gT sb=>?_;have I1:Inv X pins σ H {s with heap:=h'}:=I.turned (t':=s.toks) (λb o hb e=>(sb.2 b hb).trans e) f0 f1 f3 f4 f5;have(o,e,c,d):=id gT;exact⟨u,rfl,uJ (s:={s with heap:=h'}) e c d (by decide) ⟨x,H,I1,ru,⟨rfl,λys hy=>by rw[I.bG hy hq]; exact hx⟩,gT,λb hb=>(hf b hb).1⟩⟩
 done:=by
  intro X hP hw hK hc i pins s σ H E I hf st hg;subst hP hw hK;have(xs,hq,hx):=hg;have(ai,rv,p,hz):=I.tuple hq;have(f0,f1,f2,f3,f4,f5):=hf it (by simp);have hl:=rv.length;exact wpAny_pyNext_tuple_end (I.ok.hd hc) st (show s.heap.IsTuple a ai.toArray from p) (by simp; omega) λh' eb=>⟨rfl,I.turned (t':=s.toks) (λb o hb e=>eb b o hb e) f0 f1 f3 f4 f5⟩
 self:=λ_ _ _ _ _ st h=>wpAny_pyIter_tupleiter st h
theorem ZN{P:Qe}{w:Qh}{K:qc}{tg:Expr}(it:Qg)(lo:Int)(n:Nat):Turn P w K tg (w4 lo n) [it] it (λi h=>IsRangeIter h it (lo+(i:Nat) * 1) ((n:Int) - (i:Nat)) 1) where
 mem:=by simp
 obj:=λi h st b hb=>by
  have e:b=it:=by simpa using hb
  subst e;exact⟨_,st,λv z=>by
   have z':Data.fields _=Data.cell v:=z;cases z'⟩
 keep:=λi h h' st k=>k it (by simp) _ st
 item:=by
  intro X hP hw hK hc i pins s σ H E I hf st hg;subst hP hw hK;have(f0,f1,f2,f3,f4,f5):=hf it (by simp);have W:=Walks.range (prog:=X.prog) (w:=X.w) (I.ok.hd hc) it lo 1 n;refine W.item i s _ _ hg st λv h' tk hv gT kk=>?_;have(t,rfl):=hv;have I1:Inv X pins σ H {s with heap:=h',toks:=tk}:=I.turned (λb o hb e=>kk b o (by simpa using hb) e) f0 f1 f3 f4 f5;refine⟨_,rfl,uJ (s:={s with heap:=h',toks:=tk}) (n := "range_iterator") gT rfl rfl (by decide) ⟨.int<|lo+i,H,I1,⟨t,?_⟩,⟨rfl,rfl⟩,gT,λb hb=>(hf b hb).1⟩⟩;rw[Int.mul_one]
 done:=by
  intro X hP hw hK hc i pins s σ H E I hf st hg;subst hP hw hK;have(f0,f1,f2,f3,f4,f5):=hf it (by simp);exact wpAny_pyNext_range_end (I.ok.hd hc) st (by have:n<=i:=hg; omega) λh' eb=>⟨rfl,I.turned (t':=s.toks) (λb o hb e=>eb b o hb e) f0 f1 f3 f4 f5⟩
 self:=λ_ _ _ _ _ st h=>wpAny_pyIter_rangeiter st h
section
variable{X:Cx}{tg:Expr}
def CJ(K:qc)(tl:TE):TI:=λσ H R=>tl σ H λx H1=>∃ a,x=.ref a/\(∃ xs,bq K H1 a xs)/\R (Oz K a) H1
def B5(K:qc)(tl:TE):TI:=λσ H R=>tl σ H λx H1=>∃ a,x=.ref a/\(∃ xs,bj K H1 a xs)/\R (Oy K a) H1
theorem UL{l:Expr}{tl:TE}(hl:PE X l tl):PI X tg l (CJ X.K tl):=by
 intro pins s σ H R I h;refine aA (hl pins s σ H _ I h) λv s1 hZ=>?_;have(x,H1,I1,r1,q1):=hZ;obtain⟨a,e,⟨xs,hq⟩,q⟩:=q1;subst e;cases r1;have(ai,rv,p,hz):=I1.list hq;refine wpAny_pyIter_list p.isList ?_;refine⟨s1.heap.objs.size,[s1.heap.objs.size],_,_,H1,rfl,I1.kept (t':=s1.toks) λb o e=>qd _ e,Yo a _,⟨_,qg _ rfl,rfl,rfl⟩,λb hb=>?_,q⟩;have e:b=s1.heap.objs.size:=by simpa using hb
 subst e;exact I1.eY (qe _)<|I1.aw.fresh<|qe _
theorem Ri{l:Expr}{tl:TE}(hl:PE X l tl):PI X tg l (B5 X.K tl):=by
 intro pins s σ H R I h;refine aA (hl pins s σ H _ I h) λv s1 hZ=>?_;have(x,H1,I1,r1,q1):=hZ;obtain⟨a,e,⟨xs,hq⟩,q⟩:=q1;subst e;cases r1;have(ai,rv,p,hz):=I1.tuple hq;refine wpAny_pyIter_tuple (show s1.heap.IsTuple a ai.toArray from p) ?_;refine⟨s1.heap.objs.size,[s1.heap.objs.size],_,_,H1,rfl,I1.kept (t':=s1.toks) λb o e=>qd _ e,ZO a _,⟨_,qg _ rfl,rfl,rfl⟩,λb hb=>?_,q⟩;have e:b=s1.heap.objs.size:=by simpa using hb
 subst e;exact I1.eY (qe _)<|I1.aw.fresh<|qe _
theorem Km{pins:Qa (Qg×Obj)}{σ:St}{H:Hp}{s:Qd}{R:It->Hp->Prop}{E:Qc->Qd->Prop}{lo hi:Int}{t u v:Tok}{tk:Nat}(I:Inv X pins σ H s)(h1:-(2^62)<=lo)(h2:lo < 2^62)(h3:-(2^62)<=hi)(h4:hi < 2^62)
  (q:R (w4 lo (hi - lo).toNat) H):wpAny (model X.prog X.w) X.A (pyIter<|.ref s.heap.objs.size) (Gz X pins σ tg R) E {s with heap:=s.heap.push {cls:=.type "range",data:=.fields #[.int lo t,.int hi u,.int 1 v]},toks:=tk}:=by
 refine wpAny_pyIter_range (IsRange.new ..) (small_one h1 h2 h3 h4) ?_;have I1:Inv X pins σ H {s with heap:=s.heap.push {cls:=.type "range",data:=.fields #[.int lo t,.int hi u,.int 1 v]},toks:=tk}:=I.kept λb o e=>qd _ e;refine⟨(s.heap.push {cls:=.type "range",data:=.fields #[.int lo t,.int hi u,.int 1 v]}).objs.size,[(s.heap.push {cls:=.type "range",data:=.fields #[.int lo t,.int hi u,.int 1 v]}).objs.size],_,_,H,rfl,
  I1.kept (t':=tk) λb o e=>qd _ e,ZN _ lo (hi - lo).toNat,?_,λb hb=>?_,q⟩
 .have e1:lo+((0:Nat):Int) * 1=lo:=by simp
  have e2:(((hi - lo).toNat:Nat):Int) - ((0:Nat):Int)=Builtin.Range.rangeSize lo hi 1:=by rw[rangeSize_one]; split<;>omega
  show IsRangeIter _ _ (lo+((0:Nat):Int) * 1) ((((hi - lo).toNat:Nat):Int) - ((0:Nat):Int)) 1;rw[e1,e2];exact qg _ rfl
 .have e:b=(s.heap.push {cls:=.type "range",data:=.fields #[.int lo t,.int hi u,.int 1 v]}).objs.size:=by simpa using hb
  subst e;exact I1.eY (qe _)<|I1.aw.fresh<|qe _
def CI(ta:TA):TI:=λσ H R=>ta σ H λvs H1=>∃ j:Int,vs=[.int j]/\-(2^62)<=j/\j < 2^62/\R (w4 0 j.toNat) H1
def CH(ta:TA):TI:=λσ H R=>ta σ H λvs H1=>∃ i j:Int,vs=[.int i,.int j]/\(-(2^62)<=i/\i < 2^62/\-(2^62)<=j/\j < 2^62)/\R (w4 i (j - i).toNat) H1
theorem Yn{a:Expr}{ta:TA}{p pos:Pos}(hg:Gl X "range")(hm:X.mg "range"=none)(ha:PA X [a] ta)(hs:starEach [a] X.env=[(false,eval a X.env)]:=by rfl):PI X tg (.Call (.Name "range" p) [a] [] pos) (CI ta):=by
 intro pins s σ H R I h;refine Call_<|og I hg hm boot_range<|Ñ (aA (ha pos pins s σ H _ I h) λus s1 hZ=>?_) hs rfl;have(vs,H1,I1,r1,q1):=hZ;have(j,e,q1,q2,q):=q1;subst e;cases r1 with
 | cons r rr=>
  cases rr;have(t,rfl):=r;exact call_range_1<|Km I1 (by omega) (by omega) q1 q2 (by simpa using q)
theorem Ym{a b:Expr}{ta:TA}{p pos:Pos}(hg:Gl X "range")(hm:X.mg "range"=none)(ha:PA X [a,b] ta)(hs:starEach [a,b] X.env=[(false,eval a X.env),(false,eval b X.env)]:=by rfl)(lO:starEach [b] X.env=[(false,eval b X.env)]:=by rfl):
  PI X tg (.Call (.Name "range" p) [a,b] [] pos) (CH ta):=by
 intro pins s σ H R I h;refine Call_<|og I hg hm boot_range<|Ñ (aA (ha pos pins s σ H _ I h) λus s1 hZ=>?_) (by rw[hs,lO]) (by rw[lO]; rfl);have(vs,H1,I1,r1,q1):=hZ;obtain⟨i,j,e,⟨q1,q2,q3,q4⟩,q⟩:=q1;subst e;cases r1 with
 | cons r rr=>
  cases rr with
  | cons r' rr=>
   cases rr;have(t,rfl):=r;have(t',rfl):=r';exact call_range_2<|Km I1 q1 q2 q3 q4 q
def BW(wi:TI)(g:TG)(tb:TS):TS:=λD σ H=>wi σ H λJ H1=>∃ W:Nat->Nat->St->Hp->Prop,(∃ m,W 0 m σ H1)/\∀ i m σ H,W i m σ H->
 (J.stop i H/\D.nx σ H)\/(J.go i H/\∃ N:St->Hp->Prop,(∀ aG H',N aG H'->∃ m',m' < m/\W (i+1) m' aG H')/\∀ x H',J.vG i H x H'->g x σ H' λfE H2=>tb {D with nx:=N,ct:=N,bk:=D.nx} fE H2)
def u4(fp:Qa Qg)(h:Heap):Qa (Qg×Obj):=fp.filterMap λb=>(h.get? b).map λo=>(b,o)
theorem Ag{fp:Qa Qg}{h:Heap}{b:Qg}{o:Obj}(hb:b∈fp)(e:h.get? b=some o):(b,o)∈u4 fp h:=List.mem_filterMap.mpr ⟨b,hb,by rw[e]; rfl⟩
theorem Yl{fp:Qa Qg}{h:Heap}{p:Qg×Obj}(hp:p∈u4 fp h):p.1∈fp/\h.get? p.1=some p.2:=by
 have(b,hb,e):=List.mem_filterMap.mp hp;cases q:h.get? b with
 | none=>rw[q]at e; cases e
 | some o=>
  rw[q]at e;have e':(b,o)=p:=qx e;subst e';exact⟨hb,q⟩
theorem Inv.pinned{pins:Qa (Qg×Obj)}{σ:St}{H:Hp}{s:Qd}{fp:Qa Qg}(I:Inv X pins σ H s)(hf:∀ b∈fp,g7 X pins H b)(ho:∀ b∈fp,∃ o,s.heap.get? b=some o/\∀ v,o.data≠.cell v):Inv X (pins++u4 fp s.heap) σ H s :=
 I.dP λp hp=>(Á.mp hp).elim (λz=>I.pin p<|qw _ z) λz=>by
  have(hb,e):=Yl z;have(f0,f1,f2,_):=hf p.1 hb;have(o,e',d):=ho p.1 hb;rw[e]at e'; cases e';exact⟨e,f0,f1,f2,d⟩
theorem Inv.dY{pins pl:Qa (Qg×Obj)}{σ:St}{H:Hp}{s:Qd}(I:Inv X (pins++pl) σ H s):Inv X pins σ H s:=I.dP λp hp=>I.pin p<|qw _<|Â _ hp
theorem Rh{iter:Expr}{body:Qa Stmt}{wi:TI}{g:TG}{tb:TS}{pos:Pos}(hp:PassesOwn (model X.prog X.w) X.A X.env X.xe)(hc:X.calm=true)(hi:PI X tg iter wi)(hg:PG X tg g)(hb:dG X body tb)
  (hs:∀ x,foldedSetIterable iter X.env x=pure x:=by intro _; rfl):PS X (.For tg iter body [] pos) (BW wi g tb):=by
 intro pins s σ H D I h;refine wpAny_For (aA (hi pins s σ H _ I h) λv s1 h1=>aA h1 λAY s2 h2=>?_) hs;obtain⟨it,fp,tn,J,H2,e,I2,T,oJ,f2,W,⟨m0,w0⟩,turn⟩:=h2;subst e;have qJ:∀ {H':Hp},(∀ b∈fp,H' b=none)->∀ b∈fp,g7 X pins H' b:=λhn b hb=>⟨hn b hb,(f2 b hb).2⟩;refine codeAny_forLoop_any (λn s'=>∃ i aG H',Inv X pins aG H' s'/\tn i s'.heap/\(∀ b∈fp,H' b=none)/\W i n aG H') ?_ m0 ⟨0,σ,H2,I2,oJ,λb hb=>(f2 b hb).1,w0⟩;rintro n s3 ⟨i,fe,H3,I3,vQ,wI,w3⟩;rcases turn i n fe H3 w3 with⟨stop,qn⟩|⟨go,N,hN,step⟩
 .refine wpAny_passesOwn hp (aA (T.done X rfl rfl rfl hc i pins s3 fe H3 X.xe I3 (qJ wI) vQ stop) λr s4 hZ=>?_)
  have(hr,I4):=hZ;subst hr;exact wpAny_execs_nil ⟨fe,H3,I4,qn⟩
 .refine wpAny_passesOwn hp (aA (T.item X rfl rfl rfl hc i pins s3 fe H3 X.xe I3 (qJ wI) vQ go) λr s4 hZ=>?_)
  have(u,hr,h4):=hZ;subst hr;refine wpAny_passesOwn hp<|aA h4 λ_ s5 hZ=>?_;have(x,H5,I5,r5,y5,qK,Gh):=hZ;have GA:=I5.pinned (qJ Gh) (T.obj _ _ qK);refine wpAny_passesOwn hp<|aA (hg _ s5 fe H5 x u _ GA r5<|step x H5 y5) λ_ s6 hZ=>?_;have(t8,H6,I6,q6):=hZ;refine wpAny_passesOwn hp<|aA (hb _ s6 t8 H6 _ I6 q6) λf s7 q7=>?_;have again:∀ {jL:St} {H7:Hp},Inv X (pins++u4 fp s5.heap) jL H7 s7->N jL H7->∃ m,m < n/\∃ i aG H',Inv X pins aG H' s7/\tn i s7.heap/\(∀ b∈fp,H' b=none)/\W i m aG H':=λ{jL H7} I7 n7=>by
   have(m',hm,w7):=hN jL H7 n7;refine⟨m',hm,i+1,jL,H7,I7.dY,T.keep _ _ _ qK λb hb o e=>(I7.pin (b,o)<|qw _<|qw _<|Ag hb e).1,λb hb=>?_,w7⟩;have(o,e,d):=T.obj _ _ qK b hb;exact(I7.pin (b,o)<|qw _<|qw _<|Ag hb e).2.1
  cases f with
  | next=>have(jL,H7,I7,n7):=q7; exact again I7 n7
  | cont=>have(jL,H7,I7,n7):=q7; exact again I7 n7
  | brk=>have(jL,H7,I7,q7):=q7; exact⟨jL,H7,I7.dY,q7⟩
  | ret v=>have(x7,jL,H7,I7,r7,q7):=q7; exact⟨x7,jL,H7,I7.dY,r7,q7⟩
end
abbrev R2:=V->V->Hp->VK->Prop
def bu(X:Cx)(f:Qc->Qc->Sem Qc)(r:R2):Prop :=
 ∀ (pins:Qa (Qg×Obj)) (s:Qd) (σ:St) (H:Hp) (x y:V) (v u:Qc) (Q:VK),Inv X pins σ H s->zD x v->zD y u->r x y H Q->
  wpAny (model X.prog X.w) X.A (f v u) (EP X pins σ Q) X.xe s
def Bm(X:Cx)(f:Qc->Sem Qc)(r:V->Hp->VK->Prop):Prop :=
 ∀ (pins:Qa (Qg×Obj)) (s:Qd) (σ:St) (H:Hp) (x:V) (v:Qc) (Q:VK),Inv X pins σ H s->zD x v->r x H Q->
  wpAny (model X.prog X.w) X.A (f v) (EP X pins σ Q) X.xe s
def eE(X:Cx)(f:Qc)(r:Qa V->Hp->VK->Prop):Prop :=
 ∀ (pins:Qa (Qg×Obj)) (s:Qd) (σ:St) (H:Hp) (xs:Qa V) (us:Qa Qc) (Q:VK),Inv X pins σ H s->zF xs us->r xs H Q->
  wpAny (model X.prog X.w) X.A (call f us) (EP X pins σ Q) X.xe s
def zBb(X:Cx)(r:V->Hp->(Bool->Hp->Prop)->Prop):Prop :=
 ∀ (pins:Qa (Qg×Obj)) (s:Qd) (σ:St) (H:Hp) (x:V) (v:Qc) (Q:Bool->Hp->Prop),Inv X pins σ H s->zD x v->r x H Q->
  wpAny (model X.prog X.w) X.A (truthy v) (TP X pins σ Q) X.xe s
def kC(r:R2)(ta tb:TE):TE:=λσ H Q=>ta σ H λx H1=>tb σ H1 λy H2=>r x y H2 Q
def ER(r:V->Hp->VK->Prop)(ta:TE):TE:=λσ H Q=>ta σ H λx H1=>r x H1 Q
def rI(C:Int->Int->Prop)(g:Int->Int->V):R2:=λx y H Q=>∃ i j,x=.int i/\y=.int j/\C i j/\Q (g i j) H
def ia(g:Int->Int->V):R2:=λx y H Q=>∃ i j,x=.int i/\y=.int j/\Q (g i j) H
def rU(g:Int->V):V->Hp->VK->Prop:=λx H Q=>∃ i,x=.int i/\Q (g i) H
section
variable{X:Cx}{a b c:Expr}{ta tb tc:TE}{pos:Pos}
theorem BV(ha:PE X a ta)(hb:PE X b tb){pins:Qa (Qg×Obj)}{s:Qd}{σ:St}{H:Hp}{R:V->V->Hp->Prop}(I:Inv X pins σ H s)
  (h:ta σ H λx H1=>tb σ H1 λy H2=>R x y H2) {Q:Qc->Qd->Prop} {f:Qc->Qc->Sem Qc}
  (hf:∀ v u s2 x y H2,Inv X pins σ H2 s2->zD x v->zD y u->R x y H2->wpAny (model X.prog X.w) X.A (f v u) Q X.xe s2):
  wpAny (model X.prog X.w) X.A (eval a X.env) (λv aC=>wpAny (model X.prog X.w) X.A (eval b X.env) (λu gD=>wpAny (model X.prog X.w) X.A (f v u) Q X.xe gD) X.xe aC) X.xe s:=by
 refine aA (ha pins s σ H _ I h) λv s1 hZ=>?_;have(x,H1,I1,r1,q1):=hZ;refine aA (hb pins s1 σ H1 _ I1 q1) λu s2 hZ=>?_;have(y,H2,I2,r2,q2):=hZ;exact hf v u s2 x y H2 I2 r1 r2 q2
theorem OU{op:Operator}{r:R2}(ho:bu X (binaryOp op) r)(ha:PE X a ta)(hb:PE X b tb):PE X (.BinOp a op b pos) (kC r ta tb):=by
 intro pins s σ H Q I h;exact wpAny_BinOp<|BV ha hb I h λv u s2 x y H2 I2 rx ry q=>ho pins s2 σ H2 x y v u Q I2 rx ry q
theorem OT{op:UnaryOp}{r:V->Hp->VK->Prop}(ho:Bm X (unaryOp op) r)(ha:PE X a ta):PE X (.UnaryOp op a pos) (ER r ta):=by
 intro pins s σ H Q I h;exact UnaryOp_<|aA (ha pins s σ H _ I h) λv s1 ⟨x,H1,I1,r1,q1⟩=>ho pins s1 σ H1 x v Q I1 r1 q1
theorem tI{f:Qc->Qc->Sem Qc}{C:Int->Int->Prop}{g:Int->Int->Int}
  (rule:∀ (i j:Int) (t u:Tok) (s:Qd) (Q:Qc->Qd->Prop) (E:Qc->Qd->Prop),C i j->Q (.int (g i j) s.toks) {s with toks:=s.toks+1}->wpAny (model X.prog X.w) X.A (f (.int i t)<|.int j u) Q E s):
  bu X f (rI C λi j=>.int<|g i j):=by
 intro pins s σ H x y v u Q I rx ry h;have(i,j,rfl,rfl,hc,q):=h;have(t,rfl):=rx;have(t',rfl):=ry;exact rule i j t t' s _ _ hc ⟨.int<|g i j,H,I.tok _,⟨_,rfl⟩,q⟩
theorem GJ{f:Qc->Qc->Sem Qc}{g:Int->Int->Int}
  (rule:∀ (i j:Int) (t u:Tok) (s:Qd) (Q:Qc->Qd->Prop) (E:Qc->Qd->Prop),Q (.int (g i j) s.toks) {s with toks:=s.toks+1}->wpAny (model X.prog X.w) X.A (f (.int i t)<|.int j u) Q E s):
  bu X f (ia λi j=>.int<|g i j):=by
 intro pins s σ H x y v u Q I rx ry h;have(i,j,rfl,rfl,q):=h;have(t,rfl):=rx;have(t',rfl):=ry;exact rule i j t t' s _ _ ⟨.int<|g i j,H,I.tok _,⟨_,rfl⟩,q⟩
theorem xp{f:Qc->Qc->Sem Qc}{g:Int->Int->Bool}
  (rule:∀ (i j:Int) (t u:Tok) (s:Qd) (Q:Qc->Qd->Prop) (E:Qc->Qd->Prop),Q (.bool<|g i j) s->wpAny (model X.prog X.w) X.A (f (.int i t)<|.int j u) Q E s):
  bu X f (ia λi j=>.bl<|g i j):=by
 intro pins s σ H x y v u Q I rx ry h;have(i,j,rfl,rfl,q):=h;have(t,rfl):=rx;have(t',rfl):=ry;exact rule i j t t' s _ _ ⟨.bl<|g i j,H,I,rfl,q⟩
def xo(i j:Int):Prop:=0<=j/\j<=1000000/\i.natAbs < 2^64
def rN(i j:Int):Prop:=(-(2^64) < i/\i < 2^64)\/(-(2^64) < j/\j < 2^64)
theorem rN.ok{i j:Int}(h:rN i j):IntMulOk i j:=by
 rcases h with⟨h1,h2⟩|⟨h1,h2⟩
 .exact .of_left (intBits_le_64 h1 h2)
 .exact .of_right (intBits_le_64 h1 h2)
theorem eU:bu X (binaryOp .Add) (ia λi j=>.int<|i+j):=GJ λ_ _ _ _ _ _ _ q=>add_int q
theorem ki:bu X (binaryOp .Sub) (ia λi j=>.int<|i - j):=GJ λ_ _ _ _ _ _ _ q=>sub_int q
theorem jz:bu X (binaryOp .Mult) (rI rN λi j=>.int<|i * j):=tI λ_ _ _ _ _ _ _ hc q=>mul_int q hc.ok
theorem lB:bu X (binaryOp .Mod) (rI (λ_ j=>0 < j) λi j=>.int<|i % j):=tI λi j _ _ _ _ _ hc q=>by
 have h1:(0:Int) < j:=hc;exact mod_int' (by omega) (by rw[Int.fmod_eq_emod_of_nonneg i (by omega)]; exact q)
theorem Rg:bu X (binaryOp .Pow) (rI xo λi j=>.int<|i^j.toNat):=tI λ_ _ _ _ _ _ _ hc q=>pow_int_small hc.1 hc.2.1 hc.2.2 q
theorem unI{f:Qc->Sem Qc}{g:Int->Int}
  (rule:∀ (i:Int) (t:Tok) (s:Qd) (Q:Qc->Qd->Prop) (E:Qc->Qd->Prop),Q (.int (g i) s.toks) {s with toks:=s.toks+1}->wpAny (model X.prog X.w) X.A (f<|.int i t) Q E s):
  Bm X f (rU λi=>.int<|g i):=by
 intro pins s σ H x v Q I rx h;have(i,rfl,q):=h;have(t,rfl):=rx;exact rule i t s _ _ ⟨.int<|g i,H,I.tok _,⟨_,rfl⟩,q⟩
theorem uZ:Bm X (unaryOp .USub) (rU λi=>.int (-i)):=unI λ_ _ _ _ _ q=>neg_int q
end
def BU:V->V->Bool
 | .aI,.aI=>true | .aI,.int _=>true | .int _,.aI=>true | .aI,.bl _=>true | .bl _,.aI=>true | .aI,.str _=>true | .str _,.aI=>true
 | .int _,.int _=>true | .bl _,.bl _=>true | .str _,.str _=>true | .iS _,.iS _=>true
 | .int _,.str _=>true | .str _,.int _=>true | .bl _,.str _=>true | .str _,.bl _=>true
 | _,_=>false
def Nk:R2:=λx y H Q=>BU x y=true/\Q (.bl<|decide<|x=y) H
def Nj:R2:=λx y H Q=>BU x y=true/\Q (.bl (!decide (x=y))) H
theorem Jk{i j:Int}:decide (V.int i=V.int j)=(i==j):=by
 rw[Bool.eq_iff_iff];simp
theorem Im{i j:Bool}:decide (V.bl i=V.bl j)=(i==j):=by
 rw[Bool.eq_iff_iff];simp
theorem Jj{i j:Str}:decide (V.str i=V.str j)=(i==j):=by
 rw[Bool.eq_iff_iff];simp
theorem Ji{i j:Array UInt8}:decide (V.iS i=V.iS j)=(i.toList==j.toList):=by
 rw[Bool.eq_iff_iff];cases i;cases j;simp
section
variable{X:Cx}{a b c:Expr}{ta tb tc:TE}{pos:Pos}
theorem cy{pins:Qa (Qg×Obj)}{σ:St}{H:Hp}{s:Qd}{Q:VK}{k k':Bool}(I:Inv X pins σ H s)(q:Q (.bl k) H)(e:k=k'):EP X pins σ Q (.bool k') s:=by
 subst e;exact⟨.bl k,H,I,rfl,q⟩
theorem gv:bu X (compareOp .Eq) Nk:=by
 intro pins s σ H x y v u Q I rx ry h;have(hs,q):=h;cases x with
 | aI=>
  cases rx;cases y with
  | aI=>cases ry; exact PySem.EqNone.eq_none_none<|cy I q (by simp)
  | bl j=>cases ry; exact PySem.EqNone.eq_none_bool<|cy I q (by simp)
  | int j=>have(t',rfl):=ry; exact PySem.EqNone.eq_none_int<|cy I q (by simp)
  | str j=>have(t',rfl):=ry; exact PySem.EqNone.eq_none_str<|cy I q (by simp)
  | _=>exact absurd (show false=true from hs) qf
 | bl i=>
  cases rx;cases y with
  | aI=>cases ry; exact PySem.EqNone.eq_bool_none<|cy I q (by simp)
  | bl j=>cases ry; exact eq_bool<|cy I q Im
  | str j=>have(t',rfl):=ry; exact PySem.EqMixed.eq_bool_str<|cy I q (by simp)
  | _=>exact absurd (show false=true from hs) qf
 | int i=>
  have(t,rfl):=rx;cases y with
  | aI=>cases ry; exact PySem.EqNone.eq_int_none<|cy I q (by simp)
  | int j=>have(t',rfl):=ry; exact eq_int<|cy I q Jk
  | str j=>have(t',rfl):=ry; exact PySem.EqMixed.eq_int_str<|cy I q (by simp)
  | _=>exact absurd (show false=true from hs) qf
 | str i=>
  have(t,rfl):=rx;cases y with
  | aI=>cases ry; exact PySem.EqNone.eq_str_none<|cy I q (by simp)
  | bl j=>cases ry; exact PySem.EqMixed.eq_str_bool<|cy I q (by simp)
  | int j=>have(t',rfl):=ry; exact PySem.EqMixed.eq_str_int<|cy I q (by simp)
  | str j=>have(t',rfl):=ry; exact eq_str<|cy I q Jj
  | _=>exact absurd (show false=true from hs) qf
 | iS i=>
  have(t,rfl):=rx;cases y with
  | iS j=>have(t',rfl):=ry; exact PySem.W.eq_bytes<|cy I q Ji
  | _=>exact absurd (show false=true from hs) qf
 | _=>cases y<;>exact absurd (show false=true from hs) qf
theorem uI:bu X (compareOp .NotEq) Nj:=by
 intro pins s σ H x y v u Q I rx ry h;have(hs,q):=h;cases x with
 | aI=>
  cases rx;cases y with
  | aI=>cases ry; exact PySem.EqNone.ne_none_none<|cy I q (by simp)
  | bl j=>cases ry; exact PySem.EqNone.ne_none_bool<|cy I q (by simp)
  | int j=>have(t',rfl):=ry; exact PySem.EqNone.ne_none_int<|cy I q (by simp)
  | str j=>have(t',rfl):=ry; exact PySem.EqNone.ne_none_str<|cy I q (by simp)
  | _=>exact absurd (show false=true from hs) qf
 | bl i=>
  cases rx;cases y with
  | aI=>cases ry; exact PySem.EqNone.ne_bool_none<|cy I q (by simp)
  | bl j=>cases ry; exact ne_bool<|cy I q<|congrArg not Im
  | str j=>have(t',rfl):=ry; exact PySem.EqMixed.ne_bool_str<|cy I q (by simp)
  | _=>exact absurd (show false=true from hs) qf
 | int i=>
  have(t,rfl):=rx;cases y with
  | aI=>cases ry; exact PySem.EqNone.ne_int_none<|cy I q (by simp)
  | int j=>have(t',rfl):=ry; exact ne_int<|cy I q<|congrArg not Jk
  | str j=>have(t',rfl):=ry; exact PySem.EqMixed.ne_int_str<|cy I q (by simp)
  | _=>exact absurd (show false=true from hs) qf
 | str i=>
  have(t,rfl):=rx;cases y with
  | aI=>cases ry; exact PySem.EqNone.ne_str_none<|cy I q (by simp)
  | bl j=>cases ry; exact PySem.EqMixed.ne_str_bool<|cy I q (by simp)
  | int j=>have(t',rfl):=ry; exact PySem.EqMixed.ne_str_int<|cy I q (by simp)
  | str j=>have(t',rfl):=ry; exact ne_str<|cy I q<|congrArg not Jj
  | _=>exact absurd (show false=true from hs) qf
 | iS i=>
  have(t,rfl):=rx;cases y with
  | iS j=>have(t',rfl):=ry; exact PySem.W.ne_bytes<|cy I q<|congrArg not Ji
  | _=>exact absurd (show false=true from hs) qf
 | _=>cases y<;>exact absurd (show false=true from hs) qf
theorem pM:bu X (compareOp .Lt) (ia λi j=>.bl<|decide<|i < j):=xp λ_ _ _ _ _ _ _ q=>lt_int q
theorem xQ:bu X (compareOp .LtE) (ia λi j=>.bl<|decide<|i<=j):=xp λ_ _ _ _ _ _ _ q=>le_int q
theorem CG:bu X (compareOp .Gt) (ia λi j=>.bl<|decide<|j < i):=xp λ_ _ _ _ _ _ _ q=>gt_int q
theorem OS:bu X (compareOp .GtE) (ia λi j=>.bl<|decide<|j<=i):=xp λ_ _ _ _ _ _ _ q=>ge_int q
theorem Jh:bu X (compareOp .IsNot) (λx y H Q=>y=.aI/\Q (.bl (!decide (x=.aI))) H):=by
 intro pins s σ H x y v u Q I rx ry h;have(rfl,q):=h;cases ry;refine isnot_none_gen<|cy I q ?_;cases x<;>first
  | (cases rx; rfl)
  | (have(t,rfl):=rx; rfl)
theorem Il(b:Expr){op:CmpOp}(h:op≠.In:=by decide)(h2:op≠.NotIn:=by decide):behindInMarks op b=false:=by
 have e1:(op==CmpOp.In)=false:=by cases op<;>first|rfl|exact absurd rfl h
 have e2:(op==CmpOp.NotIn)=false:=by cases op<;>first|rfl|exact absurd rfl h2
 cases b<;>simp[behindInMarks,e1,e2]
theorem UK{op:CmpOp}{r:R2}(ho:bu X (compareOp op) r)(ha:PE X a ta)(hb:PE X b tb)(hm:behindInMarks op b=false):PE X (.Compare a [op] [b] pos) (kC r ta tb):=by
 intro pins s σ H Q I h;exact wpAny_Compare1 (BV ha hb I h λv u s2 x y H2 I2 rx ry q=>ho pins s2 σ H2 x y v u Q I2 rx ry q) hm
def uH(t:TE):TT:=λσ H Q=>t σ H λx H'=>∃ k,x=.bl k/\Q k H'
theorem UJ{op:CmpOp}{r:R2}(ho:bu X (compareOp op) r)(ha:PE X a ta)(hb:PE X b tb)(hm:behindInMarks op b=false):PT X (.Compare a [op] [b] pos) (uH<|kC r ta tb):=by
 intro pins s σ H Q I h;refine wpAny_isTrue_Compare1 (aA (ha pins s σ H _ I h) λv s1 ⟨x,H1,I1,r1,q1⟩=>aA (hb pins s1 σ H1 _ I1 q1) λu s2 ⟨y,H2,I2,r2,q2⟩=>
  aA (ho pins s2 σ H2 x y v u _ I2 r1 r2 q2) λc s3 ⟨z,H3,I3,r3,k,e,q3⟩=>?_) hm
 subst e;cases r3;exact wpAny_truthy_bool ⟨H3,I3,q3⟩
def uY(r r':R2)(ta tb tc:TE):TE:=λσ H Q=>ta σ H λx H1=>tb σ H1 λy H2=>r x y H2 λz H3=>∃ k,z=.bl k/\
 (if k=true then tc σ H3 λw' H4=>r' y w' H4 Q else Q (.bl false) H3)
theorem XB{op ic:CmpOp}{r r':R2}(ho:bu X (compareOp op) r)(c9:bu X (compareOp ic) r')(ha:PE X a ta)(hb:PE X b tb)(hc:PE X c tc)
  (hm:lastMarks [op,ic] [b,c]=false:=by with_unfolding_all rfl):PE X (.Compare a [op,ic] [b,c] pos) (uY r r' ta tb tc):=by
 intro pins s σ H Q I h;refine Compare_chain (aA (ha pins s σ H _ I h) λv s1 ⟨x,H1,I1,r1,q1⟩=>chain_link (aA (hb pins s1 σ H1 _ I1 q1) λu s2 ⟨y,H2,I2,r2,q2⟩=>
  aA (ho pins s2 σ H2 x y v u _ I2 r1 r2 q2) λd s3 ⟨z,H3,I3,r3,k,e,q3⟩=>?_)) hm
 subst e;cases r3;refine wpAny_truthy_bool ?_;cases k with
 | false=>exact ite_ff ⟨.bl false,H3,I3,rfl,q3⟩
 | true=>exact ite_tt<|chain_last<|aA (hc pins s3 σ H3 _ I3 q3) λw' s4 ⟨z',H4,I4,r4,q4⟩=>c9 pins s4 σ H4 y z' u w' Q I4 r2 r4 q4
theorem XA{op ic:CmpOp}{r r':R2}(ho:bu X (compareOp op) r)(c9:bu X (compareOp ic) r')(ha:PE X a ta)(hb:PE X b tb)(hc:PE X c tc)
  (hm:lastMarks [op,ic] [b,c]=false:=by with_unfolding_all rfl):PT X (.Compare a [op,ic] [b,c] pos) (uH<|uY r r' ta tb tc):=by
 intro pins s σ H Q I h;refine isTrue_chain (aA (ha pins s σ H _ I h) λv s1 ⟨x,H1,I1,r1,q1⟩=>test_link (aA (hb pins s1 σ H1 _ I1 q1) λu s2 ⟨y,H2,I2,r2,q2⟩=>
  aA (ho pins s2 σ H2 x y v u _ I2 r1 r2 q2) λd s3 ⟨z,H3,I3,r3,k,e,q3⟩=>?_)) hm
 subst e;cases r3;refine wpAny_truthy_bool ?_;cases k with
 | false=>
  have(k',e',q'):=q3;cases e';exact ite_ff ⟨H3,I3,q'⟩
 | true=>
  refine ite_tt<|test_last<|aA (hc pins s3 σ H3 _ I3 q3) λw' s4 ⟨z',H4,I4,r4,q4⟩=>aA (c9 pins s4 σ H4 y z' u w' _ I4 r2 r4 q4) λd' s5 hZ=>?_;have(z2,H5,I5,r5,k2,e2,q5):=hZ;subst e2;cases r5;exact wpAny_truthy_bool ⟨H5,I5,q5⟩
def BS(K:qc)(x:V)(H:Hp)(k:Bool):Prop :=
 match x with
 | .aI=>k=false
 | .bl b=>k=b
 | .int i=>k=(i != 0)
 | .str y=>y.length<=sizeLine/\k=((y.length:Int) != 0)
 | .iS y=>y.size<=sizeLine/\k=((y.size:Int) != 0)
 | .ref p=>(∃ xs,bq K H p xs/\k=!xs.isEmpty)\/(∃ xs,bj K H p xs/\k=!xs.isEmpty)\/∃ kvs,H p=some (.dK kvs)/\k=!kvs.isEmpty
 | _=>False
theorem ZM{κ:Type}{kvs:Qa (κ×V)}{vs:Qa (κ×Qc)}(r:KV kvs vs):(!vs.isEmpty)=!kvs.isEmpty:=by
 cases r<;>rfl
theorem Ll{xs:Qa V}{ai:Qa Qc}(r:zF xs ai):(!ai.toArray.isEmpty)=!xs.isEmpty:=by
 cases r<;>simp
theorem sX:(sizeLine:Nat) < 2^63:=by rw[sizeLine_eq]; decide
theorem Rf:zBb X (λx H Q=>∃ k,BS X.K x H k/\Q k H):=by
 intro pins s σ H x v Q I rx h;have(k,e,q):=h;have hl:=sX;have hs:sizeLine=16777216:=sizeLine_eq;cases x with
 | aI=>
  cases rx;have e':k=false:=e;subst e';exact truthy_none ⟨H,I,q⟩
 | bl b=>
  cases rx;have e':k=b:=e;subst e';exact wpAny_truthy_bool ⟨H,I,q⟩
 | int i=>
  have(t,rfl):=rx;have e':k=(i != 0):=e;subst e';exact PySem.P.truthy_int ⟨H,I,q⟩
 | str y=>
  have(t,rfl):=rx;obtain⟨hy,e'⟩:y.length<=sizeLine/\k=((y.length:Int) != 0):=e;subst e';exact PySem.P.truthy_str (by omega) ⟨H,I.tok _,q⟩
 | iS y=>
  have(t,rfl):=rx;obtain⟨hy,e'⟩:y.size<=sizeLine/\k=((y.size:Int) != 0):=e;subst e';exact PySem.W.truthy_bytes (by omega) ⟨H,I.tok _,q⟩
 | ref p=>
  cases rx;have e':(∃ xs,bq X.K H p xs/\k=!xs.isEmpty)\/(∃ xs,bj X.K H p xs/\k=!xs.isEmpty)\/∃ kvs,H p=some (.dK kvs)/\k=!kvs.isEmpty:=e;rcases e' with⟨xs,hx,e'⟩|⟨xs,hx,e'⟩|⟨kvs,hx,e'⟩
  .subst e'
   have(ai,r,pl,hz):=I.list hx;have hlen:=r.length;exact wpAny_truthy_list pl.isList (by simp only[List.size_toArray]; omega) ⟨H,I.tok _,by rw[Ll r]; exact q⟩
  .subst e'
   have(ai,r,pl,hz):=I.tuple hx;have hlen:=r.length;exact truthy_tuple pl (by simp only[List.size_toArray]; omega) ⟨H,I.tok _,by rw[Ll r]; exact q⟩
  .subst e'
   obtain⟨hz,hS,vs,r,m⟩:kvs.length<=sizeLine/\(p==sysModules)=false/\∃ vs,KV kvs vs/\s.heap.DictOf (zC X.prog X.w) p vs:=I.aw p _ hx;have hlen:kvs.length=vs.length:=Paired.length r;exact wpAny_truthy_dict hS m (by omega) ⟨H,I.tok _,by rw[ZM r]; exact q⟩
 | _=>exact(show False from e).elim
theorem Kl(ha:PE X a ta)(he:∀ whole,isTrue a X.env whole=(do let v <-whole; standAt a.pos; holding [v] (truthy v))):
  PT X a (λσ H Q=>ta σ H λx H'=>∃ k,BS X.K x H' k/\Q k H'):=by
 intro pins s σ H Q I h;exact isTrue_plain (aA (ha pins s σ H _ I h) λv s1 ⟨x,H1,I1,r1,q1⟩=>Rf pins s1 σ H1 x v Q I1 r1 q1)<|he _
theorem Af:bu X (binaryOp .Add) (λx y H Q=>∃ i j,x=.str i/\y=.str j/\i.length+j.length<=sizeLine/\Q (.str<|i++j) H):=by
 intro pins s σ H x y v u Q I rx ry h;have(i,j,rfl,rfl,hz,q):=h;have(t,rfl):=rx;have(t',rfl):=ry;exact add_str (λt' tk=>⟨.str<|i++j,H,I.tok _,⟨_,rfl⟩,q⟩) hz
theorem jT{x:V}{us:Qa Qc}(r:zF [x] us):∃ u,us=[u]/\zD x u:=by
 cases r with
 | cons r1 r2=>cases r2; exact⟨_,rfl,r1⟩
theorem xP{x y:V}{us:Qa Qc}(r:zF [x,y] us):∃ u w',us=[u,w']/\zD x u/\zD y w':=by
 cases r with
 | cons r1 r2=>
  cases r2 with
  | cons r3 r4=>cases r4; exact⟨_,_,rfl,r1,r3⟩
theorem Kw:eE X (.builtin "abs") (λxs H Q=>∃ i,xs=[.int i]/\Q (.int (if i < 0 then -i else i)) H):=by
 intro pins s σ H xs us Q I r h;have(i,rfl,q):=h;have(u,rfl,t,rfl):=jT r;exact call_abs_int λu tk=>⟨.int (if i < 0 then -i else i),H,I.tok _,⟨_,rfl⟩,q⟩
theorem Yk(hc:X.calm=true):eE X (.builtin "max") (λxs H Q=>∃ i j,xs=[.int i,.int j]/\Q (.int (if j > i then j else i)) H):=by
 intro pins s σ H xs us Q I r h;have(i,j,rfl,q):=h;obtain⟨u,w',rfl,⟨t,rfl⟩,⟨t',rfl⟩⟩:=xP r;refine max_two_ints (I.ok.hd hc) λh' tk k=>⟨_,H,I.kept k,?_,q⟩
 by_cases hj:j > i
 .rw[if_pos hj,if_pos hj]; exact⟨_,rfl⟩
 .rw[if_neg hj,if_neg hj]; exact⟨_,rfl⟩
theorem Yj(hc:X.calm=true):eE X (.builtin "min") (λxs H Q=>∃ i j,xs=[.int i,.int j]/\Q (.int (if j < i then j else i)) H):=by
 intro pins s σ H xs us Q I r h;have(i,j,rfl,q):=h;obtain⟨u,w',rfl,⟨t,rfl⟩,⟨t',rfl⟩⟩:=xP r;refine min_two_ints (I.ok.hd hc) λh' tk k=>⟨_,H,I.kept k,?_,q⟩
 by_cases hj:j < i
 .rw[if_pos hj,if_pos hj]; exact⟨_,rfl⟩
 .rw[if_neg hj,if_neg hj]; exact⟨_,rfl⟩
theorem Ai:eE X (.type "int") (λxs H Q=>(∃ i,xs=[.int i]/\Q (.int i) H)\/∃ k,xs=[.bl k]/\Q (.int (if k then 1 else 0)) H):=by
 intro pins s σ H xs us Q I r h;rcases h with⟨i,rfl,q⟩|⟨k,rfl,q⟩
 .have(u,rfl,t,rfl):=jT r
  exact call_int_int ⟨.int i,H,I,⟨_,rfl⟩,q⟩
 .have(u,rfl,r1):=jT r
  cases r1;exact call_int_bool ⟨.int (if k then 1 else 0),H,I.tok _,⟨_,rfl⟩,q⟩
end
structure iy (h:Heap) (x dx C:Qg) (mA:Str->Qb Qc):Prop where
 obj:h.get? x=some (PySem.W.instObj C dx)
 ns:h.Ns1 dx mA
 ne:dx≠x
theorem Yi{h:Heap}{dx:Qg}{mA:Str->Qb Qc}(n:h.Ns1 dx mA):∃ od,h.get? dx=some od/\∀ name,PySem.W.lookIn name od=some (mA name):=by
 have(o,es,ep,ho,hd,hk,_,hm):=n;refine⟨o,ho,λname=>?_⟩;have e:=hm name;unfold nsFind findBy at e;rw[<-Array.find?_toList]at e;unfold PySem.W.lookIn;rw[hd];dsimp only;split
 .rename_i y q
  rw[q]at e;exact congrArg some e
 .rename_i q
  rw[q]at e;have a:es.toList.any (·.refKey)=false:=by
   rw[List.any_eq_false];intro y hy;have(z,t,F2):=hk y (Array.mem_toList_iff.mp hy);simp[DictEntry.refKey,F2]
  have a':¬es.toList.any (·.refKey)=true:=by rw[a]; exact qf
  rw[if_neg a'];exact congrArg some e
theorem iy.look{h:Heap}{x dx C:Qg}{mA:Str->Qb Qc}(I:iy h x dx C mA):∃ od,PySem.W.InstAt h x (PySem.W.instObj C dx) C (some od)/\∀ name,PySem.W.lookIn name od=some (mA name):=
 let ⟨od,ho,hl⟩:=Yi I.ns
 ⟨od,⟨I.obj,rfl,rfl,ho⟩,hl⟩
section
variable{prog:Qe}{w:Qh}{A:Qf}{E:Qc->Qd->Prop}{s:Qd}{K:qc}{x dx C f:Qg}{mA:Str->Qb Qc}{name:Str}{v:Qc}
theorem UI{expr:Bool}{Q:Qc->Qd->Prop}(X:K.In s.heap)(I:iy s.heap x dx C mA)(hg:PySem.W.plainGet K C name=true)(hh:PySem.W.hasDictIn K C=true)
  (ha:PySem.W.findIn K (.ref C) name=some none) (hv:mA name=some v) (jc:PySem.W.handedIn v=true) (h:Q v {s with toks:=s.toks+1}):
  wpAny (model prog w) A (getAttr (.ref x) name expr) Q E s:=by
 have(od,J,hl):=I.look;exact PySem.W.get_value X J (PySem.W.plainGet_of hg).1 (PySem.W.findObj_own hh ha rfl (by rw[hl,hv])) jc h
theorem Xz{pl:Sem Bool}{Q:Qc×Qa Qc->Qd->Prop}(X:K.In s.heap)(I:iy s.heap x dx C mA)(hg:PySem.W.plainGet K C name=true)
  (hf:PySem.W.findIn K (.ref C) name=some (some<|.ref f)) (ht:PySem.W.isFn K (.ref f)=true) (hv:mA name=none) (h:Q (.ref f,[.ref x]) s):
  wpAny (model prog w) A (getMethod (.ref x) name pl) Q E s:=by
 have(od,J,hl):=I.look;exact PySem.W.method_fn X J (PySem.W.plainGet_of hg).1 (PySem.W.plainGet_of hg).2 hf (beq_iff_eq.mp ht) (by show(PySem.W.lookIn name od).map (·.isSome)=some false; rw[hl,hv]; rfl) h
theorem UH{ns:Qa Str}{Q:Unit->Qd->Prop}(X:K.In s.heap)(I:iy s.heap x dx C mA)
  (hs:PySem.W.findIn K (.ref C) "__setattr__"=some (some<|.builtin "object.__setattr__")) (hp:PySem.W.plainOver K C=true) (ht:PySem.W.takerIn K C name=some none) (hh:PySem.W.hasDictIn K C=true)
  (hw:PySem.Within mA ns) (hsz:ns.length<=sizeLine)
  (h:∀ h',iy h' x dx C (λy=>if y=name then some v else mA y)->Heap.SameBut dx s.heap h'->Q () {s with heap:=h',toks:=s.toks+2}):
  wpAny (model prog w) A (setAttr (.ref x) name v) Q E s:=by
 have(od,J,hl):=I.look;refine PySem.W.set_plain X J hs<|PySem.W.osa_open (s:={s with toks:=s.toks+1}) (r:=none) X J hp ht λb=>?_;have(cd,hc,jI):=PySem.W.any_some hh;have hx:s.heap.get? x=some ⟨.ref C,some dx,.plain,#[]⟩:=I.obj;refine qa<|qb<|qa<|qa<|wpAny_loadPart hx<|qa<|PySem.W.Looks.here (s:={s with toks:=s.toks+1}) (PySem.W.looks_clsIn X hc) ?_;rw[jI];refine qb (a:=some dx)<|qa<|qb<|qa ?_;refine wpAny_nsSet1 (s:={s with toks:=s.toks+1}) I.ns λh' A5 lO=>?_;have(oD,esD,epD,hoD,hdD,hcD):=A5.count (PySem.Within.cons name v hw);refine qa<|wpAny_lookBehind hoD (by rw[hdD]; exact pastItsLine_dict<|qy hcD (by rw[qu]; omega)) ?_;exact qb<|h _ ⟨(lO.2 _<|Ne.symm I.ne).trans I.obj,A5,I.ne⟩ lO
theorem Xy{R:Result->Qd->Prop}{vs:Qa Qc}{kw:Qa (Str×Qc)}(X:K.In s.heap)(hm:PySem.W.makesIn K C=true)
  (hi:PySem.W.findIn K (.ref C) "__init__"=some (some<|.ref f)) (hf:PySem.W.typeIn K (.ref f)=some (.type "function"))
  (h:codeAny (model prog w) (A.under<|.builtin "type.__call__" ⟨.ref C::vs,kw⟩) (.call (.ref f) ⟨.ref (s.heap.objs.size+1)::vs,kw⟩) (PySem.W.InitBack (s.heap.objs.size+1) R)
   {s with heap:=(s.heap.push PySem.W.emptyDict).push (PySem.W.instObj C s.heap.objs.size)}):
  codeAny (model prog w) A (.call (.ref C) ⟨vs,kw⟩) R s:=by
 have(hh,g,d,t,os):=s;exact PySem.W.make_core (PySem.W.makes_of X hm) (PySem.W.looks_findIn X hi) (λself=>PySem.W.bind_fn X self hf) (.inl rfl) h
end
def fZ(f:Str)(v:V):Qa (Str×V)->Qa (Str×V)
 | []=>[(f,v)]
 | (g,x)::r=>if g=f then(g,v)::r else(g,x)::fZ f v r
theorem Ly(f g:Str)(v:V):∀ fs:Qa (Str×V),(fZ f v fs).lookup g=if g=f then some v else fs.lookup g
 | []=>by
  show List.lookup g [(f,v)]=_
  by_cases h:g=f
  .have hb:(g==f)=true:=beq_iff_eq.mpr h
   simp only[List.lookup,hb,if_pos h]
  .have hb:(g==f)=false:=beq_eq_false_iff_ne.mpr h
   simp only[List.lookup,hb,if_neg h]
 | (k,x)::r=>by
  have ih:=Ly f g v r;rw[show fZ f v ((k,x)::r)=(if k=f then(k,v)::r else(k,x)::fZ f v r) from rfl]
  by_cases hk:k=f
  .rw[if_pos hk]
   by_cases h:g=k
   .have hb:(g==k)=true:=beq_iff_eq.mpr h
    simp only[List.lookup,hb,if_pos<|h.trans hk]
   .have hb:(g==k)=false:=beq_eq_false_iff_ne.mpr h
    simp only[List.lookup,hb,if_neg (λe:g=f=>h<|e.trans hk.symm)]
  .rw[if_neg hk]
   by_cases h:g=k
   .have hb:(g==k)=true:=beq_iff_eq.mpr h
    simp only[List.lookup,hb,if_neg (λe:g=f=>hk<|h.symm.trans e)]
   .have hb:(g==k)=false:=beq_eq_false_iff_ne.mpr h
    simp only[List.lookup,hb];exact ih
theorem El(f:Str)(v:V):∀ fs:Qa (Str×V),f∈(fZ f v fs).map (·.1)/\∀ g,g∈fs.map (·.1)->g∈(fZ f v fs).map (·.1)
 | []=>⟨by simp[fZ],λg h=>by simp at h⟩
 | (k,x)::r=>by
  have(i1,i2):=El f v r;rw[show fZ f v ((k,x)::r)=(if k=f then(k,v)::r else(k,x)::fZ f v r) from rfl]
  by_cases hk:k=f
  .rw[if_pos hk]
   subst hk;exact⟨by simp,λg h=>by simpa using h⟩
  .rw[if_neg hk]
   refine⟨?_,λg h=>?_⟩
   .rw[List.map_cons]
    exact qo _ i1
   .rw[List.map_cons]at h ⊢
    rcases qv.mp h with e|e
    .exact qv.mpr (.inl e)
    .exact qo _ (i2 g e)
theorem Lw(f:Str)(v:V):∀ fs:Qa (Str×V),(fZ f v fs).length<=fs.length+1
 | []=>by simp[fZ]
 | (k,x)::r=>by
  have ih:=Lw f v r;rw[show fZ f v ((k,x)::r)=(if k=f then(k,v)::r else(k,x)::fZ f v r) from rfl]
  by_cases hk:k=f
  .rw[if_pos hk,qu,qu]; omega
  .rw[if_neg hk,qu,qu]; omega
theorem ff.some_of{v:V}{o:Qb Qc}(r:ff (some v) o):∃ u,o=some u/\zD v u:=by
 cases o with
 | none=>exact(show False from r).elim
 | some u=>exact⟨u,rfl,r⟩
theorem ff.none_of{o:Qb Qc}(r:ff none o):o=none:=by
 cases o with
 | none=>rfl
 | some u=>exact(show False from r).elim
theorem Yh{v:V}{u:Qc}(r:zD v u):PySem.W.handedIn u=true:=by
 cases v with
 | aI=>cases(show u=Value.none from r); rfl
 | bl b=>cases(show u=Value.bool b from r); rfl
 | int i=>have(t,e):=(show ∃ t,u=Value.int i t from r); cases e; rfl
 | str x=>have(t,e):=(show ∃ t,u=Value.str x t from r); cases e; rfl
 | iS b=>have(t,e):=(show ∃ t,u=Value.bytes b t from r); cases e; rfl
 | rA b=>have(t,e):=(show ∃ t,u=Value.float b t from r); cases e; rfl
 | ref a=>cases(show u=Value.ref a from r); rfl
 | ty n=>cases(show u=Value.type n from r); rfl
section
variable{P:Qe}{w:Qh}{K:qc}{H H':Hp}{h h':Heap}{a C dx:Qg}{fs fs':Qa (Str×V)}
theorem yA(aw:bD P w K H h)(e:H a=some (.ins C dx fs)):∃ mA,iy h a dx C mA/\(∀ f,ff (fs.lookup f)<|mA f)/\PySem.Within mA (fs.map (·.1))/\fs.length<=1000/\H dx=some (.own a):=by
 have(d,z,ne,ob,mA,n,r,q):=(show zI P w K H h a (.ins C dx fs) from aw a _ e);exact⟨mA,⟨ob,n,ne⟩,r,q,z,d⟩
end
structure dQ (K:qc) (C:Qg):Prop where
 pg:PySem.W.plainGet K C Str.empty=true
 hd:PySem.W.hasDictIn K C=true
 po:PySem.W.plainOver K C=true
 sa:PySem.W.findIn K (.ref C) "__setattr__"=some (some<|.builtin "object.__setattr__")
theorem dQ.get{K:qc}{C:Qg}(c:dQ K C)(f:Str):PySem.W.plainGet K C f=true:=c.pg
def eT(K:qc)(C:Qg)(f:Str):Prop:=PySem.W.findIn K (.ref C) f=some none
theorem eT.vM{K:qc}{C:Qg}{f:Str}(n:eT K C f):PySem.W.takerIn K C f=some none:=by
 unfold PySem.W.takerIn;rw[show PySem.W.findIn K (.ref C) f=some none from n];rfl
structure rK (K:qc) (C:Qg) (m:Str) (f:Qg):Prop where
 at_:PySem.W.findIn K (.ref C) m=some (some<|.ref f)
 fn:PySem.W.isFn K (.ref f)=true
 kp:PySem.W.keepIn K (.ref f)=true
section
variable{X:Cx}{pins:Qa (Qg×Obj)}{σ:St}{H:Hp}{s:Qd}{a C dx:Qg}{fs:Qa (Str×V)}{f:Str}{v:V}{A:Qf}{E:Qc->Qd->Prop}
theorem ZL{b:Bool}{Q:Qc->Qd->Prop}(I:Inv X pins σ H s)(e:H a=some (.ins C dx fs))(c:dQ X.K C)(n:eT X.K C f)(l:fs.lookup f=some v)
  (h:∀ u s',Inv X pins σ H s'->zD v u->Q u s'):wpAny (model X.prog X.w) A (getAttr (.ref a) f b) Q E s:=by
 have(mA,O,r,_,_,_):=yA I.aw e;have(u,hu,ru):=ff.some_of (v:=v) (o:=mA f) (by rw[<-l]; exact r f);exact UI I.aW O (c.get f) c.hd n hu (Yh ru)<|h u _ (I.tok _) ru
theorem ZK{m:Str}{g:Qg}{pl:Sem Bool}{Q:Qc×Qa Qc->Qd->Prop}(I:Inv X pins σ H s)(e:H a=some (.ins C dx fs))(c:dQ X.K C)(k:rK X.K C m g)(l:fs.lookup m=none)
  (h:Q (.ref g,[.ref a]) s):wpAny (model X.prog X.w) A (getMethod (.ref a) m pl) Q E s:=by
 have(mA,O,r,_,_,_):=yA I.aw e;have hn:mA m=none:=ff.none_of (by rw[<-l]; exact r m);exact Xz I.aW O (c.get m) k.at_ k.fn hn h
theorem ZJ{y:V}{u:Qc}{Q:Unit->Qd->Prop}(I:Inv X pins σ H s)(e:H a=some (.ins C dx fs))(c:dQ X.K C)(n:eT X.K C f)(hl:fs.length < 1000)(ry:zD y u)
  (h:∀ s',Inv X pins σ (upd H a<|.ins C dx<|fZ f y fs) s'->Q () s'):wpAny (model X.prog X.w) A (setAttr (.ref a) f u) Q E s:=by
 have(mA,O,r,wi,_,ho):=yA I.aw e;have hz:(fs.map (·.1)).length<=sizeLine:=by rw[List.length_map,sizeLine_eq]; omega
 refine UH I.aW O c.sa c.po n.vM c.hd wi hz λh' O' sb=>h _ ?_;have hd:∃ o,h'.get? dx=some o:=let ⟨o,_,_,e',_⟩:=O'.ns; ⟨o,e'⟩;refine I.write (x:=a) (e:=dx) (by rw[e]; exact True.intro) (.inr ho) (λb q hb z=>(sb.2 b hb).trans z) hd ?_;refine⟨by rw[zt O.ne]; exact ho,?_,O.ne,O'.obj,_,O'.ns,λg=>?_,λg hg=>?_⟩
 .have:=Lw f y fs; omega
 .show ff ((fZ f y fs).lookup g) (if g=f then some u else mA g)
  rw[Ly]
  by_cases q:g=f
  .rw[if_pos q,if_pos q]; exact ry
  .rw[if_neg q,if_neg q]; exact r g
 .by_cases q:g=f
  .rw[q]; exact(El f y fs).1
  .refine(El f y fs).2 g (wi g λz=>hg ?_)
   show(if g=f then some u else mA g)=none;rw[if_neg q]; exact z
theorem Inv.made(I:Inv X pins σ H s):Inv X pins σ (upd (upd H s.heap.objs.size<|.own<|s.heap.objs.size+1) (s.heap.objs.size+1)<|.ins C s.heap.objs.size [])
  {s with heap:=(s.heap.push PySem.W.emptyDict).push (PySem.W.instObj C s.heap.objs.size)}:=by
 have e1:(s.heap.push PySem.W.emptyDict).get? s.heap.objs.size=some PySem.W.emptyDict:=qg s.heap rfl;have e2:((s.heap.push PySem.W.emptyDict).push<|PySem.W.instObj C s.heap.objs.size).get? (s.heap.objs.size+1)=some (PySem.W.instObj C s.heap.objs.size):=by
  have:=qg (s.heap.push PySem.W.emptyDict) (o:=PySem.W.instObj C s.heap.objs.size) rfl
  rwa[Heap.size_push]at this
 have e3:(s.heap.push PySem.W.emptyDict).Ns s.heap.objs.size (λ_=>none):=⟨PySem.W.emptyDict,#[],_,e1,rfl,(λe he=>absurd he (by simp)),λ_=>rfl⟩;have I1:=I.laid (a:=s.heap.objs.size) (o:=.own (s.heap.objs.size+1)) (h':=s.heap.push PySem.W.emptyDict) (t':=s.toks) (λb u q=>qd _ q) (qe _) ⟨_,e1⟩;refine I1.laid (a:=s.heap.objs.size+1) (o:=.ins C s.heap.objs.size []) (t':=s.toks) (λb u q=>qd _ q) (Ü<|Heap.size_push _ _) ?_;have ne:s.heap.objs.size≠s.heap.objs.size+1:=qj (Ø _);refine⟨by rw[zt ne,zr],Ì _,ne,e2,λ_=>none,(Heap.Ns1.of_empty e3).at λo q=>qd _ q,λ_=>True.intro,λy hy=>absurd rfl hy⟩
theorem UG{prog:Qe}{w:Qh}{env:Env}{e:Expr}{f:Str}{pos:Pos}{s:Qd}{Q:Qc->Qd->Prop}(hb:attributeBase e f env (eval e env)=eval e env)
  (h:wpAny (model prog w) A (eval e env) (λo aC=>wpAny (model prog w) A (getAttr o f true) Q E aC) E s):wpAny (model prog w) A (eval (.Attribute e f pos) env) Q E s :=
 Attribute_any_ h (by rw[arm_eval_Attribute,hb])
end
def uh(K:qc)(ta:TE)(f:Str):TE:=λσ H Q=>ta σ H λx H1=>∃ a C dx fs v,x=.ref a/\H1 a=some (.ins C dx fs)/\dQ K C/\eT K C f/\fs.lookup f=some v/\Q v H1
def uo(K:qc)(ta tv:TE)(f:Str):TS:=λD σ H=>tv σ H λy H1=>ta σ H1 λx H2=>∃ a C dx fs,x=.ref a/\H2 a=some (.ins C dx fs)/\dQ K C/\eT K C f/\fs.length < 1000/\
 D.nx σ (upd H2 a<|.ins C dx<|fZ f y fs)
section
variable{X:Cx}{o e value:Expr}{f:Str}{pos pos' qI:Pos}{ta tv:TE}
theorem Iy(he:PE X e ta)(hb:attributeBase e f X.env (eval e X.env)=eval e X.env):PE X (.Attribute e f pos) (uh X.K ta f):=by
 intro pins s σ H Q I h;refine UG hb<|aA (he pins s σ H _ I h) λu s1 hZ=>?_;have(x,H1,I1,rx,a,C,dx,fs,v,ex,ea,c,n,l,q):=hZ;subst ex;obtain rfl:u=Value.ref a:=rx;exact ZL I1 ea c n l λu' s2 I2 ru=>⟨v,H1,I2,ru,q⟩
theorem Rc(ha:PE X o ta)(hv:PE X value tv)(hs:swapsWith value (some<|.Attribute o f pos') pos.line X.env=pure false):PS X (.Assign [.Attribute o f pos'] value pos) (uo X.K ta tv f):=by
 intro pins s σ H D I h;refine plainObj_wpAny_Assign_Attribute (aA (hv pins s σ H _ I h) λu s1 ⟨y,H1,I1,ry,q⟩=>aA (ha pins s1 σ H1 _ I1 q) λov s2 hZ=>?_) hs;have(x,H2,I2,rx,a,C,dx,fs,ex,ea,c,n,l,q2):=hZ;subst ex;obtain rfl:ov=Value.ref a:=rx;exact ZJ I2 ea c n l ry λs3 I3=>⟨σ,_,I3,q2⟩
end
section
variable{X:Cx}{pins:Qa (Qg×Obj)}{σ:St}{H:Hp}{s:Qd}{A:Qf}{E:Qc->Qd->Prop}{Q:Qc->Qd->Prop}{c:Qc}{b:Bool}
inductive cQ (K:qc) (H:Hp):V->Qc->Prop where
 | aI:cQ K H .aI (.type "NoneType")
 | bl (x:Bool):cQ K H (.bl x) (.type "bool")
 | int (i:Int):cQ K H (.int i) (.type "int")
 | str (x:Str):cQ K H (.str x) (.type "str")
 | rA (x:UInt64):cQ K H (.rA x) (.type "float")
 | lst {a:Qg} {xs:Qa V} (e:H a=some (.lst xs)):cQ K H (.ref a) (.type "list")
 | bg {a:Qg} {o:Obj} {xs:Qa V} (e:H a=some (.bg o<|.lst xs)):cQ K H (.ref a) (.type "list")
 | tup {a:Qg} {xs:Qa V} (e:aP K H a xs):cQ K H (.ref a) (.type "tuple")
 | dK {a:Qg} {kvs:Qa (Key×V)} (e:H a=some (.dK kvs)):cQ K H (.ref a) (.type "dict")
 | dT {a:Qg} {kvs:Qa (Qa Key×V)} (e:H a=some (.dT kvs)):cQ K H (.ref a) (.type "dict")
 | ins {a C dx:Qg} {fs:Qa (Str×V)} (e:H a=some (.ins C dx fs)) (cl:dQ K C) (ha:PySem.W.findIn K (.ref C) "__class__"=some (some<|.builtin "object.__class__"))
   (hn:PySem.W.specialIn K (.builtin "object.__class__") "__get__"=some (some<|.builtin "getset_descriptor.__get__")) (NL:PySem.W.takesIn K (.builtin "object.__class__")=some true)
   (hm:PySem.W.mroIn K C (.type "object")=some true):cQ K H (.ref a) (.ref C)
theorem Yg{x:V}{u t:Qc}(I:Inv X pins σ H s)(rx:zD x u)(ty:cQ X.K H x t)(e:PySem.W.kitOne X.K t c=some b)(h:∀ tk,Q (.bool b) {s with toks:=tk}):
  wpAny (model X.prog X.w) A (call (.builtin "isinstance") [u,c]) Q E s:=by
 cases ty with
 | aI=>cases(show u=Value.none from rx); exact Î PySem.W.kitx_none I.aW True.intro e (λz=>nomatch z) h
 | bl y=>cases(show u=Value.bool y from rx); exact Î PySem.W.kitx_bool I.aW True.intro e (λz=>nomatch z) h
 | int i=>have(t,q):=(show ∃ t,u=Value.int i t from rx); cases q; exact Î PySem.W.kitx_int I.aW True.intro e (λz=>nomatch z) h
 | str y=>have(t,q):=(show ∃ t,u=Value.str y t from rx); cases q; exact Î PySem.W.kitx_str I.aW True.intro e (λz=>nomatch z) h
 | rA y=>have(t,q):=(show ∃ t,u=Value.float y t from rx); cases q; exact Î PySem.W.kitx_float I.aW True.intro e (λz=>nomatch z) h
 | @lst a xs ea=>
  cases(show u=Value.ref a from rx);have(_,_,n,_,h1):=(show zI X.prog X.w X.K H s.heap a (.lst xs) from I.aw a _ ea);exact Î PySem.W.kitx_list I.aW ⟨_,h1,rfl⟩ e (λz=>nomatch z) h
 | @bg a ob xs ea=>
  cases(show u=Value.ref a from rx);have(_,_,_,n,_,h1):=(show zI X.prog X.w X.K H s.heap a (.bg ob<|.lst xs) from I.aw a _ ea);exact Î PySem.W.kitx_list I.aW ⟨_,h1,rfl⟩ e (λz=>nomatch z) h
 | @tup a xs ea=>
  cases(show u=Value.ref a from rx);rcases ea with ea|⟨o,ai,n,hk,hc,_⟩
  case inr=>exact Î PySem.W.kitx_tuple I.aW ⟨o,I.aW a o hk,hc⟩ e (λz=>nomatch z) h
  have(_,_,_,p):=(show zI X.prog X.w X.K H s.heap a (.tup xs) from I.aw a _ ea);have(o,h1,h2,_):=p;exact Î PySem.W.kitx_tuple I.aW ⟨o,h1,h2⟩ e (λz=>nomatch z) h
 | @dK a kvs ea=>
  cases(show u=Value.ref a from rx);have(_,_,vs,_,p):=(show zI X.prog X.w X.K H s.heap a (.dK kvs) from I.aw a _ ea);have(o,es,ep,h1,h2,_):=p;exact Î PySem.W.kitx_dict I.aW ⟨o,h1,h2.1⟩ e (λz=>nomatch z) h
 | @dT a kvs ea=>
  cases(show u=Value.ref a from rx);have(_,_,xs,_,o,es,ep,h1,h2,_):=(show zI X.prog X.w X.K H s.heap a (.dT kvs) from I.aw a _ ea);exact Î PySem.W.kitx_dict I.aW ⟨o,h1,h2.1⟩ e (λz=>nomatch z) h
 | @ins a C dx fs ea cl ha hn NL hm=>
  cases(show u=Value.ref a from rx);have(mA,O,_):=yA I.aw ea;have(od,J,_):=O.look;exact Î (PySem.W.kitx_own (cl.get _) cl.hd ha hn NL hm) I.aW J e (λz=>nomatch z) h
end
structure aD (k:Nat) (A:Qf):Prop where
 hd:A.handled=none
 dp:A.depth+3 * k+5 < recursionLimit
 un:A.units+16 * k+200 < cLine
 gd:A.guards=some []
theorem aD.mono{j k:Nat}{A:Qf}(r:aD k A)(h:j<=k):aD j A:=⟨r.hd,by have:=r.dp; omega,by have:=r.un; omega,r.gd⟩
theorem aD.deeper{k:Nat}{A:Qf}(r:aD (k+1) A)(env:Env):aD k (A.deeper env):=
 ⟨r.hd,by have:=r.dp; show A.depth+1+3 * k+5 < _; omega,by have:=r.un; show A.units+3+16 * k+200 < _; omega,r.gd⟩
theorem ZI{A:Qf}{C:Qg}{us:Qa Qc}{kw:Qa (Str×Qc)}:(A.under<|.builtin "type.__call__" ⟨.ref C::us,kw⟩).depth=A.depth+1:=by
 first|rfl|simp[Around.under,Code.weight,Code.isCreation,Code.isGuard,Code.isCaller,Code.frames,Code.isFrame,guardIds]
theorem ZH{A:Qf}{C:Qg}{us:Qa Qc}{kw:Qa (Str×Qc)}:(A.under<|.builtin "type.__call__" ⟨.ref C::us,kw⟩).units=A.units+1:=by
 first|rfl|simp[Around.under,Code.cUnits,Code.frames,Code.isFrame]
theorem aD.make{k:Nat}{A:Qf}(r:aD (k+1) A)(C:Qg)(us:Qa Qc)(kw:Qa (Str×Qc)):aD k (A.under<|.builtin "type.__call__" ⟨.ref C::us,kw⟩):=
 ⟨r.hd,by have:=r.dp; rw[ZI]; omega,by have:=r.un; rw[ZH]; omega,by have:=r.gd; first|exact this|simpa [Around.under,Code.isGuard,guardIds] using this⟩
theorem aD.depth{k:Nat}{A:Qf}(r:aD k A):A.depth < recursionLimit:=by have:=r.dp; omega
theorem aD.units{k:Nat}{A:Qf}(r:aD k A):A.units+64 < cLine:=by have:=r.un; omega
def iH:TA:=λ_ H Q=>Q [] H
def iJ(ta:TE)(tr:TA):TA:=λσ H Q=>ta σ H λx H1=>tr σ H1 λxs H2=>Q (x::xs) H2
section
variable{X:Cx}{e:Expr}{es:Qa Expr}{te:TE}{t:TA}{pos:Pos}
theorem Rb:PA X [] iH:=λ_ _ _ _ H Q I h=>Calls.spliced_nil ⟨[],H,I,.nil,h⟩
theorem UE(ha:PE X e te)(hr:PA X es t)(hs:starEach (e::es) X.env=(false,eval e X.env)::starEach es X.env:=by rfl):PA X (e::es) (iJ te t):=by
 intro pos pins s σ H Q I h;rw[hs];show wpAny _ _ (spliced<|(false,eval e X.env)::backTo pos (starEach es X.env)) _ _ s;refine ö<|aA (ha pins s σ H _ I h) λu s1 hZ=>?_;have(x,H1,I1,r1,q1):=hZ;exact aA (hr pos pins s1 σ H1 _ I1 q1) λus s2 ⟨xs,H2,I2,r2,q2⟩=>⟨x::xs,H2,I2,.cons r1 r2,q2⟩
def xA(t:TA):TE:=λσ H Q=>t σ H λxs H1=>xs.length<=sizeLine/\∀ p,H1 p=none->Q (.ref p) (upd H1 p<|.tup xs)
def xx(t:TA):TE:=λσ H Q=>t σ H λxs H1=>xs.length<=sizeLine/\∀ p,H1 p=none->Q (.ref p) (upd H1 p<|.lst xs)
theorem Ra{x1}(h:PA X es t):PE X (.Tuple es x1 pos) (xA t):=by
 intro pins s σ H Q I hq;refine wpAny_Tuple_spliced<|aA (h pos pins s σ H _ I hq) λus s1 ⟨xs,H1,I1,r,z,q⟩=>⟨by rw[<-r.length]; exact z,?_⟩;have hf:H1 s1.heap.objs.size=none:=I1.aw.fresh (qe _);refine⟨.ref s1.heap.objs.size,upd H1 s1.heap.objs.size<|.tup xs,I1.laid (t':=s1.toks) (λb u e=>qd _ e) (qe _) ?_,rfl,q _ hf⟩;exact⟨z,us,r,⟨_,qg _ rfl,rfl,⟨_,rfl⟩,.inl rfl⟩⟩
theorem Q9(h:PA X es t):PE X (.List es pos) (xx t):=by
 intro pins s σ H Q I hq;refine wpAny_List_spliced<|aA (h pos pins s σ H _ I hq) λus s1 ⟨xs,H1,I1,r,z,q⟩=>⟨by rw[<-r.length]; exact z,?_⟩;have hf:H1 s1.heap.objs.size=none:=I1.aw.fresh (qe _);refine⟨.ref s1.heap.objs.size,upd H1 s1.heap.objs.size<|.lst xs,I1.laid (t':=s1.toks) (λb u e=>qd _ e) (qe _) ?_,rfl,q _ hf⟩;exact⟨z,us,0,r,qg _ rfl⟩
end
abbrev Sp:=Qa V->Hp->VK->XK->Prop
abbrev iU:=Qa Env->Hp->Qd->XK->Qc->Qd->Prop
structure iB (P:Qe) (w:Qh) (K:qc) (mg:Str->Qb Qc) (base:Heap) (A:Qf) (outer:Qa Env) (s:Qd) (H:Hp):Prop where
 frames:A.frames=some outer
 mod:Mod K mg base
 bs:∀ b o,base.get? b=some o->s.heap.get? b=some o/\H b=none
 lU:base.objs.size<=s.heap.objs.size
 dg:s.heap.FunFrames base outer
 o9:∀ b∈ji outer,H b=none
 aw:bD P w K H s.heap
 bare:AllBare s.gens
def CE(outer:Qa Env)(P:Qe)(w:Qh)(K:qc)(H:Hp)(s:Qd)(Q:VK)(u:Qc)(s':Qd):Prop :=
 ∃ v H',s'.os=s.os/\AllBare s'.gens/\Un (ji outer) [] H H' s.heap s'.heap/\bD P w K H' s'.heap/\zD v u/\Q v H'
def CR(CX:iU)(outer:Qa Env)(P:Qe)(w:Qh)(K:qc)(H:Hp)(s:Qd)(Q:VK)(E:XK)(r:Result)(s':Qd):Prop :=
 match r with
 | .ok (.ret u)=>CE outer P w K H s Q u s'
 | .ok _=>False
 | .error e=>CX outer H s E e s'
structure bP (P:Qe) (w:Qh) (K:qc) (mg:Str->Qb Qc) (base:Heap) (CX:iU) (k:Nat) (f:Qg) (fd:FuncData) (ps:Qa Str) (sp:Sp):Prop where
 len:∀ vs H Q E,sp vs H Q E->vs.length=ps.length
 run:∀ (A:Qf) (outer:Qa Env) (s:Qd) (H:Hp) (args:Args) (us:Qa Qc) (vs:Qa V) (Q:VK) (E:XK),aD k A->iB P w K mg base A outer s H->BindsTo s fd args (ps.zip us)->zF vs us->sp vs H Q E->
  codeAny (model P w) A (.call (.ref f) args) (CR CX outer P w K H s Q E) s
theorem iB.make{P:Qe}{w:Qh}{K:qc}{mg:Str->Qb Qc}{base:Heap}{A:Qf}{outer:Qa Env}{s:Qd}{H:Hp}(e:iB P w K mg base A outer s H)(C:Qg)(us:Qa Qc)(kw:Qa (Str×Qc)):
  iB P w K mg base (A.under<|.builtin "type.__call__" ⟨.ref C::us,kw⟩) outer s H:=⟨by first|exact e.frames | (simpa [Around.under,Code.envs,Code.isFrame,pushEnvs] using e.frames),e.mod,e.bs,e.lU,e.dg,e.o9,e.aw,e.bare⟩
section
variable{X:Cx}{pins:Qa (Qg×Obj)}{σ:St}{H:Hp}{s s':Qd}
theorem Inv.wM(I:Inv X pins σ H s):iB X.prog X.w X.K X.mg X.base X.A X.stack s H :=
 ⟨I.ok.frames,I.ok.mod,I.bs,qy I.ok.lU I.sz,I.stack,I.iL,I.aw,I.bare⟩
theorem Inv.after{Q:VK}{u:Qc}(I:Inv X pins σ H s)(h:CE X.stack X.prog X.w X.K H s Q u s'):EP X pins σ Q u s':=by
 have(v,H',os,bare,un,aw,r,q):=h;have(hh,g,d,t,AM):=s';obtain rfl:AM=s.os:=os;exact⟨v,H',I.call (h':=hh) (g':=g) (d':=d) (t':=t) (ch:=[]) un aw bare (λb z=>absurd z (by simp)),r,q⟩
end
def OR(sp:Sp)(dvs:Qa V)(E:XK)(t:TA):TE:=λσ H Q=>t σ H λvs H1=>sp (vs++dvs) H1 Q E
def Hl(C:Qg)(sp:Sp)(dvs:Qa V)(E:XK)(t:TA):TE:=λσ H Q=>t σ H λvs H1=>∀ x dx,H1 x=none->H1 dx=none->dx≠x->
 sp (.ref x::(vs++dvs)) (upd (upd H1 dx<|.own x) x<|.ins C dx []) (λv H2=>v=.aI/\Q (.ref x) H2) E
def jS(K:qc)(fd:FuncData)(ps:Qa Str)(ds:Qa Qc):Prop :=
 ∀ (s:Qd) (us:Qa Qc),K.In s.heap->(us++ds).length=ps.length->BindsTo s fd ⟨us,[]⟩ (ps.zip<|us++ds)
theorem jS.all{K:qc}{fd:FuncData}{ps:Qa Str}(h:∀ us:Qa Qc,us.length=ps.length->bindArgs fd ⟨us,[]⟩=pure (ps.zip us)):jS K fd ps []:=λs us _ hl=>by
 rw[List.append_nil]at hl ⊢;exact .of_eq<|h us hl
def uX(CX:iU)(X:Cx)(E:XK):Prop:=∀ (pins:Qa (Qg×Obj)) (σ:St) (H:Hp) (s:Qd) (e:Qc) (s':Qd),Inv X pins σ H s->CX X.stack H s E e s'->X.xe e s'
section
variable{X:Cx}{CX:iU}{k:Nat}{f C:Qg}{fd:FuncData}{ps:Qa Str}{sp:Sp}{dvs:Qa V}{ds:Qa Qc}{E:XK}{x m:Str}{p pos apos:Pos}{e o:Expr}{es:Qa Expr}{ta:TE}{t:TA}
theorem Iw{pins:Qa (Qg×Obj)}{σ:St}{H:Hp}{s:Qd}{Q:VK}{us:Qa Qc}{vs:Qa V}(F:bP X.prog X.w X.K X.mg X.base CX k f fd ps sp)(hr:aD k X.A)(hb:jS X.K fd ps ds)(hd:zF dvs ds)(hx:uX CX X E)
  (I:Inv X pins σ H s) (r:zF vs us) (h:sp (vs++dvs) H Q E):wpAny (model X.prog X.w) X.A (call (.ref f) us) (EP X pins σ Q) X.xe s:=by
 have r2:zF (vs++dvs) (us++ds):=r.append hd;have hl:(us++ds).length=ps.length:=by rw[<-r2.length]; exact F.len _ _ _ _ h
 refine wpAny_call<|codeAny_mono (F.run X.A X.stack s H ⟨us,[]⟩ (us++ds) (vs++dvs) Q E hr I.wM (hb s us I.aW hl) r2 h) λr s' hq=>?_;cases r with
 | error e=>exact hx pins σ H s e s' I hq
 | ok fl=>
  cases fl with
  | ret u=>exact I.after hq
  | next=>exact False.elim hq
  | brk=>exact False.elim hq
  | cont=>exact False.elim hq
theorem Vj(F:bP X.prog X.w X.K X.mg X.base CX k f fd ps sp)(hr:aD k X.A)(hg:Gl X x)(hm:X.mg x=some (.ref f))(hk:PySem.W.keepIn X.K (.ref f)=true)(hb:jS X.K fd ps ds)(hd:zF dvs ds)(hx:uX CX X E)
  (ha:PA X (e::es) t) (cK:(x==("__debug__":Str))=false:=by decide) (he:starEach (e::es) X.env=(false,eval e X.env)::starEach es X.env:=by rfl) (du:(backTo pos<|starEach es X.env).any (·.1)=false:=by rfl):
  PE X (.Call (.Name x p) (e::es) [] pos) (OR sp dvs E t):=by
 intro pins s σ H Q I h;refine wpAny_Call_Name_kw<|DY I hg hm ?_ cK;refine PySem.W.callWith_K (h₀:=X.base) I.ok.mod.cY hk (aA (ha pos pins s σ H _ I h) λus s1 ⟨vs,H1,I1,r,q⟩=>⟨I1.aW,?_⟩) he du;exact Iw F hr hb hd hx I1 r q
structure Mk (K:qc) (C f:Qg):Prop where
 makes:PySem.W.makesIn K C=true
 init:PySem.W.findIn K (.ref C) "__init__"=some (some<|.ref f)
 fn:PySem.W.isFn K (.ref f)=true
 kp:PySem.W.keepIn K (.ref C)=true
theorem X1{pins:Qa (Qg×Obj)}{σ:St}{H:Hp}{s:Qd}{Q:VK}{us:Qa Qc}{vs:Qa V}(M:Mk X.K C f)(F:bP X.prog X.w X.K X.mg X.base CX k f fd ps sp)(hr:aD (k+1) X.A)(hb:jS X.K fd ps ds)(hd:zF dvs ds)
  (hx:uX CX X E) (I:Inv X pins σ H s) (r:zF vs us)
  (h:∀ x dx,H x=none->H dx=none->dx≠x->sp (.ref x::(vs++dvs)) (upd (upd H dx<|.own x) x<|.ins C dx []) (λv H2=>v=.aI/\Q (.ref x) H2) E):
  wpAny (model X.prog X.w) X.A (call (.ref C) us) (EP X pins σ Q) X.xe s:=by
 have hq:=h (s.heap.objs.size+1) s.heap.objs.size (I.aw.fresh<|Nat.le_succ _) (I.aw.fresh<|qe _) (qj<|Ø _);have I2:=Inv.made (C:=C) I;have r2:zF (V.ref (s.heap.objs.size+1)::(vs++dvs)) (Value.ref (s.heap.objs.size+1)::(us++ds)):=.cons rfl (r.append hd);have hl:(Value.ref (s.heap.objs.size+1)::us++ds).length=ps.length:=by
  have e:=r2.length;rw[F.len _ _ _ _ hq]at e;exact e.symm
 refine wpAny_call<|Xy (f:=f) I.aW M.makes M.init (beq_iff_eq.mp M.fn)<|codeAny_mono (F.run _ X.stack _ _ ⟨Value.ref (s.heap.objs.size+1)::us,[]⟩ (Value.ref (s.heap.objs.size+1)::(us++ds)) _ _ E (hr.make C us [])
  (I2.wM.make C us []) (hb _ (Value.ref (s.heap.objs.size+1)::us) I2.aW hl) r2 hq) λr s' qY=>?_
 cases r with
 | error e=>exact hx pins σ _ _ e s' I2 qY
 | ok fl=>
  cases fl with
  | ret u=>
   have(v,H',I3,rv,ev,q3):=I2.after qY;subst ev;exact⟨rv,⟨V.ref<|s.heap.objs.size+1,H',I3,rfl,q3⟩⟩
  | next=>exact False.elim qY
  | brk=>exact False.elim qY
  | cont=>exact False.elim qY
theorem X0(M:Mk X.K C f)(F:bP X.prog X.w X.K X.mg X.base CX k f fd ps sp)(hr:aD (k+1) X.A)(hg:Gl X x)(hm:X.mg x=some (.ref C))(hb:jS X.K fd ps ds)(hd:zF dvs ds)(hx:uX CX X E)
  (cK:(x==("__debug__":Str))=false:=by decide):PE X (.Call (.Name x p) [] [] pos) (Hl C sp dvs E iH):=by
 intro pins s σ H Q I h;refine wpAny_Call_Name_kw<|DY I hg hm ?_ cK;exact PySem.W.callWith_K0 I.aW M.kp<|X1 (us:=[]) M F hr hb hd hx I .nil h
end
section
variable{X:Cx}{CX:iU}{k:Nat}{f C:Qg}{fd:FuncData}{ps ks:Qa Str}{sp:Sp}{E:XK}{x m:Str}{p pos apos Fp:Pos}{e o:Expr}{es:Qa Expr}{kws:Qa Keyword}{te ta:TE}{t tk:TA}{nm:Qb Str}
variable{g:Qa Qc->Qa Qc->Qa Qc}{gV:Qa V->Qa V->Qa V}
end
structure bo (N P:Qa Str) (sc:Scope):Prop where
 kind:sc.kind=.function
 co:sc.isCoroutine=false
 gen:sc.isGenerator=false
 nd:N.Nodup
 pre:N.take P.length=P
 par:∀ x∈P,sc.names.lookup x=some .local\/sc.names.lookup x=some .cell
 qS:∀ y∈sc.names,y.2≠.free
theorem KN{kindOf:Str->Qb NameKind}{x:Str}:∀ {binds:Qa (Str×Qc)} {m:Str->Qb Qc},(∀ v,(x,v)∉binds)->bindL kindOf binds m x=m x
 | [],_,_=>rfl
 | (n,v)::r,m,h=>by
  unfold bindL;rw[KN λw hw=>h w<|qo _ hw];split
  .have:x≠n:=by rintro rfl; exact h v qp
   simp[this]
  .rfl
theorem KL{kindOf:Str->Qb NameKind}{x:Str}:∀ {binds:Qa (Str×Qc)} {m:Str->Qb Qc},(∀ v,(x,v)∉binds)->bindC kindOf binds m x=m x
 | [],_,_=>rfl
 | (n,v)::r,m,h=>by
  unfold bindC;rw[KL λw hw=>h w<|qo _ hw];split
  .rfl
  .have:x≠n:=by rintro rfl; exact h v qp
   simp[this]
theorem KJ{kindOf:Str->Qb NameKind}{x:Str}{v:Qc}:∀ {P:Qa Str} {vs:Qa Qc} {i:Nat} {m:Str->Qb Qc},P.Nodup->P[i]?=some x->vs[i]?=some v->kindOf x=some .local->
  bindL kindOf (P.zip vs) m x=some v
 | [],_,_,_,_,h,_,_=>by simp at h
 | _::_,[],_,_,_,_,h,_=>by simp at h
 | p::P,w::vs,0,m,nd,h1,h2,hk=>by
  simp at h1 h2; subst h1; subst h2;show bindL kindOf ((p,w)::P.zip vs) m p=_;unfold bindL;rw[KN λv hv=>(List.nodup_cons.mp nd).1 (List.of_mem_zip hv).1,if_pos hk];simp
 | p::P,w::vs,i+1,m,nd,h1,h2,hk=>by
  show bindL kindOf ((p,w)::P.zip vs) m x=_;unfold bindL;exact KJ (i:=i) (õ.mp nd).2 (by simpa using h1) (by simpa using h2) hk
theorem KI{kindOf:Str->Qb NameKind}{x:Str}{v:Qc}:∀ {P:Qa Str} {vs:Qa Qc} {i:Nat} {m:Str->Qb Qc},P.Nodup->P[i]?=some x->vs[i]?=some v->kindOf x≠some .local->
  bindC kindOf (P.zip vs) m x=some v
 | [],_,_,_,_,h,_,_=>by simp at h
 | _::_,[],_,_,_,_,h,_=>by simp at h
 | p::P,w::vs,0,m,nd,h1,h2,hk=>by
  simp at h1 h2; subst h1; subst h2;show bindC kindOf ((p,w)::P.zip vs) m p=_;unfold bindC;rw[KL λv hv=>(List.nodup_cons.mp nd).1 (List.of_mem_zip hv).1,if_neg hk];simp
 | p::P,w::vs,i+1,m,nd,h1,h2,hk=>by
  show bindC kindOf ((p,w)::P.zip vs) m x=_;unfold bindC;exact KI (i:=i) (õ.mp nd).2 (by simpa using h1) (by simpa using h2) hk
def fq(N:Qa Str)(vs:Qa V):St:=vs.map some++List.replicate (N.length - vs.length) none
def lg(CX:iU)(P:Qe)(w:Qh)(K:qc)(mg:Str->Qb Qc)(base:Heap)(N:Qa Str)(qual:Str)(scope:Scope)(f:Qg)(cd:Qc)(A:Qf)(outer:Qa Env)(s:Qd)(H:Hp)(E:XK):Cx where
 prog:=P
 w:=w
 K:=K
 mg:=mg
 base:=base
 A:=A.deeper (envOfC qual scope s.heap.objs.size f cd)
 N:=N
 aZ:=s
 H₀:=H
 env:=envOfC qual scope s.heap.objs.size f cd
 outer:=outer
 stack:=envOfC qual scope s.heap.objs.size f cd::outer
 ex:=[]
 calm:=true
 fn:=λ_=>true
 pn:=[]
 xe:=λe s'=>wpAny (model P w) (A.deeper<|envOfC qual scope s.heap.objs.size f cd) (leaving (envOfC qual scope s.heap.objs.size f cd) e) (λ_ AJ=>CX outer H s E e AJ) (λe' AJ=>CX outer H s E e' AJ) s'
theorem Kv{sc:Scope}{n:Nat}{x:Str}(h:sc.names.lookup x=some .cell):∃ c,(cellsFrom n sc.names []).lookup x=some c:=by
 have q:=PySem.W.cellsFrom_some sc.names n [] (.inl h);exact ã.mp q
theorem Yf{CX:iU}{P:Qe}{w:Qh}{K:qc}{mg:Str->Qb Qc}{base:Heap}{N ps:Qa Str}{qual:Str}{scope:Scope}{f:Qg}{cd:Qc}{A:Qf}{outer:Qa Env}{s s1:Qd}{H:Hp}{E:XK}{us:Qa Qc}{vs:Qa V}
  (S:bo N ps scope) (hd:A.handled=none) (e0:iB P w K mg base A outer s H) (hl:vs.length=ps.length) (r:zF vs us)
  (x:InCallC s s.heap.objs.size (bindL (envOfC qual scope s.heap.objs.size f cd).kindOf (ps.zip us) λ_=>none) (cellsFrom (s.heap.objs.size+1) scope.names []) (bindC (envOfC qual scope s.heap.objs.size f cd).kindOf (ps.zip us) λ_=>none) s1):
  Inv (lg CX P w K mg base N qual scope f cd A outer s H E) [] (fq N vs) H s1:=by
 have du:ps.length<=N.length:=by have:=congrArg List.length S.pre; rw[List.length_take]at this; omega
 have(h1,tk,rfl,hk):=x.done;have vV:∀ b:Qg,b∉(lg CX P w K mg base N qual scope f cd A outer s H E).ex:=λb z=>absurd (show b∈([]:Qa Qg) from z) (by simp);refine⟨⟨e0.mod,S.kind,rfl,rfl,qe _,λy z c h1 h2=>?_,λy hy=>?_,λy c _ h=>?_,λ_=>hd,Around.frames_deeper e0.frames,.inr ⟨rfl,rfl⟩,λb z=>absurd z<|vV b,e0.bs,e0.lU,λb _ _=>vV b,λb z=>absurd z<|vV b,e0.dg,e0.o9⟩,
  rfl,e0.bare,Un.kept hk,⟨_,x.toInCall.ns,λi y v h1 h2 h3=>?_⟩,λy c h=>⟨_,x.cell y c h⟩,e0.aw.fresh<|qe _,λy c h=>?_,λp hp=>absurd (show p∈([]:Qa (Qg×Obj)) from hp) (by simp),e0.aw.kept hk,?_⟩
 .exact name_of_addr x.apart (ç h1) (ç h2)
 .have hy:scope.names.lookup y=some .cell\/scope.names.lookup y=some .free:=hy
  rcases hy with hy|hy
  .exact Kv hy
  .exact absurd rfl (S.qS _<|ç hy)
 .exact Nat.le_of_lt (x.above y c<|ç h)
 .have hi:i < vs.length:=by
   unfold fq at h2
   by_cases hi:i < vs.length
   .exact hi
   .rw[List.getElem?_append_right (by simpa using hi)]at h2
    rw[List.getElem?_replicate]at h2;split at h2<;>cases h2
  have ha:vs[i]?=some v:=by
   unfold fq at h2;rw[List.getElem?_append_left (by simpa using hi),List.getElem?_map]at h2;cases e:vs[i]? with
   | none=>rw[e]at h2; cases h2
   | some a=>rw[e]at h2; cases h2; rfl
  have(u,hu,rv):=r.get ha;have hp:ps[i]?=some y:=by
   rw[<-S.pre,List.getElem?_take_of_lt (by omega)]; exact h1
  have Nv:ps.Nodup:=by rw[<-S.pre]; exact S.nd.sublist<|List.take_sublist _ _
  refine⟨u,rv,?_⟩;rcases S.par y (Ç hp)with k|k
  .exact .inl ⟨k,KJ Nv hp hu k⟩
  .have(c,e):=Kv (n:=s.heap.objs.size+1) k
   refine .inr ⟨.inl k,c,e,?_⟩;have q:=x.cell y c e;rw[KI Nv hp hu (by show scope.names.lookup y≠_; rw[k]; decide)]at q;exact q
 .exact e0.aw.fresh (Nat.le_of_lt<|x.above y c<|ç h)
 .unfold fq
  show _=N.length;rw[qt,List.length_map,List.length_replicate];omega
theorem OQ{CX:iU}{P:Qe}{w:Qh}{K:qc}{mg:Str->Qb Qc}{base:Heap}{k:Nat}{f:Qg}{name qual:Str}{params:Arguments}{body:Qa Stmt}{scope:Scope}{dV kV doc pm aV ct oc:Qc}{an od:Qb Qg}
  {lJ:Array (Qb Qc)} {N ps:Qa Str} {sp:Sp} (lk:K.lookup f=some ⟨oc,od,.func<|PySem.W.fnOf name qual params body scope dV kV doc pm an aV ct,lJ⟩) (jf:PySem.W.codeIn K aV qual=true) (S:bo N ps scope)
  (len:∀ vs H Q E,sp vs H Q E->vs.length=ps.length)
  (bI:∀ (A:Qf) (outer:Qa Env) (s:Qd) (H:Hp) (vs:Qa V) (Q:VK) (E:XK),aD k (A.deeper<|envOfC qual scope s.heap.objs.size f aV)->sp vs H Q E->
   ∃ t,dG (lg CX P w K mg base N qual scope f aV A outer s H E) body t/\t {nx:=λ_ H'=>Q .aI H',rt:=Q} (fq N vs) H):
  bP P w K mg base CX (k+1) f (PySem.W.fnOf name qual params body scope dV kV doc pm an aV ct) ps sp:=by
 refine⟨len,λA outer s H args us vs Q E hr e0 hb r oU=>?_⟩;have hl:=len _ _ _ _ oU;have KX:K.In s.heap:=e0.mod.cY.keeps λb o e=>(e0.bs b o e).1;have lim:s.heap.NoLimit:=e0.mod.nolimit.keeps λb o e=>(e0.bs b o e).1;have wu:∀ y∈ps.zip us,scope.names.lookup y.1=some .local\/(scope.names.lookup y.1=some .cell/\((cellsFrom (s.heap.objs.size+1) scope.names []).lookup y.1).isSome=true):=λ⟨n,v⟩ hy=>by
  rcases S.par n (List.of_mem_zip hy).1 with q|q
  .exact .inl q
  .exact .inr ⟨q,PySem.W.cellsFrom_some _ _ _<|.inl q⟩
 refine codeAny_call_function hr.depth (KX _ _ lk) rfl S.co S.gen rfl (PySem.W.codeRec_of KX jf)<|hb _ _ _ _ ?_;refine wpAny_newFunctionEnv_cells S.kind wu λenv he s1 x=>?_;subst he;refine⟨lim.keeps x.toInCall.keep,codeAny_func ?_⟩;have(t,ht,hq):=bI A outer s H vs Q E (hr.deeper _) oU;have I:Inv (lg CX P w K mg base N qual scope f aV A outer s H E) [] (fq N vs) H s1:=Yf S hr.hd e0 hl r x;refine wpAny_mono (ht [] s1 (fq N vs) H _ I hq) (λfl s' hs=>?_) λe s' hs=>hs;have fin:∀ {aG:St} {H':Hp} {v:V} {u:Qc},Inv (lg CX P w K mg base N qual scope f aV A outer s H E) [] aG H' s'->zD v u->Q v H'->CE outer P w K H s Q u s' :=
  λ{aG H' v u} J rv q=>⟨v,H',J.os,J.bare,J.base,J.aw,rv,q⟩
 cases fl with
 | ret u=>
  have(v,aG,H',J,rv,q):=hs;exact fin J rv q
 | next=>
  have(aG,H',J,q):=hs;exact fin (v:=V.aI) (u:=Value.none) J rfl q
 | brk=>
  have(_,_,_,q):=hs;exact False.elim q
 | cont=>
  have(_,_,_,q):=hs;exact False.elim q
section
variable{X:Cx}{x:Str}{p pos:Pos}{e:Expr}{es:Qa Expr}{t:TA}{id T:String}{r:Qa V->Hp->VK->Prop}
def lG(r:Qa V->Hp->VK->Prop)(t:TA):TE:=λσ H Q=>t σ H λvs H1=>r vs H1 Q
theorem XZ(hc:eE X (.builtin id) r)(hg:Gl X x)(hm:X.mg x=none)(hv:bootBuiltins x=some (.builtin id))(ha:PA X (e::es) t)(hn:x ≠ "__name__":=by decide)(cK:(x==("__debug__":Str))=false:=by decide)
  (he:starEach (e::es) X.env=(false,eval e X.env)::starEach es X.env:=by rfl) (du:(backTo pos<|starEach es X.env).any (·.1)=false:=by rfl):PE X (.Call (.Name x p) (e::es) [] pos) (lG r t):=by
 intro pins s σ H Q I h;refine wpAny_Call_Name_kw<|og I hg hm hv ?_ hn cK;exact PyProof.Rows.callWith_builtin1 (aA (ha pos pins s σ H _ I h) λus s1 ⟨vs,H1,I1,r1,q1⟩=>hc pins s1 σ H1 vs us Q I1 r1 q1) he du
theorem Ye(hc:eE X (.type T) r)(hg:Gl X x)(hm:X.mg x=none)(hv:bootBuiltins x=some (.type T))(ha:PA X (e::es) t)(hn:x ≠ "__name__":=by decide)(cK:(x==("__debug__":Str))=false:=by decide)
  (he:starEach (e::es) X.env=(false,eval e X.env)::starEach es X.env:=by rfl) (du:(backTo pos<|starEach es X.env).any (·.1)=false:=by rfl):PE X (.Call (.Name x p) (e::es) [] pos) (lG r t):=by
 intro pins s σ H Q I h;refine wpAny_Call_Name_kw<|og I hg hm hv ?_ hn cK;exact Ñ (aA (ha pos pins s σ H _ I h) λus s1 ⟨vs,H1,I1,r1,q1⟩=>hc pins s1 σ H1 vs us Q I1 r1 q1) he du
end
end L2
variable{K:L2.qc}{E:L2.Qc->L2.Qd->Prop}{H:L2.Hp}{pins:L2.Qa (L2.Qg×Obj)}{α:Type}{i:Nat}{s:L2.Qd}{w:L2.Qh}{n:Nat}{A:L2.Qf}{pos:Pos}{σ:L2.St}{Q:L2.Qc->L2.Qd->Prop}{es:Array DictEntry}{R:Result->L2.Qd->Prop}{a:L2.Qg}{js pn:L2.Qa Nat}{e:Expr}{prog:L2.Qe}{nt:Nat}{x:Str}{H':L2.Hp}{kvs:L2.Qa (L2.Qa L2.Key×L2.V)}{v:L2.V}{te:L2.TE}{ps:L2.Qa Str}{f:Str}{b:Int}{vs:L2.Qa (Str×L2.V)}{cl:L2.Qa (Str×L2.Qg)}{r:L2.Qa L2.V->L2.Hp->L2.VK->Prop}{P:L2.Qe}{fd:FuncData}{j:Nat}{β:Type}{p:Pos}{c:Str}{ta:L2.TE}{o:Expr}{mg:Str->L2.Qb L2.Qc}{elts:L2.Qa Expr}{h:Heap}{st:Stmt}{it:L2.Qg}{tg:Expr}{ep:Nat}{T:String}{u:L2.Qc}{tv:L2.TE}{scope:Scope}{ns:L2.Qa Int}{N:L2.Qa Str}{tab:L2.Qa (Str×L2.Qa Str)}{qI:Pos}{td:L2.TE}{sp:L2.Sp}{d:L2.Qg}{y:L2.V}{ty:L2.TE}{g:L2.TG}{apos:Pos}{m:Nat}{tb:L2.TE}{ifs:L2.Qa Expr}{dx:L2.Qg}{pos':Pos}{lJ:Array (L2.Qb L2.Qc)}{op:CmpOp}{tk:L2.TE}{tt:L2.TT}{H₀:L2.Hp}{aM:Pos}{env:Env}{iter:Expr}{κ:Type}{ws:L2.Qa (κ×L2.V)}{ao:L2.St}{av:L2.Hp}{ys:L2.Qa (L2.Qa L2.Key×L2.Qg×L2.Qc)}{G:Array GenState->Array GenState->Prop}{ks:L2.Qa L2.Key}{qual:Str}{B:Nat}{value elt:Expr}{as:L2.Qa α}{J:Type}{sl:Array (L2.Qb L2.Qc)}
namespace HT
open PySem PyProof.Rows
section
open PySem.SeqAt
open PySem.AutoSeq1 (wpAny_loadPart')
open PySem.MeetsSeq PySem.MeetsSeq2 PySem.MeetsSeq3
end
section
variable{prog:Program} {w:World} {A:Around} {E:Value->Shared->Prop} {s:Shared}
theorem nJ{t b:Addr}{vs ws:List Value}{Q:Value->Shared->Prop}(ht:IsTup s.heap t vs.toArray)(hb:IsTup s.heap b ws.toArray)(hv:vs≠[])
  (h1:ws=[]->Q (.ref t) s) (h2:ws≠[]->Q (.ref s.heap.objs.size) {s with heap:=s.heap.push {cls:=.type "tuple",data:=.seq (vs++ws).toArray}})
  (hsz:vs.length+ws.length<=sizeLine):wpAny (model prog w) A (binaryOp .Add (.ref t)<|.ref b) Q E s:=by
 obtain⟨⟨cls,dd,data,sl⟩,ho,hc,n,hd⟩:=id ht;obtain⟨⟨Gw,Gu,data2,tH⟩,A4,NV,n2,hd2⟩:=id hb;simp only at hc hd NV hd2;subst hc hd NV hd2;have e:vs.toArray++ws.toArray=(vs++ws).toArray:=by simp
 by_cases hw:ws=[]
 .exact concat_meets ⟨_,ho,rfl⟩ ⟨_,A4,rfl⟩ noFill_tuple_add seq_tuple_add PySem.F.slot_tuple_add PySem.F.entry_tuple_add (PySem.F.args_tuple_add_2 _ _)
   (tuple_addW1 t b vs.toArray ws.toArray n n2 dd Gu sl tH (by simpa using hv) (by simp[hw])) ⟨ho,A4,h1 hw⟩
 .refine concat_meets ⟨_,ho,rfl⟩ ⟨_,A4,rfl⟩ noFill_tuple_add seq_tuple_add PySem.F.slot_tuple_add PySem.F.entry_tuple_add (PySem.F.args_tuple_add_2 _ _)
   (tuple_addW2 t b vs.toArray ws.toArray n n2 dd Gu sl tH (by simpa using hv) (by simpa using hw) (by rw[List.size_toArray,List.size_toArray]; exact hsz)) ⟨ho,A4,?_⟩
  rw[e];exact h2 hw
def aN(n d:Nat):Option Int->Nat
 | none=>d
 | some v=>if v < 0 then(v+(n:Int)).toNat else min v.toNat n
theorem Q8(n d:Nat)(hd:d<=n)(o:Option Int):aN n d o<=n:=by
 cases o with
 | none=>exact hd
 | some v=>
  show(if v < 0 then(v+(n:Int)).toNat else min v.toNat n)<=n
  by_cases hv:v < 0
  .rw[if_pos hv]; omega
  .rw[if_neg hv]; exact Nat.min_le_right _ _
theorem Jg(v:Int)(n d:Nat):(if v < 0 then max (v+(n:Int)) 0 else min v (n:Int))=((aN n d (some v):Nat):Int):=by
 show(if v < 0 then max (v+(n:Int)) 0 else min v (n:Int))=(((if v < 0 then(v+(n:Int)).toNat else min v.toNat n):Nat):Int)
 by_cases hv:v < 0
 .simp only[if_pos hv]; omega
 .simp only[if_neg hv]; omega
theorem ZG(lo hi:Option Int)(n:Nat):Builtin.Slice.sliceAdjust lo hi 1 (n:Int)=(((aN n 0 lo:Nat):Int),((aN n n hi:Nat):Int)):=by
 have h1:¬((1:Int) < 0):=by omega
 unfold Builtin.Slice.sliceAdjust;simp only[h1,if_false];refine Prod.ext ?_ ?_
 .cases lo with
  | none=>rfl
  | some v=>exact Jg v n 0
 .cases hi with
  | none=>rfl
  | some v=>exact Jg v n n
theorem ZF(i j:Nat):Builtin.Slice.slicePlaces (i:Int) (j:Int) 1=j - i:=by
 unfold Builtin.Slice.slicePlaces;have h1:(1:Int) > 0:=by omega
 simp only[h1,if_true,Int.ediv_one];split<;>omega
theorem Lk{v:Value}{o:Option Int}{Q:Option Int->Shared->Prop}(p:IsPart v o)(h:Q o s):wpAny (model prog w) A (Builtin.Slice.slicePartIndex v) Q E s:=by
 cases p with
 | none=>exact slicePart_none h
 | int i t=>exact slicePart_int h
theorem Mn{sl:Addr}{vl vu:Value}{lo hi:Option Int}{n:Nat}{Q:Int×Int×Nat->Shared->Prop}(hs:s.heap.IsSliceOf sl vl vu .none)(pl:IsPart vl lo)(pu:IsPart vu hi)
  (h:Q (((aN n 0 lo:Nat):Int),1,aN n n hi - aN n 0 lo) s):wpAny (model prog w) A (Builtin.Slice.sliceApplied (.ref sl)<|pure (n:Int)) Q E s:=by
 have(os,q9,A9,wz):=id hs;unfold Builtin.Slice.sliceApplied Builtin.Slice.sliceFields;refine wpAny_bind<|wpAny_bind<|wpAny_field q9 wz (x:=vl) rfl<|wpAny_bind<|wpAny_field q9 wz (x:=vu) rfl<|wpAny_bind<|wpAny_field q9 wz (x:=.none) rfl<|wpAny_pure ?_;refine wpAny_bind<|slicePart_none ?_;show wpAny _ _ (if((1:Int)==0)=true then _ else _) _ _ s;rw[if_neg (by decide)];refine wpAny_bind<|Lk pl<|wpAny_bind<|Lk pu<|wpAny_bind<|wpAny_pure ?_;show wpAny _ _ (match Builtin.Slice.sliceAdjust lo hi 1 (n:Int)with | (lo,hi)=>pure (lo,(1:Int),Builtin.Slice.slicePlaces lo hi 1)) _ _ s;rw[ZG lo hi n];show wpAny _ _ (pure (((aN n 0 lo:Nat):Int),(1:Int),Builtin.Slice.slicePlaces ((aN n 0 lo:Nat):Int) ((aN n n hi:Nat):Int) 1)) _ _ s;rw[ZF];exact wpAny_pure h
theorem XY(xs:Array Value)(i k:Nat):((List.range k).filterMap λ(m:Nat)=>xs[((i:Int)+(m:Int) * 1).toNat]?).toArray=((xs.toList.drop i).take k).toArray:=by
 have e:(λ(m:Nat)=>xs[((i:Int)+(m:Int) * 1).toNat]?)=λm=>xs[i+m]?:=by
  funext m
  have:((i:Int)+(m:Int) * 1).toNat=i+m:=by omega
  rw[this]
 rw[e];have:=pick_run xs i k;rw[List.filterMap_map]at this;have e2:((λx=>xs[x]?) ∘ λx=>i+x)=λm=>xs[i+m]?:=rfl;rw[e2]at this;rw[this]
theorem cN{t sl:Addr}{items:Array Value}{vl vu:Value}{lo hi:Option Int}{Q:Value->Shared->Prop}(ht:IsTup s.heap t items)(hs:s.heap.IsSliceOf sl vl vu .none)(pl:IsPart vl lo)(pu:IsPart vu hi)
  (hw:¬(aN items.size 0 lo=0/\aN items.size items.size hi=items.size))
  (h:Q (.ref s.heap.objs.size) {s with heap:=s.heap.push {cls:=.type "tuple",data:=.seq ((items.toList.drop<|aN items.size 0 lo).take<|aN items.size items.size hi - aN items.size 0 lo).toArray}})
  (hsz:items.size<=sizeLine):wpAny (model prog w) A (getItem (.ref t)<|.ref sl) Q E s:=by
 have iP:sizeOk (.seq ((items.toList.drop<|aN items.size 0 lo).take<|aN items.size items.size hi - aN items.size 0 lo).toArray):=by
  show((items.toList.drop<|aN items.size 0 lo).take<|aN items.size items.size hi - aN items.size 0 lo).toArray.size<=sizeLine;rw[List.size_toArray,List.length_take,List.length_drop,Array.length_toList];omega
 have hj:aN items.size items.size hi<=items.size:=Q8 _ _ (Nat.le_refl _) hi;have(os,q9,A9,wz):=id hs;have F9:s.TypeIs (.ref sl) "slice":=⟨os,q9,A9⟩;unfold getItem
 try with_reducible refine wpAny_holding ?_
 first|refine wpAny_bind (wpAny_pure ?_) | skip
 refine wpAny_bind<|wpAny_sequenceKey ht.typeIs (by decide) ?_;refine wpAny_bind (wpAny_callSpecial?_slot (name:=Str.ofString "__getitem__") ht.typeIs PyProof.Rows.slot_tuple_getitem
  (wpAny_call_entry PyProof.Rows.slot_tuple_getitem ht.typeIs entry_tuple_getitem ?_<|args_tuple_getitem _ _))
 show wpAny _ _ (Builtin.Tuple.tupleItemsOf (.ref t) >>= _) _ _ s;refine wpAny_bind<|tupleItemsOf_ ht ?_;refine wpAny_bind<|wpAny_typeOf F9 ?_;rw[if_pos (by decide)];refine wpAny_bind<|Mn hs pl pu ?_;have FY:¬((((aN items.size 0 lo:Nat):Int)==0 && (1:Int)==1 && (aN items.size items.size hi - aN items.size 0 lo)==items.size)=true):=by
  intro q;rw[Bool.and_eq_true,Bool.and_eq_true]at q;have q1:((aN items.size 0 lo:Nat):Int)=0:=eq_of_beq q.1.1;have q2:aN items.size items.size hi - aN items.size 0 lo=items.size:=eq_of_beq q.2;exact hw ⟨by omega,by omega⟩
 show wpAny _ _ (if(((aN items.size 0 lo:Nat):Int)==0 && (1:Int)==1 && (aN items.size items.size hi - aN items.size 0 lo)==items.size)=true then _ else _) _ _ s;rw[if_neg FY,XY]
 first
  | exact wpAny_bind (m:=Builtin.Tuple.tupleExact _)<|wpAny_newObj_type (wpAny_pure ⟨_,rfl,wpAny_pure h⟩) iP
  | exact wpAny_bind (m:=Builtin.Tuple.tupleExact _)<|wpAny_newObj_type (wpAny_bind<|wpAny_pure<|wpAny_pure ⟨_,rfl,wpAny_pure h⟩) iP
  | exact wpAny_bind<|wpAny_bind (m:=Builtin.Tuple.tupleExact _)<|wpAny_newObj_type (wpAny_pure<|wpAny_pure ⟨_,rfl,wpAny_pure h⟩) iP
  | exact wpAny_bind<|wpAny_bind (m:=Builtin.Tuple.tupleExact _)<|wpAny_newObj_type (wpAny_pure ⟨_,rfl,wpAny_pure h⟩) iP
end
end HT
namespace L2
open PySem PySem.Spec PyProof.Rows
abbrev TO:=St->Hp->(Qb Int->Hp->Prop)->Prop
def PO(X:Cx)(e:Qb Expr)(t:TO):Prop :=
 ∀ (pins:Qa (Qg×Obj)) (s:Qd) (σ:St) (H:Hp) (Q:Qb Int->Hp->Prop),Inv X pins σ H s->t σ H Q->
  wpAny (model X.prog X.w) X.A (evalPart e X.env) (λu s'=>∃ o H',Inv X pins σ H' s'/\IsPart u o/\Q o H') X.xe s
def DX:TO:=λ_ H Q=>Q none H
def CV(t:TE):TO:=λσ H Q=>t σ H λx H1=>∃ i,x=.int i/\Q (some i) H1
section
variable{X:Cx}{lo hi:Qb Expr}{tl th:TO}{p2:Pos}
theorem Vi:PO X none DX:=by
 intro pins s σ H Q I h;rw[evalPart_none];exact qb ⟨none,H,I,.none,h⟩
theorem Vh(h:PE X e te):PO X (some e) (CV te):=by
 intro pins s σ H Q I hw;rw[evalPart_some];refine aA (h pins s σ H _ I hw) λu s1 hZ=>?_;have(x,H1,I1,r1,q1):=hZ;have(i,rfl,q):=q1;have(t,rfl):=r1;exact⟨some i,H1,I1,.int i t,q⟩
def t4(X:Cx)(r:V->Qb Int->Qb Int->Hp->VK->Prop):Prop :=
 ∀ (pins:Qa (Qg×Obj)) (s:Qd) (σ:St) (H:Hp) (x:V) (v vl vu:Qc) (lo hi:Qb Int) (sl:Qg) (Q:VK),Inv X pins σ H s->zD x v->s.heap.IsSliceOf sl vl vu .none->IsPart vl lo->IsPart vu hi->r x lo hi H Q->
  ∃ T id,typeLookup (.type T) "__getitem__"=pure (some<|.builtin id)/\s.TypeIs v T/\wpAny (model X.prog X.w) X.A (getItem v<|.ref sl) (EP X pins σ Q) X.xe s
def ES(r:V->Qb Int->Qb Int->Hp->VK->Prop)(te:TE)(tl th:TO):TE:=λσ H Q=>te σ H λx H1=>tl σ H1 λl H2=>th σ H2 λu H3=>r x l u H3 Q
theorem XX{r:V->Qb Int->Qb Int->Hp->VK->Prop}(hr:t4 X r)(he:PE X e te)(hl:PO X lo tl)(hu:PO X hi th):PE X (.Subscript e (.Slice lo hi none p2) pos) (ES r te tl th):=by
 intro pins s σ H Q I h;refine Subscript_<|aA (he pins s σ H _ I h) λv s1 hZ=>?_;have(x,H1,I1,r1,q1):=hZ;refine wpAny_Slice<|aA (hl pins s1 σ H1 _ I1 q1) λvl s2 ⟨l,H2,I2,pl,q2⟩=>aA (hu pins s2 σ H2 _ I2 q2) λvu s3 hZ=>?_;have(u,H3,I3,pu,q3):=hZ;rw[evalPart_none];refine qb ?_;have I4:Inv X pins σ H3 {s3 with heap:=s3.heap.push {cls:=.type "slice",data:=.fields #[vl,vu,.none]}}:=I3.kept (t':=s3.toks) λb ob q=>qd _ q;have(T,id,hT,ht,hg):=hr pins {s3 with heap:=s3.heap.push {cls:=.type "slice",data:=.fields #[vl,vu,.none]}} σ H3 x v vl vu l u s3.heap.objs.size Q I4 r1 (Heap.IsSliceOf.new ..) pl pu q3;show wpAny (model X.prog X.w) X.A (subscriptTail e (.Slice lo hi none p2) v<|.ref s3.heap.objs.size) (EP X pins σ Q) X.xe {s3 with heap:=s3.heap.push {cls:=.type "slice",data:=.fields #[vl,vu,.none]}};exact tail_any (ops:=[.ref s3.heap.objs.size,v]) ht hT hg (by with_unfolding_all rfl)
def jv(xs:Qa V)(lo hi:Qb Int):Qa V:=(xs.drop<|HT.aN xs.length 0 lo).take (HT.aN xs.length xs.length hi - HT.aN xs.length 0 lo)
theorem Lv(xs:Qa V)(lo hi:Qb Int):(jv xs lo hi).length<=xs.length:=by
 unfold jv;rw[List.length_take,List.length_drop];omega
def zBc(K:qc):V->Qb Int->Qb Int->Hp->VK->Prop:=λx lo hi H Q=>∃ a xs,x=.ref a/\bj K H a xs/\
 ¬(HT.aN xs.length 0 lo=0/\HT.aN xs.length xs.length hi=xs.length)/\∀ p,H p=none->Q (.ref p) (upd H p<|.tup<|jv xs lo hi)
theorem Q7:t4 X (zBc X.K):=by
 intro pins s σ H x v vl vu lo hi sl Q I rx hs pl pu h;have(a,xs,rfl,hx,hw,q):=h;cases rx;have(ai,r,ht,hz):=I.tuple hx;have hlen:ai.toArray.size=xs.length:=by rw[List.size_toArray]; exact r.length.symm
 refine⟨"tuple",_,PyProof.Rows.slot_tuple_getitem.lookup,ht.typeIs,?_⟩;refine HT.cN ht hs pl pu (by rw[hlen]; exact hw) ?_ (by rw[hlen]; exact hz);rw[hlen];refine⟨.ref s.heap.objs.size,_,I.laid (t':=s.toks) (o:=.tup (jv xs lo hi)) (λb ob q=>qd _ q) (qe _) ?_,rfl,q _<|I.aw.fresh<|qe _⟩;exact⟨qy (Lv xs lo hi) hz,_,(r.drop<|HT.aN xs.length 0 lo).take<|HT.aN xs.length xs.length hi - HT.aN xs.length 0 lo,lC.new _ _⟩
def CU(K:qc):R2:=λx y H Q=>∃ a b xs ys,x=.ref a/\y=.ref b/\bj K H a xs/\bj K H b ys/\xs≠[]/\xs.length+ys.length<=sizeLine/\
 (ys=[]->Q (.ref a) H)/\(ys≠[]->∀ p,H p=none->Q (.ref p) (upd H p<|.tup<|xs++ys))
theorem zF.fO{xs:Qa V}{us:Qa Qc}(r:zF xs us):us=[]↔xs=[]:=by
 cases r with
 | nil=>simp
 | cons _ _=>simp
theorem Vg:bu X (binaryOp .Add) (CU X.K):=by
 intro pins s σ H x y v u Q I rx ry h;have(a,b,xs,ys,rfl,rfl,ha,hb,hx,hz,q1,q2):=h;cases rx;cases ry;have(ai,r1,p1,_):=I.tuple ha;have(fQ,r2,p2,_):=I.tuple hb;refine HT.nJ p1 p2 (λz=>hx<|r1.fO.mp z) (λz=>⟨.ref a,H,I,rfl,q1<|r2.fO.mp z⟩) (λz=>?_) (by rw[<-r1.length,<-r2.length]; exact hz);refine⟨.ref s.heap.objs.size,_,I.laid (t':=s.toks) (o:=.tup (xs++ys)) (λb ob q=>qd _ q) (qe _) ?_,rfl,q2 (λw=>z<|r2.fO.mpr w) _<|I.aw.fresh<|qe _⟩;exact⟨by rw[qt]; exact hz,_,r1.append r2,lC.new _ _⟩
end
def dD(n:Nat)(i:Int):Qb Nat:=if 0<=i then(if i < n then some i.toNat else none)else if -(n:Int)<=i then some (i+n).toNat else none
def bp(xs:Qa α)(i:Int):Qb α:=(dD xs.length i).bind λj=>xs[j]?
theorem Jf{i:Int}(h:dD n i=some j):seqIndex? i n=some j/\j < n/\-(n:Int)<=i/\i < n:=by
 unfold dD at h
 by_cases h0:0<=i
 .rw[if_pos h0]at h
  by_cases h1:i < n
  .rw[if_pos h1]at h
   have e:i.toNat=j:=qx h;exact⟨by rw[seqIndex_of h0 h1,e],by omega,by omega,h1⟩
  .rw[if_neg h1]at h; cases h
 .rw[if_neg h0]at h
  by_cases h1:-(n:Int)<=i
  .rw[if_pos h1]at h
   have e:(i+n).toNat=j:=qx h;exact⟨by rw[seqIndex_neg (by omega) h1,e],by omega,h1,by omega⟩
  .rw[if_neg h1]at h; cases h
theorem DW{xs:Qa α}{i:Int}{v:α}(h:bp xs i=some v):∃ j,seqIndex? i xs.length=some j/\xs[j]?=some v/\j < xs.length/\-(xs.length:Int)<=i/\i < xs.length:=by
 unfold bp at h;cases e:dD xs.length i with
 | none=>rw[e]at h; cases h
 | some j=>
  rw[e]at h;have(h1,h2,h3,h4):=Jf e;exact⟨j,h1,h,h2,h3,h4⟩
theorem Vf{xs:Qa α}{v:α}(h:xs[j]?=some v):bp xs (j:Int)=some v:=by
 have hj:j < xs.length:=(qk.mp h).1;have e:dD xs.length (j:Int)=some j:=by
  unfold dD;rw[if_pos (by omega),if_pos (by omega)]; simp
 unfold bp; rw[e]; exact h
def JB(b:Expr):Prop:=∀ o i,subscripted b false o i=operate [o,i] (getItem o i)
def rL(X:Cx)(r:R2):Prop :=
 ∀ (value slice:Expr) (pins:Qa (Qg×Obj)) (s:Qd) (σ:St) (H:Hp) (x y:V) (v u:Qc) (Q:VK),Inv X pins σ H s->zD x v->zD y u->r x y H Q->
  subscripted slice false v u=operate [v,u] (getItem v u)->wpAny (model X.prog X.w) X.A (subscriptTail value slice v u) (EP X pins σ Q) X.xe s
def MtR(X:Cx)(id:String)(r:V->Qa V->Hp->VK->Prop):Prop :=
 ∀ (pins:Qa (Qg×Obj)) (s:Qd) (σ:St) (H:Hp) (x:V) (xs:Qa V) (v:Qc) (us:Qa Qc) (Q:VK),Inv X pins σ H s->zD x v->zF xs us->r x xs H Q->
  wpAny (model X.prog X.w) X.A (call (.builtin id)<|v::us) (EP X pins σ Q) X.xe s
section
variable{X:Cx}{a b:Expr}
theorem OP{r:R2}(hr:rL X r)(ha:PE X a ta)(hb:PE X b tb)(hs:JB b):PE X (.Subscript a b pos) (kC r ta tb):=by
 intro pins s σ H Q I h;exact Subscript_<|BV ha hb I h λv u s2 x y H2 I2 rx ry q=>hr a b pins s2 σ H2 x y v u Q I2 rx ry q<|hs _ _
def BR(K:qc):R2:=λx y H Q=>∃ p xs i v,x=.ref p/\y=.int i/\bq K H p xs/\bp xs i=some v/\Q v H
def um(K:qc):R2:=λx y H Q=>∃ p xs i v,x=.ref p/\y=.int i/\bj K H p xs/\bp xs i=some v/\Q v H
def GI:R2:=λx y H Q=>∃ z i c,x=.str z/\y=.int i/\z.length<=sizeLine/\bp z.cps.toList i=some c/\Q (.str ⟨#[c]⟩) H
theorem Ve:rL X (BR X.K):=by
 intro value slice pins s σ H x y v u Q I rx ry h hs;have(p,xs,i,z,rfl,rfl,hq,he,q):=h;cases rx;have(t,rfl):=ry;have(ai,r,pl,hz):=I.list hq;have(j,h1,h2,h3,h4,h5):=DW he;have(w,ew,fM):=r.get h2;have hl:=r.length;have hn:=sX;have fin:EP X pins σ Q w s:=⟨z,H,I,fM,q⟩
 by_cases h0:0<=i
 .have hj:i.toNat=j:=by
   rw[seqIndex_of h0 h5]at h1;exact qx h1
  exact item_listR pl.isList h0 (by omega) (by rw[hj]; simpa using ew) fin hs
 .have hj:(i+(ai.toArray.size:Int)).toNat=j:=by
   rw[seqIndex_neg (by omega) h4]at h1;rw[List.size_toArray,<-hl];exact qx h1
  exact subscriptTail_builtinR (x:=w) pl.isList.typeIs slot_list_getitem.lookup
   (wpAny_getItem_list_neg (Q:=λr s'=>r=w/\EP X pins σ Q r s') pl.isList (by omega) (by rw[List.size_toArray]<;>omega) (by omega) (by rw[hj]; simpa using ew) ⟨rfl,fin⟩) hs
theorem Q6:rL X (um X.K):=by
 intro value slice pins s σ H x y v u Q I rx ry h hs;have(p,xs,i,z,rfl,rfl,hq,he,q):=h;cases rx;have(t,rfl):=ry;have(ai,r,pl,hz):=I.tuple hq;have(j,h1,h2,h3,h4,h5):=DW he;have(w,ew,fM):=r.get h2;have hl:=r.length;have hn:=sX;have fin:EP X pins σ Q w s:=⟨z,H,I,fM,q⟩;exact subscriptTail_builtinR (x:=w) pl.typeIs slot_tuple_getitem.lookup
  (getItem_tuple (j:=j) (Q:=λr s'=>r=w/\EP X pins σ Q r s') pl (by omega) (by omega) (by rw[List.size_toArray,<-hl]; exact h1) (by simpa using ew) ⟨rfl,fin⟩) hs
theorem Di:rL X GI:=by
 intro value slice pins s σ H x y v u Q I rx ry h hs;have(z,i,c,rfl,rfl,hz,he,q):=h;have(t,rfl):=rx;have(t',rfl):=ry;have(j,h1,h2,h3,h4,h5):=DW he;have hl:z.cps.toList.length=z.length:=by simp[Str.length]
 rw[hl]at h1 h4 h5;have hn:=sX;exact tail_any (typeIs_str s z t) slot_str_getitem.lookup (getItem_str (c:=c) (by
  have e1:decide (i < -(2^63:Int))=false:=decide_eq_false (by omega);have e2:decide (i>=2^63)=false:=decide_eq_false (by omega);rw[e1,e2,Bool.or_false]) (by rw[h1]; simpa using h2) ⟨.str ⟨#[c]⟩,H,I.tok _,⟨_,rfl⟩,q⟩) hs
theorem ZE(ai:Qa Qc)(n j:Nat)(u:Qc):Obj.mapSeq (·.setIfInBounds j u) {cls:=.type "list",data:=.seq ai.toArray n}={cls:=.type "list",data:=.seq (ai.set j u).toArray n}:=by
 simp[Obj.mapSeq]
theorem Inv.lst{p:Qg}{xs:Qa V}(I:Inv X pins σ H s)(h:H p=some (.lst xs)):
  ∃ (ai:Qa Qc) (n:Nat),zF xs ai/\s.heap.get? p=some {cls:=.type "list",data:=.seq ai.toArray n}/\xs.length<=sizeLine:=by
 have(z,ai,n,r,e):=I.aw p _ h;exact⟨ai,n,r,e,z⟩
theorem Inv.qU{p:Qg}{xs ys:Qa V}{ai its':Qa Qc}{n':Nat}{f:Obj->Obj}(I:Inv X pins σ H s)(h:H p=some (.lst xs))
  (ho:s.heap.get? p=some {cls:=.type "list",data:=.seq ai.toArray n}) (hf:f {cls:=.type "list",data:=.seq ai.toArray n}={cls:=.type "list",data:=.seq its'.toArray n'}) (r:zF ys its') (hz:ys.length<=sizeLine) (t:Nat):
  Inv X pins σ (upd H p<|.lst ys) {s with heap:=s.heap.update p f,toks:=t}:=by
 have e:(s.heap.update p f).get? p=some {cls:=.type "list",data:=.seq its'.toArray n'}:=by
  rw[Heap.get?_update_self f ho (by rw[hf]<;>rfl),hf]
 refine I.write (x:=p) (e:=p) (by rw[h]; trivial) (.inl rfl) (λb u hb q=>(ì _ _<|Ne.symm hb).trans q) ⟨_,e⟩ ?_;exact⟨hz,its',n',r,e⟩
def Hk:V->V->V->Hp->(Hp->Prop)->Prop:=λo i v H Q=>∃ p xs k j,o=.ref p/\i=.int k/\H p=some (.lst xs)/\dD xs.length k=some j/\Q (upd H p<|.lst<|xs.set j v)
theorem Ab:B8 X Hk:=by
 intro pins s σ H o i v ov iv u Q I ro ri rv h;have(p,xs,k,j,rfl,rfl,hp,hj,q):=h;cases ro;have(t,rfl):=ri;have(ai,n,r,ho,hz):=I.lst hp;have(h1,h2,h3,h4):=Jf hj;have hl:=r.length;have hn:=sX;have I':Inv X pins σ (upd H p<|.lst<|xs.set j v) {s with heap:=s.heap.update p (Obj.mapSeq (·.setIfInBounds j u))}:=
  I.qU hp ho (ZE ai n j u) (r.set rv j) (by rw[List.length_set]; exact hz) s.toks
 by_cases h0:0<=k
 .have hk:k.toNat=j:=by
   rw[seqIndex_of h0 h4]at h1;exact qx h1
  exact PySem.W.ki_setAt ho h0 (by omega) (by rw[List.size_toArray,<-hl]; exact h4) (by rw[hk]; exact⟨_,I',q⟩)
 .have hk:(k+(ai.toArray.size:Int)).toNat=j:=by
   rw[seqIndex_neg (by omega) h3]at h1;rw[List.size_toArray,<-hl];exact qx h1
  exact PySem.W.ki_setBack ho (by omega) (by rw[List.size_toArray,<-hl]; exact h3) (by omega) (by rw[hk]; exact⟨_,I',q⟩)
theorem ziR(lo hi:Qb Int)(n:Nat):(sliceBounds lo hi none n).1=((HT.aN n 0 lo:Nat):Int)/\(sliceBounds lo hi none n).2.1=((HT.aN n n hi:Nat):Int)/\(sliceBounds lo hi none n).2.2=1:=by
 refine⟨?_,?_,rfl⟩
 .cases lo with
  | none=>simp[sliceBounds,HT.aN]
  | some i=>
   simp only[sliceBounds,HT.aN,Option.getD_none,show(1:Int) > 0 by decide,if_true]
   by_cases h:i < 0
   .simp only[h,if_true]<;>omega
   .simp only[h,if_false]<;>omega
 .cases hi with
  | none=>simp[sliceBounds,HT.aN]
  | some i=>
   simp only[sliceBounds,HT.aN,Option.getD_none,show(1:Int) > 0 by decide,if_true]
   by_cases h:i < 0
   .simp only[h,if_true]<;>omega
   .simp only[h,if_false]<;>omega
theorem zhN(ai:Qa Qc)(lo hi:Qb Int):slicePick ai.toArray lo hi none=((ai.drop<|HT.aN ai.length 0 lo).take<|HT.aN ai.length ai.length hi - HT.aN ai.length 0 lo).toArray:=by
 have(h1,h2,h3):=ziR lo hi ai.toArray.size;unfold slicePick;rw[h1,h2,h3];simp only[sliceRange_one,pick_run,List.size_toArray]<;>rfl
def BQ(K:qc):V->Qb Int->Qb Int->Hp->VK->Prop:=λx lo hi H Q=>∃ a xs,x=.ref a/\bq K H a xs/\∀ p,H p=none->Q (.ref p) (upd H p<|.lst<|jv xs lo hi)
theorem Vd:t4 X (BQ X.K):=by
 intro pins s σ H x v vl vu lo hi sl Q I rx hs pl pu h;have(a,xs,rfl,hx,q):=h;cases rx;have(ai,r,ht,hz):=I.list hx;have hlen:=r.length;refine⟨"list",_,slot_list_getitem.lookup,ht.isList.typeIs,?_⟩;refine wpAny_getItem_list_slice ht.isList hs pl pu .none (by simp) ?_ (by rw[List.size_toArray]<;>omega);rw[zhN,<-hlen];refine⟨.ref s.heap.objs.size,_,I.laid (t':=s.toks) (o:=.lst (jv xs lo hi)) (λb ob q=>qd _ q) (qe _) ?_,rfl,q _<|I.aw.fresh<|qe _⟩;exact⟨qy (Lv xs lo hi) hz,_,0,(r.drop<|HT.aN xs.length 0 lo).take<|HT.aN xs.length xs.length hi - HT.aN xs.length 0 lo,qg _ rfl⟩
def lx:V->Bool
 | .aI=>true
 | .bl _=>true
 | .int _=>true
 | .str _=>true
 | _=>false
def pb:V->V->Bool
 | .aI,.aI=>true
 | .bl a,.bl b=>a==b
 | .bl a,.int b=>(if a then 1 else 0)==b
 | .int a,.bl b=>a==(if b then 1 else 0)
 | .int a,.int b=>a==b
 | .str a,.str b=>a==b
 | _,_=>false
theorem Q5{x:V}{v:Qc}(ry:zD y u)(rx:zD x v)(fy:lx y=true)(fx:lx x=true):SeqAt.EqAt A s u v (pb y x):=by
 cases y with
 | aI=>
  cases ry;cases x with
  | aI=>cases rx; exact SeqAt.EqAt.same _
  | bl b=>cases rx; exact SeqAt.EqAt.none_bool b
  | int b=>have(t,rfl):=rx; exact SeqAt.EqAt.none_int b t
  | str b=>have(t,rfl):=rx; exact SeqAt.EqAt.none_str b t
  | _=>exact absurd (show false=true from fx) qf
 | bl a=>
  cases ry;cases x with
  | aI=>cases rx; exact SeqAt.EqAt.bool_none a
  | bl b=>cases rx; exact SeqAt.EqAt.bool_bool a b
  | int b=>have(t,rfl):=rx; exact SeqAt.EqAt.bool_int a b t
  | str b=>have(t,rfl):=rx; exact SeqAt.EqAt.bool_str a b t
  | _=>exact absurd (show false=true from fx) qf
 | int a=>
  have(t',rfl):=ry;cases x with
  | aI=>cases rx; exact SeqAt.EqAt.int_none a t'
  | bl b=>cases rx; exact SeqAt.EqAt.int_bool a t' b
  | int b=>have(t,rfl):=rx; exact SeqAt.EqAt.int_int a t' b t
  | str b=>have(t,rfl):=rx; exact SeqAt.EqAt.int_str a t' b t
  | _=>exact absurd (show false=true from fx) qf
 | str a=>
  have(t',rfl):=ry;cases x with
  | aI=>cases rx; exact SeqAt.EqAt.str_none a t'
  | bl b=>cases rx; exact SeqAt.EqAt.str_bool a t' b
  | int b=>have(t,rfl):=rx; exact SeqAt.EqAt.str_int a t' b t
  | str b=>have(t,rfl):=rx; exact SeqAt.EqAt.str_str a t' b t
  | _=>exact absurd (show false=true from fx) qf
 | _=>exact absurd (show false=true from fy) qf
def iq(x:V)(u:Qc):Bool:=match u with
 | .none=>pb .aI x
 | .bool b=>pb (.bl b) x
 | .int i _=>pb (.int i) x
 | .str z _=>pb (.str z) x
 | _=>false
theorem Iu{x:V}(r:zD y u)(f:lx y=true):iq x u=pb y x:=by
 cases y with
 | aI=>cases r; rfl
 | bl b=>cases r; rfl
 | int i=>have(t,rfl):=r; rfl
 | str z=>have(t,rfl):=r; rfl
 | _=>exact absurd (show false=true from f) qf
theorem vi{x:V}:∀ {xs:Qa V} {us:Qa Qc},zF xs us->xs.all lx=true->us.any (iq x)=xs.any λy=>pb y x
 | _,_,.nil,_=>rfl
 | y::xs,u::us,.cons r t,f=>by
  rw[List.all_cons,Bool.and_eq_true]at f;rw[List.any_cons,List.any_cons,Iu r f.1,vi t f.2]
theorem vo{x:V}{v:Qc}(rx:zD x v)(fx:lx x=true):∀ {xs:Qa V} {us:Qa Qc},zF xs us->xs.all lx=true->∀ u∈us,SeqAt.EqAt A s u v<|iq x u
 | _,_,.nil,_=>λu hu=>by cases hu
 | y::xs,u::us,.cons r t,f=>λu' hu=>by
  rw[List.all_cons,Bool.and_eq_true]at f;rcases qv.mp hu with rfl|hu
  .rw[Iu r f.1]; exact Q5 r rx f.1 fx
  .exact vo rx fx t f.2 u' hu
def Fy(x:V)(xs:Qa V):Bool:=xs.any λy=>pb y x
def vS(K:qc)(neg:Bool):R2:=λx y H Q=>∃ p xs,y=.ref p/\(bq K H p xs\/bj K H p xs)/\lx x=true/\xs.all lx=true/\Q (.bl (if neg then !Fy x xs else Fy x xs)) H
theorem Yd:bu X (compareOp .In) (vS X.K false):=by
 intro pins s σ H x y v u Q I rx ry h;have(p,xs,rfl,hq,fx,fs,q):=h;cases ry;rcases hq with hq|hq
 .have(ai,r,pl,hz):=I.list hq
  refine SeqAt.in_listAt (iq x) pl.isList (λw hw=>vo rx fx r fs w (by simpa using hw)) ⟨.bl _,H,I,rfl,?_⟩;rw[show ai.toArray.any (iq x)=ai.any (iq x) by simp,vi r fs];exact q
 .have(ai,r,pl,hz):=I.tuple hq
  refine SeqAt.in_tupleAt (iq x) pl (λw hw=>vo rx fx r fs w (by simpa using hw)) ⟨.bl _,H,I,rfl,?_⟩;rw[show ai.toArray.any (iq x)=ai.any (iq x) by simp,vi r fs];exact q
theorem ziS:bu X (compareOp .NotIn) (vS X.K true):=by
 intro pins s σ H x y v u Q I rx ry h;have(p,xs,rfl,hq,fx,fs,q):=h;cases ry;rcases hq with hq|hq
 .have(ai,r,pl,hz):=I.list hq
  refine SeqAt.notIn_listAt (iq x) pl.isList (λw hw=>vo rx fx r fs w (by simpa using hw)) ⟨.bl _,H,I,rfl,?_⟩;rw[show ai.toArray.any (iq x)=ai.any (iq x) by simp,vi r fs];exact q
 .have(ai,r,pl,hz):=I.tuple hq
  refine SeqAt.notIn_tupleAt (iq x) pl (λw hw=>vo rx fx r fs w (by simpa using hw)) ⟨.bl _,H,I,rfl,?_⟩;rw[show ai.toArray.any (iq x)=ai.any (iq x) by simp,vi r fs];exact q
theorem ziT:eE X (.builtin "len") (λxs H Q=>∃ p ys,xs=[.ref p]/\(bq X.K H p ys\/bj X.K H p ys)/\Q (.int ys.length) H):=by
 intro pins s σ H xs us Q I r h;have(p,ys,rfl,hq,q):=h;have(u,rfl,rx):=jT r;cases rx;have hn:=sX;rcases hq with hq|hq
 .have(ai,r',pl,hz):=I.list hq
  have hlen:=r'.length;exact Calls.call_len_list pl.isList (by simp only[List.size_toArray]<;>omega) ⟨.int ys.length,H,I.tok _,⟨s.toks+1,by rw[List.size_toArray,hlen]⟩,q⟩
 .have(ai,r',pl,hz):=I.tuple hq
  have hlen:=r'.length;exact len_tuple pl (by simp only[List.size_toArray]<;>omega) ⟨.int ys.length,H,I.tok _,⟨s.toks+1,by rw[List.size_toArray,hlen]⟩,q⟩
theorem zhO:eE X (.type "tuple") (λxs H Q=>∃ p ys,xs=[.ref p]/\((bq X.K H p ys/\∀ l,H l=none->Q (.ref l) (upd H l<|.tup ys))\/(bj X.K H p ys/\Q (.ref p) H))):=by
 intro pins s σ H xs us Q I r h;have(p,ys,rfl,h):=h;have(u,rfl,rx):=jT r;cases rx;rcases h with⟨hq,q⟩|⟨hq,q⟩
 .have(ai,r',pl,hz):=I.list hq
  have hlen:=r'.length;refine call_tuple_list pl.isList (λh' kp=>?_) (by simp only[List.size_toArray]<;>omega);have I1:Inv X pins σ H {s with heap:=h'}:=I.kept (t':=s.toks) kp;have I2:Inv X pins σ (upd H h'.objs.size<|.tup ys) {s with heap:=h'.push {cls:=.type "tuple",data:=.seq ai.toArray}}:=
   I1.laid (t':=s.toks) (λb o e=>qd _ e) (qe _) (show zI X.prog X.w X.K _ _ _ (.tup ys) from⟨hz,ai,r',lC.new _ _⟩)
  exact⟨.ref h'.objs.size,_,I2,rfl,q _<|I1.aw.fresh<|qe _⟩
 .have(ai,r',pl,hz):=I.tuple hq
  exact call_tuple_same pl ⟨.ref p,H,I,rfl,q⟩
def vJ(K:qc)(T:String)(x:V)(H:Hp):Prop:=match x with
 | .str _=>T = "str"
 | .int _=>T = "int"
 | .ref p=>(T = "list"/\∃ xs,bq K H p xs)\/(T = "tuple"/\∃ o,K.lookup p=some o/\o.cls=.type "tuple"/\o.dict=none)\/
   (T = "dict"/\((∃ kvs,H p=some (.dK kvs))\/∃ kvs,H p=some (.dT kvs)))\/(T = "set"/\∃ S n,H p=some (.set S n))
 | _=>False
theorem Ir{x:V}{v:Qc}(I:Inv X pins σ H s)(r:zD x v)(ty:vJ X.K T x H):
  s.TypeIs v T/\∀ a,v=.ref a->∃ ob,s.heap.get? a=some ob/\ob.dict=none:=by
 cases x with
 | str z=>
  have(t,rfl):=r;cases(show T = "str" from ty);exact⟨typeIs_str s z t,λ_ e=>nomatch e⟩
 | int i=>
  have(t,rfl):=r;cases(show T = "int" from ty);exact⟨typeIs_int s i t,λ_ e=>nomatch e⟩
 | ref p=>
  cases r;rcases ty with⟨rfl,xs,hq⟩|⟨rfl,o,hk,hc,hd⟩|⟨rfl,hk⟩|⟨rfl,S,n,hk⟩
  .have(ai,_,pl,_):=I.list hq
   refine⟨pl.isList.typeIs,λa e=>?_⟩;cases e;have(o,n,e,c,hd,_):=pl;exact⟨o,e,hd⟩
  .refine⟨⟨o,I.aW p o hk,hc⟩,λa e=>?_⟩
   cases e;exact⟨o,I.aW _ o hk,hd⟩
  .have z:∃ o,s.heap.get? p=some o/\o.ExactDict:=by
    rcases hk with⟨kvs,hk⟩|⟨kvs,hk⟩
    .have(_,_,_,_,o,_,_,e,ex,_):=I.aw p _ hk
     exact⟨o,e,ex⟩
    .have(_,_,_,_,o,_,_,e,ex,_):=I.aw p _ hk
     exact⟨o,e,ex⟩
   have(o,e,ex):=z;refine⟨⟨o,e,ex.1⟩,λa e2=>?_⟩;cases e2;exact⟨o,e,ex.2.1⟩
  .have(o,_,_,_,e,ex,_):=I.aw p _ hk
   refine⟨⟨o,e,ex.1⟩,λa e2=>?_⟩;cases e2;exact⟨o,e,ex.2.1⟩
 | _=>exact False.elim ty
def AI(K:qc)(T:String)(r:V->Qa V->Hp->VK->Prop)(to:TE)(t:TA):TE:=λσ H Q=>to σ H λx H1=>vJ K T x H1/\t σ H1 λxs H2=>r x xs H2 Q
variable{es:Qa Expr}{to:TE}{t:TA}{name:Str}{id:String}{r:V->Qa V->Hp->VK->Prop}
theorem OO(pa:PlainAttrs T)(slot:Slot T name id)(qX:typeOf (.builtin id)=pure (.type "method_descriptor"))(hm:MtR X id r)(ho:PE X o to)(ha:PA X (e::es) t)
  (gI:attributeBase o name X.env (eval o X.env)=eval o X.env:=by rfl)
  (kQ:((backTo aM<|starEach (e::es) X.env).all (λx=>!x.1) && (backToKw aM<|keywordEach [] X.env).all (λx=>x.1.isSome)
   && decide ((e::es).length+([]:Qa Keyword).length+(if([]:Qa Keyword).isEmpty then 0 else 1) < 30))=true:=by rfl)
  (gG:(apos.endLine==aM.line)=true:=by rfl) (hs:starEach (e::es) X.env=(false,eval e X.env)::starEach es X.env:=by rfl) (qZ:(backTo aM<|starEach es X.env).any (·.1)=false:=by rfl):
  PE X (.Call (.Attribute o name apos) (e::es) [] aM) (AI X.K T r to t):=by
 intro pins s σ H Q I h;refine wpAny_Call_method_late gI kQ gG rfl<|aA (ho pins s σ H _ I h) λv s1 hZ=>?_;have(x,H1,I1,r1,ty,q1):=hZ;have(h1,h2):=Ir I1 r1 ty;refine⟨T,id,pa,slot,qX,h1,h2,?_⟩;have hA:=ha aM pins s1 σ H1 _ I1 q1;rw[hs]at hA ⊢;refine í (by show(false || (backTo aM<|starEach es X.env).any (·.1))=false; rw[qZ]<;>rfl)<|ò ?_;exact aA hA λus s2 ⟨vs,H2,I2,r2,q2⟩=>hm pins s2 σ H2 x vs v us Q I2 r1 r2 q2
end
def t6(X:Cx)(id:String)(r:V->Qa V->Hp->VK->Prop):Prop :=
 ∀ (pins:Qa (Qg×Obj)) (s:Qd) (σ:St) (H:Hp) (x:V) (xs:Qa V) (v:Qc) (us:Qa Qc) (Q:VK),Inv X pins σ H s->zD x v->zF xs us->r x xs H Q->
  wpAny (model X.prog X.w) X.A (call (.builtin id)<|v::us) (EP X pins σ Q) X.xe s
theorem zF.one{x:V}{us:Qa Qc}(h:zF [x] us):∃ u,us=[u]/\zD x u:=by
 cases h with
 | cons r t=>cases t; exact⟨_,rfl,r⟩
theorem zF.rep{xs:Qa V}{us:Qa Qc}(h:zF xs us):∀ k:Nat,zF (List.replicate k xs).flatten (List.replicate k us).flatten
 | 0=>.nil
 | k+1=>by
  rw[List.replicate_succ,List.replicate_succ,List.flatten_cons,List.flatten_cons];exact zF.append h<|zF.rep h k
theorem KH(ai:Qa Qc):∀ (k:Nat) (acc:Qa Qc),
  List.foldl (λx1 x2=>x1++x2) acc.toArray (List.replicate k ai.toArray)=(acc++(List.replicate k ai).flatten).toArray
 | 0,acc=>by simp
 | k+1,acc=>by
  have e:acc.toArray++ai.toArray=(acc++ai).toArray:=by simp
  have e2:(acc++ai)++(List.replicate k ai).flatten=acc++(List.replicate (k+1) ai).flatten:=by
   rw[List.replicate_succ,List.flatten_cons,List.append_assoc]
  rw[<-e2,<-KH ai k (acc++ai),<-e,List.replicate_succ,List.foldl_cons]
section
variable{X:Cx}{l b:Qg}{xs ys zs:Qa V}
theorem Inv.Fj{ai its':Qa Qc}{f:Array Qc->Array Qc}{t':Nat}(I:Inv X pins σ H s)(hH:H l=some (.lst xs))
  (e:s.heap.get? l=some {cls:=.type "list",data:=.seq ai.toArray n}) (hf:f ai.toArray=its'.toArray) (hv:zF ys its') (hz:ys.length<=sizeLine):
  Inv X pins σ (upd H l<|.lst ys) {s with heap:=s.heap.update l (Obj.mapSeq f),toks:=t'}:=by
 have q:=PySem.IsL.update e f;rw[hf]at q;refine I.write (x:=l) (e:=l) (by rw[hH]; exact trivial) (.inl rfl) (λb' u hb hu=>(ì s.heap (Obj.mapSeq f)<|Ne.symm hb).trans hu) ⟨_,q⟩ ?_;exact⟨hz,its',_,hv,q⟩
theorem Inv.Fk{ai:Qa Qc}{t':Nat}(I:Inv X pins σ H s)(hv:zF ys ai)(hz:ys.length<=sizeLine):
  Inv X pins σ (upd H s.heap.objs.size<|.lst ys) {s with heap:=s.heap.push {cls:=.type "list",data:=.seq ai.toArray},toks:=t'}:=
 I.laid (λ_ _ q=>qd _ q) (qe _) ⟨hz,ai,0,hv,qg _ rfl⟩
theorem Inv.fresh(I:Inv X pins σ H s):H s.heap.objs.size=none:=I.aw.fresh (qe _)
theorem Inv.Fi(I:Inv X pins σ H s)(hH:H l=some (.lst xs)):xs.length<=sizeLine/\∃ (ai:Qa Qc) (n:Nat),zF xs ai/\xs.length=ai.length/\s.heap.get? l=some {cls:=.type "list",data:=.seq ai.toArray n}:=by
 have(z,ai,n,r,e):=I.aw l _ hH;exact⟨z,ai,n,r,r.length,e⟩
end
section
variable{X:Cx}
def DU:V->Qa V->Hp->VK->Prop:=λx vs H Q=>∃ l xs y,x=.ref l/\vs=[y]/\H l=some (.lst xs)/\xs.length < sizeLine/\Q .aI (upd H l<|.lst<|xs++[y])
theorem kr:t6 X "list.append" DU:=by
 intro pins s σ H x vs v us Q I rx rv h;have(l,xs,y,rfl,rfl,hH,hz,q):=h;cases rx;have(u,rfl,ru):=rv.one;have(z,ai,n,r,hl,e):=I.Fi hH;refine call_meets F.slot_list_append ⟨_,e,rfl⟩ F.entry_list_append (F.args_list_append_2 _ _) (PySem.list_append l ai.toArray n u (by rw[List.size_toArray]; omega)) ⟨e,?_⟩;refine⟨.aI,_,I.Fj (its':=ai++[u]) hH e (by simp) (r.append<|.cons ru .nil) ?_,rfl,q⟩;rw[qt,List.length_singleton];omega
theorem JA(xs:Qa α)(k:Nat):(List.replicate k xs).flatten.length=k * xs.length:=by
 induction k with
 | zero=>simp
 | succ k ih=>rw[List.replicate_succ,List.flatten_cons,qt,ih,Nat.succ_mul,Nat.add_comm]
end
section
end
section
variable{X:Cx}
end
section
variable[DecidableEq κ]
def fm(kvs:Qa (κ×V))(k:κ):Qb V:=(kvs.find? λkv=>decide<|kv.1=k).map (·.2)
def dA(kvs:Qa (κ×V))(k:κ)(v:V):Qa (κ×V):=
 if(kvs.any λkv=>decide<|kv.1=k)=true then kvs.map (λkv=>if kv.1=k then(kv.1,v)else kv)else kvs++[(k,v)]
theorem Aa{p:κ×V}{r:Qa (κ×V)}{k:κ}(e:p.1=k):fm (p::r) k=some p.2:=by simp[fm,List.find?_cons,e]
theorem y9{p:κ×V}{r:Qa (κ×V)}{k:κ}(e:¬p.1=k):fm (p::r) k=fm r k:=by simp[fm,List.find?_cons,e]
theorem Ee(k:κ):∀ kvs:Qa (κ×V),(kvs.any λkv=>decide<|kv.1=k)=(fm kvs k).isSome
 | []=>rfl
 | p::r=>by
  rw[List.any_cons]
  by_cases e:p.1=k
  .simp only[Aa e,decide_eq_true e,Bool.true_or,Option.isSome_some]
  .rw[y9 e,decide_eq_false e,Bool.false_or]; exact Ee k r
theorem An(kvs:Qa (κ×V))(k:κ)(v:V):(dA kvs k v).length<=kvs.length+1:=by
 unfold dA;split
 .rw[List.length_map]; omega
 .rw[qt,qu,List.length_nil]; omega
theorem ff.bH{o:Qb V}{u:Qb Qc}(r:ff o u):o.isSome=u.isSome:=by
 cases o with
 | none=>cases u with
  | none=>rfl
  | some _=>exact(show False from r).elim
 | some _=>cases u with
  | none=>exact(show False from r).elim
  | some _=>rfl
theorem ff.getD{o:Qb V}{u:Qb Qc}{d:V}{d':Qc}(r:ff o u)(rd:zD d d'):zD (o.getD d) (u.getD d'):=by
 cases o with
 | none=>cases u with
  | none=>exact rd
  | some _=>exact(show False from r).elim
 | some _=>cases u with
  | none=>exact(show False from r).elim
  | some _=>exact r
theorem KV.val{kvs:Qa (κ×V)}{vs:Qa (κ×Qc)}(r:KV kvs vs)(k:κ):ff (fm kvs k) (valueAt vs k):=by
 unfold KV at r
 induction r with
 | nil=>exact True.intro
 | @cons p q ps qs h t ih=>
  have(h1,h2):=h
  by_cases e:p.1=k
  .have e':q.1=k:=h1.symm.trans e
   have b:valueAt (q::qs) k=some q.2:=by simp[valueAt,List.find?_cons,e']
   rw[Aa e,b]; exact h2
  .have e':¬q.1=k:=λz=>e<|h1.trans z
   have b:valueAt (q::qs) k=valueAt qs k:=by simp[valueAt,List.find?_cons,e']
   rw[y9 e,b]; exact ih
theorem KV.any{kvs:Qa (κ×V)}{vs:Qa (κ×Qc)}(r:KV kvs vs)(k:κ):(kvs.any λkv=>decide<|kv.1=k)=vs.any λkv=>decide (kv.1=k):=by
 unfold KV at r
 induction r with
 | nil=>rfl
 | cons h t ih=>rw[List.any_cons,List.any_cons,ih,h.1]
theorem KV.h9{kvs:Qa (κ×V)}{vs:Qa (κ×Qc)}(r:KV kvs vs)(k:κ)(ry:zD y u):
  KV (kvs.map λkv=>if kv.1=k then(kv.1,y)else kv) (vs.map λkv=>if kv.1=k then(kv.1,u)else kv):=by
 unfold KV at r ⊢
 induction r with
 | nil=>exact .nil
 | @cons p q ps qs h t ih=>
  rw[List.map_cons,List.map_cons];refine .cons ?_ ih;have(h1,h2):=h
  by_cases e:p.1=k
  .rw[if_pos e,if_pos<|h1.symm.trans e]; exact⟨h1,ry⟩
  .rw[if_neg e,if_neg λz=>e<|h1.trans z]; exact⟨h1,h2⟩
theorem KV.put{kvs:Qa (κ×V)}{vs:Qa (κ×Qc)}(r:KV kvs vs)(k:κ)(ry:zD y u):KV (dA kvs k y) (stored vs k u):=by
 unfold dA stored;rw[r.any k]
 by_cases e:(vs.any λkv=>decide<|kv.1=k)=true
 .rw[if_pos e,if_pos e]; exact r.h9 k ry
 .rw[if_neg e,if_neg e]; exact Paired.snoc r ⟨rfl,ry⟩
theorem KV.length{kvs:Qa (κ×V)}{vs:Qa (κ×Qc)}(r:KV kvs vs):kvs.length=vs.length:=Paired.length r
end
theorem mL{k:Key}(r:zD (kV k) u):(zC P w).is k u=true:=by
 cases k with
 | inl i=>have(t,e):=(show ∃ t,u=Value.int i t from r); subst e; exact zjP P w i t
 | inr x=>have(t,e):=(show ∃ t,u=Value.str x t from r); subst e; exact zjQ P w x t
theorem Ek:∀ {ks:Qa Key} {us:Qa Qc},zF (ks.map kV) us->ItemsAre (zC P w) ks us
 | [],_,r=>by rw[List.map_nil]at r; cases r; exact .nil
 | k::ks,_,r=>by
  rw[List.map_cons]at r;cases r with
  | cons h t=>exact .cons (mL h)<|Ek t
abbrev KT(K:qc)(H:Hp):Qa (Qa Key×V)->Qa (Qa Key×Qg×Qc)->Prop:=Paired λp q=>p.1=q.1/\aP K H q.2.1 (p.1.map kV)/\zD p.2 q.2.2
theorem KT.val{xs:Qa (Qa Key×Qg×Qc)}(r:KT K H kvs xs)(k:Qa Key):ff (fm kvs k) ((atKey xs k).map (·.2)):=by
 induction r with
 | nil=>exact True.intro
 | @cons p q ps qs h t ih=>
  have(h1,_,h2):=h
  by_cases e:p.1=k
  .have e':q.1=k:=h1.symm.trans e
   have b:atKey (q::qs) k=some q.2:=by simp[atKey,List.find?_cons,e']
   rw[Aa e,b]; exact h2
  .have e':¬q.1=k:=λz=>e<|h1.trans z
   have b:atKey (q::qs) k=atKey qs k:=by simp[atKey,List.find?_cons,e']
   rw[y9 e,b]; exact ih
theorem KT.h9{xs:Qa (Qa Key×Qg×Qc)}(r:KT K H kvs xs)(k:Qa Key)(ry:zD y u):
  KT K H (kvs.map λkv=>if kv.1=k then(kv.1,y)else kv) (xs.map<|putAt k u):=by
 induction r with
 | nil=>exact .nil
 | @cons p q ps qs h t ih=>
  rw[List.map_cons,List.map_cons];refine .cons ?_ ih;have(h1,h2,h3):=h;unfold putAt
  by_cases e:p.1=k
  .rw[if_pos e,if_pos<|h1.symm.trans e]; exact⟨h1,h2,ry⟩
  .rw[if_neg e,if_neg λz=>e<|h1.trans z]; exact⟨h1,h2,h3⟩
theorem KT.put{xs:Qa (Qa Key×Qg×Qc)}(r:KT K H kvs xs)(k:Qa Key){b:Qg}(hb:aP K H b (k.map kV))(ry:zD y u):
  KT K H (dA kvs k y) (storedH xs k b u):=by
 have e:(kvs.any λkv=>decide<|kv.1=k)=(atKey xs k).isSome:=by
  rw[Ee,(r.val k).bH,Option.isSome_map]
 unfold dA storedH;rw[e]
 by_cases q:(atKey xs k).isSome=true
 .rw[if_pos q,if_pos q]; exact r.h9 k ry
 .rw[if_neg q,if_neg q]; exact Paired.snoc r ⟨rfl,hb,ry⟩
theorem KT.keeps{xs:Qa (Qa Key×Qg×Qc)}(r:KT K H kvs xs)(ht:∀ b ys,H b=some (.tup ys)->H' b=some (.tup ys)):KT K H' kvs xs :=
 Paired.gF r λ_ _ z=>⟨z.1,z.2.1.keeps ht,z.2.2⟩
section
theorem CT{u:HO}(ok:bD P w K H h)(e:Rd H a u):zI P w K H h a u:=e.ok ok
theorem pO{kvs:Qa (Key×V)}(ok:bD P w K H h)(e:Rd H a (.dK kvs)):kvs.length<=sizeLine/\(a==sysModules)=false/\∃ vs,KV kvs vs/\h.DictOf (zC P w) a vs :=
 show zI P w K H h a (.dK kvs) from CT ok e
theorem Hj{kvs:Qa (Key×V)}(ok:bD P w K H h)(e:H a=some (.dK kvs)):kvs.length<=sizeLine/\(a==sysModules)=false/\∃ vs,KV kvs vs/\h.DictOf (zC P w) a vs:=pO ok (.inl e)
theorem mO(cY:K.In h)(ok:bD P w K H h)(e:aP K H a (ks.map kV)):(tupleKind<|zC P w).is h ks a:=by
 rcases e with e|⟨o,ai,n,hk,hc,hs,_,r,_⟩
 case inr=>exact⟨o,ai,n,cY a o hk,hc,hs,by simpa using Ek r⟩
 obtain⟨_,ai,r,o,h1,h2,⟨n,h3⟩,_⟩:=(show zI P w K H h a (.tup<|ks.map kV) from ok a _ e);exact⟨o,ai.toArray,n,h1,h2,h3,by simpa using Ek r⟩
theorem lr(cY:K.In h)(ok:bD P w K H h)(e:Rd H a (.dT kvs)):kvs.length<=sizeLine/\(a==sysModules)=false/\
  ∃ xs,KT K H kvs xs/\h.DictOfH (tupleKind<|zC P w) a xs:=by
 have(z,y,xs,r,o,es,ep,h1,h2,h3,h4,h5):=(show zI P w K H h a (.dT kvs) from CT ok e);refine⟨z,y,xs,r,o,es,ep,h1,h2,h3,h4,λx hx=>?_,h5⟩;have all:∀ {l:Qa (Qa Key×V)} {m:Qa (Qa Key×Qg×Qc)},KT K H l m->∀ x∈m,(tupleKind<|zC P w).is h x.1 x.2.1:=by
  intro l m q
  induction q with
  | nil=>intro x hx; exact nomatch hx
  | @cons p q ps qs hq t ih=>
   intro x hx;rcases qv.mp hx with e|hx
   .subst e
    exact mO cY ok (by rw[<-hq.1]; exact hq.2.1)
   .exact ih x hx
 exact all r x hx
theorem Hi(cY:K.In h)(ok:bD P w K H h)(e:H a=some (.dT kvs)):kvs.length<=sizeLine/\(a==sysModules)=false/\
  ∃ xs,KT K H kvs xs/\h.DictOfH (tupleKind<|zC P w) a xs:=lr cY ok (.inl e)
end
def jR(K:qc)(H:Hp)(a:Qg)(y:V)(r:Qb V):Prop :=
 (∃ kvs k,Rd H a (.dK kvs)/\y=kV k/\r=fm kvs k)\/∃ kvs k b,Rd H a (.dT kvs)/\y=.ref b/\aP K H b (k.map kV)/\r=fm kvs k
def nS(K:qc)(H:Hp)(a:Qg)(y v:V)(H':Hp):Prop :=
 (∃ kvs k,H a=some (.dK kvs)/\y=kV k/\kvs.length < sizeLine/\H'=upd H a (.dK<|dA kvs k v))\/
 ∃ kvs k b,H a=some (.dT kvs)/\y=.ref b/\aP K H b (k.map kV)/\kvs.length < sizeLine/\H'=upd H a (.dT<|dA kvs k v)
theorem nS.k{kvs:Qa (Key×V)}{k:Key}(e:H a=some (.dK kvs))(hl:kvs.length < sizeLine):nS K H a (kV k) v (upd H a<|.dK<|dA kvs k v):=.inl ⟨kvs,k,e,rfl,hl,rfl⟩
theorem nS.t{b:Qg}{k:Qa Key}(e:H a=some (.dT kvs))(eb:aP K H b (k.map kV))(hl:kvs.length < sizeLine):
  nS K H a (.ref b) v (upd H a<|.dT<|dA kvs k v):=.inr ⟨kvs,k,b,e,rfl,eb,hl,rfl⟩
section
variable{X:Cx}{r:Qc}{o:Qb V}
theorem Inv.wV(I:Inv X pins σ H s):sysModules < s.heap.objs.size:=by
 have h:mainGlobals < s.heap.objs.size:=(I.mod.glob.keeps I.bk).lt;exact ø (by decide) h
theorem Yc(hu:A.units+1 < cLine)(I:Inv X pins σ H s)(g:jR X.K H a y (some v))(ry:zD y u)(h:∀ w' s',Inv X pins σ H s'->zD v w'->Q w' s'):
  wpAny (model X.prog X.w) A (getItem (.ref a) u) Q E s:=by
 rcases g with⟨kvs,k,e,ey,l⟩|⟨kvs,k,b,e,ey,eb,l⟩
 .subst ey
  have(z,hd,vs,rel,dd):=pO I.aw e;have(w',hw,fM):=ff.some_of (v:=v) (o:=valueAt vs k) (by rw[l]; exact rel.val k);exact wpAny_getItem_of (mL ry) dd.mapOf hw<|h w' _ (I.tok _) fM
 .subst ey
  cases(show u=Value.ref b from ry);have(z,hd,xs,rel,dd):=lr I.aW I.aw e;have(w',hw,fM):=ff.some_of (v:=v) (o:=(atKey xs k).map (·.2)) (by rw[l]; exact rel.val k);have(p,hp,jd):=qr.mp hw;refine wpAny_getItem_heap (tupleKind_room_in1 hu) (mO I.aW I.aw eb) dd hp ?_;rw[jd];exact h w' _ (I.tok _) fM
theorem zBd(hu:A.units+1 < cLine)(I:Inv X pins σ H s)(g:jR X.K H a y o)(ry:zD y u)(h:∀ s',Inv X pins σ H s'->Q (.bool o.isSome) s'):
  wpAny (model X.prog X.w) A (compareOp .In u<|.ref a) Q E s:=by
 rcases g with⟨kvs,k,e,ey,l⟩|⟨kvs,k,b,e,ey,eb,l⟩
 .subst ey
  have(z,hd,vs,rel,dd):=pO I.aw e;refine wpAny_in_of (mL ry) hd dd.mapOf ?_;rw[<-(rel.val k).bH,<-l];exact h _<|I.tok _
 .subst ey
  cases(show u=Value.ref b from ry);have(z,hd,xs,rel,dd):=lr I.aW I.aw e;refine wpAny_in_heap (tupleKind_room_in1 hu) (mO I.aW I.aw eb) hd dd ?_;have q:=(rel.val k).bH;rw[Option.isSome_map]at q;rw[<-q,<-l];exact h _<|I.tok _
theorem vh{h':Heap}{t':Nat}{ob:HO}(I:Inv X pins σ H s)(mu:wY (H a))(hs:Heap.SameBut a s.heap h')(he:∃ q,h'.get? a=some q)(new:zI X.prog X.w X.K (upd H a ob) h' a ob):
  Inv X pins σ (upd H a ob) {s with heap:=h',toks:=t'}:=
 I.write (x:=a) (e:=a) mu (.inl rfl) (λb q hb z=>(hs.2 b hb).trans z) he new
theorem Iq{h':Heap}{kvs:Qa (Key×V)}{vs:Qa (Key×Qc)}(z:kvs.length<=sizeLine)(hd:(a==sysModules)=false)(rel:KV kvs vs)(dd:h'.DictOf (zC P w) a vs):
  zI P w K H' h' a (.dK kvs):=⟨z,hd,vs,rel,dd⟩
theorem Yb{Q:Unit->Qd->Prop}(hu:A.units+1 < cLine)(I:Inv X pins σ H s)(g:nS X.K H a y v H')(ry:zD y u)(rv:zD v r)(h:∀ s',Inv X pins σ H' s'->Q () s'):
  wpAny (model X.prog X.w) A (setItem (.ref a) u r) Q E s:=by
 rcases g with⟨kvs,k,e,ey,l,eH⟩|⟨kvs,k,b,e,ey,eb,l,eH⟩
 .subst ey eH
  have(z,hd,vs,rel,dd):=Hj I.aw e;have hz:vs.length<=sizeLine:=by rw[<-rel.length]; exact z
  have hl:(dA kvs k v).length<=sizeLine:=by have:=An kvs k v; omega
  refine wpAny_setItem_pairs (hsz:=hz) (mL ry) dd λh' kU hs=>h _ ?_;have he:∃ q,h'.get? a=some q:=let ⟨q,_,_,hq,_⟩:=kU; ⟨q,hq⟩;exact vh I (by rw[e]; exact True.intro) hs he<|Iq hl hd (rel.put k rv) kU
 .subst ey eH
  cases(show u=Value.ref b from ry);have(z,hd,xs,rel,dd):=Hi I.aW I.aw e;have hz:xs.length<=sizeLine:=by rw[<-Paired.length rel]; exact z
  have hl:(dA kvs k v).length<=sizeLine:=by have:=An kvs k v; omega
  refine wpAny_setItem_heap (hsz:=hz) (tupleKind_room_in1 hu) (mO I.aW I.aw eb) dd λh' kU hs=>h _ ?_;have(q,es,ep,hq,h2,h3,h4,_,h5):=kU;refine vh I (by rw[e]; exact True.intro) hs ⟨q,hq⟩ ⟨hl,hd,_,(rel.put k eb rv).keeps λc ys ec=>?_,q,es,ep,hq,h2,h3,h4,h5⟩;rw[zt (sA ec e (λz=>nomatch z))];exact ec
end
section
variable{X:Cx}{kvs:Qa (Key×V)}{k:Key}
end
def xw(i:Expr):Prop:=∀ ov iv,subscripted i false ov iv=operate [ov,iv] (getItem ov iv)
theorem Jz{slice:Expr}{id:String}
  (hl:typeLookup (.type T) "__getitem__"=pure (some<|.builtin id)) (hs:xw slice)
  (h:wpAny (model prog w) A (eval value env) (λo aC=>wpAny (model prog w) A (eval slice env) (λi gD=>gD.TypeIs o T/\wpAny (model prog w) A (getItem o i) Q E gD) E aC) E s):
  wpAny (model prog w) A (eval (.Subscript value slice pos) env) Q E s:=by
 refine Subscript_<|wpAny_mono h (λo aC FE=>wpAny_mono FE (λi gD qW=>?_) λ_ _ x=>x) λ_ _ x=>x;have(hT,qW):=qW;unfold subscriptTail;refine qa ?_;rw[getitemInPython_of_ne hT.not_modules];refine qa<|wpAny_specialOf hT hl ?_;have fin:wpAny (model prog w) A (subscripted slice false o i) (λr vO=>wpAny (model prog w) A (letTemporaryGo value o r >>= λ_=>pure r) Q E vO) E gD:=by
  rw[hs o i];exact wpAny_operating (wpAny_mono qW (λr vO FC=>qa<|wpAny_letTemporaryGo<|qb FC) λ_ _ x=>x)
 first
  | exact qb<|qa fin
  | exact qa<|qb<|qa fin
  | exact qa fin
theorem zj3{X:Cx}{o:Qb V}(I:Inv X pins σ H s)(g:jR X.K H a y o):s.TypeIs (.ref a) "dict":=by
 rcases g with⟨kvs,k,e,_,_⟩|⟨kvs,k,b,e,_,_,_⟩
 .have(_,_,vs,_,dd):=pO I.aw e
  exact dd.typeIs
 .have(_,_,xs,_,dd):=lr I.aW I.aw e
  exact dd.typeIs
def CS(K:qc)(td ty:TE):TE:=λσ H Q=>td σ H λx H1=>ty σ H1 λy H2=>∃ a v,x=.ref a/\jR K H2 a y (some v)/\Q v H2
def BP(K:qc)(ty td:TE):TE:=λσ H Q=>ty σ H λy H1=>td σ H1 λx H2=>∃ a o,x=.ref a/\jR K H2 a y o/\Q (.bl o.isSome) H2
def CQ(K:qc)(td ty tv:TE):TS:=λD σ H=>tv σ H λv H1=>td σ H1 λx H2=>ty σ H2 λy H3=>∃ a H4,x=.ref a/\nS K H3 a y v H4/\D.nx σ H4
section
variable{X:Cx}{i:Expr}
theorem Vc(hu:X.A.units+1 < cLine)(ho:PE X o td)(hi:PE X i ty)(hs:xw i):PE X (.Subscript o i pos) (CS X.K td ty):=by
 intro pins s σ H Q I h;refine Jz PySem.F.slot_dict_getitem.lookup hs<|aA (ho pins s σ H _ I h) λu s1 ⟨x,H1,I1,rx,q1⟩=>aA (hi pins s1 σ H1 _ I1 q1) λiv s2 hZ=>?_;have(y,H2,I2,ry,a,v,ex,g,q2):=hZ;subst ex;obtain rfl:u=Value.ref a:=rx;exact⟨zj3 I2 g,Yc hu I2 g ry λw' s3 I3 fM=>⟨v,H2,I3,fM,q2⟩⟩
theorem Q4(hu:X.A.units+1 < cLine)(hi:PE X i ty)(ho:PE X o td):PC X .In i o (BP X.K ty td):=by
 intro pins s σ H Q I h;refine aA (hi pins s σ H _ I h) λiv s1 ⟨y,H1,I1,ry,q1⟩=>aA (ho pins s1 σ H1 _ I1 q1) λu s2 hZ=>?_;have(x,H2,I2,rx,a,ov,ex,g,q2):=hZ;subst ex;obtain rfl:u=Value.ref a:=rx;exact zBd hu I2 g ry λs3 I3=>⟨.bl ov.isSome,H2,I3,rfl,q2⟩
theorem Vb(hu:X.A.units+1 < cLine)(ho:PE X o td)(hi:PE X i ty)(hv:PE X value tv)(hs:swapsWith value (some<|.Subscript o i pos') pos.line X.env=pure false):
  PS X (.Assign [.Subscript o i pos'] value pos) (CQ X.K td ty tv):=by
 intro pins s σ H D I h;refine wpAny_Assign_Subscript (aA (hv pins s σ H _ I h) λr s1 ⟨v,H1,I1,rv,q1⟩=>aA (ho pins s1 σ H1 _ I1 q1) λu s2 ⟨x,H2,I2,rx,q2⟩=>aA (hi pins s2 σ H2 _ I2 q2) λiv s3 hZ=>?_) hs;have(y,H3,I3,ry,a,H4,ex,g,q3):=hZ;subst ex;obtain rfl:u=Value.ref a:=rx;exact Yb hu I3 g ry rv λs4 I4=>⟨σ,H4,I4,q3⟩
end
theorem Ku(h:Heap)(hb:sysModules < h.objs.size):zI P w K H (h.push {cls:=.type "dict",data:=.dict #[]}) h.objs.size (.dK []):=
 ⟨Ì _,beq_eq_false_iff_ne.mpr<|Ne.symm<|qj hb,[],.nil,Heap.DictOf.new h⟩
theorem Kt(h:Heap)(hb:sysModules < h.objs.size):zI P w K H (h.push {cls:=.type "dict",data:=.dict #[]}) h.objs.size (.dT []):=
 ⟨Ì _,beq_eq_false_iff_ne.mpr<|Ne.symm<|qj hb,[],.nil,_,#[],0,qg _ rfl,⟨rfl,rfl,rfl⟩,rfl,rfl,List.nodup_nil⟩
def Dh:TE:=λ_ H Q=>∀ p,H p=none->Q (.ref p) (upd H p<|.dK [])
def yt:TE:=λ_ H Q=>∀ p,H p=none->Q (.ref p) (upd H p<|.dT [])
section
variable{X:Cx}
theorem XW:PE X (.Dict [] [] pos) Dh:=λpins s σ H Q I h=>
 wpAny_Dict_empty ⟨.ref s.heap.objs.size,_,I.laid (a:=s.heap.objs.size) (o:=.dK []) (t':=s.toks) (λ_ _ q=>qd _ q) (qe _)<|Ku s.heap I.wV,rfl,h _<|I.aw.fresh<|qe _⟩
theorem XU:PE X (.Dict [] [] pos) yt:=λpins s σ H Q I h=>
 wpAny_Dict_empty ⟨.ref s.heap.objs.size,_,I.laid (a:=s.heap.objs.size) (o:=.dT []) (t':=s.toks) (λ_ _ q=>qd _ q) (qe _)<|Kt s.heap I.wV,rfl,h _<|I.aw.fresh<|qe _⟩
end
def Dx:Qa (TE×TE)->St->Hp->(Qa (V×V)->Hp->Prop)->Prop
 | [],_,H,Q=>Q [] H
 | (tk,tv)::r,σ,H,Q=>tk σ H λx H1=>tv σ H1 λy H2=>Dx r σ H2 λps H3=>Q ((x,y)::ps) H3
abbrev VV:Qa (V×V)->Qa (Qc×Qc)->Prop:=Paired λp q=>zD p.1 q.1/\zD p.2 q.2
def Br(X:Cx)(pos:Pos)(keys:Qa (Qb Expr))(values:Qa Expr)(mY:Qa (TE×TE)):Prop :=
 ∀ (pins:Qa (Qg×Obj)) (s:Qd) (σ:St) (H:Hp) (Q:Qa (V×V)->Hp->Prop),Inv X pins σ H s->Dx mY σ H Q->
  wpAny (model X.prog X.w) X.A (evalPairs<|pairTrees keys values X.env pos) (λvs s'=>∃ ps H',Inv X pins σ H' s'/\VV ps vs/\Q ps H') X.xe s
theorem Va{X:Cx}:Br X pos [] [] []:=λpins s σ H Q I h=>pairTrees_nil_walk ⟨[],H,I,.nil,h⟩
theorem XS{X:Cx}{k v:Expr}{ks:Qa (Qb Expr)}{vs:Qa Expr}{mY:Qa (TE×TE)}(hk:PE X k tk)(hv:PE X v tv)(hr:Br X pos ks vs mY):
  Br X pos (some k::ks) (v::vs) ((tk,tv)::mY):=λpins s σ H Q I h=>
 pairTrees_cons_walk (aA (hk pins s σ H _ I h) λu s1 ⟨x,H1,I1,rx,q1⟩=>aA (hv pins s1 σ H1 _ I1 q1) λw2 s2 ⟨y,H2,I2,ry,q2⟩=>
  aA (hr pins s2 σ H2 _ I2 q2) λws s3 ⟨ps,H3,I3,rel,q3⟩=>⟨(x,y)::ps,H3,I3,.cons ⟨rx,ry⟩ rel,q3⟩)
def u6(kvs more:Qa (Key×V)):Qa (Key×V):=more.foldl (λacc kv=>dA acc kv.1 kv.2) kvs
theorem KV.merge:∀ {more:Qa (Key×V)} {rs:Qa (Key×Qc)} {kvs:Qa (Key×V)} {vs:Qa (Key×Qc)},KV more rs->KV kvs vs->KV (u6 kvs more) (merged vs rs):=by
 intro more rs kvs vs r;unfold KV at r
 induction r generalizing kvs vs with
 | nil=>intro q; exact q
 | @cons p q ps qs h t ih=>
  intro r0;have e:KV (dA kvs p.1 p.2) (stored vs q.1 q.2):=by
   have:=r0.put p.1 h.2;rw[<-h.1]; exact this
  exact ih e
theorem LF:∀ (more kvs:Qa (Key×V)),(u6 kvs more).length<=kvs.length+more.length
 | [],kvs=>by show kvs.length<=kvs.length+0; omega
 | p::r,kvs=>by
  have h1:=LF r (dA kvs p.1 p.2);have h2:=An kvs p.1 p.2;show(u6 (dA kvs p.1 p.2) r).length<=_;rw[qu]; omega
theorem Lo:∀ {kvs:Qa (Key×V)} {ws:Qa (Qc×Qc)},VV (kvs.map λkv=>(kV kv.1,kv.2)) ws->∃ rs,Carries (zC P w) ws rs/\KV kvs rs
 | [],_,r=>by rw[List.map_nil]at r; cases r; exact⟨[],True.intro,.nil⟩
 | p::kvs,_,r=>by
  rw[List.map_cons]at r;cases r with
  | @cons a b as bs h t=>
   have(rs,c,q):=Lo t;have(b1,b2):=b;exact⟨(p.1,b2)::rs,⟨mL h.1,rfl,c⟩,.cons ⟨rfl,h.2⟩ q⟩
def CP(mY:Qa (TE×TE)):TE:=λσ H Q=>∀ p,H p=none->Dx mY σ (upd H p<|.dK []) λps H2=>H2 p=some (.dK [])/\∃ kvs:Qa (Key×V),ps=kvs.map (λkv=>(kV kv.1,kv.2))/\kvs.length<=15/\Q (.ref p) (upd H2 p<|.dK<|u6 [] kvs)
theorem U9{X:Cx}{keys:Qa (Qb Expr)}{values:Qa Expr}{mY:Qa (TE×TE)}(h:Br X pos keys values mY)(kR:keys.all (·.isSome)=true)(hl:keys.length=values.length)(h0:keys≠[])
  (h15:keys.length<=15):PE X (.Dict keys values pos) (CP mY):=by
 intro pins s σ H Q I q;have hn:=I.aw.fresh (qe s.heap.objs.size);have I1:=I.laid (a:=s.heap.objs.size) (o:=.dK []) (h':=s.heap.push {cls:=.type "dict",data:=.dict #[]}) (t':=s.toks) (λ_ _ q=>qd _ q) (qe _) (Ku s.heap I.wV);refine wpAny_Dict_walk (knd:=zC X.prog X.w) kR hl h0 h15<|aA (h pins _ σ _ _ I1<|q _ hn) λws s2 hZ=>?_;have(ps,H2,I2,rel,e,kvs,ep,lk,q2):=hZ;subst ep;have(rs,c,rk):=Lo (P:=X.prog) (w:=X.w) rel;have(z,hd,vs0,r0,dd):=Hj I2.aw e;cases r0;refine⟨rs,c,dd,λh' kU hs=>⟨.ref s.heap.objs.size,_,?_,rfl,q2⟩⟩;have hz:(u6 [] kvs).length<=sizeLine:=by
  have h1:=LF kvs [];rw[List.length_nil]at h1;rw[sizeLine_eq]; omega
 have he:∃ q,h'.get? s.heap.objs.size=some q:=let ⟨q,_,_,hq,_⟩:=kU; ⟨q,hq⟩;exact vh I2 (by rw[e]; exact True.intro) hs he<|Iq hz hd (rk.merge .nil) kU
structure M1 (X:Cx) (o:Expr) (m:Str) (apos:Pos) (e:Expr) (aM:Pos):Prop where
 base:attributeBase o m X.env (eval o X.env)=eval o X.env
 Gj:((backTo aM<|starEach [e] X.env).all (λx=>!x.1) && (backToKw aM<|keywordEach [] X.env).all (λx=>x.1.isSome)
  && decide (([e]:Qa Expr).length+([]:Qa Keyword).length+(if([]:Qa Keyword).isEmpty then 0 else 1) < 30))=true
 line:(apos.endLine==aM.line)=true
 trees:backTo aM (starEach [e] X.env)=[(false,eval e X.env)]
structure M2 (X:Cx) (o:Expr) (m:Str) (apos:Pos) (e f:Expr) (aM:Pos):Prop where
 base:attributeBase o m X.env (eval o X.env)=eval o X.env
 Gj:((backTo aM<|starEach [e,f] X.env).all (λx=>!x.1) && (backToKw aM<|keywordEach [] X.env).all (λx=>x.1.isSome)
  && decide (([e,f]:Qa Expr).length+([]:Qa Keyword).length+(if([]:Qa Keyword).isEmpty then 0 else 1) < 30))=true
 line:(apos.endLine==aM.line)=true
 trees:backTo aM (starEach [e,f] X.env)=[(false,eval e X.env),(false,eval f X.env)]
def Bu(H:Hp)(a:Qg):Prop:=(∃ kvs,Rd H a<|.dK kvs)\/∃ kvs,Rd H a<|.dT kvs
theorem Ip{X:Cx}(I:Inv X pins σ H s)(d:Bu H a):
  s.TypeIs (.ref a) "dict"/\(∀ b,Value.ref a=.ref b->∃ ob,s.heap.get? b=some ob/\ob.dict=none)/\(a==sysModules)=false:=by
 rcases d with⟨kvs,e⟩|⟨kvs,e⟩
 .have(_,hd,vs,_,dd):=pO I.aw e
  refine⟨dd.typeIs,λb q=>?_,hd⟩;cases q;have(ob,_,_,h1,h2,_):=dd;exact⟨ob,h1,h2.2.1⟩
 .have(_,hd,xs,_,dd):=lr I.aW I.aw e
  refine⟨dd.typeIs,λb q=>?_,hd⟩;cases q;have(ob,_,_,h1,h2,_):=dd;exact⟨ob,h1,h2.2.1⟩
section
variable{X:Cx}{d:V}{r:Qc}{o:Qb V}
theorem Q3(hu:A.units+1 < cLine)(I:Inv X pins σ H s)(g:jR X.K H a y o)(ry:zD y u)(h:∀ w' s',Inv X pins σ H s'->zD (o.getD .aI) w'->Q w' s'):
  wpAny (model X.prog X.w) A (call (.builtin "dict.get") [.ref a,u]) Q E s:=by
 rcases g with⟨kvs,k,e,ey,l⟩|⟨kvs,k,b,e,ey,eb,l⟩
 .subst ey
  have(z,hd,vs,rel,dd):=pO I.aw e;refine call_meetsIn Ù dd.typeIs î (PySem.F.args_dict_get_2 _ _) (meets_dict_get (zC X.prog X.w) a (mL ry) hd) ⟨_,dd.mapOf,h _ _ (I.tok _) ?_⟩;rw[l];exact(rel.val k).getD rfl
 .subst ey
  cases(show u=Value.ref b from ry);have(z,hd,xs,rel,dd):=lr I.aW I.aw e;refine call_meetsIn Ù dd.typeIs î (PySem.F.args_dict_get_2 _ _) (meetsH_dict_get (tupleKind<|zC X.prog X.w) a b hd) ⟨tupleKind_room_in1 hu,k,xs,mO I.aW I.aw eb,dd,h _ _ (I.tok _) ?_⟩;rw[l];exact(rel.val k).getD rfl
theorem Q2(hu:A.units+1 < cLine)(I:Inv X pins σ H s)(g:jR X.K H a y o)(ry:zD y u)(rd:zD d r)(h:∀ w' s',Inv X pins σ H s'->zD (o.getD d) w'->Q w' s'):
  wpAny (model X.prog X.w) A (call (.builtin "dict.get") [.ref a,u,r]) Q E s:=by
 rcases g with⟨kvs,k,e,ey,l⟩|⟨kvs,k,b,e,ey,eb,l⟩
 .subst ey
  have(z,hd,vs,rel,dd):=pO I.aw e;refine call_meetsIn Ù dd.typeIs î (PySem.F.args_dict_get_3 _ _ _) (meets_dict_get_default (zC X.prog X.w) a (mL ry) hd r) ⟨_,dd.mapOf,h _ _ (I.tok _) ?_⟩;rw[l];exact(rel.val k).getD rd
 .subst ey
  cases(show u=Value.ref b from ry);have(z,hd,xs,rel,dd):=lr I.aW I.aw e;refine call_meetsIn Ù dd.typeIs î (PySem.F.args_dict_get_3 _ _ _) (meetsH_dict_get_default (tupleKind<|zC X.prog X.w) a b hd r) ⟨tupleKind_room_in1 hu,k,xs,mO I.aW I.aw eb,dd,h _ _ (I.tok _) ?_⟩;rw[l];exact(rel.val k).getD rd
end
def Dw(K:qc)(td ty:TE):TE:=λσ H Q=>td σ H λx H1=>∃ a,x=.ref a/\Bu H1 a/\ty σ H1 λy H2=>∃ o,jR K H2 a y o/\Q (o.getD .aI) H2
def Dv(K:qc)(td ty tx:TE):TE:=λσ H Q=>td σ H λx H1=>∃ a,x=.ref a/\Bu H1 a/\ty σ H1 λy H2=>tx σ H2 λz H3=>∃ o,jR K H3 a y o/\Q (o.getD z) H3
section
variable{X:Cx}{f:Expr}{tx:TE}
theorem XR(hu:X.A.units+1 < cLine)(ho:PE X o td)(he:PE X e ty)(m:M1 X o "get" apos e aM):PE X (.Call (.Attribute o "get" apos) [e] [] aM) (Dw X.K td ty):=by
 intro pins s σ H Q I h;refine wpAny_Call_method m.base m.Gj m.line PySem.F.plainAttrs_dict Ù PySem.F.type_dict_get<|aA (ho pins s σ H _ I h) λu s1 hZ=>?_;have(x,H1,I1,rx,a,ex,d,q1):=hZ;subst ex;obtain rfl:u=Value.ref a:=rx;have(t1,t2,_):=Ip I1 d;refine⟨t1,t2,?_⟩;rw[m.trees];refine í rfl<|ò<|ö<|aA (he pins s1 σ H1 _ I1 q1) λiv s2 ⟨y,H2,I2,ry,ov,g,q2⟩=>Calls.spliced_nil ?_;exact Q3 hu I2 g ry λw' s3 I3 fM=>⟨_,H2,I3,fM,q2⟩
theorem XQ(hu:X.A.units+1 < cLine)(ho:PE X o td)(he:PE X e ty)(hf:PE X f tx)(m:M2 X o "get" apos e f aM):PE X (.Call (.Attribute o "get" apos) [e,f] [] aM) (Dv X.K td ty tx):=by
 intro pins s σ H Q I h;refine wpAny_Call_method m.base m.Gj m.line PySem.F.plainAttrs_dict Ù PySem.F.type_dict_get<|aA (ho pins s σ H _ I h) λu s1 hZ=>?_;have(x,H1,I1,rx,a,ex,d,q1):=hZ;subst ex;obtain rfl:u=Value.ref a:=rx;have(t1,t2,_):=Ip I1 d;refine⟨t1,t2,?_⟩;rw[m.trees];refine í rfl<|ò<|ö (aA (he pins s1 σ H1 _ I1 q1) λiv s2 ⟨y,H2,I2,ry,q2⟩=>
  ö (aA (hf pins s2 σ H2 _ I2 q2) λfv s3 ⟨z,H3,I3,rz,ov,g,q3⟩=>Calls.spliced_nil ?_))
 exact Q2 hu I3 g ry rz λw' s4 I4 fM=>⟨_,H3,I4,fM,q3⟩
end
section
variable{X:Cx}{kvs:Qa (Key×V)}
end
section
variable{X:Cx}
end
end L2
namespace OI
open PySem PySem.W PySem.Calls PyProof.Rows
theorem zgs{P:Params}{h:Heap}:∀ (ns:List Int) (vs:List Value),WellAll P h vs (ns.map WData.int)->IntsAre vs ns:=by
 intro ns
 induction ns with
 | nil=>
  intro vs w;rw[List.map_nil]at w;cases w;exact .nil
 | cons n ns ih=>
  intro vs w;rw[List.map_cons]at w;cases w with
  | cons a b=>
   cases a;exact .cons _ _<|ih _ b
theorem Ya{l:OpenLaw}{n:Nat}(hn:l.most=some n){P:Params}{h:Heap}{args:List WData}{vals:List Value}
  (nB:l.row.toRowW.claim.pre args=true) (FI:WellAll P h vals args):
  ∃ a vs ns,vals=[Value.ref a]/\args=[WData.list<|ns.map WData.int]/\h.get? a=some {cls:=.type "list",data:=.seq vs.toArray}/\IntsAre vs ns/\ns.length<=n:=by
 have hsh:WShape.hasAll [] args [.list .int]=true:=(pre_splitW nB).1;have hc:l.pre.holds [] {args:=args}=true:=(pre_splitW nB).2;have(d,r,rfl,h1,h2):=hasAllW_cons hsh;obtain rfl:=hasAllW_nil h2;have(xs,rfl,h3):=hasW_list h1;have(ns,rfl):=items_int h3;have hlen:ns.length<=n:=by
  unfold OpenLaw.pre at hc;have h4:(WTm.not<|.lt (.lit<|.int (n:Int))<|.len<|.arg 0).holds [] {args:=[.list<|ns.map .int]}=true:=by
   have h4:=(holds_andW hc).1;rw[hn]at h4;exact h4
  have h5:=condW_of h4 (w_not<|w_lt w_lit<|w_len_list<|w_arg rfl);rw[List.length_map]at h5;refine Nat.le_of_not_lt λq=>?_;have q':(n:Int) < ((ns.length:Nat):Int):=by omega
  first
   | (rw[decide_eq_true q']at h5; exact absurd h5 (by decide))
   | (simp at h5; omega)
 cases FI with
 | cons w1 w2=>
  cases w2;cases w1 with
  | list ho kR=>exact⟨_,_,ns,rfl,rfl,ho,zgs ns _ kR,hlen⟩
theorem YH(l:OpenLaw)(args:List WData):l.row.toRowW.claim.post args (.bool true) args=true :=
 postW_of (r:=l.row.toRowW) (X:=(true==true))
  (show WShape.has [] (.bool true) .bool=true by first|rfl|decide|simp[WShape.has,WShape.arms,WShape.armsAll])
  (show(WTm.eq .res<|.lit<|.bool true).value [] {args:=args,res:=some (.bool true),after:=args}=some (.bool<|true==true) from w_eq_bool (w_res rfl) w_lit) rfl
theorem gM{l:OpenLaw}{n:Nat}{q:Program}{loose:List Str}{XP:(Str->Option Value)->Heap->Prop}{YP:World->Heap->Prop}{d:DefRec}
  (hn:l.most=some n) (wA:d.params.defaults=[])
  (call:∀ (w:World) (aZ aC:Shared) (mg mb:Str->Option Value) (fa:Addr) (o:Obj) (pm cd doc:Value) (a:Addr) (vs:List Value) (ns:List Int),
   Ground q loose [] XP w aZ mg mb aC.heap->YP w aC.heap->
   aC.heap.get? fa=some o->o.data=.func (docDef d.name d.params d.body d.scope pm cd doc)->aC.heap.CodeRec cd d.name->mg d.name=some (.ref fa)->
   aC.heap.get? a=some {cls:=.type "list",data:=.seq vs.toArray}->IntsAre vs ns->ns.length<=n->aC.gens=#[]->
   codeAny (model l.prog w) callerA (.call (.ref fa) ⟨[.ref a],[]⟩) (λr s'=>r=.ok (.ret<|.bool true)/\OldK aC.heap s'.heap/\s'.os=aC.os/\AllBare s'.gens) aC):
  WalkO q loose XP YP l.row.toRowW d [] (λf vs=>PySem.call f vs):=by
 intro w aZ aC mg mb G Y fa o pm cd doc dV kV ho hd jf hD wo hg args vals as nB hlay hrd FI hlo;obtain rfl:dV=.none:=Dflts.none hD wA;obtain rfl:kV=.none:=Dflts.noKw hD;have(a,vs,ns,rfl,rfl,rf,hints,hlen):=Ya hn nB FI;refine enter_call<|codeAny_mono (call w aZ aC mg mb fa o pm cd doc a vs ns G Y ho (fd_plain hd) jf wo rf hints hlen hg) λr s' hq=>?_;have(rfl,h2,h3,h4):=hq;exact⟨.inl ⟨.bool true,.bool true,[],rfl,λ_=>rfl,.bool true,YH l _,λ_=>⟨List.Pairwise.nil,λ_ hm=>(nomatch hm)⟩⟩,h2,h3,h4⟩
section
variable{prog:Program} {w:World} {A:Around} {E:Value->Shared->Prop} {s:Shared} {K:Frag}
end
end OI
namespace L2
open PySem PySem.Spec PyProof.Rows
theorem KG:∀ {vs:Qa Qc} {ns:Qa Int},IntsAre vs ns->zF (ns.map V.int) vs
 | _,_,.nil=>.nil
 | _,_,.cons n t h=>.cons ⟨t,rfl⟩<|KG h
def xv(H:Hp):Prop:=∀ b,H b=none\/∃ o xs,H b=some (.bg o<|.lst xs)
theorem XO{mb:Str->Qb Qc}{CX:iU}{k:Nat}{fa:Qg}{aC:Qd}{vs:Qa Qc}
  (KX:K.In aC.heap) (NP:aC.heap.Ns mainGlobals mg) (hb:aC.heap.Ns builtinsNs mb) (hbb:∀ x:Str,x ≠ "__name__"->mb x=bootBuiltins x) (F0:aC.heap.NoLimit) (hg:aC.gens=#[])
  (ha:aC.heap.get? a=some {cls:=.type "list",data:=.seq vs.toArray}) (hi:IntsAre vs ns) (hl:ns.length<=sizeLine) (hr:aD k callerA)
  (F:∀ base:Heap,K.In base->base.Ns mainGlobals mg->bP P w K mg base CX k fa fd [x] sp) (wD:∀ (s:Qd) (u:Qc),BindsTo s fd ⟨[u],[]⟩ [(x,u)])
  (oU:∀ H:Hp,xv H->bq K H a (ns.map V.int)->sp [.ref a] H (λv _=>v=.bl true) λ_ _ _=>False)
  (Gd:∀ H e s',CX [] H aC (λ_ _ _=>False) e s'->False):
  codeAny (model P w) callerA (.call (.ref fa) ⟨[.ref a],[]⟩) (λr s'=>r=.ok (.ret<|.bool true)/\OldK aC.heap s'.heap/\s'.os=aC.os/\AllBare s'.gens) aC:=by
 have rv:=KG hi;have Fm:=hi.length;have core:∀ H:Hp,xv H->bq K H a (ns.map V.int)->bD P w K H aC.heap->(∀ b,H b≠none->b=a)->(H a≠none->K.lookup a=none)->
   codeAny (model P w) callerA (.call (.ref fa) ⟨[.ref a],[]⟩) (λr s'=>r=.ok (.ret<|.bool true)/\OldK aC.heap s'.heap/\s'.os=aC.os/\AllBare s'.gens) aC:=by
  intro H hO hS aw hA hK;have iT:∀ {b:Qg} {o:Obj},aC.heap.get? b=some o->H b=none->(l5 aC.heap H).get? b=some o:=λe n=>XJ e n;have vV:∀ {b:Qg} {o:Obj} {es:Array DictEntry} {ep:Nat},aC.heap.get? b=some o->o.data=.dict es ep->H b=none:=λ{b o es ep} e d=>by
   cases q:H b with
   | none=>rfl
   | some u=>
    have e':b=a:=hA b (by rw[q]; simp);subst e';rw[ha]at e; cases e;have d':Data.seq vs.toArray _=Data.dict es ep:=d;cases d'
  have AO:∀ {b:Qg} {m:Str->Qb Qc},aC.heap.Ns b m->(l5 aC.heap H).Ns b m:=λ{b m} ⟨o,es,ep,e,d,r⟩=>⟨o,es,ep,iT e<|vV e d,d,r⟩;have N2:K.In (l5 aC.heap H):=λb o e=>iT (KX b o e) (by
   cases q:H b with
   | none=>rfl
   | some u=>
    have e':b=a:=hA b (by rw[q]; simp);subst e';rw[hK (by rw[q]; simp)]at e; cases e)
  have hM:Mod K mg (l5 aC.heap H):=⟨N2,AO NP,⟨mb,AO hb,hbb⟩,let ⟨mc,h1,h2⟩:=F0; ⟨mc,AO h1,h2⟩⟩;have e0:iB P w K mg (l5 aC.heap H) callerA [] aC H:=⟨rfl,hM,λb o e=>UW e,Ü<|Yp _ _,trivial,λb hb=>absurd (show b∈([]:Qa Qg) from hb) (by simp),aw,.of_eq hg⟩;refine codeAny_mono ((F _ N2<|AO NP).run callerA [] aC H ⟨[.ref a],[]⟩ [.ref a] [.ref a] _ _ hr e0 (wD aC<|.ref a) (.cons rfl .nil)<|oU H hO hS) λr s' h=>?_;cases r with
  | error e=>exact(Gd H e s' h).elim
  | ok fl=>
   cases fl with
   | next=>exact False.elim h
   | brk=>exact False.elim h
   | cont=>exact False.elim h
   | ret u=>
    have(v,H',os,bare,un,FV,r',q):=h;have q':v=.bl true:=q;subst q';obtain rfl:u=Value.bool true:=r';refine⟨rfl,OldK.of_keep λb o e=>?_,os,bare⟩;cases q:H b with
    | none=>exact un.keep b o e q (by intro z; exact absurd (show b∈([]:Qa Qg) from z) (by simp)) (by simp)
    | some u=>
     rcases hO b with z|⟨ob,xs,z⟩
     .rw[q]at z; cases z
     .have z2:=un.dE b ob _ z
      have(e1,_):=aw b _ z;have(e2,_):=FV b _ z2;rw[e]at e1; cases e1;exact e2
 cases hk:K.lookup a with
 | some o=>
  have e:=KX a o hk;rw[ha]at e;cases e;refine core (λ_=>none) (λ_=>.inl rfl) (.inr ⟨_,vs.toArray,_,hk,rfl,rfl,rfl,by rw[List.size_toArray,Fm]; exact hl,by simpa using rv⟩) (λb u z=>by have z':(none:Qb HO)=some u:=z; cases z') (λb z=>absurd rfl z) λz=>absurd rfl z
 | none=>
  refine core (λb=>if b=a then some (.bg {cls:=.type "list",data:=.seq vs.toArray}<|.lst<|ns.map V.int)else none) (λb=>?_) (.inl<|.inr ⟨{cls:=.type "list",data:=.seq vs.toArray},if_pos rfl⟩) (λb u z=>?_) (λb z=>?_) λ_=>hk
  .by_cases hb:b=a
   .exact .inr ⟨_,_,if_pos hb⟩
   .exact .inl (if_neg hb)
  .by_cases hb:b=a
   .have z':=(if_pos hb).symm.trans z
    cases z';subst hb;exact⟨ha,by rw[List.length_map]; exact hl,vs,_,rv,ha⟩
   .have z':=(if_neg hb).symm.trans z
    cases z'
  .by_cases hb:b=a
   .exact hb
   .exact absurd (if_neg hb) z
theorem mX{l:PySem.W.OpenLaw}{k:Nat}{q:Qe}{loose:Qa Str}{XP:(Str->Qb Qc)->Heap->Prop}{YP:Qh->Heap->Prop}{d:DefRec}{K:Params->qc}{CX:Qh->iU}{sp:Qh->Sp}
  (hn:l.most=some n) (A5:n<=sizeLine) (wA:d.params.defaults=[]) (hr:aD k callerA)
  (hY:∀ (w:Qh) (h:Heap),YP w h->(K w.params).In h)
  (F:∀ (w:Qh) (mg:Str->Qb Qc) (fa:Qg) (h:Heap),(K w.params).In h->h.Ns mainGlobals mg->mg d.name=some (.ref fa)->
   ∃ fd:FuncData,(∀ (s:Qd) (u:Qc),BindsTo s fd ⟨[u],[]⟩ [(x,u)])/\
    ∀ base:Heap,(K w.params).In base->base.Ns mainGlobals mg->bP l.prog w (K w.params) mg base (CX w) k fa fd [x] (sp w))
  (oU:∀ (w:Qh) (H:Hp) (a:Qg) (ns:Qa Int),ns.length<=n->xv H->bq (K w.params) H a (ns.map V.int)->sp w [.ref a] H (λv _=>v=.bl true) λ_ _ _=>False)
  (Gd:∀ (w:Qh) (H:Hp) (s:Qd) (e:Qc) (s':Qd),CX w [] H s (λ_ _ _=>False) e s'->False):
  PySem.W.WalkO q loose XP YP l.row.toRowW d [] (λf vs=>PySem.call f vs):=by
 refine OI.gM hn wA λw aZ aC mg mb fa o pm cd doc a vs ns G Y ho hd jf wo rf hints hlen hg=>?_;have KX:=hY w _ Y;have(fd,hb,hF):=F w mg fa _ KX G.T.g wo;exact XO KX G.T.g G.T.b G.T.builtins G.T.nolimit hg rf hints (qy hlen A5) hr hF hb (λH hO hS=>oU w H a ns hlen hO hS) λH e s'=>Gd w H aC e s'
def lD(s:Stmt):Arguments:=match s with
 | .FunctionDef _ a _ _ _ _ _ _ _ _=>a
 | _=>{posonlyargs:=[],args:=[],vararg:=none,kwonlyargs:=[],kw_defaults:=[],kwarg:=none,defaults:=[]}
def hU(s:Stmt):Qa Stmt:=match s with
 | .FunctionDef _ _ b _ _ _ _ _ _ _=>b
 | _=>[]
def zJ(s:Stmt):Scope:=match s with
 | .FunctionDef _ _ _ _ _ _ sc _ _ _=>sc
 | _=>{kind:=.function,names:=[],isGenerator:=false,isCoroutine:=false}
abbrev gN:iU:=λ_ _ _ _ _ _=>False
abbrev E0:XK:=λ_ _ _=>False
theorem CO{X:Cx}:uX gN X E0:=λ_ _ _ _ _ _ _ h=>h.elim
structure iA (K:qc) (x qual:Str) (st:Stmt) (f:Qg) (fd:FuncData):Prop where
 ex:∃ (oc:Qc) (od:Qb Qg) (kV doc pm:Qc) (an:Qb Qg) (aV ct:Qc) (lJ:Array (Qb Qc)),
  fd=PySem.W.fnOf x qual (lD st) (hU st) (zJ st) .none kV doc pm an aV ct/\K.lookup f=some ⟨oc,od,.func fd,lJ⟩/\PySem.W.codeIn K aV qual=true
 kp:PySem.W.keepIn K (.ref f)=true
section
variable{base:Heap}
theorem iA.ok{f:Qg}{k:Nat}(F:iA K x qual st f fd)(S:bo N ps (zJ st))(len:∀ vs H Q E,sp vs H Q E->vs.length=ps.length)
  (bI:∀ (aV:Qc) (A:Qf) (outer:Qa Env) (s:Qd) (H:Hp) (vs:Qa V) (Q:VK) (E:XK),aD k (A.deeper<|envOfC qual (zJ st) s.heap.objs.size f aV)->sp vs H Q E->
   ∃ t,dG (lg gN P w K mg base N qual (zJ st) f aV A outer s H E).oM (hU st) t/\t {nx:=λ_ H'=>Q .aI H',rt:=Q} (fq N vs) H):bP P w K mg base gN (k+1) f fd ps sp:=by
 have(oc,od,kV,doc,pm,an,aV,ct,lJ,rfl,lk,jf):=F.ex;refine OQ lk jf S len λA outer s H vs Q E hr oU=>?_;have(t,h,q):=bI aV A outer s H vs Q E hr oU;exact⟨t,h.oM,q⟩
theorem iA.binds{f:Qg}(F:iA K x qual st f fd)
  (h:∀ (kV doc pm:Qc) (an:Qb Qg) (aV ct:Qc) (us:Qa Qc),us.length=ps.length->bindArgs (PySem.W.fnOf x qual (lD st) (hU st) (zJ st) .none kV doc pm an aV ct) ⟨us,[]⟩=pure (ps.zip us)):jS K fd ps []:=by
 have(oc,od,kV,doc,pm,an,aV,ct,lJ,rfl,lk,jf):=F.ex;exact .all<|h kV doc pm an aV ct
theorem Du{f:Qg}{oc:Qc}{od an:Qb Qg}{kV doc pm aV ct:Qc}(l:K.lookup f=some ⟨oc,od,.func<|PySem.W.fnOf x qual (lD st) (hU st) (zJ st) .none kV doc pm an aV ct,lJ⟩)
  (c:PySem.W.codeIn K aV qual=true) (k:PySem.W.keepIn K (.ref f)=true):iA K x qual st f (PySem.W.fnOf x qual (lD st) (hU st) (zJ st) .none kV doc pm an aV ct):=⟨⟨oc,od,kV,doc,pm,an,aV,ct,lJ,rfl,l,c⟩,k⟩
end
theorem sv{k:Nat}(hr:aD k A):A.units+1 < cLine:=Ë (Nat.add_le_add_left (by decide:1<=64) _) hr.units
section
variable{X:Cx}
theorem pv(i:Nat)(hN:X.N[i]?=some x:=by rfl)(hv:Bj X.env.scope x:=by first|exact Or.inl rfl|exact Or.inr (Or.inl rfl) | exact Or.inr<|Or.inr rfl)(hd:(x==("__debug__":Str))=false:=by decide)
  (jf:(x==("__classdict__":Str))=false:=by decide):PE X (.Name x pos) (dS i):=So hN hv hd jf
end
def cn(H H':Hp):Prop:=∀ b o,H b=some o->H' b=some o
theorem cn.refl(H:Hp):cn H H:=λ_ _ h=>h
theorem cn.seq{xs:Qa V}(e:cn H H')(h:bq K H a xs):bq K H' a xs:=by
 rcases h with (h|⟨o,h⟩) | h
 .exact .inl (.inl<|e _ _ h)
 .exact .inl (.inr ⟨o,e _ _ h⟩)
 .exact .inr h
section
variable{X:Cx}
end
section
variable[DecidableEq κ]
end
end L2
set_option maxHeartbeats 4000000
namespace L2
open PySem PySem.Spec PyProof.Rows
inductive aX (X:Cx):Qa (Str×Qg)->Qa Str->Qa Nat->Prop where
 | nil:aX X [] [] []
 | cons {x:Str} {c:Qg} {j:Nat} {cl:Qa (Str×Qg)} {xs:Qa Str} {js:Qa Nat} (hN:X.N[j]?=some x) (hk:X.env.scope.names.lookup x=some .cell\/X.env.scope.names.lookup x=some .free)
   (hc:X.env.cells.lookup x=some c) (t:aX X cl xs js):aX X ((x,c)::cl) (x::xs) (j::js)
def dB(X:Cx)(scope:Scope)(cl:Qa (Str×Qg))(Nc:Qa Str)(C:Qg)(s:Qd)(H:Hp)(ex:Qa Qg):Cx :=
 {X with aZ:=s,H₀:=H,env:=compEnvC scope (cellsFrom (C+1) scope.names cl) C X.env,N:=Nc,outer:=X.stack,stack:=X.stack,ex:=ex,fn:=λx=>scope.names.lookup x==some .cell,pn:=[],xe:=λ_ _=>False}
def c0(nt:Nat)(js:Qa Nat)(σ:St):St:=List.replicate nt none++js.map λj=>σ.getD j none
def Wk(a b:St):Prop:=a.length=b.length/\∀ (i:Nat) (v:V),a[i]?=some (some v)->b[i]?=some (some v)
theorem Q1{a:St}{x:Qb V}(h:a[i]?=some none):Wk a (a.set i x):=by
 refine⟨by simp,λj v e=>?_⟩;have ne:i≠j:=by intro z; rw[z,e]at h; cases h
 rw[qC ne];exact e
theorem DT(h:i < nt):(c0 nt js σ)[i]?=some none:=by
 unfold c0;rw[List.getElem?_append_left (by simpa using h),List.getElem?_replicate,if_pos h]
theorem oA{X:Cx}{xs:Qa Str}(f:aX X cl xs js):∀ x c,cl.lookup x=some c->X.env.cells.lookup x=some c:=by
 induction f with
 | nil=>intro x c e; cases e
 | @cons y d j cl xs js hN hk hc t ih=>
  intro x c e;rw[List.lookup_cons]at e
  by_cases q:x=y
  .subst q
   rw[beq_self_eq_true]at e;injection e with e1;rw[<-e1];exact hc
  .rw[beq_eq_false_iff_ne.mpr q]at e
   exact ih x c e
theorem KE{X:Cx}{xs:Qa Str}(f:aX X cl xs js):∀ x,x∈xs->∃ c,cl.lookup x=some c:=by
 induction f with
 | nil=>intro x m; cases m
 | @cons y d j cl xs js hN hk hc t ih=>
  intro x m;rw[List.lookup_cons]
  by_cases q:x=y
  .subst q
   rw[beq_self_eq_true];exact⟨d,rfl⟩
  .rw[beq_eq_false_iff_ne.mpr q]
   rcases qv.mp m with z|z
   .exact absurd z q
   .exact ih x z
theorem X9{X:Cx}{xs:Qa Str}(f:aX X cl xs js):∀ (i:Nat) (x:Str) (σ:St) (v:V),xs[i]?=some x->(js.map λj=>σ.getD j none)[i]?=some (some v)->
  ∃ j:Nat,X.N[j]?=some x/\σ[j]?=some (some v)/\(X.env.scope.names.lookup x=some .cell\/X.env.scope.names.lookup x=some .free)/\(∃ c,X.env.cells.lookup x=some c):=by
 induction f with
 | nil=>intro i x σ v e; simp at e
 | @cons y d j cl xs js hN hk hc t ih=>
  intro i x σ v e1 e2;cases i with
  | zero=>
   simp only[List.getElem?_cons_zero,Option.some.injEq]at e1;subst e1;refine⟨j,hN,?_,hk,d,hc⟩;simp only[List.map_cons,List.getElem?_cons_zero,Option.some.injEq]at e2;rw[qB]at e2;cases q:σ[j]? with
   | none=>rw[q]at e2; cases e2
   | some o=>rw[q]at e2; simp at e2; rw[e2]
  | succ i=>
   exact ih i x σ v (by simpa using e1) (by simpa using e2)
theorem Es:∀ {names:Qa (Str×NameKind)} {x:Str} {k:NameKind},
  (names.map λ(n,k)=>if(k==NameKind.free && env.scope.kind==.function && env.kindOf n==some .cell)then(n,NameKind.cell)else(n,k)).lookup x=some k->
  ∃ k0,names.lookup x=some k0/\(x,k0)∈names/\(k=k0\/(k0=.free/\k=.cell)):=by
 intro names
 induction names with
 | nil=>intro x k e; cases e
 | cons p r ih=>
  intro x k e;have(n,kn):=p
  by_cases q:x=n
  .subst q
   refine⟨kn,by rw[List.lookup_cons,beq_self_eq_true],qp,?_⟩;rw[List.map_cons]at e;change List.lookup x ((if(kn==NameKind.free && env.scope.kind==.function && env.kindOf x==some .cell)=true then(x,NameKind.cell)else(x,kn))::_)=_ at e
   by_cases hh:(kn==NameKind.free && env.scope.kind==.function && env.kindOf x==some .cell)=true
   .rw[if_pos hh,List.lookup_cons,beq_self_eq_true]at e
    injection e with e1;refine .inr ⟨?_,e1.symm⟩;simp only[Bool.and_eq_true]at hh;exact by simpa using hh.1.1
   .rw[if_neg hh,List.lookup_cons,beq_self_eq_true]at e
    injection e with e1;exact .inl e1.symm
  .rw[List.map_cons]at e
   change List.lookup x ((if(kn==NameKind.free && env.scope.kind==.function && env.kindOf n==some .cell)=true then(n,NameKind.cell)else(n,kn))::_)=_ at e;have e':(r.map λ(n,k)=>if(k==NameKind.free && env.scope.kind==.function && env.kindOf n==some .cell)then(n,NameKind.cell)else(n,k)).lookup x=some k:=by
    by_cases hh:(kn==NameKind.free && env.scope.kind==.function && env.kindOf n==some .cell)=true
    .rw[if_pos hh,List.lookup_cons,beq_eq_false_iff_ne.mpr q]at e
     exact e
    .rw[if_neg hh,List.lookup_cons,beq_eq_false_iff_ne.mpr q]at e
     exact e
   have(k0,h1,h2,h3):=ih e';refine⟨k0,by rw[List.lookup_cons,beq_eq_false_iff_ne.mpr q]; exact h1,qo _ h2,h3⟩
theorem YG{X:Cx}{xs:Qa Str}(f:aX X cl xs js):js.length=xs.length:=by
 induction f with
 | nil=>rfl
 | cons _ _ _ _ ih=>simp[ih]
structure t5 (scope:Scope) (xs:Qa Str):Prop where
 kind:scope.kind=.function
 cell:∀ y∈scope.names,y.2=.cell->scope.names.lookup y.1=some .cell
 names:∀ y∈scope.names,y.2=.local->scope.names.lookup y.1=some .local
 free:∀ y∈scope.names,y.2=.free->y.1∈xs
 fk:∀ x∈xs,scope.names.lookup x=some .free
theorem lA:∀ (ns:Qa (Str×NameKind)) (n:Nat) (acc:Qa (Str×Qg)),cellsFrom n ns acc=cellsFrom n ns []++acc
 | [],_,_=>rfl
 | (x,k)::r,n,acc=>by
  unfold cellsFrom;split
  .rw[lA r (n+1)<|(x,n)::acc,lA r (n+1) [(x,n)],List.append_assoc]
   rfl
  .exact lA r n acc
theorem Dt:∀ (ns:Qa (Str×NameKind)) (n:Nat) {x:Str} {c:Qg},(x,c)∈cellsFrom n ns []->(x,NameKind.cell)∈ns
 | [],_,_,_,h=>by cases h
 | (y,k)::r,n,x,c,h=>by
  unfold cellsFrom at h;split at h
  .rename_i hk
   rw[lA,List.mem_append]at h;rcases h with h|h
   .exact qo _ (Dt r _ h)
   .cases qq.mp h
    cases eq_of_beq hk;exact qp
  .exact qo _ (Dt r _ h)
theorem yr:∀ (ns:Qa (Str×NameKind)) (n:Nat) {x:Str},(x,NameKind.cell)∈ns->∃ c,(cellsFrom n ns []).lookup x=some c
 | [],_,_,h=>by cases h
 | (y,k)::r,n,x,h=>by
  unfold cellsFrom;rcases qv.mp h with e|h'
  .cases e
   rw[if_pos (by rfl:(NameKind.cell==NameKind.cell)=true),lA,List.lookup_append];cases(cellsFrom (n+1) r []).lookup y with
   | none=>exact⟨n,by rw[List.lookup_cons,beq_self_eq_true]; rfl⟩
   | some c=>exact⟨c,rfl⟩
  .split
   .have(c,e):=yr r (n+1) h'
    rw[lA,List.lookup_append,e];exact⟨c,rfl⟩
   .exact yr r n h'
theorem tz{ns:Qa (Str×NameKind)}{acc:Qa (Str×Qg)}{c:Qg}(h:(cellsFrom n ns acc).lookup x=some c):(cellsFrom n ns []).lookup x=some c\/(acc.lookup x=some c/\(cellsFrom n ns []).lookup x=none):=by
 rw[lA,List.lookup_append]at h;cases e:(cellsFrom n ns []).lookup x with
 | none=>rw[e]at h; exact .inr ⟨h,rfl⟩
 | some d=>rw[e]at h; exact .inl h
theorem Hh{ns:Qa (Str×NameKind)}{acc:Qa (Str×Qg)}{c:Qg}(h:(cellsFrom n ns []).lookup x=some c):(cellsFrom n ns acc).lookup x=some c:=by
 rw[lA,List.lookup_append,h];rfl
theorem X8{M:Model}{globals:Qg}{bs:Qg}{Q:Env->Qd->Prop}
  (hQ:∀ h1,h1.Ns s.heap.objs.size (λ_=>none)->(∀ b o,s.heap.get? b=some o->h1.get? b=some o)->CellsOk h1 (s.heap.objs.size+1) (cellsFrom (s.heap.objs.size+1) scope.names [])->
   Q (newEnv scope s.heap.objs.size globals (cellsFrom (s.heap.objs.size+1) scope.names cl) qual none .none (some env) bs) {s with heap:=h1}):
  wpAny M A (newFunctionEnv scope globals cl [] qual none .none (some env) bs) Q E s:=by
 simp only[newFunctionEnv,Option.isSome_some,if_true];refine qa<|wpAny_alloc ?_;refine qa<|wpAny_layCells _ (λname kind cells=>by cases hkc:kind==NameKind.cell<;>simp[hkc]) _ _ _ _ ?_;have ok:=cellsFrom_ok scope.names (s.heap.push {cls:=.type "dict",data:=.dict #[]}) (s.heap.objs.size+1) [] ⟨λ_ _ hm=>(nomatch hm),List.Pairwise.nil⟩ (by rw[Heap.size_push]; exact qe _);rw[Heap.size_push]at ok;rw[show({s with heap:=s.heap.push {cls:=.type "dict",data:=.dict #[]}}:Qd).heap.objs.size=s.heap.objs.size+1 from Heap.size_push ..];rw[List.forIn_nil];exact qa<|qb<|qb<|hQ _ ((Heap.Ns.new s.heap<|.type "dict").keeps<|pushCells_keeps _ _) (λb o e=>pushCells_keeps _ _ b o<|qd _ e) ok
section
variable{X:Cx}{xs:Qa Str}{ts:Qa Str}{fp:Qa Qg}{C:Qg}
theorem Jy{hx:Heap}(I:Inv X pins σ H s)(S:t5 scope xs)(f:aX X cl xs js)(ck:CellsOk hx (C+1) (cellsFrom (C+1) scope.names []))(hC:s.heap.objs.size<=C)(hf:∀ b∈fp,g7 X pins H b)(hl:∀ b∈fp,b < s.heap.objs.size):
  (dB X scope cl (ts++xs) C s H fp).Ok where
 mod:=I.ok.mod
 kind:=S.kind
 glob:=I.ok.glob
 blt:=I.ok.blt
 above:=hC
 inj:=λx y c e1 e2=>by
  have no:∀ {x y:Str},(cellsFrom (C+1) scope.names []).lookup x=some c->cl.lookup y=some c->False:=λz1 z2=>by
   have(v,o,q,_):=I.cell _ c (oA f _ c z2);have q1:=qh q;have q2:=(ck.empty _ _<|mem_of_lookup z1).2;exact Ð _<|qi q1<|qy hC<|qy (Nat.le_succ C) q2
  rcases tz e1 with z1|⟨z1,_⟩<;>rcases tz e2 with z2|⟨z2,_⟩
  .exact name_of_addr ck.apart (mem_of_lookup z1) (mem_of_lookup z2)
  .exact(no z1 z2).elim
  .exact(no z2 z1).elim
  .exact I.ok.inj x y c (oA f x c z1) (oA f y c z2)
 has:=λx h=>by
  have z:∃ k0,scope.names.lookup x=some k0/\(x,k0)∈scope.names/\(k0=NameKind.free\/k0=NameKind.cell):=by
   rcases h with h|h
   .have(k0,h1,h2,h3):=Es (env:=X.env) (names:=scope.names) h
    rcases h3 with h3|h3
    .exact⟨k0,h1,h2,.inr h3.symm⟩
    .exact⟨k0,h1,h2,.inl h3.1⟩
   .have(k0,h1,h2,h3):=Es (env:=X.env) (names:=scope.names) h
    rcases h3 with h3|h3
    .exact⟨k0,h1,h2,.inl h3.symm⟩
    .cases h3.2
  have(k0,_,h2,h3):=z;show ∃ c,(cellsFrom (C+1) scope.names cl).lookup x=some c;rcases h3 with h3|h3
  .have(c,e):=KE f x (S.free _ h2 h3)
   rw[lA,List.lookup_append,e];cases(cellsFrom (C+1) scope.names []).lookup x with
   | none=>exact⟨c,rfl⟩
   | some d=>exact⟨d,rfl⟩
  .subst h3
   have(c,e):=yr scope.names (C+1) h2;exact⟨c,Hh e⟩
 tW:=λx c h e=>by
  have(d,q):=yr scope.names (C+1) (mem_of_lookup<|eq_of_beq h);have e':(cellsFrom (C+1) scope.names cl).lookup x=some c:=e;rw[Hh q]at e';cases e';have:=(ck.empty _ _<|mem_of_lookup q).2;show s.heap.objs.size<=c;omega
 hd:=I.ok.hd
 frames:=I.ok.frames
 vP:=.inl rfl
 Be:=λb hb=>⟨qj<|qi (hl b hb) hC,λx c e=>by
  rcases tz e with z|⟨z,_⟩
  .have q1:=(ck.empty _ _<|mem_of_lookup z).2
   exact Nat.ne_of_gt<|qi (hl b hb)<|qy hC<|qy (Nat.le_succ C) q1
  .exact(hf b hb).2.2.2.2.1 x c (oA f x c z)⟩
 bs:=I.bs
 lU:=qy I.ok.lU I.sz
 jb:=λb o e hb=>by
  rcases(hf b hb).2.2.2.1 with z|z
  .exact I.ok.jb b o e z
  .exact absurd (qi (qh (I.ok.bs b o e).1) z) (Ð _)
 kS:=λb hb z=>by
  rcases qv.mp (I.fK b z)with q|q
  .exact(hf b hb).2.1 q
  .exact(hf b hb).2.2.1 q
 dg:=I.stack
 o9:=I.iL
theorem X7{m:Str->Qb Qc}{h1:Heap}{tk:Nat}(I:Inv X pins σ H s)(S:t5 scope xs)(f:aX X cl xs js)(il:ts.length=nt)(hC:s.heap.objs.size<=C)(hf:∀ b∈fp,g7 X pins H b)(hl:∀ b∈fp,b < s.heap.objs.size)
  (hk:∀ b o,s.heap.get? b=some o->h1.get? b=some o) (hn:h1.Ns C m) (ck:CellsOk h1 (C+1) (cellsFrom (C+1) scope.names [])):Inv (dB X scope cl (ts++xs) C s H fp) [] (c0 nt js σ) H {s with heap:=h1,toks:=tk} where
 ok:=Jy I S f ck hC hf hl
 os:=rfl
 bare:=I.bare
 base:=Un.kept hk
 loc:=by
  refine⟨m,hn,λi x v e1 e2 e3=>?_⟩;have hi:nt<=i:=by
   rcases ä i nt with z|z
   .rw[DT z]at e2; cases e2
   .exact z
  have Bg:xs[i - nt]?=some x:=by
   have z:(ts++xs)[i]?=some x:=e1;rw[List.getElem?_append_right (by omega),il]at z;exact z
  have e2':(js.map λj=>σ.getD j none)[i - nt]?=some (some v):=by
   unfold c0 at e2;rw[List.getElem?_append_right (by simpa using hi),List.length_replicate]at e2;exact e2
  have(j,hN,hσ,NQ,c,hc):=X9 f (i - nt) x σ v Bg e2';have(m0,_,F1):=I.loc;have(u,r,lk):=F1 j x v hN hσ (.inr NQ);refine⟨u,r,.inr ⟨?_,?_⟩⟩
  .rcases e3 with z|z|z
   .have hx:x∈xs:=Ç Bg
    have(k0,h1,h2,h3):=Es (env:=X.env) (names:=scope.names) z;have q:=S.fk x hx;rw[h1]at q;cases q;rcases h3 with h3|h3
    .cases h3
    .cases h3.2
   .exact .inl z
   .exact .inr z
  .have(c',jg):=KE f x (Ç Bg)
   have no:(cellsFrom (C+1) scope.names []).lookup x=none:=by
    cases e:(cellsFrom (C+1) scope.names []).lookup x with
    | none=>rfl
    | some d=>
     have z:=S.cell _ (Dt _ _<|mem_of_lookup e) rfl;rw[S.fk x<|List.mem_of_getElem? Bg]at z;cases z
   refine⟨c',?_,?_⟩
   .show(cellsFrom (C+1) scope.names cl).lookup x=some c'
    rw[lA,List.lookup_append,no,jg];rfl
   have q:=oA f x c' jg;rcases lk with⟨l1,_⟩|⟨_,c'',l2,l3⟩
   .exfalso
    have NA:X.env.scope.names.lookup x=some .local:=l1;rcases NQ with z|z<;>rw[z]at NA<;>cases NA
   .rw[q]at l2
    cases l2;exact l3.keeps hk
 cell:=λx c e=>by
  rcases tz e with z|⟨z,_⟩
  .exact⟨_,(ck.empty _ _<|mem_of_lookup z).1⟩
  .have(v,z):=I.cell x c (oA f x c z)
   exact⟨v,z.keeps hk⟩
 free:=I.aw.fresh hC
 bJ:=λx c e=>by
  rcases tz e with z|⟨z,_⟩
  .exact I.aw.fresh (by have:=(ck.empty _ _<|mem_of_lookup z).2; omega)
  .exact I.bJ x c (oA f x c z)
 pin:=λp hp=>by cases hp
 aw:=I.aw.kept hk
 len:=by
  show(c0 nt js σ).length=(ts++xs).length;unfold c0;rw[qt,qt,List.length_replicate,List.length_map,il];rw[YG f]
theorem KD{o:HO}(x:bD P w K H h)(hn:H a=none)(new:zI P w K (upd H a o) h a o):bD P w K (upd H a o) h:=λb u e=>by
 by_cases hb:b=a
 .subst hb; rw[zr]at e; cases e; exact new
 .rw[zt hb]at e
  exact(x b u e).cz (λ_ _ _ q=>q) (λc q=>(zt<|i6 q hn).trans q) λc ys q=>(zt<|i6 q hn).trans q
theorem Kr{fs ex:Qa Qg}{H1:Hp}{h1:Heap}{o:HO}(u:Un fs ex H H1 h h1)(hn:H1 a=none)(ha:h.objs.size<=a):Un fs ex H (upd H1 a o) h h1 where
 keep:=u.keep
 slot:=u.slot
 free:=λb ob q n hx=>(zt<|qj<|qi (qh q) ha).trans (u.free b ob q n hx)
 there:=u.there
 dZ:=λb ys q=>(zt<|i6 (u.dZ b ys q) hn).trans (u.dZ b ys q)
 dE:=λb ob ys q=>(zt<|i6 (u.dE b ob ys q) hn).trans (u.dE b ob ys q)
 eX:=λb ps q=>by
  have(more,e):=u.eX b ps q;exact⟨more,(zt<|i6 e hn).trans e⟩
def nR(X:Cx)(ifs:Qa Expr)(t:TT):Prop :=
 ∀ (pins:Qa (Qg×Obj)) (s:Qd) (σ:St) (H:Hp) (Q:Bool->Hp->Prop),Inv X pins σ H s->t σ H Q->
  wpAny (model X.prog X.w) X.A (forIn ifs true λc r=>if r=true then do let ok <-isTrue c X.env (eval c X.env); pure (ForInStep.yield ok)else pure (ForInStep.yield r)) (TP X pins σ Q) X.xe s
def BO:TT:=λ_ H Q=>Q true H
theorem X6{X:Cx}:nR X [] BO:=λ_ _ _ H _ I h=>wpAny_tests_nil ⟨H,I,h⟩
theorem X5{X:Cx}{c:Expr}{t:TT}(h:PT X c t):nR X [c] t:=λpins s σ H Q I q=>wpAny_tests_one<|h pins s σ H Q I q
theorem BN{t:Sem α}{Q Q':α->Qd->Prop}{M:Model}(h:wpAny M A t Q (λ_ _=>False) s)(hQ:∀ a s,Q a s->Q' a s):wpAny M A t Q' E s:=wpAny_mono h hQ λ_ _ x=>x.elim
theorem ZW{target:Expr}{it acc:Qc}(I:Nat->Qd->Prop)
  (turn:∀ n s,I n s->∀ E,wpAny (model prog w) A (pyNext it) (λr s1=>match r with
   | none=>R (.ok .next) s1
   | some v=>wpAny (model prog w) A (letOwnedTupleGo target it v) (λ_ s2=>wpAny (model prog w) A (assign target env v) (λ_ s3=>
     wpAny (model prog w) A (forIn ifs true λc r=>if r=true then do let ok <-isTrue c env (eval c env); pure (ForInStep.yield ok)else pure (ForInStep.yield r)) (λok s4=>
      (ok=true->wpAny (model prog w) A (eval elt env) (λx s5=>wpAny (model prog w) A (call (.builtin "list.append") [acc,x]) (λ_ s6=>∃ m,m < n/\I m s6) E s5) E s4)/\
      (ok=false->∃ m,m < n/\I m s4)) E s3) E s2) E s1) E s)
  (n:Nat) (h:I n s):codeAny (model prog w) A (.compLoop (.ListComp elt [⟨target,iter,ifs,0⟩] scope pos) 0 it acc env) R s:=by
 refine codeAny_loop rfl I (λn s hI=>?_) n h;show wpAny _ A ((compTurn _ 0 it acc env).onRaise (λx=>do noteFrame x env; theTreesLotGoes x)) _ _ s;refine wpAny_noted ?_;rw[compTurn_list];refine qa<|wpAny_standAt<|qa<|wpAny_mono (turn n s hI _) (λr s1 h1=>?_) λ_ _ z=>z;cases r with
 | none=>exact qb h1
 | some v=>
  refine qa<|wpAny_mono h1 (λ_ s2 h2=>?_) λ_ _ z=>z;refine qa<|wpAny_mono h2 (λ_ s3 h3=>?_) λ_ _ z=>z;refine qa<|wpAny_mono h3 (λok s4 h4=>?_) λ_ _ z=>z;cases ok with
  | false=>exact qb ⟨rfl,h4.2 rfl⟩
  | true=>
   refine qa<|qa<|wpAny_mono (h4.1 rfl) (λx s5 h5=>?_) λ_ _ z=>z;exact qa<|wpAny_mono h5 (λ_ s6 h6=>qb<|qb ⟨rfl,h6⟩) λ_ _ z=>z
def GH(J:It)(jo:St)(g:TG)(tt:TT)(te:TE)(Z:Qa V->Hp->Prop)(H1:Hp):Prop :=
 ∃ W:Nat->Nat->Qa V->Hp->Prop,(∃ m,W 0 m [] H1)/\∀ i m ys H,W i m ys H->
  (J.stop i H/\Z ys H)\/(J.go i H/\ys.length < sizeLine/\∃ N:Qa V->Hp->Prop,(∀ gS H',N gS H'->∃ m',m' < m/\W (i+1) m' gS H')/\
   ∀ x H',J.vG i H x H'->g x jo H' λfE H2=>tt fE H2 λb H3=>if b=true then te fE H3 λy H4=>N (ys++[y]) H4 else N ys H3)
def GW(jo:St)(g:TG):Prop:=∀ x H (Q:St->Hp->Prop),g x jo H Q->g x jo H λfE H2=>Wk jo fE/\Q fE H2
theorem Lm{J:It}{tn:Nat->Heap->Prop}{Z:Qa V->Hp->Prop}{RR:Qc->Qg->Result->Qd->Prop}
  (hc:X.calm=true) (I:Inv X pins σ H s) (S:t5 scope xs) (f:aX X cl xs js) (il:ts.length=nt) (T:Turn X.prog X.w X.K tg J fp it tn) (st:tn 0 s.heap) (hf:∀ b∈fp,g7 X pins H b)
  (hg:∀ C s H ex,PG (dB X scope cl (ts++xs) C s H ex) tg g) (ht:∀ C s H ex,nR (dB X scope cl (ts++xs) C s H ex) ifs tt) (he:∀ C s H ex,PE (dB X scope cl (ts++xs) C s H ex) elt te)
  (gw:GW (c0 nt js σ) g) (h:GH J (c0 nt js σ) g tt te Z H)
  (hRR:∀ (D C:Qg) (m:Str->Qb Qc) (s':Qd) (ys:Qa V) (H':Hp),Z ys H'->H' D=none->Inv X pins σ (upd H' D<|.lst ys) s'->s'.heap.Ns C m->upd H' D (.lst ys) C=none->C≠X.env.locals->
   (∀ x c,X.env.cells.lookup x=some c->c≠C)->X.aZ.heap.objs.size<=C->(∀ p∈X.pn++pins,p.1≠C)->RR (.ref D) C (.ok .next) s'):
  wpAny (model X.prog X.w) X.A (newList []) (λacc s3=>wpAny (model X.prog X.w) X.A (newFunctionEnv scope X.env.globals cl [] X.env.qual none .none<|some X.env) (λwR s4=>
   codeAny (model X.prog X.w) X.A (.compStart (.ListComp elt [⟨tg,iter,ifs,0⟩] scope pos) 0 (.ref it) acc {wR with scope:=relabel scope X.env}) (RR acc wR.locals) s4) E s3) E s:=by
 refine qA<|X8 λh1 FZ nv ck=>?_;dsimp only at FZ nv ck ⊢;generalize Ga:s.heap.push {cls:=.type "list",dict:=none,data:=.seq ([]:Qa Qc).toArray}=G at FZ nv ck ⊢;have tU:G.objs.size=s.heap.objs.size+1:=by rw[<-Ga,Heap.size_push]
 have hC:s.heap.objs.size<=G.objs.size:=by rw[tU]; exact Nat.le_succ _
 have N4:s.heap.objs.size≠G.objs.size:=by rw[tU]; exact qj<|Ø _
 have hl:∀ b∈fp,b < s.heap.objs.size:=λb hb=>by
  have(o,e,_):=T.obj _ _ st b hb;exact qh e
 have old:∀ b o,s.heap.get? b=some o->h1.get? b=some o:=λb o e=>
  nv b o (Ga▸qd _ e)
 have hD1:h1.get? s.heap.objs.size=some {cls:=.type "list",data:=.seq ([]:Qa Qc).toArray}:=nv _ _ (Ga▸qg _ rfl);have J0:Inv (dB X scope cl (ts++xs) G.objs.size s H fp) [] (c0 nt js σ) H {s with heap:=h1}:=X7 (tk:=s.toks) I S f il hC hf hl old FZ ck;obtain⟨W,⟨m0,w0⟩,turn⟩:=h;have Nh:tn 0 h1:=T.keep _ _ _ st λb hb o e=>old b o e;have hDn:H s.heap.objs.size=none:=I.aw.fresh (qe _);have w6:∀ b∈fp,s.heap.objs.size≠b:=λb hb z=>absurd (hl b hb) (by rw[<-z]; exact Ð _);have Gi:∀ {H':Hp} {pl:Qa (Qg×Obj)},(∀ b∈fp,H' b=none)->(∀ p∈pl,p.1=s.heap.objs.size)->∀ b∈fp,g7 (dB X scope cl (ts++xs) G.objs.size s H fp) pl H' b:=λ{H' pl} hn hp b hb=>by
  refine⟨hn b hb,qj<|qi (hl b hb) hC,λz=>?_,.inl hb,λx c e=>((Jy I S f ck hC hf hl (ts:=ts)).Be b hb).2 x c e,λp hpp z=>?_⟩
  .rcases qv.mp (I.fK b z)with q|q
   .exact(hf b hb).2.1 q
   .exact(hf b hb).2.2.1 q
  .rcases Á.mp hpp with q|q
   .cases q
   .exact w6 b hb ((hp p q).symm.trans z)
 have loop:codeAny (model X.prog X.w) X.A (.compLoop (.ListComp elt [⟨tg,iter,ifs,0⟩] scope pos) 0 (.ref it) (.ref s.heap.objs.size)<|compEnvC scope (cellsFrom (G.objs.size+1) scope.names cl) G.objs.size X.env) (RR (.ref s.heap.objs.size) G.objs.size)
   {s with heap:=h1}:=by
  refine ZW (λn s'=>∃ i ys ai nn H',Inv (dB X scope cl (ts++xs) G.objs.size s H fp) [] (c0 nt js σ) H' s'/\tn i s'.heap/\(∀ b∈fp,H' b=none)/\H' s.heap.objs.size=none/\
   s'.heap.get? s.heap.objs.size=some {cls:=.type "list",data:=.seq (List.toArray ai) nn}/\zF ys ai/\ys.length<=sizeLine/\W i n ys H') ?_ m0
   ⟨0,[],[],0,H,J0,Nh,λb hb=>(hf b hb).1,hDn,hD1,.nil,Ì _,w0⟩
  rintro n s3 ⟨i,ys,ai,nn,H3,I3,vQ,wI,d3,o3,r3,z3,w3⟩ E';have lT:s.heap.objs.size≠(dB X scope cl (ts++xs) G.objs.size s H fp).env.locals:=N4;have OC:Inv (dB X scope cl (ts++xs) G.objs.size s H fp) [(s.heap.objs.size,{cls:=.type "list",data:=.seq ai.toArray nn})] (c0 nt js σ) H3 s3:=I3.dP λp hp=>by
   have e:p=(s.heap.objs.size,{cls:=.type "list",data:=.seq ai.toArray nn}):=by simpa using hp
   subst e;refine⟨o3,d3,lT,λz=>?_,λv z=>by cases z⟩;have(_,ob,e,_):=I.stack.mem z;exact absurd (qh e)<|Ð _
  have E8:∀ p∈[(s.heap.objs.size,({cls:=.type "list",data:=.seq ai.toArray nn}:Obj))],p.1=s.heap.objs.size:=λp hp=>by
   have e:p=(s.heap.objs.size,{cls:=.type "list",data:=.seq ai.toArray nn}):=by simpa using hp
   rw[e]
  rcases turn i n ys H3 w3 with⟨stop,qz⟩|⟨go,hsz,N,hN,step⟩
  .refine aA (T.done (dB X scope cl (ts++xs) G.objs.size s H fp) rfl rfl rfl hc i _ s3 _ H3 E' OC (Gi wI E8) vQ stop) λr s4 hZ=>?_
   have(hr,I4):=hZ;subst hr;have o4:s4.heap.get? s.heap.objs.size=some {cls:=.type "list",data:=.seq ai.toArray nn}:=(I4.pin _<|qw _ qp).1;have(m4,n4,_):=I4.loc;have hk4:bD X.prog X.w X.K (upd H3 s.heap.objs.size<|.lst ys) s4.heap:=KD I4.aw d3 ⟨z3,ai,nn,r3,o4⟩;have un4:Un (ji X.stack) fp H (upd H3 s.heap.objs.size<|.lst ys) s.heap s4.heap:=Kr I4.base d3 (qe _);refine hRR _ _ m4 s4 ys H3 qz d3 (I.wU I4.os un4 hk4 I4.bare λb hb=>⟨(hf b hb).2.2.2.1,(hf b hb).2.1,(hf b hb).2.2.2.2.1,λp hp=>(hf b hb).2.2.2.2.2 p hp⟩) n4 ?_ ?_ ?_ ?_ ?_
   .rw[zt<|Ne.symm N4]
    exact I4.free
   .exact λz=>absurd I.lt (by rw[<-z]; exact Nat.not_lt.mpr hC)
   .intro x c e z
    have(v,ob,q,_):=I.cell x c e;exact absurd (qh q) (by rw[z]; exact Nat.not_lt.mpr hC)
   .exact qy I.sz hC
   .intro p hp z
    have q:=(I.pin p hp).1;exact absurd (qh q) (by rw[z]; exact Nat.not_lt.mpr hC)
  .refine aA (T.item (dB X scope cl (ts++xs) G.objs.size s H fp) rfl rfl rfl hc i _ s3 _ H3 E' OC (Gi wI E8) vQ go) λr s4 hZ=>?_
   have(u,hr,h4):=hZ;subst hr;refine aA h4 λ_ s5 hZ=>?_;have(x,H5,I5,r5,y5,qK,Gh):=hZ;have GA:=I5.pinned (Gi Gh E8) (T.obj _ _ qK);refine BN (hg _ _ _ _ _ s5 _ H5 x u _ GA r5<|gw _ _ _<|step x H5 y5) λ_ s6 hZ=>?_;have(t8,H6,I6,M8,q6):=hZ;refine BN (ht _ _ _ _ _ s6 t8 H6 _ I6 q6) λok s7 hZ=>?_;have(H7,I7,q7):=hZ;have after:∀ {H8:Hp} {s8:Qd},Inv (dB X scope cl (ts++xs) G.objs.size s H fp) ([(s.heap.objs.size,({cls:=.type "list",data:=.seq ai.toArray nn}:Obj))]++u4 fp s5.heap) t8 H8 s8->
     tn (i+1) s8.heap/\(∀ b∈fp,H8 b=none)/\H8 s.heap.objs.size=none/\s8.heap.get? s.heap.objs.size=some {cls:=.type "list",data:=.seq ai.toArray nn}/\
      Inv (dB X scope cl (ts++xs) G.objs.size s H fp) [] (c0 nt js σ) H8 s8:=λ{H8 s8} I8=>by
    have dd:=I8.pin (s.heap.objs.size,({cls:=.type "list",data:=.seq ai.toArray nn}:Obj)) (qw _<|Â _ qp);refine⟨T.keep _ _ _ qK λb hb o e=>(I8.pin (b,o)<|qw _<|qw _<|Ag hb e).1,λb hb=>?_,dd.2.1,dd.1,?_⟩
    .have(o,e,d):=T.obj _ _ qK b hb
     exact(I8.pin (b,o)<|qw _<|qw _<|Ag hb e).2.1
    .exact(I8.weak M8.1 M8.2).dP λp hp=>by cases hp
   refine⟨λaw=>?_,λaw=>?_⟩
   .subst aw
    rw[if_pos rfl]at q7;refine BN (he _ _ _ _ _ s7 t8 H7 _ I7 q7) λv s8 hZ=>?_;have(y,H8,I8,ry,q8):=hZ;have(st8,fr8,d8,o8,I8'):=after I8;have(m',hm,w8):=hN _ _ q8;refine call_meets F.slot_list_append ⟨_,o8,rfl⟩ F.entry_list_append (F.args_list_append_2 _ _) (PySem.list_append s.heap.objs.size ai.toArray nn v (by rw[List.size_toArray,<-r3.length]; omega)) ⟨o8,?_⟩;have(_,f1,_,f3,f4,_):=(⟨d8,lT,trivial,.inr<|qe _,λx c e=>by
     rcases tz e with z|⟨z,_⟩
     .exact Nat.ne_of_gt (qi (Ë hC<|Ø _) (ck.empty _ _<|mem_of_lookup z).2)
     .have(v0,ob,q,_):=I.cell x c (oA f x c z)
      exact Nat.ne_of_gt (qh q) |>.symm,trivial⟩:H8 s.heap.objs.size=none/\s.heap.objs.size≠(dB X scope cl (ts++xs) G.objs.size s H fp).env.locals/\True/\(s.heap.objs.size∈fp\/s.heap.objs.size<=s.heap.objs.size)/\
      (∀ x c,(cellsFrom (G.objs.size+1) scope.names cl).lookup x=some c->c≠s.heap.objs.size)/\True)
    have q:=PySem.IsL.update o8 (λx=>x.push v);have hp:ai.toArray.push v=(ai++[v]).toArray:=by simp
    rw[hp]at q;refine⟨m',hm,i+1,ys++[y],ai++[v],_,H8,I8'.turned (t':=s8.toks) (it:=s.heap.objs.size) (λb o hb e=>(ì s8.heap _<|Ne.symm hb).trans e) d8 f1 f3 f4 (λp hp=>by cases hp),?_,fr8,d8,q,r3.append<|.cons ry .nil,?_,w8⟩
    .exact T.keep _ _ _ st8 λb hb o e=>(ì s8.heap _<|w6 b hb).trans e
    .rw[qt,List.length_singleton]
     omega
   .subst aw
    rw[if_neg qf]at q7;have(st7,fr7,d7,o7,I7'):=after I7;have(m',hm,w7):=hN _ _ q7;exact⟨m',hm,i+1,ys,ai,nn,H7,I7',st7,fr7,d7,o7,r3,z3,w7⟩
 exact codeAny_compStart_list loop<|T.self _ _ _ _ _ Nh loop
def vN(wi:TI)(nt:Nat)(js:Qa Nat)(g:TG)(tt:TT)(te:TE):TE:=λσ H Q=>wi σ H λJ H1=>
 GH J (c0 nt js σ) g tt te (λys H2=>∀ D,H2 D=none->Q (.ref D) (upd H2 D<|.lst ys)) H1
theorem ON{wi:TI}(nt:Nat)(ts:Qa Str)(il:ts.length=nt)(hc:X.calm=true)(S:t5 scope xs)(f:aX X cl xs js)(gH:closureFor scope X.env=pure cl)
  (hi:PI X tg iter wi) (hg:∀ C s H ex,PG (dB X scope cl (ts++xs) C s H ex) tg g) (gw:∀ σ:St,GW (c0 nt js σ) g) (ht:∀ C s H ex,nR (dB X scope cl (ts++xs) C s H ex) ifs tt)
  (he:∀ C s H ex,PE (dB X scope cl (ts++xs) C s H ex) elt te) (hs:∀ x,foldedSetIterable iter X.env x=pure x:=by intro _; rfl):
  PE X (.ListComp elt [⟨tg,iter,ifs,0⟩] scope pos) (vN wi nt js g tt te):=by
 intro pins s σ H Q I h;rw[eval_ListComp];refine wpAny_comprehension_free (use:=none) rfl hs gH S.kind S.names<|aA (hi pins s σ H _ I h) λv s1 h1=>aA h1 λAY s2 h2=>?_;have(it,fp,tn,J,H2,e,I2,T,oJ,f2,q):=h2;subst e;refine Lm (RR:=λacc C=>compPost (model X.prog X.w) X.A X.xe none (EP X pins σ Q) acc C) hc I2 S f il T oJ f2 hg ht he (gw σ) q ?_;intro D C m s' ys H' z hD I' hn Gc Bb Ba tU Gb;refine⟨m,hn,λh' oV=>⟨.ref D,_,I'.turned (it:=C) (λb o hb e=>oV.extBut b o hb e) Gc Bb (.inr tU) Ba Gb,rfl,z D hD⟩⟩
end
section
variable{X:Cx}
def uM(_ j:Int):Prop:=0 < j/\j.natAbs.log2 < 9000
theorem Kq:bu X (binaryOp .FloorDiv) (rI uM λi j=>.int<|i / j):=tI λi j _ _ _ _ _ hc q=>by
 have h1:(0:Int) < j:=hc.1;exact floordiv_int (by omega) (by rw[Int.fdiv_eq_ediv_of_nonneg i (by omega)]; exact q)<|.inl<|PyProof.noPylong_of_log2 hc.2
def su(_ j:Int):Prop:=j≠0/\j.natAbs.log2 < 9000
theorem JW:bu X (binaryOp .FloorDiv) (rI su λi j=>.int<|i.fdiv j):=tI λi j _ _ _ _ _ hc q=>
 floordiv_int hc.1 q (.inl<|PyProof.noPylong_of_log2 hc.2)
theorem Ae{k:Nat}(hk:0 < k)(h:n < 2^k):n.log2 < k:=by
 by_cases hn:n=0
 .subst hn; exact hk
 .exact(Nat.log2_lt hn).mpr h
theorem U8{i j:Int}(h:0 < j)(h2:j<=2^128):uM i j:=⟨h,ø (Ae (k:=129) (by decide) (by omega)) (by decide)⟩
def BM(K:qc):Qa V->Hp->VK->Prop:=λxs H Q=>∃ x t T b,xs=[x,.ty T]/\cQ K H x t/\PySem.W.kitOne K t (.type T)=some b/\Q (.bl b) H
theorem X4:eE X (.builtin "isinstance") (BM X.K):=by
 intro pins s σ H xs us Q I r h;have(x,t,T,b,rfl,ty,e,q):=h;have(u,u',rfl,rx,rt):=xP r;cases rt;exact Yg I rx ty e λtk=>⟨.bl b,H,I.tok tk,rfl,q⟩
end
theorem Jx(h:i < nt):∀ σ:St,GW (c0 nt js σ) (i3 i):=λσ x H Q q=>⟨Q1<|DT h,q⟩
def SameBut(p:Qg)(H H':Hp):Prop:=∀ b o,b≠p->H b=some o->H' b=some o
theorem zM{p:Qg}(h:H p=none)(o:HO):cn H (upd H p o):=λb u q=>by rw[zt<|i6 q h]; exact q
def Bl(mg:Str->Qb Qc)(xs:Qa Str):Prop:=∀ x,x∈xs->mg x=none
theorem Bl.nil:Bl mg []:=λ_ h=>by cases h
theorem Bl.cons{xs:Qa Str}(h:mg x=none)(t:Bl mg xs):Bl mg (x::xs):=λy m=>by
 rcases qv.mp m with e|e
 .rw[e]; exact h
 .exact t y e
def zQ:Expr->Bool
 | .Starred _ _=>false
 | _=>true
theorem hG{es:Qa Expr}(h:zQ e=true):starEach (e::es) env=(false,eval e env)::starEach es env:=by
 cases e<;>first|rfl|cases h
theorem oE:∀ {es:Qa Expr},es.all zQ=true->(backTo pos<|starEach es env).any (·.1)=false
 | [],_=>rfl
 | e::es,h=>by
  rw[List.all_cons,Bool.and_eq_true]at h;rw[hG h.1];show(false || (backTo pos<|starEach es env).any (·.1))=false;rw[Bool.false_or];exact oE h.2
section
variable{X:Cx}{es:Qa Expr}{t:TA}{id:String}
theorem zBe(ha:PE X e te)(hr:PA X es t)(hs:zQ e=true:=by rfl):PA X (e::es) (iJ te t):=UE ha hr (hG hs)
theorem OM(hc:eE X (.builtin id) r)(hg:Gl X x)(hm:X.mg x=none)(hv:bootBuiltins x=some (.builtin id))(ha:PA X (e::es) t)(hn:x ≠ "__name__":=by decide)(cK:(x==("__debug__":Str))=false:=by decide)
  (he:zQ e=true:=by rfl) (du:es.all zQ=true:=by rfl):PE X (.Call (.Name x p) (e::es) [] pos) (lG r t):=XZ hc hg hm hv ha hn cK (hG he) (oE du)
theorem OL(hc:eE X (.type T) r)(hg:Gl X x)(hm:X.mg x=none)(hv:bootBuiltins x=some (.type T))(ha:PA X (e::es) t)(hn:x ≠ "__name__":=by decide)(cK:(x==("__debug__":Str))=false:=by decide)
  (he:zQ e=true:=by rfl) (du:es.all zQ=true:=by rfl):PE X (.Call (.Name x p) (e::es) [] pos) (lG r t):=Ye hc hg hm hv ha hn cK (hG he) (oE du)
end
structure GF (P:Qe) (w:Qh) (K:qc) (mg:Str->Qb Qc) (base:Heap) (x:Str) (k:Nat) (ps:Qa Str) (sp:Sp):Prop where
 ex:∃ (f:Qg) (fd:FuncData),bP P w K mg base gN k f fd ps sp/\jS K fd ps []/\PySem.W.keepIn K (.ref f)=true/\mg x=some (.ref f)
def B1(sp:Sp)(t:TA):TE:=λσ H Q=>t σ H λvs H1=>sp vs H1 Q E0
section
variable{X:Cx}{k:Nat}{es:Qa Expr}{t:TA}
theorem RG(C:GF X.prog X.w X.K X.mg X.base x k ps sp)(hr:aD k X.A)(hg:Gl X x)(ha:PA X (e::es) t)(cK:(x==("__debug__":Str))=false:=by decide)
  (he:zQ e=true:=by rfl) (du:es.all zQ=true:=by rfl):PE X (.Call (.Name x p) (e::es) [] pos) (B1 sp t):=by
 have(f,fd,F,hb,hk,hm):=C.ex;intro pins s σ H Q I h;refine Vj (dvs:=[]) (E:=E0) F hr hg hm hk hb .nil CO ha cK (hG he) (oE du) pins s σ H Q I ?_;show t σ H λvs H1=>sp (vs++[]) H1 Q E0;have z:(λ(vs:Qa V) (H1:Hp)=>sp (vs++[]) H1 Q E0)=λvs H1=>sp vs H1 Q E0:=by
  funext vs H1
  rw[List.append_nil]
 rw[z];exact h
end
def CW(t:TS):TS:=λD σ H=>∃ J:St->Hp->Prop,t {D with nx:=J} σ H/\∀ aG H',J aG H'->D.nx aG H'
theorem U7{X:Cx}{t:TS}(h:PS X st t):PS X st (CW t):=by
 intro pins s σ H D I ⟨J,q,z⟩;refine aA (h pins s σ H _ I q) λf s' r=>?_;cases f with
 | next=>have(aG,H',I',j):=r; exact⟨aG,H',I',z _ _ j⟩
 | brk=>exact r
 | cont=>exact r
 | ret u=>exact r
theorem X3(x y:Int)(hx:0<=x)(hy:0 < y):Int.gcd y (x % y)=Int.gcd x y:=by
 have(a,rfl):=Int.eq_ofNat_of_zero_le hx;have(b,rfl):=Int.eq_ofNat_of_zero_le (Int.le_of_lt hy);rw[<-Int.natCast_emod];show Nat.gcd b (a % b)=Nat.gcd a b;rw[Nat.gcd_comm a b,Nat.gcd_comm b<|a % b];exact(Nat.gcd_rec b a).symm
theorem U6(x y:Int):Int.gcd (if x < 0 then -x else x) y=Int.gcd x y:=by
 split
 .exact Int.neg_gcd
 .rfl
structure Wr (p:Prop):Prop where
 run:p
theorem nZ{xs:Qa Str}(h:Bl mg xs)(m:x∈xs):mg x=none:=h x m
theorem yz{X:Cx}{C:Qg}{ex:Qa Qg}(h:decide N.Nodup=true):(dB X scope cl N C s H ex).N.Nodup:=of_decide_eq_true h
def jQ(X:Cx)(js:Qa Nat):Qa Str:=js.map λj=>X.N.getD j ""
def k9(X:Cx)(js:Qa Nat):Qa (Str×Qg):=(jQ X js).map λx=>(x,(X.env.cells.lookup x).getD 0)
def mZ:Expr->Qa Str
 | .Name x _=>[x]
 | .Tuple es _ _=>es.flatMap λe=>match e with
  | .Name x _=>[x]
  | .Tuple fs _ _=>fs.filterMap λe=>match e with
   | .Name x _=>some x
   | _=>none
  | _=>[]
 | _=>[]
def Bv(nt:Nat)(g:TG):Prop:=∀ (js:Qa Nat) (σ dI:St),Wk (c0 nt js σ) dI->∀ x H (Q:St->Hp->Prop),g x dI H Q->g x dI H λfE H2=>Wk (c0 nt js σ) fE/\Q fE H2
def rY(nt:Nat)(g:gX):Prop:=∀ (js:Qa Nat) (σ dI:St),Wk (c0 nt js σ) dI->∀ x H (Q:St->Hp->Prop),g x dI H Q->g x dI H λfE H2=>Wk (c0 nt js σ) fE/\Q fE H2
theorem X2(h:i < nt):Bv nt (i3 i):=by
 intro js σ dI w x H Q q;refine⟨⟨by rw[List.length_set]; exact w.1,λj v e=>?_⟩,q⟩;have ne:i≠j:=by
  rintro rfl;rw[DT h]at e;cases e
 rw[qC ne];exact w.2 j v e
theorem JV:rY nt xr:=λjs σ dI w x H Q q=>⟨q.1,w,q.2⟩
theorem YF{gs:gX}(h1:Bv nt g)(h2:rY nt gs)(mono:∀ v σ H (Q Q':St->Hp->Prop),(∀ aG H',Q aG H'->Q' aG H')->g v σ H Q->g v σ H Q'):rY nt (uK g gs):=by
 intro js σ dI w x H Q q;have(v,r,e,k):=q;refine⟨v,r,e,mono _ _ _ _ _ (λaG H' hZ=>?_)<|h1 js σ dI w v H _ k⟩;have(w',q'):=hZ;exact h2 js σ aG w' r H' Q q'
theorem Jw{gs:gX}(h:rY nt gs):Bv nt (xq K n gs):=by
 intro js σ dI w x H Q q;have(a,xs,e,s,l,k):=q;exact⟨a,xs,e,s,l,h js σ dI w xs H Q k⟩
theorem Hg(h:Bv nt g):∀ σ:St,GW (c0 nt js σ) g:=λσ x H Q q=>h js σ _ ⟨rfl,λ_ _ e=>e⟩ x H Q q
theorem YE:∀ v σ H (Q Q':St->Hp->Prop),(∀ aG H',Q aG H'->Q' aG H')->i3 i v σ H Q->i3 i v σ H Q':=λv σ H Q Q' h q=>h _ _ q
theorem KC{gs:gX}(h:i < nt)(h2:rY nt gs):rY nt (uK (i3 i) gs):=YF (X2 h) h2 YE
section
variable{X:Cx}{a b c:Expr}{es rest:Qa Expr}{t:TA}{rd:R2}{id:String}{tA lH:TT}{EW body:Qa Stmt}{ts us:TS}{gs:gX}{wi:TI}
theorem aa(hN:X.N[i]?=some x:=by rfl)(hv:Bj X.env.scope x:=by first|exact Or.inl rfl|exact Or.inr (Or.inl rfl) | exact Or.inr<|Or.inr rfl)(hd:(x==("__debug__":Str))=false:=by decide)
  (jf:(x==("__classdict__":Str))=false:=by decide):Wr (PE X (.Name x pos)<|dS i):=⟨pv i hN hv hd jf⟩
theorem zk{n:Int}:Wr (PE X (.Constant (.int n) j pos)<|tC<|.int n):=⟨Sm⟩
theorem iG{n:Bool}:Wr (PE X (.Constant (.bool n) j pos)<|tC<|.bl n):=⟨OX⟩
theorem xZ:Wr (PE X (.Constant .none j pos)<|tC .aI):=⟨Sl⟩
theorem b9{n:Str}:Wr (PE X (.Constant (.str n) j pos)<|tC<|.str n):=⟨Sk⟩
theorem mN(hv:bootBuiltins x=some u)(r:zD v u)(hg:Gl X x:=by exact rfl)(hm:X.mg x=none:=by exact nZ ‹Bl _ _› (by decide))(hn:x ≠ "__name__":=by decide)(hd:(x==("__debug__":Str))=false:=by decide):Wr (PE X (.Name x pos)<|tC v):=⟨US hg hm hv r hn hd⟩
theorem zN{op:Operator}(ho:bu X (binaryOp op) rd)(ha:Wr (PE X a ta))(hb:Wr (PE X b tb)):Wr (PE X (.BinOp a op b pos)<|kC rd ta tb):=⟨OU ho ha.run hb.run⟩
theorem uq{op:UnaryOp}{r:V->Hp->VK->Prop}(ho:Bm X (unaryOp op) r)(ha:Wr (PE X a ta)):Wr (PE X (.UnaryOp op a pos)<|ER r ta):=⟨OT ho ha.run⟩
theorem w_not(ha:Wr (PE X a ta)):Wr (PE X (.UnaryOp .Not a pos)<|CM ta):=⟨Sb ha.run⟩
theorem jx(ho:bu X (compareOp op) rd)(ha:Wr (PE X a ta))(hb:Wr (PE X b tb))(hm:behindInMarks op b=false:=by first|exact Il _|rfl):Wr (PE X (.Compare a [op] [b] pos)<|kC rd ta tb):=⟨UK ho ha.run hb.run hm⟩
theorem zZ(ho:bu X (compareOp op) rd)(ha:Wr (PE X a ta))(hb:Wr (PE X b tb))(hm:behindInMarks op b=false:=by first|exact Il _|rfl):Wr (PT X (.Compare a [op] [b] pos)<|uH<|kC rd ta tb):=⟨UJ ho ha.run hb.run hm⟩
theorem U5{ic:CmpOp}{Ni:R2}{tc:TE}(ho:bu X (compareOp op) rd)(c9:bu X (compareOp ic) Ni)(ha:Wr (PE X a ta))(hb:Wr (PE X b tb))(hc:Wr (PE X c tc))(hm:lastMarks [op,ic] [b,c]=false:=by rfl):
  Wr (PE X (.Compare a [op,ic] [b,c] pos)<|uY rd Ni ta tb tc):=⟨XB ho c9 ha.run hb.run hc.run hm⟩
theorem uD{op}(h:Wr (PE X a te)):Wr (PE X (.BoolOp op [a] pos) te):=⟨Se h.run⟩
theorem pN(ha:Wr (PE X a ta))(hb:Wr (PE X (.BoolOp .And (b::rest) pos) tb)):Wr (PE X (.BoolOp .And (a::b::rest) pos)<|CN ta tb):=⟨Sd ha.run hb.run⟩
theorem Jv(ha:Wr (PT X a tA)):Wr (PW X (.BoolOp .And [a] pos) tA):=⟨UR ha.run⟩
theorem pV(ha:Wr (PT X a tA)):Wr (PW X (.BoolOp .Or [a] pos) tA):=⟨Si ha.run⟩
theorem Ih(ha:Wr (PT X a tA))(hb:Wr (PW X (.BoolOp .And (b::rest) pos) lH)):Wr (PW X (.BoolOp .And (a::b::rest) pos)<|B4 tA lH):=⟨Sg ha.run hb.run⟩
theorem mH(ha:Wr (PT X a tA))(hb:Wr (PW X (.BoolOp .Or (b::rest) pos) lH)):Wr (PW X (.BoolOp .Or (a::b::rest) pos)<|EU tA lH):=⟨OW ha.run hb.run⟩
theorem lZ(h:Wr (PW X e tA)):Wr (PT X e tA):=⟨h.run.pt⟩
theorem kf(ha:Wr (PT X a tA)):Wr (PT X (.UnaryOp .Not a pos)<|B3 tA):=⟨Sf ha.run⟩
theorem lz(h:Wr (PE X e te))(he:∀ whole,isTrue e X.env whole=(do let v <-whole; standAt e.pos; holding [v] (truthy v)):=by intro _; rfl):Wr (PT X e<|tB te):=⟨Sj h.run he⟩
def rX(K:qc)(ta:TE):TT:=λσ H Q=>ta σ H λx H'=>∃ k,BS K x H' k/\Q k H'
theorem OK(ha:Wr (PE X a ta))(he:∀ whole,isTrue a X.env whole=(do let v <-whole; standAt a.pos; holding [v] (truthy v)):=by intro _; rfl):Wr (PT X a<|rX X.K ta):=⟨Kl ha.run he⟩
theorem CC(hc:Wr (PT X c tA))(ha:Wr (PE X a ta))(hb:Wr (PE X b tb)):Wr (PE X (.IfExp c a b pos)<|AH tA ta tb):=⟨XG hc.run ha.run hb.run⟩
theorem zi:Wr (PA X [] iH):=⟨Rb⟩
theorem ae(ha:Wr (PE X e te))(hr:Wr (PA X es t))(hs:zQ e=true:=by rfl):Wr (PA X (e::es)<|iJ te t):=⟨zBe ha.run hr.run hs⟩
theorem cq{x1}(h:Wr (PA X es t)):Wr (PE X (.Tuple es x1 pos)<|xA t):=⟨Ra h.run⟩
theorem gu(h:Wr (PA X es t)):Wr (PE X (.List es pos)<|xx t):=⟨Q9 h.run⟩
theorem bO(hc:eE X (.builtin id) r)(hv:bootBuiltins x=some (.builtin id))(ha:Wr (PA X (e::es) t))(hg:Gl X x:=by exact rfl)(hm:X.mg x=none:=by exact nZ ‹Bl _ _› (by decide))(hn:x ≠ "__name__":=by decide)(cK:(x==("__debug__":Str))=false:=by decide)
  (he:zQ e=true:=by rfl) (du:es.all zQ=true:=by rfl):Wr (PE X (.Call (.Name x p) (e::es) [] pos)<|lG r t):=⟨OM hc hg hm hv ha.run hn cK he du⟩
theorem k8(hc:eE X (.type T) r)(hv:bootBuiltins x=some (.type T))(ha:Wr (PA X (e::es) t))(hg:Gl X x:=by exact rfl)(hm:X.mg x=none:=by exact nZ ‹Bl _ _› (by decide))(hn:x ≠ "__name__":=by decide)(cK:(x==("__debug__":Str))=false:=by decide)
  (he:zQ e=true:=by rfl) (du:es.all zQ=true:=by rfl):Wr (PE X (.Call (.Name x p) (e::es) [] pos)<|lG r t):=⟨OL hc hg hm hv ha.run hn cK he du⟩
theorem zO{k:Nat}(ha:Wr (PA X (e::es) t))(C:GF X.prog X.w X.K X.mg X.base x k ps sp:=by assumption)(hr:aD k X.A:=by exact aD.mono ‹aD _ _› (by decide))(hg:Gl X x:=by exact rfl)(cK:(x==("__debug__":Str))=false:=by decide)
  (he:zQ e=true:=by rfl) (du:es.all zQ=true:=by rfl):Wr (PE X (.Call (.Name x p) (e::es) [] pos)<|B1 sp t):=⟨RG C hr hg ha.run cK he du⟩
theorem zT(hr:rL X rd)(ha:Wr (PE X a ta))(hb:Wr (PE X b tb))(hs:JB b:=by exact λ_ _=>rfl):Wr (PE X (.Subscript a b pos)<|kC rd ta tb):=⟨OP hr ha.run hb.run hs⟩
theorem pZ:Wr (PO X none DX):=⟨Vi⟩
theorem pY(h:Wr (PE X e te)):Wr (PO X (some e)<|CV te):=⟨Vh h.run⟩
theorem pX{r:V->Qb Int->Qb Int->Hp->VK->Prop}{lo hi:Qb Expr}{tl th:TO}{p2:Pos}(hr:t4 X r)(he:Wr (PE X e te))(hl:Wr (PO X lo tl))(hu:Wr (PO X hi th)):Wr (PE X (.Subscript e (.Slice lo hi none p2) pos)<|ES r te tl th):=⟨XX hr he.run hl.run hu.run⟩
theorem tD{ta:TA}(ha:Wr (PA X [a] ta))(hg:Gl X "range":=by exact rfl)(hm:X.mg "range"=none:=by exact nZ ‹Bl _ _› (by decide))(hs:zQ a=true:=by rfl):Wr (PI X tg (.Call (.Name "range" p) [a] [] pos)<|CI ta):=⟨Yn hg hm ha.run<|hG hs⟩
theorem W4{ta:TA}(ha:Wr (PA X [a,b] ta))(hg:Gl X "range":=by exact rfl)(hm:X.mg "range"=none:=by exact nZ ‹Bl _ _› (by decide))(hs:zQ a=true:=by rfl)(lO:zQ b=true:=by rfl):Wr (PI X tg (.Call (.Name "range" p) [a,b] [] pos)<|CH ta):=
 ⟨Ym hg hm ha.run ((hG hs).trans (by rw[hG lO]; rfl))<|hG lO⟩
theorem zx(hN:X.N.Nodup:=by first|assumption|exact yz rfl)(hi:X.N[i]?=some x:=by rfl)(hx:Loc X.env.scope x:=by first|exact Or.inl rfl|exact Or.inr rfl)(hf:X.fn x=true\/X.env.scope.names.lookup x=some .local:=by first|exact .inl rfl|exact .inr rfl|assumption):Wr (PG X (.Name x pos)<|i3 i):=⟨UN hN hi hx hf⟩
theorem j9:Wr (ph X [] xr):=⟨UM⟩
theorem cU(h1:Wr (PG X e g))(h2:Wr (ph X es gs))(hs:(assignEach (e::es) X.env).map (·.2)=assign e X.env::(assignEach es X.env).map (·.2):=by rfl):Wr (ph X (e::es)<|uK g gs):=⟨XE h1.run h2.run hs⟩
theorem yq{ti:TE}{vL:xt}(ho:Wr (PE X o ta))(hi:Wr (PE X e ti))(hs:B8 X vL)
  (hh:∀ v,assign (.Subscript o e pos) X.env v=(do
   let ov <-holding [v] (eval o X.env)
   let iv <-holding [v,ov] (eval e X.env)
   standAt pos
   holding [v,ov,iv] (setItem ov iv v)
   release [v,ov,iv] []):=by intro _; rfl):Wr (PG X (.Subscript o e pos)<|B7 ta ti vL):=⟨SD ho.run hi.run hs hh⟩
theorem sW:Wr (nR X [] BO):=⟨X6⟩
theorem RF(h:Wr (PT X c tA)):Wr (nR X [c] tA):=⟨X5 h.run⟩
theorem rW(hi:Wr (PI X tg iter wi))(hg:∀ {C s H ex},Wr<|PG (dB X scope (k9 X js) (mZ tg++jQ X js) C s H ex) tg g)(ht:∀ {C s H ex},Wr<|nR (dB X scope (k9 X js) (mZ tg++jQ X js) C s H ex) ifs tt)
  (he:∀ {C s H ex},Wr<|PE (dB X scope (k9 X js) (mZ tg++jQ X js) C s H ex) elt te)
  (f:aX X (k9 X js) (jQ X js) js:=by repeat (first|exact aX.nil|refine aX.cons rfl (by first|exact Or.inl rfl|exact Or.inr rfl) rfl ?_)) (gH:closureFor scope X.env=pure (k9 X js):=by rfl) (S:t5 scope (jQ X js):=by exact⟨rfl,of_decide_eq_true rfl,of_decide_eq_true rfl,of_decide_eq_true rfl,of_decide_eq_true rfl⟩) (il:(mZ tg).length=nt:=by rfl) (hc:X.calm=true:=by rfl) (gw:∀ σ:St,GW (c0 nt js σ) g:=by first|exact Jx (by decide) | exact Hg<|Jw (by repeat (first|exact JV|refine KC (by decide) ?_))) (hs:∀ x,foldedSetIterable iter X.env x=pure x:=by intro _; rfl):
  Wr (PE X (.ListComp elt [⟨tg,iter,ifs,0⟩] scope pos)<|vN wi nt js g tt te):=⟨ON nt (mZ tg) il hc S f gH hi.run (λC s H ex=>hg.run) gw (λC s H ex=>ht.run) (λC s H ex=>he.run) hs⟩
def B0(K:qc):Qa V->Hp->VK->Prop:=λxs H Q=>∃ p ys,xs=[.ref p]/\(bq K H p ys\/bj K H p ys)/\Q (.int ys.length) H
def yW(K:qc):Qa V->Hp->VK->Prop:=λxs H Q=>∃ p ys,xs=[.ref p]/\((bq K H p ys/\∀ l,H l=none->Q (.ref l) (upd H l<|.tup ys))\/(bj K H p ys/\Q (.ref p) H))
theorem mG(hK:X.K=K:=by rfl):eE X (.builtin "isinstance") (BM K):=hK▸X4
theorem eR(hK:X.K=K:=by rfl):eE X (.builtin "len") (B0 K):=hK▸ziT
theorem vq(hK:X.K=K:=by rfl):eE X (.type "tuple") (yW K):=hK▸zhO
theorem eD(hK:X.K=K:=by rfl):rL X (BR K):=hK▸Ve
theorem zV(hK:X.K=K:=by rfl):rL X (um K):=hK▸Q6
theorem BZ(hK:X.K=K:=by rfl):bu X (compareOp .In) (vS K false):=hK▸Yd
theorem U4(hK:X.K=K:=by rfl):bu X (compareOp .NotIn) (vS K true):=hK▸ziS
theorem xY(hK:X.K=K:=by rfl):t4 X (BQ K):=hK▸Vd
theorem D3{l:Expr}{tl:TE}(hl:Wr (PE X l tl))(hK:X.K=K:=by rfl):Wr (PI X tg l<|CJ K tl):=hK▸⟨UL hl.run⟩
theorem sU{l:Expr}{tl:TE}(hl:Wr (PE X l tl))(hK:X.K=K:=by rfl):Wr (PI X tg l<|B5 K tl):=hK▸⟨Ri hl.run⟩
theorem j8{k:Nat}(h:Wr (ph X es gs))(hK:X.K=K:=by rfl)(hc:X.calm=true:=by rfl)(hn:(assignEach es X.env).length=n:=by rfl)(tO:(assignEach es X.env).findIdx? (·.1)=none:=by rfl):Wr (PG X (.Tuple es k pos)<|xq K n gs):=hK▸⟨SE hc h.run hn tO⟩
theorem Px(ha:Wr (PE X a ta))(hK:X.K=K:=by rfl)(he:∀ whole,isTrue a X.env whole=(do let v <-whole; standAt a.pos; holding [v] (truthy v)):=by intro _; rfl):Wr (PT X a<|rX K ta):=hK▸⟨Kl ha.run he⟩
theorem cx:Wr (dG X [] CL):=⟨UQ⟩
theorem aE(h1:Wr (PS X st ts))(h2:Wr (dG X EW us)):Wr (dG X (st::EW)<|uj ts us):=⟨XF h1.run h2.run⟩
theorem zG(h1:Wr (PS X st ts)):Wr (dG X [st] ts):=⟨UP h1.run⟩
theorem j7(he:Wr (PE X e te))(hs:swapsWith e none pos.line X.env=pure false:=by rfl):Wr (PS X (.Expr e pos)<|CK te):=⟨UO he.run hs⟩
theorem bz(he:Wr (PE X e te)):Wr (PS X (.Return (some e) pos)<|ui te):=⟨Sa he.run⟩
theorem bT{sa sb:Qa Stmt}(hc:Wr (PT X c tA))(ha:Wr (dG X sa ts))(hb:Wr (dG X sb us)):Wr (PS X (.If c sa sb pos)<|B9 tA ts us):=⟨OV hc.run ha.run hb.run⟩
theorem n9(h:Wr (PS X st ts)):Wr (PS X st<|CW ts):=⟨U7 h.run⟩
theorem U3(hc:Wr (PT X c tA))(hb:Wr (dG X body ts))(hp:PassesOwn (model X.prog X.w) X.A X.env X.xe:=by first|exact PassesOwn.never|exact PassesOwn.leaving):Wr (PS X (.While c body [] pos)<|Dj tA ts):=⟨XD hp hc.run hb.run⟩
theorem gr(hi:Wr (PI X tg iter wi))(hg:Wr (PG X tg g))(hb:Wr (dG X body ts))(hp:PassesOwn (model X.prog X.w) X.A X.env X.xe:=by first|exact PassesOwn.never|exact PassesOwn.leaving)(hc:X.calm=true:=by rfl)(hs:∀ x,foldedSetIterable iter X.env x=pure x:=by intro _; rfl):
  Wr (PS X (.For tg iter body [] pos)<|BW wi g ts):=⟨Rh hp hc hi.run hg.run hb.run hs⟩
theorem zP(he:Wr (PE X e te))(hN:X.N.Nodup:=by first|assumption|exact yz rfl)(hi:X.N[i]?=some x:=by rfl)(hx:Loc X.env.scope x:=by first|exact Or.inl rfl|exact Or.inr rfl)(hs:swapsWith e (some<|.Name x pos') pos.line X.env=pure false:=by rfl)(hf:X.fn x=true\/X.env.scope.names.lookup x=some .local:=by first|exact .inl rfl|exact .inr rfl|assumption):
  Wr (PS X (.Assign [.Name x pos'] e pos)<|l0 te<|i3 i):=⟨Sy hN hi hx he.run hs hf⟩
theorem mF(he:Wr (PE X e te))(hg:Wr (PG X tg g))(hs:swapsWithSole [tg] e pos.line X.env=pure false:=by rfl)(hw:swappedStores [tg] e X.env=pure none:=by rfl)(h1:(assignEach [tg] X.env).map (·.2)=[assign tg X.env]:=by rfl):
  Wr (PS X (.Assign [tg] e pos)<|l0 te g):=⟨SA he.run hg.run hs hw h1⟩
theorem Pw{y:Str}{ta:TA}{px py pt:Pos}{kt k2 qN}(ha:Wr (PA X [a,b] ta))(hc:X.calm=true:=by rfl)(hN:X.N.Nodup:=by first|assumption|exact yz rfl)(hi:X.N[i]?=some x:=by rfl)(hj:X.N[j]?=some y:=by rfl)(F4:i≠j:=by decide)
  (hx:X.env.scope.names.lookup x=some .local:=by rfl) (hy:X.env.scope.names.lookup y=some .local:=by rfl)
  (hw:swappedStores [.Tuple [.Name x px,.Name y py] kt pt] (.Tuple [a,b] k2 qN) X.env=pure (some [x,y]):=by rfl)
  (hs:swapsWithSole [.Tuple [.Name x px,.Name y py] kt pt] (.Tuple [a,b] k2 qN) pos.line X.env=pure false:=by rfl):
  Wr (PS X (.Assign [.Tuple [.Name x px,.Name y py] kt pt] (.Tuple [a,b] k2 qN) pos)<|B6 i j ta):=⟨Sx hc hN hi hj F4 hx hy ha.run hw hs⟩
end
theorem iA.Nq{base:Heap}{f:Qg}{k:Nat}(F:iA K x qual st f fd)(S:bo N ps (zJ st))(len:∀ vs H Q E,sp vs H Q E->vs.length=ps.length)
  (bI:∀ (aV:Qc) (A:Qf) (outer:Qa Env) (s:Qd) (H:Hp) (vs:Qa V) (Q:VK) (E:XK),aD k (A.deeper<|envOfC qual (zJ st) s.heap.objs.size f aV)->sp vs H Q E->
   ∃ t,Wr (dG (lg gN P w K mg base N qual (zJ st) f aV A outer s H E).oM (hU st) t)/\t {nx:=λ_ H'=>Q .aI H',rt:=Q} (fq N vs) H):bP P w K mg base gN (k+1) f fd ps sp :=
 F.ok S len λaV A outer s H vs Q E hr h=>let ⟨t,w,q⟩:=bI aV A outer s H vs Q E hr h; ⟨t,w.run,q⟩
mutual
inductive DV (K:qc) (H:Hp):V->PyData->Prop
 | aI:DV K H .aI .none
 | bl (b:Bool):DV K H (.bl b) (.bool b)
 | int (i:Int):DV K H (.int i) (.int i)
 | str (x:Str):DV K H (.str x) (.str x)
 | lst {a:Qg} {xs:Qa V} {ds:Qa PyData} (h:bq K H a xs) (t:gi K H xs ds):DV K H (.ref a) (.list ds)
 | tup {a:Qg} {xs:Qa V} {ds:Qa PyData} (h:bj K H a xs) (t:gi K H xs ds):DV K H (.ref a) (.tuple ds)
inductive gi (K:qc) (H:Hp):Qa V->Qa PyData->Prop
 | nil:gi K H [] []
 | cons {v:V} {d:PyData} {vs:Qa V} {ds:Qa PyData} (h:DV K H v d) (t:gi K H vs ds):gi K H (v::vs) (d::ds)
end
theorem cn.E3{xs:Qa V}(e:cn H H')(h:bj K H a xs):bj K H' a xs:=by
 rcases h with (h|⟨o,h⟩) | h
 .exact .inl (.inl<|e _ _ h)
 .exact .inl (.inr ⟨o,e _ _ h⟩)
 .exact .inr h
mutual
theorem DV.same(e:cn H H'):∀ {v:V} {d:PyData},DV K H v d->DV K H' v d
 | _,_,.aI=>.aI
 | _,_,.bl b=>.bl b
 | _,_,.int i=>.int i
 | _,_,.str x=>.str x
 | _,_,.lst h t=>.lst (e.seq h)<|gi.same e t
 | _,_,.tup h t=>.tup (e.E3 h)<|gi.same e t
theorem gi.same(e:cn H H'):∀ {v:Qa V} {d:Qa PyData},gi K H v d->gi K H' v d
 | _,_,.nil=>.nil
 | _,_,.cons h t=>.cons (DV.same e h)<|gi.same e t
end
section
variable{X:Cx}
mutual
theorem DV.reads(I:Inv X pins σ H s):∀ {v:V} {d:PyData} {u:Qc},DV X.K H v d->zD v u->∃ as,Reads s.heap u d as
 | _,_,_,.aI,r=>by cases r; exact⟨_,.none⟩
 | _,_,_,.bl b,r=>by cases r; exact⟨_,.bool b⟩
 | _,_,_,.int i,r=>by have(t,rfl):=r; exact⟨_,.int i t⟩
 | _,_,_,.str x,r=>by have(t,rfl):=r; exact⟨_,.str x t⟩
 | _,_,_,.lst h t,r=>by
  cases r;obtain⟨ai,rv,⟨o,n,e1,e2,e3,e4⟩,hz⟩:=I.list h;have(as,q):=gi.reads I t rv;exact⟨_,.list e1 e2 e4 q⟩
 | _,_,_,.tup h t,r=>by
  cases r;obtain⟨ai,rv,⟨o,e1,e2,n,e4⟩,hz⟩:=I.tuple h;have(as,q):=gi.reads I t rv;exact⟨_,.tuple e1 e2 e4 q⟩
theorem gi.reads(I:Inv X pins σ H s):∀ {v:Qa V} {d:Qa PyData} {u:Qa Qc},gi X.K H v d->zF v u->∃ as,ReadsAll s.heap u d as
 | _,_,_,.nil,r=>by cases r; exact⟨_,.nil⟩
 | _,_,_,.cons h t,r=>by
  cases r with
  | cons r1 r2=>
   have(a1,q1):=DV.reads I h r1;have(a2,q2):=gi.reads I t r2;exact⟨_,.cons q1 q2⟩
end
end
section
variable{X:Cx}{a b c:Expr}{es rest:Qa Expr}{t:TA}{rd:R2}{id:String}{tA lH:TT}{EW body:Qa Stmt}{ts us:TS}{gs:gX}{wi:TI}
theorem Pu{y:Str}{py vR:Pos}(hi:Wr (PI X tg iter wi))(hg:∀ {C s H ex},Wr<|PG (dB X scope (k9 X js) (mZ tg++jQ X js) C s H ex) tg g)(ht:∀ {C s H ex},Wr<|nR (dB X scope (k9 X js) (mZ tg++jQ X js) C s H ex) ifs tt)
  (he:∀ {C s H ex},Wr<|PE (dB X scope (k9 X js) (mZ tg++jQ X js) C s H ex) elt te)
  (hN:X.N.Nodup:=by first|assumption|exact yz rfl) (ip:X.N[i]?=some y:=by rfl) (hy:Loc X.env.scope y:=by first|exact Or.inl rfl|exact Or.inr rfl)
  (f:aX X (k9 X js) (jQ X js) js:=by repeat (first|exact aX.nil|refine aX.cons rfl (by first|exact Or.inl rfl|exact Or.inr rfl) rfl ?_)) (gH:closureFor scope X.env=pure (k9 X js):=by rfl) (S:t5 scope (jQ X js):=by exact⟨rfl,of_decide_eq_true rfl,of_decide_eq_true rfl,of_decide_eq_true rfl,of_decide_eq_true rfl⟩) (il:(mZ tg).length=nt:=by rfl) (hc:X.calm=true:=by rfl) (gw:∀ σ:St,GW (c0 nt js σ) g:=by first|exact Jx (by decide) | exact Hg<|Jw (by repeat (first|exact JV|refine KC (by decide) ?_))) (hs:∀ x,foldedSetIterable iter X.env x=pure x:=by intro _; rfl)
  (hsw:swapsWith (.ListComp elt [⟨tg,iter,ifs,0⟩] scope pos) (some<|.Name y py) vR.line X.env=pure true:=by rfl)
  (hf:X.fn y=true\/X.env.scope.names.lookup y=some .local:=by first|exact .inl rfl|exact .inr rfl|assumption):
  Wr (PS X (.Assign [.Name y py] (.ListComp elt [⟨tg,iter,ifs,0⟩] scope pos) vR)<|l0 (vN wi nt js g tt te)<|i3 i):=by
 refine⟨?_⟩;intro pins s σ H D I h;rw[exec_Assign_Name_used _ _ _ _ hsw];refine qa<|wpAny_standAt<|qa ?_;show wpAny _ X.A (do let _ <-comprehension (.ListComp elt [⟨tg,iter,ifs,0⟩] scope pos) scope X.env _ (newList []) false (eval iter X.env) (some<|assign (.Name y py) X.env)) _ _ s;refine qa<|wpAny_mono (wpAny_comprehension_free (use:=some (assign (.Name y py) X.env)) (Q:=λ_ s'=>SP X pins D .next s') rfl hs gH S.kind S.names
  (aA (hi.run pins s σ H _ I h) λv s1 h1=>aA h1 λAY s2 h2=>?_)) (λ_ s' hq=>qb<|qb hq) λ_ _ e=>e
 have(it,fp,tn,J,H2,e,I2,T,oJ,f2,q):=h2;subst e;refine Lm (RR:=λacc C=>compPost (model X.prog X.w) X.A X.xe (some<|assign (.Name y py) X.env) (λ_ s'=>SP X pins D .next s') acc C) hc I2 S f il T oJ f2 (λC s H ex=>hg.run) (λC s H ex=>ht.run) (λC s H ex=>he.run) (gw σ) q ?_;intro D' C m s' ys H' z hD I' hn Gc Bb Ba tU Gb;show wpAny _ _ (assign (.Name y py) X.env<|.ref D') _ _ _;refine wpAny_assign_Name<|KO (v:=.ref D') I' hN ip hy rfl (λAJ I'' hZ=>?_) hf;have(a,sb,ha):=hZ;have ne:C≠a:=by
  rcases ha with rfl|ha
  .exact Bb
  .exact(Ba _ _ ha).symm
 exact⟨m,hn.sameBut sb ne,λh' oV=>⟨_,_,I''.turned (it:=C) (λb o hb e=>oV.extBut b o hb e) Gc Bb (.inr tU) Ba Gb,z D' hD⟩⟩
theorem jP{name:Str}{r:V->Qa V->Hp->VK->Prop}(K:qc)(hK:X.K=K)(pa:PlainAttrs T)(slot:Slot T name id)(qX:typeOf (.builtin id)=pure (.type "method_descriptor"))(hm:t6 X id r)(ho:Wr (PE X o te))(ha:Wr (PA X (e::es) t))
  (gI:attributeBase o name X.env (eval o X.env)=eval o X.env:=by rfl)
  (kQ:((backTo aM<|starEach (e::es) X.env).all (λx=>!x.1) && (backToKw aM<|keywordEach [] X.env).all (λx=>x.1.isSome)
   && decide ((e::es).length+([]:Qa Keyword).length+(if([]:Qa Keyword).isEmpty then 0 else 1) < 30))=true:=by rfl)
  (gG:(apos.endLine==aM.line)=true:=by rfl) (hs:zQ e=true:=by rfl) (du:es.all zQ=true:=by rfl):
  Wr (PE X (.Call (.Attribute o name apos) (e::es) [] aM)<|AI K T r te t):=hK▸⟨OO pa slot qX hm ho.run ha.run gI kQ gG (hG hs)<|oE du⟩
theorem Ds(hg:Gl X x)(hm:X.mg x=some u)(r:zD v u)(hd:(x==("__debug__":Str))=false:=by decide):Wr (PE X (.Name x pos)<|tC v):=⟨UT hg hm r hd⟩
theorem Ju:∀ {ys:Qa Str} {us:Qa Qc},zF (ys.map V.str) us->StrsAre us ys
 | [],_,r=>by cases r; exact .nil
 | y::ys,_,r=>by
  cases r with
  | cons r1 r2=>
   have(t,rfl):=r1;exact .cons y t<|Ju r2
def Hf(K:qc):V->Qa V->Hp->VK->Prop:=λx vs H Q=>∃ sep a ys,x=.str sep/\vs=[.ref a]/\bq K H a (ys.map V.str)/\(ys.map (·.length)).sum+ys.length * sep.length<=16777216/\Q (.str<|Txt.join sep ys) H
theorem Jt(K:qc)(hK:X.K=K:=by rfl):t6 X "str.join" (Hf K):=by
 intro pins s σ H x vs v us Q I rx rv h;have(sep,a,ys,rfl,rfl,hS,hz,q):=h;have(t,rfl):=rx;have(u,rfl,ru):=rv.one;cases ru;subst hK;have(ai,r,pl,_):=I.list hS;exact join_list pl.isList (by simpa using Ju r) hz λt' k=>⟨.str _,H,I.tok _,⟨_,rfl⟩,q⟩
def rV(x:Str)(n:Int):Str:=if n < 1 then Str.empty else if(n==1 || x.length==0)=true then x else⟨(List.replicate n.toNat x.cps).foldl (·++·) #[]⟩
theorem ZV:bu X (binaryOp .Mult) (λx y H Q=>∃ z n,x=.str z/\y=.int n/\0<=n/\n<=1/\Q (.str<|rV z n) H):=by
 intro pins s σ H x y v u Q I rx ry h;have(z,n,rfl,rfl,h0,h1,q):=h;have(t,rfl):=rx;have(t',rfl):=ry;rcases(by omega:n=0\/n=1)with rfl|rfl
 .exact PySem.P.mul_str_none (by decide) (by decide) ⟨.str _,H,I.tok _,⟨_,rfl⟩,q⟩
 .refine PySem.P.mul_str (by decide) (λ_ z=>by simp at z) (λ_ z=>by simp at z) ?_
  rw[if_neg (by decide),if_pos (by rfl)];exact⟨.str _,H,I,⟨_,rfl⟩,q⟩
end
structure Kp (H H':Hp):Prop where
 tup:∀ b xs,H b=some (.tup xs)->H' b=some (.tup xs)
 bg:∀ b o u,H b=some (.bg o u)->H' b=some (.bg o u)
 own:∀ b x,H b=some (.own x)->H' b=some (.own x)
theorem Kp.refl(H:Hp):Kp H H:=⟨λ_ _ h=>h,λ_ _ _ h=>h,λ_ _ h=>h⟩
theorem Kp.trans{H1 H2:Hp}(a:Kp H H1)(b:Kp H1 H2):Kp H H2:=⟨λx y h=>b.tup x y<|a.tup x y h,λx y z h=>b.bg x y z<|a.bg x y z h,λx y h=>b.own x y<|a.own x y h⟩
theorem cn.kp(s:cn H H'):Kp H H':=⟨λ_ _ h=>s _ _ h,λ_ _ _ h=>s _ _ h,λ_ _ h=>s _ _ h⟩
end L2
namespace HT
open PySem PyProof.Rows
open PySem.SeqAt
open PySem.MeetsSeq PySem.MeetsSeq2 PySem.MeetsSeq3
section
variable{prog:Program} {w:World} {A:Around} {E:Value->Shared->Prop} {s:Shared}
theorem cO{t sl:Addr}{items:Array Value}{vl vu:Value}{lo hi:Option Int}{Q:Value->Shared->Prop}(ht:IsTup s.heap t items)(hs:s.heap.IsSliceOf sl vl vu .none)(pl:IsPart vl lo)(pu:IsPart vu hi)
  (hw:aN items.size 0 lo=0/\aN items.size items.size hi=items.size) (h:Q (.ref t) s):wpAny (model prog w) A (getItem (.ref t)<|.ref sl) Q E s:=by
 have(os,q9,A9,wz):=id hs;have F9:s.TypeIs (.ref sl) "slice":=⟨os,q9,A9⟩;unfold getItem
 try with_reducible refine wpAny_holding ?_
 first|refine wpAny_bind (wpAny_pure ?_) | skip
 refine wpAny_bind<|wpAny_sequenceKey ht.typeIs (by decide) ?_;refine wpAny_bind (wpAny_callSpecial?_slot (name:=Str.ofString "__getitem__") ht.typeIs PyProof.Rows.slot_tuple_getitem
  (wpAny_call_entry PyProof.Rows.slot_tuple_getitem ht.typeIs entry_tuple_getitem ?_<|args_tuple_getitem _ _))
 show wpAny _ _ (Builtin.Tuple.tupleItemsOf (.ref t) >>= _) _ _ s;refine wpAny_bind<|tupleItemsOf_ ht ?_;refine wpAny_bind<|wpAny_typeOf F9 ?_;rw[if_pos (by decide)];refine wpAny_bind<|Mn hs pl pu ?_;have FF:(((aN items.size 0 lo:Nat):Int)==0 && (1:Int)==1 && (aN items.size items.size hi - aN items.size 0 lo)==items.size)=true:=by
  rw[hw.1,hw.2];simp
 show wpAny _ _ (if(((aN items.size 0 lo:Nat):Int)==0 && (1:Int)==1 && (aN items.size items.size hi - aN items.size 0 lo)==items.size)=true then _ else _) _ _ s;rw[if_pos FF];refine wpAny_bind (m:=Builtin.Tuple.tupleIsExact _)<|wpAny_bind<|wpAny_typeOf ht.typeIs<|wpAny_pure ?_;rw[if_pos (by decide)];exact wpAny_bind<|wpAny_rule<|wpAny_pure ⟨_,rfl,wpAny_pure h⟩
end
end HT
namespace L2
open PySem PySem.Spec PyProof.Rows
section
variable{X:Cx}
end
section
variable{X:Cx}
end
section
variable{X:Cx}
end
section
variable{X:Cx}
theorem zF.at:∀ {xs:Qa V} {us:Qa Qc} {i:Nat} {u:Qc},zF xs us->us[i]?=some u->∃ x,xs[i]?=some x/\zD x u
 | _,_,0,_,.cons r _,e=>by
  cases(show some _=some _ from e);exact⟨_,rfl,r⟩
 | _,_,i+1,_,.cons _ t,e=>zF.at (i:=i) t e
 | _,_,0,_,.nil,e=>by cases e
 | _,_,_+1,_,.nil,e=>by cases e
theorem Eg{p:Qg}{xs:Qa V}(I:Inv X pins σ H s)(hh:A.handled=none)(hq:bq X.K H p xs\/bj X.K H p xs)
  (h:∀ (it:Qg) (fp wr:Qa Qg) (n:Nat) (P:Nat->Qc->Prop) (St:Nat->Heap->Prop) (s2:Qd),Walks X.prog X.w A it fp wr n P St->St 0 s2.heap->(∀ b∈fp,b < s2.heap.objs.size)->n=xs.length->(∀ i v,P i v->∃ x,xs[i]?=some x/\zD x v)->
   (∀ h' tk,(∀ b o,b∉wr->s2.heap.get? b=some o->h'.get? b=some o)->Inv X pins σ H {s2 with heap:=h',toks:=tk})->Q (.ref it) s2):
  wpAny (model X.prog X.w) A (pyIter<|.ref p) Q E s:=by
 rcases hq with hq|hq
 .have(ai,r,pl,hz):=I.list hq
  have hp:p < s.heap.objs.size:=by
   have(o,n,e,_):=pl;exact qh e
  have ne:p≠s.heap.objs.size:=qj hp;refine wpAny_pyIter_list pl.isList<|h s.heap.objs.size [s.heap.objs.size,p] [s.heap.objs.size] ai.toArray.size _ _ _ (Walks.list hh _ p ne ai.toArray) ⟨⟨_,qg _ rfl,rfl,rfl⟩,?_⟩ (λb hb=>?_) (by rw[List.size_toArray]; exact r.length.symm) (λi v e=>zF.at r (by simpa using e)) λh' tk hk=>?_
  .have(o,n,e,c,d,f):=pl
   exact⟨o,qd _ e,c,n,f⟩
  .rw[Heap.size_push]
   rcases qv.mp hb with z|z
   .rw[z]; exact Ø _
   .rw[qq.mp z]; exact Nat.lt_succ_of_lt hp
  .exact I.kept λb u e=>hk b u (λz=>absurd (qh e) (by rw[qq.mp z]; exact Ð _))<|qd _ e
 .have(ai,r,pl,hz):=I.tuple hq
  have hp:p < s.heap.objs.size:=by
   have(o,e,_):=pl;exact qh e
  have ne:p≠s.heap.objs.size:=qj hp;refine wpAny_pyIter_tuple (show s.heap.IsTuple p ai.toArray from pl)<|h s.heap.objs.size [s.heap.objs.size,p] [s.heap.objs.size] ai.toArray.size _ _ _ (Walks.tuple hh _ p ne ai.toArray) ⟨⟨_,qg _ rfl,rfl,rfl⟩,?_⟩ (λb hb=>?_) (by rw[List.size_toArray]; exact r.length.symm) (λi v e=>zF.at r (by simpa using e)) λh' tk hk=>?_
  .have(o,e,c,n,f):=pl
   exact⟨o,qd _ e,c,n,f⟩
  .rw[Heap.size_push]
   rcases qv.mp hb with z|z
   .rw[z]; exact Ø _
   .rw[qq.mp z]; exact Nat.lt_succ_of_lt hp
  .exact I.kept λb u e=>hk b u (λz=>absurd (qh e) (by rw[qq.mp z]; exact Ð _))<|qd _ e
theorem YD(bs:Qa Bool):(List.range bs.length).all (λi=>bs.getD i false)=bs.all id:=by
 rw[Bool.eq_iff_iff,List.all_eq_true,List.all_eq_true];constructor
 .intro h b hb
  have(i,hi,e):=List.getElem_of_mem hb;have:=h i (Ý.mpr hi);rw[qB,qm hi,e]at this;exact this
 .intro h i hi
  have ip:=Ý.mp hi;rw[qB,qm ip];exact h _<|List.getElem_mem ip
def GP(K:qc):Qa V->Hp->VK->Prop:=λxs H Q=>∃ (p:Qg) (bs:Qa Bool),xs=[.ref p]/\(bq K H p (bs.map V.bl)\/bj K H p (bs.map V.bl))/\Q (.bl<|bs.all id) H
theorem He(K:qc)(hK:X.K=K)(hc:X.calm=true):eE X (.builtin "all") (GP K):=by
 subst hK;intro pins s σ H xs us Q I r h;have(p,bs,rfl,hq,q):=h;have(u,rfl,ru):=jT r;cases ru;refine call_all_walk<|Eg I (I.ok.hd hc) hq λit fp wr n P St s2 W st A7 hn hP hI=>⟨it,fp,wr,n,P,St,λi=>bs.getD i false,rfl,W,st,?_,λh' tk hk=>?_⟩
 .intro i v s' Q' E' hv hQ'
  have(x,ex,rx):=hP i v hv;rw[List.getElem?_map]at ex;cases eb:bs[i]? with
  | none=>rw[eb]at ex; cases ex
  | some b=>
   rw[eb]at ex;cases ex;cases rx;have ew:bs.getD i false=b:=by rw[qB,eb]; rfl
   have NX:Q' (bs.getD i false) s':=hQ';rw[ew]at NX;exact wpAny_truthy_bool NX
 .rw[hn,List.length_map,YD]
  exact⟨.bl _,H,hI h' tk hk,rfl,q⟩
end
section
variable{fp wr:Qa Qg}{P:Nat->Qc->Prop}{St:Nat->Heap->Prop}
end
section
end
section
variable{X:Cx}
theorem KA(val:Nat->Int):∀ k,argBest (λi j=>decide<|val i > val j) k<=k/\∀ i,i<=k->val i<=val (argBest (λi j=>decide<|val i > val j) k)
 | 0=>⟨qe _,λi hi=>by cases Nat.le_zero.mp hi; exact Int.le_refl _⟩
 | k+1=>by
  have(h1,h2):=KA val k;unfold argBest
  by_cases c:val (k+1) > val (argBest (λi j=>decide<|val i > val j) k)
  .rw[if_pos<|decide_eq_true c]
   refine⟨qe _,λi hi=>?_⟩;rcases ä i (k+1)with z|z
   .have:=h2 i (by omega)
    omega
   .have:i=k+1:=by omega
    subst this;exact Int.le_refl _
  .rw[if_neg (by rw[decide_eq_false c]; exact qf)]
   refine⟨by omega,λi hi=>?_⟩;rcases ä i (k+1)with z|z
   .exact h2 i (by omega)
   .have:i=k+1:=by omega
    subst this;omega
end
section
theorem Er{t:Qg}{items:Array Qc}{x:Qc}(hi:s.heap.IsTupleIter it t i)(ht:s.heap.IsTuple t items)(hx:items[i]?=some x)
  (q:∀ h',h'.IsTupleIter it t (i+1)->Heap.SameBut it s.heap h'->Q x {s with heap:=h'}):wpAny (model prog w) A (Builtin.SmallTypes.nextOf<|.ref it) Q E s:=by
 have(oi,e1,e2,e3):=id hi;have(ot,f1,f2,nt,f3):=ht;unfold Builtin.SmallTypes.nextOf;refine qa (wpAny_callSpecial?_slot (name:=Str.ofString "__next__") hi.typeIs slot_tupleiter_next
  (wpAny_call_entry slot_tupleiter_next hi.typeIs entry_tupleiter_next ?_<|args_tupleiter_next _))
 show wpAny _ _ (field (.ref it) 0 >>= _) _ _ s;refine qa<|wpAny_field e1 e3 (x:=.ref t) rfl ?_;show wpAny _ _ (if(Value.ref t==Value.none)=true then _ else _) _ _ s;rw[if_neg (show ¬((Value.ref t==Value.none)=true) from qf)];show wpAny _ _ (field (.ref it) 1 >>= _) _ _ s;refine qa<|wpAny_field e1 e3 (x:=.int i 0) rfl ?_;show wpAny _ _ (seqItems? (.ref t) >>= _) _ _ s;refine qa<|wpAny_seqItems f1 f3 ?_;simp only[Int.toNat_natCast,hx];refine qa<|wpAny_setField e1 e3 (by simp)<|qb ⟨x,rfl,qb<|q _ ?_<|Ï ..⟩;refine⟨_,Ú _ e1<|á<|à e3 _,(Obj.cls_mapFields ..).trans e2,?_⟩;rw[Obj.data_mapFields e3];simp[rawInt]
theorem Kz{t:Qg}{items:Array Qc}(hh:A.handled=none)(hi:s.heap.IsTupleIter it t i)(ht:s.heap.IsTuple t items)(hx:items[i]?=none)
  (q:∀ h' e,Heap.ExtBut it s.heap h'->(∃ o,h'.get? e=some o/\o.cls=.type "StopIteration")->E (.ref e) {s with heap:=h'}):wpAny (model prog w) A (Builtin.SmallTypes.nextOf<|.ref it) Q E s:=by
 have(oi,e1,e2,e3):=id hi;have(ot,f1,f2,nt,f3):=ht;unfold Builtin.SmallTypes.nextOf;refine qa (wpAny_callSpecial?_slot (name:=Str.ofString "__next__") hi.typeIs slot_tupleiter_next
  (wpAny_call_entry slot_tupleiter_next hi.typeIs entry_tupleiter_next ?_<|args_tupleiter_next _))
 show wpAny _ _ (field (.ref it) 0 >>= _) _ _ s;refine qa<|wpAny_field e1 e3 (x:=.ref t) rfl ?_;show wpAny _ _ (if(Value.ref t==Value.none)=true then _ else _) _ _ s;rw[if_neg (show ¬((Value.ref t==Value.none)=true) from qf)];show wpAny _ _ (field (.ref it) 1 >>= _) _ _ s;refine qa<|wpAny_field e1 e3 (x:=.int i 0) rfl ?_;show wpAny _ _ (seqItems? (.ref t) >>= _) _ _ s;refine qa<|wpAny_seqItems f1 f3 ?_;simp only[Int.toNat_natCast,hx];refine qa<|wpAny_rule<|qa<|wpAny_setField e1 e3 (by simp) ?_;show wpAny _ _ (newExc (.type "StopIteration") [] >>= _) _ _ _;refine qa ?_;simp only[newExc,newTuple];refine qa<|qA ?_ (by show(0:Nat)<=sizeLine; exact Ì _);refine qa (m:=firstArgMember _ _)<|wpAny_of_eq (a:=Value.none) (by first|rfl | (simp only[firstArgMember]; rfl)) ?_;refine qA ?_ (by first|trivial|size_fits);simp only[raiseNew];refine qa (wpAny_handled ?_)
 first|rw[show A.in1.handled=none from hh] | rw[hh]
 refine qa<|qb<|wpAny_throw ?_;exact q _ _ (((Ï ..).extBut.push _).push _) ⟨_,qg _ rfl,rfl⟩
end
theorem Lj(hh:A.handled=none)(it t:Qg)(ne:t≠it)(items:Array Qc):
  Draws prog w A it [it,t] items.size (λi v=>items[i]?=some v) (λi h=>h.IsTupleIter it t i/\h.IsTuple t items) where
 live:=λ_ _ st=>let ⟨o,ho,_⟩:=st.1; ⟨o,ho⟩
 frame:=λ_ _ _ st hk=>by
  obtain⟨⟨o,a1,a2,a3⟩,⟨o2,b1,b2⟩⟩:=st;exact⟨⟨o,hk it (by simp) o a1,a2,a3⟩,⟨o2,hk t (by simp) o2 b1,b2⟩⟩
 item:=λi s Q E hi st q=>by
  refine Er st.1 st.2 (x:=items[i]) (by simp[hi]) λh' F3 oV=>?_;exact q _ h' s.toks (by simp[hi]) ⟨F3,st.2.extBut oV.extBut ne⟩ oV
 done:=λs Q E st q=>Kz hh st.1 st.2 (by simp) q
theorem YC(t:Qg)(items:Array Qc)(n:Nat)(e8:Qb Qg)(sl:Array (Qb Qc)):
  Meets (Builtin.«enumerate.__new__» ⟨[.type "enumerate",.ref t],[]⟩) (λ_ R s=>s.heap.get? t=some {cls:=.type "tuple",dict:=e8,data:=.seq items n,slots:=sl}/\
   R (.ok<|.ret<|.ref (s.heap.push {cls:=.type "tuple_iterator",data:=.fields #[.ref t,.int 0 0]}).objs.size)
    {s with heap:=(s.heap.push {cls:=.type "tuple_iterator",data:=.fields #[.ref t,.int 0 0]}).push {cls:=.type "enumerate",data:=.fields #[.none,.bool false,.ref s.heap.objs.size,rawInt 0,.none,.none]}}):=
 .of_wp λprog w A R s h=>by
  have(hp,g,d,tk,os):=s;have(hl,h):=h;have FL:=sub_enumerate;have hT:Heap.IsTuple (Shared.heap ⟨hp,g,d,tk,os⟩) t items:=⟨_,hl,rfl,n,rfl⟩
  wp_walk using PySem.AutoSeq1.wpAny_loadPart' hl
  refine wpAny_stack_any λst=>qb ?_;split
  .rename_i c _ _ _ _ _
   cases(c==Value.type "enumerate")
   .wp_walk using PySem.AutoSeq1.wpAny_loadPart' hl,wpAny_pyIter_tuple hT
    exact⟨_,rfl,h⟩
   .wp_walk using PySem.AutoSeq1.wpAny_loadPart' hl,wpAny_pyIter_tuple hT
    exact⟨_,rfl,h⟩
  .wp_walk using PySem.AutoSeq1.wpAny_loadPart' hl,wpAny_pyIter_tuple hT
   exact⟨_,rfl,h⟩
section
theorem ZU{t:Qg}{items:Array Qc}(hT:s.heap.IsTuple t items)
  (h:∀ h',IsEnum h' (s.heap.objs.size+1) s.heap.objs.size 0 .none->h'.IsTupleIter s.heap.objs.size t 0->(∀ b o,s.heap.get? b=some o->h'.get? b=some o)->Q (.ref<|s.heap.objs.size+1) {s with heap:=h'}):
  wpAny (model prog w) A (call (.type "enumerate") [.ref t]) Q E s:=by
 obtain⟨⟨c,e8,dt,sl⟩,hl,hc,n,hd⟩:=hT;replace hc:c=.type "tuple":=hc;replace hd:dt=.seq items n:=hd;subst hc hd;refine callType_new F.called_enumerate (by decide) (F.typeCall_enumerate_1 _) (F.newCall_enumerate_1 _) (λobj=>F.args_object_init_2 obj _) F.entry_enumerate_new
  (YC t items n e8 sl) ⟨hl,?_⟩
 have hz:(s.heap.push {cls:=.type "tuple_iterator",data:=.fields #[.ref t,.int 0 0]}).objs.size=s.heap.objs.size+1:=Heap.size_push ..;show _/\_;rw[hz];have he:IsEnum ((s.heap.push {cls:=.type "tuple_iterator",data:=.fields #[.ref t,.int 0 0]}).push
   {cls:=.type "enumerate",data:=.fields #[.none,.bool false,.ref s.heap.objs.size,rawInt 0,.none,.none]}) (s.heap.objs.size+1) s.heap.objs.size 0 .none:=by
  have z:=qg (s.heap.push {cls:=.type "tuple_iterator",data:=.fields #[.ref t,.int 0 0]})
   (o:={cls:=.type "enumerate",data:=.fields #[.none,.bool false,.ref s.heap.objs.size,rawInt 0,.none,.none]}) rfl
  rw[hz]at z;exact z
 exact⟨⟨_,he,rfl⟩,h _ he ⟨_,qd _<|qg _ rfl,rfl,rfl⟩ λb o x=>qd _<|qd _ x⟩
end
section
variable{X:Cx}{h':Heap}
theorem Inv.dN{t':Nat}{wr:Qa Qg}(I:Inv X pins σ H s)(k:∀ b o,b∉wr->s.heap.get? b=some o->h'.get? b=some o)(hf:∀ b∈wr,g7 X pins H b):Inv X pins σ H {s with heap:=h',toks:=t'}:=by
 have vW:∀ b u,H b=some u->b∉wr:=λb u e z=>by rw[(hf b z).1]at e; cases e
 refine I.step (g':=s.gens) (d':=s.drawn) (ch:=wr) (λb hb=>?_) (λb o _ _ hc e _=>k b o hc e) (λb o _ _ hc e _=>⟨o.slots,k b o hc e⟩) (λ_ _ _ _ n=>n)
  (λb o hc e=>⟨o,k b o hc e⟩) (λ_ _ e=>e) (λ_ _ _ e=>e) (λb ps e=>⟨#[],by rw[e]; simp⟩) (λm hm=>?_) (λb u e=>?_) I.bare
 .have(_,z1,_,z3,z4,z5):=hf b hb
  exact⟨z3,z1,z4,z5⟩
 .have(o,es,ep,ho,r):=hm
  exact⟨o,es,ep,k _ o (λz=>(hf _ z).2.1 rfl) ho,r⟩
 .refine(I.aw b u e).cz (λc v hc q=>k c v ?_ q) (λ_ q=>q) λ_ _ q=>q
  rcases hc with z|z
  .rw[z]; exact vW b u e
  .exact vW c _ z
theorem Inv.oI{o:HO}(I:Inv X pins σ H s)(f:g7 X pins H a)(ha:X.aZ.heap.objs.size<=a)(new:zI X.prog X.w X.K (upd H a o) s.heap a o):Inv X pins σ (upd H a o) s:=by
 have(f0,f1,f2,f3,f4,f5):=f;refine⟨I.ok,I.os,I.bare,Kr I.base f0 ha,I.loc,I.cell,?_,λx c e=>?_,λp hp=>?_,KD I.aw f0 new,I.len⟩
 .rw[zt<|Ne.symm f1]
  exact I.free
 .rw[zt<|f4 x c e]
  exact I.bJ x c e
 .have(p1,p2,p3):=I.pin p hp
  refine⟨p1,?_,p3⟩;rw[zt<|f5 p hp];exact p2
end
def OA(K:qc)(a:Qg):It :=
 ⟨λi H=>∃ xs x,bj K H a xs/\xs[i]?=some x,λi H x H'=>∃ T,H T=none/\x=.ref T/\∀ xs v,bj K H a xs->xs[i]?=some v->H'=upd H T (.tup [.int i,v]),λi H=>∃ xs,bj K H a xs/\xs.length=i⟩
theorem YB{k:Nat}(e it t:Qg)(A8:e≠it)(NN:t≠e)(NM:t≠it):
  Turn P w K (.Tuple elts k pos) (OA K t) [e,it] e (λi h=>(∃ old,IsEnum h e it i old)/\h.IsTupleIter it t i) where
 mem:=by simp
 obj:=λi h st b hb=>by
  obtain⟨⟨old,he⟩,⟨o,ho,_,hd⟩⟩:=st;rcases qv.mp hb with z|z
  .subst z
   exact⟨_,he,λv q=>by
    have q':Data.fields _=Data.cell v:=q;cases q'⟩
  .rw[qq.mp z]
   exact⟨o,ho,λv q=>by rw[hd]at q; cases q⟩
 keep:=λi h h' st kk=>by
  obtain⟨⟨old,he⟩,⟨o,ho,hc,hd⟩⟩:=st;exact⟨⟨old,kk e (by simp) _ he⟩,⟨o,kk it (by simp) _ ho,hc,hd⟩⟩
 item:=by
  intro X hP hw hK hc i pins s σ H E I hf st hg;subst hP hw hK;have(xs,x,hq,hx):=hg;have(ai,rv,ht,hz):=I.tuple hq;have hi:i < ai.toArray.size:=by
   rw[List.size_toArray,<-rv.length];exact(qk.mp hx).1
  have W:=WalksT.enumerateD (Lj (prog:=X.prog) (w:=X.w) (A:=X.A.in1) (I.ok.hd hc) it t NM ai.toArray) e A8 (by simp[A8,Ne.symm NN]) (by simp);refine W.item i s _ _ hi ⟨st.1,st.2,ht⟩ λT vals h1 tk hP hT ni mid kk=>?_;refine⟨_,rfl,W.go elts k pos i T {s with heap:=h1,toks:=tk} _ _ mid λh2 oJ ND=>?_⟩;have(tt,u,hu,rfl):=hP;have apart:=W.apart _ _ _ mid;have I2:Inv X pins σ H {s with heap:=h2,toks:=tk}:=I.dN (wr:=[e,it]) (λb o hb q=>ND b o hb<|kk b o hb q) hf;have fT:g7 X pins H T:=I.eY hT (I.aw.fresh hT);have ru:zD x u:=by
   have(u',eu,r):=rv.get hx;have:u'=u:=by
    have z:ai[i]?=some u:=by simpa using hu
    rw[eu]at z;exact qx z
   rw[<-this];exact r
  have(oT,g1,g2,nT,g3):=ni;have I3:Inv X pins σ (upd H T<|.tup [.int i,x]) {s with heap:=h2,toks:=tk}:=I2.oI fT (qy I.sz hT) ⟨by show 2<=sizeLine; decide,[.int i tt,u],.cons ⟨tt,rfl⟩<|.cons ru .nil,oT,ND T oT apart g1,g2,⟨nT,g3⟩,.inr ⟨_,_,_,rfl⟩⟩;refine⟨.ref T,_,I3,rfl,⟨T,I.aw.fresh hT,rfl,λf9 v qY hv=>?_⟩,⟨?_,oJ.2.1⟩,λb hb=>?_⟩
  .have:=I.bG hq qY
   subst this;rw[hx]at hv;cases hv;rfl
  .exact oJ.1
  .have ne:b≠T:=λz=>apart (by rw[<-z]; exact hb)
   rw[zt ne];exact(hf b hb).1
 done:=by
  intro X hP hw hK hc i pins s σ H E I hf st hg;subst hP hw hK;have(xs,hq,hl):=hg;have(ai,rv,ht,hz):=I.tuple hq;have hi:i=ai.toArray.size:=by
   rw[List.size_toArray,<-rv.length];exact hl.symm
  have W:=WalksT.enumerateD (Lj (prog:=X.prog) (w:=X.w) (A:=X.A.in1) (I.ok.hd hc) it t NM ai.toArray) e A8 (by simp[A8,Ne.symm NN]) (by simp);refine W.done s _ _ ?_ λh1 tk kk=>⟨rfl,I.dN (wr:=[e,it]) kk hf⟩;rw[<-hi];exact⟨st.1,st.2,ht⟩
 self:=λ_ _ _ _ _ st h=>by
  obtain⟨⟨old,he⟩,_⟩:=st;exact wpAny_pyIter_enum he h
section
variable{X:Cx}{k:Nat}
def Hd(K:qc)(ta:TA):TI:=λσ H R=>ta σ H λvs H1=>∃ a,vs=[.ref a]/\(∃ xs,bj K H1 a xs)/\R (OA K a) H1
theorem U2{a:Expr}{ta:TA}(ha:Wr (PA X [a] ta))(hK:X.K=K:=by rfl)(hg:Gl X "enumerate":=by exact rfl)(hm:X.mg "enumerate"=none:=by exact nZ ‹Bl _ _› (by decide))(hs:zQ a=true:=by rfl):
  Wr (PI X (.Tuple elts k qI) (.Call (.Name "enumerate" p) [a] [] pos)<|Hd K ta):=by
 subst hK;refine⟨?_⟩;intro pins s σ H R I h;refine Call_<|og I hg hm boot_enumerate<|Ñ (aA (ha.run pos pins s σ H _ I h) λus s1 hZ=>?_) (hG hs) rfl;have(vs,H1,I1,r1,q1):=hZ;obtain⟨t,e,⟨xs,hq⟩,q⟩:=q1;subst e;have(u,rfl,ru):=jT r1;cases ru;have(ai,rv,ht,hz):=I1.tuple hq;have tl:t < s1.heap.objs.size:=by
  have(o,e,_):=ht;exact qh e
 refine ZU (show s1.heap.IsTuple t ai.toArray from ht) λh' he hit kk=>?_;have I2:Inv X pins σ H1 {s1 with heap:=h'}:=I1.kept (t':=s1.toks) kk;refine wpAny_pyIter_enum he ?_;refine⟨s1.heap.objs.size+1,[s1.heap.objs.size+1,s1.heap.objs.size],_,_,H1,rfl,I2,YB (s1.heap.objs.size+1) s1.heap.objs.size t (Nat.succ_ne_self _) (qj<|Nat.lt_succ_of_lt tl)<|qj tl,⟨⟨_,he⟩,hit⟩,λb hb=>?_,q⟩;rcases qv.mp hb with z|z
 .subst z
  exact I1.eY (Nat.le_succ _)<|I1.aw.fresh<|Nat.le_succ _
 .rw[qq.mp z]
  exact I1.eY (qe _)<|I1.aw.fresh<|qe _
end
section
variable{X:Cx}
end
section
variable{X:Cx}{i v:Expr}{k:Nat}
theorem U1:Wr (PE X (.Dict [] [] pos) Dh):=⟨XW⟩
theorem pW:Wr (PE X (.Dict [] [] pos) yt):=⟨XU⟩
theorem mM(hr:aD k X.A)(ho:Wr (PE X o td))(hi:Wr (PE X i ty))(hs:xw i:=by intro _ _; rfl):Wr (PE X (.Subscript o i pos)<|CS X.K td ty):=⟨Vc (sv hr) ho.run hi.run hs⟩
theorem u5(hr:aD k X.A)(hi:Wr (PE X i ty))(ho:Wr (PE X o td))(h1:behindInMarks .In o=false:=by rfl):Wr (PT X (.Compare i [.In] [o] pos)<|tB<|BP X.K ty td):=⟨Io (Q4 (sv hr) hi.run ho.run) h1⟩
theorem pU(hr:aD k X.A)(ho:Wr (PE X o td))(hi:Wr (PE X i ty))(hv:Wr (PE X v tv))(hs:swapsWith v (some<|.Subscript o i pos') pos.line X.env=pure false:=by rfl):
  Wr (PS X (.Assign [.Subscript o i pos'] v pos)<|CQ X.K td ty tv):=⟨Vb (sv hr) ho.run hi.run hv.run hs⟩
end
end L2
namespace L2
open PySem PySem.W PyProof.Rows
section
end
section
variable{rk:Nat->Int}
end
end L2
namespace L2
open PySem PySem.Spec PyProof.Rows
open PySem.AutoSeq1 (wpAny_loadPart')
open MeetsSeq MeetsSeq2 MeetsSeq3 SeqRoads2
def ju:Qa Int->Qa Int->Bool
 | [],[]=>false
 | [],_::_=>true
 | _::_,[]=>false
 | a::as,b::bs=>if a=b then ju as bs else decide (a < b)
end L2
namespace L2
open PySem PySem.Spec PySem.W PyProof.Rows
section
end
theorem yS:∀ a:Qa Int,ju a a=false
 | []=>rfl
 | a::as=>by unfold ju; rw[if_pos rfl]; exact yS as
theorem y8:∀ {a b c:Qa Int},ju a b=true->ju b c=true->ju a c=true
 | [],[],_,h,_=>by cases h
 | [],_::_,[],_,h=>by cases h
 | [],_::_,_::_,_,_=>rfl
 | _::_,[],_,h,_=>by cases h
 | _::_,_::_,[],_,h=>by cases h
 | a::as,b::bs,c::cs,h1,h2=>by
  unfold ju at h1 h2 ⊢
  by_cases e1:a=b
  .subst e1
   rw[if_pos rfl]at h1
   by_cases e2:a=c
   .rw[if_pos e2]at h2 ⊢
    exact y8 h1 h2
   .rw[if_neg e2]at h2 ⊢
    exact h2
  .rw[if_neg e1]at h1
   have l1:=of_decide_eq_true h1
   by_cases e2:b=c
   .subst e2
    rw[if_neg e1];exact h1
   .rw[if_neg e2]at h2
    have l2:=of_decide_eq_true h2;rw[if_neg (by omega)];exact decide_eq_true (by omega)
theorem Ej:∀ {a b:Qa Int},a≠b->ju a b=true\/ju b a=true
 | [],[],h=>absurd rfl h
 | [],_::_,_=>.inl rfl
 | _::_,[],_=>.inr rfl
 | a::as,b::bs,h=>by
  unfold ju
  by_cases e:a=b
  .subst e
   rw[if_pos rfl,if_pos rfl];exact Ej λz=>h (by rw[z])
  .rw[if_neg e,if_neg λz=>e z.symm]
   rcases(by omega:a < b\/b < a)with z|z
   .exact .inl (decide_eq_true z)
   .exact .inr (decide_eq_true z)
theorem U0{ms:Qa Int}:(ns.map λn=>(Sum.inl n:Key))=(ms.map λn=>(Sum.inl n:Key))↔ns=ms:=by
 constructor
 .intro h
  have:=congrArg (List.map λk:Key=>match k with | .inl n=>n | .inr _=>0) h;rw[List.map_map,List.map_map]at this;simpa [Function.comp_def] using this
 .rintro rfl; rfl
section
end
section
variable{X:Cx}
end
end L2
namespace L2
open PySem PySem.Spec PyProof.Rows
def ue(h:Heap)(d:Qg)(es:Array DictEntry)(ep:Nat):Prop:=∃ o,h.get? d=some o/\o.ExactDict/\o.data=.dict es ep
theorem ue.typeIs(r:ue s.heap d es ep):s.TypeIs (.ref d) "dict":=by
 have(o,e,x,_):=r;exact⟨o,e,x.1⟩
section
theorem W3(hd:(d==sysModules)=false)(r:ue s.heap d es ep)
  (q:∀ h':Heap,h'.IsKeyIter s.heap.objs.size d 0 es.size ep->(∀ b o,s.heap.get? b=some o->h'.get? b=some o)->Q (.ref s.heap.objs.size) {s with heap:=h'}):wpAny (model prog w) A (pyIter<|.ref d) Q E s:=by
 have hT:=r.typeIs;have(o,e,_,dat):=r;refine wpAny_pyIter_slot hT F.slot_dict_iter<|wpAny_call_entry F.slot_dict_iter hT F.entry_dict_iter ?_<|F.args_dict_iter_1 _;unfold Builtin.«dict.__iter__»;refine qa ?_;unfold Builtin.Dict.dictSlotNone;refine qa<|wpAny_notOrdered_dict hT<|qb ?_;show wpAny _ _ (Builtin.Dict.showsAll d >>= _) _ _ s;unfold Builtin.Dict.showsAll;rw[hd,if_neg qf];refine qa<|qb<|qa<|wpAny_dictEntries e dat<|qa<|wpAny_dictEpoch e dat<|qa<|qA<|qb ⟨_,rfl, "dict_keyiterator",_,⟨_,qg _ rfl,rfl⟩,Ó.lookup,?_⟩;exact q _ ⟨_,qg _ rfl,rfl,by simp[rawInt]⟩ λb o z=>qd _ z
theorem W2{Q:Qb Qc->Qd->Prop}(k:s.heap.IsKeyIter it d i es.size ep)(r:ue s.heap d es ep){x:DictEntry}(hx:es[i]?=some x)
  (q:∀ h':Heap,h'.IsKeyIter it d (i+1) es.size ep->Heap.SameBut it s.heap h'->Q (some x.key) {s with heap:=h'}):wpAny (model prog w) A (pyNext<|.ref it) Q E s:=by
 have kT:=k.typeIs;have(oi,ei,ci,fi):=id k;have(o,e,_,dat):=r;unfold pyNext;refine qa<|wpAny_attempt (wpAny_callSpecial?_slot (name:=Str.ofString "__next__") kT Ó
  (wpAny_call_entry Ó kT F.entry_dict_keyiterator_next ?_<|F.args_dict_keyiterator_next_1 _))
 refine qa<|qb<|qa<|qa ?_;refine qa<|wpAny_typeNameOfWhole_keyiter kT<|qb<|qa<|wpAny_fieldsOf ei fi ?_;simp only[show Builtin.Dict_items.ownsTuple "dict_keyiterator"=false by decide,Bool.false_eq_true,if_false];show wpAny _ _ (if(Value.ref d==Value.none)=true then _ else _) _ _ s;rw[if_neg (show ¬((Value.ref d==Value.none)=true) from qf)];refine qa<|qb<|qa<|wpAny_dictEntries e dat ?_;rw[if_neg (by simp)];refine qa<|qb<|qa<|wpAny_dictEpoch e dat ?_;rw[if_neg (by simp)];refine qb ?_;simp only[show ¬((i:Int) < 0) from by omega,if_false,Int.toNat_natCast,hx];refine qa<|qa<|wpAny_typeNameOfWhole_keyiter kT<|qb<|qa<|wpAny_isOneOf_keyiter kT ?_;show wpAny _ _ (setField (.ref it) 1 (rawInt<|(i:Int)+1) >>= _) _ _ s;refine qa<|wpAny_setField ei fi (by simp) ?_;have k':(s.heap.update it<|Obj.mapFields (·.setIfInBounds 1 (rawInt<|(i:Int)+1))).IsKeyIter it d (i+1) es.size ep :=
  ⟨_,Ú _ ei<|á<|à fi _,(Obj.cls_mapFields ..).trans ci,by rw[Obj.data_mapFields fi]; simp[rawInt]⟩
 refine qa<|wpAny_holding<|qa<|wpAny_isOneOf_keyiter (s:={s with heap:=s.heap.update it (Obj.mapFields (·.setIfInBounds 1 (rawInt<|(i:Int)+1)))}) k'.typeIs ?_;show wpAny _ _ (pure x.key) _ _ _;exact qb<|qb ⟨_,rfl,qb<|q _ k'<|Ï ..⟩
theorem UZ{Q:Qb Qc->Qd->Prop}(hh:A.handled=none)(k:s.heap.IsKeyIter it d i es.size ep)(r:ue s.heap d es ep)(hx:es.size<=i)
  (q:∀ h':Heap,Heap.ExtBut it s.heap h'->Q none {s with heap:=h'}):wpAny (model prog w) A (pyNext<|.ref it) Q E s:=by
 have kT:=k.typeIs;have(oi,ei,ci,fi):=id k;have(o,e,_,dat):=r;unfold pyNext;refine qa<|wpAny_attempt (wpAny_callSpecial?_slot (name:=Str.ofString "__next__") kT Ó
  (wpAny_call_entry Ó kT F.entry_dict_keyiterator_next ?_<|F.args_dict_keyiterator_next_1 _))
 refine qa<|qb<|qa<|qa ?_;refine qa<|wpAny_typeNameOfWhole_keyiter kT<|qb<|qa<|wpAny_fieldsOf ei fi ?_;simp only[show Builtin.Dict_items.ownsTuple "dict_keyiterator"=false by decide,Bool.false_eq_true,if_false];show wpAny _ _ (if(Value.ref d==Value.none)=true then _ else _) _ _ s;rw[if_neg (show ¬((Value.ref d==Value.none)=true) from qf)];refine qa<|qb<|qa<|wpAny_dictEntries e dat ?_;rw[if_neg (by simp)];refine qa<|qb<|qa<|wpAny_dictEpoch e dat ?_;rw[if_neg (by simp)];refine qb ?_;simp only[show ¬((i:Int) < 0) from by omega,if_false,Int.toNat_natCast,Array.getElem?_eq_none hx];refine qa<|qa<|wpAny_typeNameOfWhole_keyiter kT<|qb ?_;show wpAny _ _ (setField (.ref it) 0 .none >>= _) _ _ s;refine qa<|wpAny_setField ei fi (by simp) ?_;show wpAny _ _ (newExc (.type "StopIteration") [] >>= _) _ _ _;refine qa ?_;simp only[newExc,newTuple];refine qa<|qA ?_ (by show(0:Nat)<=sizeLine; exact Ì _);refine qa (m:=firstArgMember _ _)<|wpAny_of_eq (a:=Value.none) (by first|rfl | (simp only[firstArgMember]; rfl)) ?_;refine qA ?_ (by first|trivial|size_fits);simp only[raiseNew];refine qa<|wpAny_handled ?_;rw[show A.in1.handled=none from hh];refine qa<|qb<|wpAny_throw ?_;refine qa<|wpAny_isInstance (T := "StopIteration") (b:=true) ⟨_,qg _ rfl,rfl⟩ isSubtype_stop ?_;exact qb<|q _<|((Ï ..).extBut.push _).push _
end
theorem K4{R:α->β->Prop}:∀ {xs:Qa α} {ys:Qa β},Paired R xs ys->∀ (i:Nat) (x:α),xs[i]?=some x->∃ y,ys[i]?=some y/\R x y
 | _,_,.nil,i,x,h=>by simp at h
 | _,_,.cons r _,0,x,h=>by
  cases(show some _=some x from h);exact⟨_,rfl,r⟩
 | _,_,.cons _ t,i+1,x,h=>K4 t i x h
theorem Ep{R:α->β->Prop}:∀ {xs:Qa α} {ys:Qa β},Paired R xs ys->xs.length=ys.length
 | _,_,.nil=>rfl
 | _,_,.cons _ t=>by rw[qu,qu,Ep t]
theorem D2{X:Cx}{o:Obj}(I:Inv X pins σ H s)(e:H a=some (.bg o<|.dT kvs)):
  (a==sysModules)=false/\∃ (es:Array DictEntry) (ep:Nat),s.heap.get? a=some o/\o.ExactDict/\o.data=.dict es ep/\es.size=kvs.length/\∀ (i:Nat) (k:Qa Key) (v:V),kvs[i]?=some (k,v)->∃ (b:Qg) (x:DictEntry),es[i]?=some x/\x.key=.ref b/\aP X.K H b (k.map kV):=by
 have(ea,z,y,xs,r,o',es,ep,h1,h2,h3,h4,h5):=(show zI X.prog X.w X.K H s.heap a (.bg o<|.dT kvs) from I.aw a _ e);rw[ea]at h1;cases h1;refine⟨y,es,ep,ea,h2,h3,?_,λi k v hi=>?_⟩
 .have:=congrArg List.length h4
  rw[Array.length_toList,List.length_map,<-Ep r]at this;exact this
 .have(q,hq,r1,r2,_):=K4 r i (k,v) hi
  refine⟨q.2.1,entryOfKey (tupleKind<|zC X.prog X.w) q,?_,rfl,r2⟩;have:es.toList[i]?=some (entryOfKey (tupleKind<|zC X.prog X.w) q):=by rw[h4,List.getElem?_map,hq]; rfl
  simpa using this
def Bt(K:qc)(a:Qg)(o:Obj)(kvs:Qa (Qa Key×V)):It :=
 ⟨λi H=>H a=some (.bg o<|.dT kvs)/\i < kvs.length,λi H x H'=>H'=H/\∀ k v,kvs[i]?=some (k,v)->∃ b,x=.ref b/\aP K H b (k.map kV),λi H=>H a=some (.bg o<|.dT kvs)/\kvs.length<=i⟩
theorem ZT(a it:Qg)(o:Obj)(kvs:Qa (Qa Key×V))(ep:Nat)(NS:∃ es,o.data=.dict es ep):Turn P w K tg (Bt K a o kvs) [it] it (λi h=>h.IsKeyIter it a i kvs.length ep) where
 mem:=by simp
 obj:=λi h st b hb=>by
  have e:b=it:=by simpa using hb
  subst e;have(oi,e,c,d):=st;exact⟨oi,e,λv z=>by rw[d]at z; cases z⟩
 keep:=λi h h' st k=>st.at λoi e=>k it (by simp) oi e
 item:=by
  intro X hP hw hK hc i pins s σ H E I hf st hg;subst hP hw hK;have(e,hi):=hg;have(FN,es,gJ,ea,xd,dat,hsz,ent):=D2 I e;have Gp:gJ=ep:=by
   have(rD,z):=NS;rw[dat]at z;injection z
  subst Gp;have(f0,f1,f2,f3,f4,f5):=hf it (by simp);have(b,x,ex,kx,hb):=ent i kvs[i].1 kvs[i].2 (qm hi);refine W2 (es:=es) (by rw[hsz]; exact st) ⟨o,ea,xd,dat⟩ ex λh' gT sb=>?_;have I1:Inv X pins σ H {s with heap:=h'}:=I.turned (t':=s.toks) (λb o hb e=>(sb.2 b hb).trans e) f0 f1 f3 f4 f5;have(oi,e',c',d'):=id gT;rw[kx];refine⟨.ref b,rfl,uJ (s:={s with heap:=h'}) e' c' d' (by decide) ⟨.ref b,H,I1,rfl,⟨rfl,λk v tR=>⟨b,rfl,?_⟩⟩,by rw[hsz]at gT; exact gT,λb hb=>(hf b hb).1⟩⟩;rw[qm hi]at tR;rw[qx tR]at hb;exact hb
 done:=by
  intro X hP hw hK hc i pins s σ H E I hf st hg;subst hP hw hK;have(e,hi):=hg;have(FN,es,gJ,ea,xd,dat,hsz,ent):=D2 I e;have Gp:gJ=ep:=by
   have(rD,z):=NS;rw[dat]at z;injection z
  subst Gp;have(f0,f1,f2,f3,f4,f5):=hf it (by simp);exact UZ (es:=es) (I.ok.hd hc) (by rw[hsz]; exact st) ⟨o,ea,xd,dat⟩ (by omega) λh' eb=>⟨rfl,I.turned (t':=s.toks) (λb o hb e=>eb b o hb e) f0 f1 f3 f4 f5⟩
 self:=λ_ _ _ _ _ st h=>wpAny_pyIter_keyiter st h
section
variable{X:Cx}
theorem Inv.freeze(I:Inv X pins σ H s)(e:H a=some (.dT kvs)):∃ o,s.heap.get? a=some o/\Inv X pins σ (upd H a<|.bg o<|.dT kvs) s:=by
 have ok:=(show zI X.prog X.w X.K H s.heap a (.dT kvs) from I.aw a _ e);have(z,y,xs,r,o,es,ep,h1,h2):=id ok;refine⟨o,h1,?_⟩;have Fd:zI X.prog X.w X.K (upd H a<|.bg o<|.dT kvs) s.heap a (.dT kvs):=ok.cz (λ_ _ _ q=>q) (λb q=>by rw[zt<|sA q e (by intro z; cases z)]; exact q) λb ys q=>by rw[zt<|sA q e (by intro z; cases z)]; exact q
 exact I.write (t':=s.toks) (h':=s.heap) (by rw[e]; trivial) (.inl rfl) (λ_ _ _ q=>q) ⟨o,h1⟩ ⟨h1,Fd⟩
def Ig(K:qc)(td:TE):TI:=λσ H R=>td σ H λx H1=>∃ a kvs,x=.ref a/\((H1 a=some (.dT kvs)/\∀ o,R (Bt K a o kvs)<|upd H1 a<|.bg o<|.dT kvs)\/∃ o,H1 a=some (.bg o<|.dT kvs)/\R (Bt K a o kvs) H1)
theorem vn{d:Expr}(hd:Wr (PE X d td)):Wr (PI X tg d<|Ig X.K td):=by
 refine⟨?_⟩;intro pins s σ H R I h;refine aA (hd.run pins s σ H _ I h) λv s1 hZ=>?_;have(x,H1,I1,r1,q1):=hZ;have(a,kvs,e,q):=q1;subst e;cases r1;have key:∀ (H2:Hp) (o:Obj),Inv X pins σ H2 s1->H2 a=some (.bg o<|.dT kvs)->R (Bt X.K a o kvs) H2->wpAny (model X.prog X.w) X.A (pyIter<|.ref a) (Gz X pins σ tg R) X.xe s1:=λH2 o I2 e2 q2=>by
  have(FN,es,ep,ea,xd,dat,hsz,_):=D2 I2 e2;refine W3 (es:=es) FN ⟨o,ea,xd,dat⟩ λh' hit kk=>?_;refine⟨s1.heap.objs.size,[s1.heap.objs.size],_,_,H2,rfl,I2.kept (t':=s1.toks) kk,ZT a s1.heap.objs.size o kvs ep ⟨es,dat⟩,by rw[<-hsz]; exact hit,λb hb=>?_,q2⟩;have e:b=s1.heap.objs.size:=by simpa using hb
  subst e;exact I2.eY (qe _)<|I2.aw.fresh<|qe _
 rcases q with⟨e1,q⟩|⟨o,e1,q⟩
 .have(o,_,I2):=I1.freeze e1
  exact key _ o I2 zr<|q o
 .exact key H1 o I1 e1 q
end
end L2
namespace L2
open PySem PySem.Spec PyProof.Rows
open PySem.W (Looks)
def zBf(C p:Qg):Obj:={cls:=.ref C,data:=.fields #[.ref p,.none,.none,.none,.bool false,.none]}
section
variable{g:Array GenState}{d:Drawn}{t:Nat}{os:OsState}
variable{nm q:Str}{C N:Qg}{bs bm bmB:Qa Qc}{rm:Bool}{sn:Qa Str}{sub:Qa Qc}{ab:Bool}{col:Qb Bool}{dd:Qb Qg}{k0 k1 k2 k3 k5:Qb Qc}{B newId Fx:String}
end
abbrev EL:Qa Qc:=[.type "ValueError",.type "Exception",.type "BaseException",.type "object"]
structure XC (K:qc) (C:Qg):Prop where
 at_:∃ nm q N bs bm sn sub ab col dd k0 k1 k2 k3 k5,K.lookup C=some (excClassObj nm q C N bs bm true sn sub ab col dd k0 k1 k2 k3 k5 "ValueError.__new__")/\PySem.W.tailIn K EL bm=true
 ga:PySem.W.findIn K (.ref C) "__getattribute__"=some (some<|.builtin "BaseException.__getattribute__")
 gh:PySem.W.findIn K (.ref C) "__getattr__"=some none
 sa:PySem.W.findIn K (.ref C) "__setattr__"=some (some<|.builtin "object.__setattr__")
section
variable{C x:Qg}
end
end L2
namespace L2
open PySem PySem.Spec PyProof.Rows
open PySem.W (Looks InstAt)
section
variable{C x:Qg}
end
end L2
namespace L2
open PySem PySem.Spec PyProof.Rows
open PySem.W (Looks InstAt)
structure XI (K:qc) (C:Qg):Prop where
 cl:XC K C
 ca:PySem.W.findIn K (.ref C) "__class__"=some (some<|.builtin "object.__class__")
 cg:PySem.W.specialIn K (.builtin "object.__class__") "__get__"=some (some<|.builtin "getset_descriptor.__get__")
 ct:PySem.W.takesIn K (.builtin "object.__class__")=some true
 cm:PySem.W.mroIn K C (.type "object")=some true
section
variable{C x:Qg}
end
end L2
namespace L2
open PySem PySem.Spec PyProof.Rows
open PySem.W (Looks InstAt)
def XV(H:Hp)(a C:Qg)(fs:Qa (Str×V)):Prop:=∃ ox,H a=some (.bg ox<|.own 0)/\ox.cls=.ref C/\PySem.W.notCls ox=true/\
 ((fs=[]/\ox.dict=none)\/∃ od dx,ox.dict=some dx/\H dx=some (.bg od<|.xd fs))
section
variable{X:Cx}{C:Qg}{fs:Qa (Str×V)}
end
section
variable{X:Cx}{CX:iU}{k:Nat}{f C:Qg}{E:XK}{es:Qa Expr}{t:TA}
end
end L2
namespace L2
open PySem PySem.Spec PyProof.Rows
open PySem.W (Looks InstAt)
section
variable{C x:Qg}
end
section
variable{X:Cx}{C:Qg}
end
end L2
namespace L2
open PySem PySem.Spec PyProof.Rows
open PySem.W (Looks InstAt)
def zBg(a C:Qg)(d tb:Qb Qg)(h:Heap):Prop:=∃ oe vs,h.get? a=some oe/\oe.cls=.ref C/\oe.dict=d/\oe.data=.fields vs/\vs[1]?=some (tb.elim .none .ref)/\(tb=none->∃ p,oe={zBf C p with dict:=d})
def pTb(T:Qg)(h:Heap):Prop:=∃ oT ts,h.get? T=some oT/\oT.data=.fields ts/\ts[3]?=some .none
def zBh(a C:Qg)(d tb:Qb Qg):HO:=.ext (zBg a C d tb)
def xTb(T:Qg):HO:=.ext (pTb T)
def zBi(H:Hp)(a C:Qg)(fs:Qa (Str×V)):Prop:=∃ d tb,H a=some (zBh a C d tb)/\(∀ T,tb=some T->H T=some (xTb T)/\T≠a)/\
 ((fs=[]/\d=none)\/∃ od dx,d=some dx/\H dx=some (.bg od<|.xd fs))
section
variable{X:Cx}{h':Heap}
end
end L2
namespace L2
open PySem PySem.Spec PyProof.Rows
open PySem.W (Looks InstAt)
abbrev e9:=St->Qg->Hp->Prop
section
variable{X:Cx}{EX:e9}
end
section
variable{X:Cx}{C:Qg}
end
def CXv(P:Qe)(w:Qh)(K:qc):iU:=λouter H s E e s'=>∃ a H',e=.ref a/\s'.os=s.os/\AllBare s'.gens/\Un (ji outer) [] H H' s.heap s'.heap/\bD P w K H' s'.heap/\E e none H'
section
variable{X:Cx}{EX:e9}{k:Nat}{f:Qg}{es:Qa Expr}{t:TA}
end
end L2
namespace L2
open PySem PySem.Spec PyProof.Rows
open PySem.W (Looks InstAt)
abbrev Cx.body(X:Cx)(pn:Qa (Qg×Obj))(E:Qc->Qd->Prop):Cx:={X with pn:=pn,xe:=E}
section
variable{X:Cx}{pn:Qa (Qg×Obj)}
end
section
variable{C C':Qg}
end
section
variable{X:Cx}{n cls:Str}{C':Qg}{body Ng:Qa Stmt}{b₀:Stmt}{tb:e9->TS}{th:TS}{np hpos:Pos}
end
end L2
namespace L2
open PySem PySem.Spec PyProof.Rows
abbrev D:=PyData
def wc:Key->D
 | .inl i=>.int i
 | .inr x=>.str x
def jH(ks:Qa Key):D:=.tuple (ks.map wc)
def PL(K:qc)(H:Hp)(a:Qg)(xs:Qa V):Prop :=
 (∃ o,H a=some (.bg o<|.lst xs))\/∃ (o:Obj) (ai:Array Qc) (n:Nat),K.lookup a=some o/\o.cls=.type "list"/\o.dict=none/\o.data=.seq ai n/\ai.size<=sizeLine/\zF xs ai.toList
def XN(K:qc)(n:Str)(C:Qg):Prop:=PySem.W.nsIn K mainGlobals n=some (some<|.ref C)
def jF:Qa (D×D)->Bool
 | (.none,_)::_=>false
 | (.bool _,_)::_=>false
 | _=>true
theorem aP.sq{xs:Qa V}(h:aP K H a xs):bj K H a xs:=h.imp .inl λ⟨o,i,n,a,b,c,d,e,_⟩=>⟨o,i,n,a,b,c,d,e⟩
theorem aP.kp{xs:Qa V}(e:Kp H H')(h:aP K H a xs):aP K H' a xs:=h.keeps e.tup
mutual
inductive DF (K:qc) (H:Hp):V->D->Prop
 | aI:DF K H .aI .none
 | bl (b:Bool):DF K H (.bl b) (.bool b)
 | int (i:Int):DF K H (.int i) (.int i)
 | str (x:Str):DF K H (.str x) (.str x)
 | tup {a:Qg} {xs:Qa V} {ds:Qa D} (h:aP K H a xs) (t:aK K H xs ds):DF K H (.ref a) (.tuple ds)
 | lst {a:Qg} {xs:Qa V} {ds:Qa D} (h:PL K H a xs) (t:aK K H xs ds):DF K H (.ref a) (.list ds)
 | e8 {a:Qg} {o:Obj} {ws:Qa (Qa Key×V)} {kvs:Qa (D×D)} (h:H a=some (.bg o<|.dT ws)) (t:iC K H ws kvs):DF K H (.ref a) (.dict kvs)
 | exc {a C:Qg} {n:Str} {fs:Qa (Str×V)} {ds:Qa (D×D)} (h:XV H a C fs) (e:XN K n C) (t:jK K H fs ds):DF K H (.ref a) (.dict<|(.none,.str n)::ds)
 | obj {a C dx:Qg} {o:Obj} {n:Str} {fs:Qa (Str×V)} {ds:Qa (D×D)} (h:H a=some (.bg o<|.ins C dx fs)) (e:XN K n C) (t:jK K H fs ds):DF K H (.ref a) (.dict<|(.bool true,.str n)::ds)
inductive aK (K:qc) (H:Hp):Qa V->Qa D->Prop
 | nil:aK K H [] []
 | cons {v:V} {d:D} {vs:Qa V} {ds:Qa D} (h:DF K H v d) (t:aK K H vs ds):aK K H (v::vs) (d::ds)
inductive iC (K:qc) (H:Hp):Qa (Qa Key×V)->Qa (D×D)->Prop
 | nil:iC K H [] []
 | cons {k:Qa Key} {v:V} {d:D} {vs:Qa (Qa Key×V)} {ds:Qa (D×D)} (h:DF K H v d) (t:iC K H vs ds):iC K H ((k,v)::vs) ((jH k,d)::ds)
inductive jK (K:qc) (H:Hp):Qa (Str×V)->Qa (D×D)->Prop
 | nil:jK K H [] []
 | cons {k:Str} {v:V} {d:D} {vs:Qa (Str×V)} {ds:Qa (D×D)} (h:DF K H v d) (t:jK K H vs ds):jK K H ((k,v)::vs) ((.str k,d)::ds)
end
theorem XV.kp{C:Qg}{fs:Qa (Str×V)}(e:Kp H H')(h:XV H a C fs):XV H' a C fs:=by
 have(ox,h1,h2,h3,h4):=h;refine⟨ox,e.bg _ _ _ h1,h2,h3,?_⟩;rcases h4 with h4|⟨od,dx,h5,h6⟩
 .exact .inl h4
 .exact .inr ⟨od,dx,h5,e.bg _ _ _ h6⟩
theorem PL.kp{xs:Qa V}(e:Kp H H')(h:PL K H a xs):PL K H' a xs:=by
 rcases h with⟨o,h⟩|h
 .exact .inl ⟨o,e.bg _ _ _ h⟩
 .exact .inr h
theorem PL.sq{xs:Qa V}(h:PL K H a xs):bq K H a xs:=by
 rcases h with⟨o,h⟩|h
 .exact .inl (.inr ⟨o,h⟩)
 .exact .inr h
mutual
theorem DF.kp(e:Kp H H'):∀ {v:V} {d:D},DF K H v d->DF K H' v d
 | _,_,.aI=>.aI
 | _,_,.bl b=>.bl b
 | _,_,.int i=>.int i
 | _,_,.str x=>.str x
 | _,_,.tup h t=>.tup (h.keeps e.tup)<|aK.kp e t
 | _,_,.lst h t=>.lst (h.kp e)<|aK.kp e t
 | _,_,.e8 h t=>.e8 (e.bg _ _ _ h)<|iC.kp e t
 | _,_,.exc h n t=>.exc (h.kp e) n<|jK.kp e t
 | _,_,.obj h n t=>.obj (e.bg _ _ _ h) n<|jK.kp e t
theorem aK.kp(e:Kp H H'):∀ {v:Qa V} {d:Qa D},aK K H v d->aK K H' v d
 | _,_,.nil=>.nil
 | _,_,.cons h t=>.cons (DF.kp e h)<|aK.kp e t
theorem iC.kp(e:Kp H H'):∀ {v:Qa (Qa Key×V)} {d:Qa (D×D)},iC K H v d->iC K H' v d
 | _,_,.nil=>.nil
 | _,_,.cons h t=>.cons (DF.kp e h)<|iC.kp e t
theorem jK.kp(e:Kp H H'):∀ {v:Qa (Str×V)} {d:Qa (D×D)},jK K H v d->jK K H' v d
 | _,_,.nil=>.nil
 | _,_,.cons h t=>.cons (DF.kp e h)<|jK.kp e t
end
section
theorem aK.snoc{d:D}(h:DF K H v d):∀ {vs:Qa V} {ds:Qa D},aK K H vs ds->aK K H (vs++[v]) (ds++[d])
 | _,_,.nil=>.cons h .nil
 | _,_,.cons a t=>.cons a<|aK.snoc h t
theorem aK.app:∀ {vs ws:Qa V} {ds es:Qa D},aK K H vs ds->aK K H ws es->aK K H (vs++ws) (ds++es)
 | _,_,_,_,.nil,q=>q
 | _,_,_,_,.cons a t,q=>.cons a<|aK.app t q
theorem aK.len:∀ {vs:Qa V} {ds:Qa D},aK K H vs ds->vs.length=ds.length
 | _,_,.nil=>rfl
 | _,_,.cons _ t=>congrArg (·+1)<|aK.len t
theorem aK.get:∀ {vs:Qa V} {ds:Qa D} {i:Nat} {d:D},aK K H vs ds->ds[i]?=some d->∃ v,vs[i]?=some v/\DF K H v d
 | _,_,0,_,.cons h _,e=>by
  cases(show some _=some _ from e);exact⟨_,rfl,h⟩
 | _,_,i+1,_,.cons _ t,e=>aK.get (i:=i) t e
 | _,_,0,_,.nil,e=>by cases e
 | _,_,_+1,_,.nil,e=>by cases e
theorem aK.take:∀ {vs:Qa V} {ds:Qa D} (n:Nat),aK K H vs ds->aK K H (vs.take n) (ds.take n)
 | _,_,0,_=>by simpa using aK.nil
 | _,_,n+1,.nil=>by simpa using aK.nil
 | _,_,n+1,.cons h t=>.cons h<|aK.take n t
theorem aK.drop:∀ {vs:Qa V} {ds:Qa D} (n:Nat),aK K H vs ds->aK K H (vs.drop n) (ds.drop n)
 | _,_,0,q=>q
 | _,_,n+1,.nil=>by simpa using aK.nil
 | _,_,n+1,.cons h t=>aK.drop n t
theorem aK.set{d:D}(h:DF K H v d):∀ {vs:Qa V} {ds:Qa D} (n:Nat),aK K H vs ds->aK K H (vs.set n v) (ds.set n d)
 | _,_,_,.nil=>.nil
 | _,_,0,.cons _ t=>.cons h t
 | _,_,n+1,.cons a t=>.cons a<|aK.set h n t
end
inductive PU where
 | d (x:D) | l (xs:Qa D) | t (kvs:Qa (Qa Key×D)) | x (kvs:Qa (Qa K3×D))
inductive U where
 | d (x:D)
 | l (xs:Qa D) | t (kvs:Qa (Qa Key×D)) | k (kvs:Qa (Key×D))
 | o (c:Str) (fs:Qa (Str×PU))
def U.own:U->Bool
 | .d _=>false
 | _=>true
def dn(K:qc)(H:Hp):Qa (κ×V)->Qa (κ×D)->Prop:=Paired λp q=>p.1=q.1/\DF K H p.2 q.2
def dF(C dx:Qg)(vs:Qa (Str×V)):Qa (Qg×HO)->HO
 | []=>.ins C dx vs
 | (b,p)::r=>.sub b p<|dF C dx vs r
inductive FO (K:qc) (H:Hp):Qa (Str×V)->Qa (Qg×HO)->Qa (Str×PU)->Prop
 | nil:FO K H [] [] []
 | d {n:Str} {v:V} {x:D} {vs:Qa (Str×V)} {ps:Qa (Qg×HO)} {fs:Qa (Str×PU)} (h:DF K H v x) (t:FO K H vs ps fs):FO K H ((n,v)::vs) ps ((n,.d x)::fs)
 | l {n:Str} {b:Qg} {us:Qa V} {xs:Qa D} {vs:Qa (Str×V)} {ps:Qa (Qg×HO)} {fs:Qa (Str×PU)} (h:aK K H us xs) (t:FO K H vs ps fs):FO K H ((n,.ref b)::vs) ((b,.lst us)::ps) ((n,.l xs)::fs)
 | t {n:Str} {b:Qg} {us:Qa (Qa Key×V)} {xs:Qa (Qa Key×D)} {vs:Qa (Str×V)} {ps:Qa (Qg×HO)} {fs:Qa (Str×PU)} (h:dn K H us xs) (t:FO K H vs ps fs):FO K H ((n,.ref b)::vs) ((b,.dT us)::ps) ((n,.t xs)::fs)
 | x {n:Str} {b:Qg} {us:Qa (Qa K3×V)} {xs:Qa (Qa K3×D)} {vs:Qa (Str×V)} {ps:Qa (Qg×HO)} {fs:Qa (Str×PU)} (h:dn K H us xs) (t:FO K H vs ps fs):FO K H ((n,.ref b)::vs) ((b,.dX us)::ps) ((n,.x xs)::fs)
def Rp(K:qc)(H:Hp)(v:V):U->Prop
 | .d x=>DF K H v x
 | .l xs=>∃ a us,v=.ref a/\H a=some (.lst us)/\aK K H us xs
 | .t kvs=>∃ a ws,v=.ref a/\H a=some (.dT ws)/\dn K H ws kvs
 | .k kvs=>∃ a ws,v=.ref a/\H a=some (.dK ws)/\dn K H ws kvs
 | .o c fs=>∃ a C dx vs ps,v=.ref a/\H a=some (dF C dx vs ps)/\ps≠[]/\XN K c C/\(ps.map (·.1)).Nodup/\FO K H vs ps fs/\dx∉ps.map (·.1)/\∀ q∈ps,H q.1=some (.own a)
def Mo:HO->Prop
 | .lst _=>True
 | .dT _=>True
 | .dK _=>True
 | .sub _ _ _=>True
 | _=>False
theorem Mo.dF{C:Qg}{ps:Qa (Qg×HO)}(h:ps≠[]):Mo (dF C dx vs ps):=by
 cases ps with
 | nil=>exact absurd rfl h
 | cons p r=>trivial
theorem Rp.own{u:U}(h:Rp K H v u)(o:u.own=true):∃ a c,v=.ref a/\H a=some c/\Mo c:=by
 cases u with
 | d x=>cases o
 | l xs=>have(a,us,e,q,_):=h; exact⟨a,_,e,q,trivial⟩
 | t xs=>have(a,us,e,q,_):=h; exact⟨a,_,e,q,trivial⟩
 | k xs=>have(a,us,e,q,_):=h; exact⟨a,_,e,q,trivial⟩
 | o c fs=>have(a,C,dx,vs,ps,e,q,n,_):=h; exact⟨a,_,e,q,Mo.dF n⟩
theorem dn.kp(e:Kp H H'){kvs:Qa (κ×D)}(h:dn K H ws kvs):dn K H' ws kvs:=Paired.gF h λ_ _ z=>⟨z.1,z.2.kp e⟩
theorem FO.kp(e:Kp H H'){ps:Qa (Qg×HO)}{fs:Qa (Str×PU)}(h:FO K H vs ps fs):FO K H' vs ps fs:=by
 induction h with
 | nil=>exact .nil
 | d h _ ih=>exact .d (h.kp e) ih
 | l h _ ih=>exact .l (h.kp e) ih
 | t h _ ih=>exact .t (h.kp e) ih
 | x h _ ih=>exact .x (h.kp e) ih
theorem Rp.kp{u:U}(h:Rp K H v u)(e:Kp H H')(o:u.own=true->∀ a c,v=.ref a->H a=some c->H' a=some c):Rp K H' v u:=by
 cases u with
 | d x=>exact DF.kp e h
 | l xs=>have(a,us,ev,q,t):=h; exact⟨a,us,ev,o rfl a _ ev q,t.kp e⟩
 | t xs=>have(a,us,ev,q,t):=h; exact⟨a,us,ev,o rfl a _ ev q,t.kp e⟩
 | k xs=>have(a,us,ev,q,t):=h; exact⟨a,us,ev,o rfl a _ ev q,t.kp e⟩
 | o c fs=>have(a,C,dx,vs,ps,ev,q,n,x,nd,t,d,w):=h; exact⟨a,C,dx,vs,ps,ev,o rfl a _ ev q,n,x,nd,t.kp e,d,λz hz=>e.own _ _<|w z hz⟩
abbrev En:=Qa (Qb U)
def Ow(ρ:En)(σ:St)(a:Qg):Prop:=∃ (i:Nat) (u:U),ρ[i]?=some (some u)/\u.own=true/\σ[i]?=some (some<|.ref a)
structure Rs (K:qc) (ρ:En) (σ:St) (H:Hp):Prop where
 len:ρ.length=σ.length
 rep:∀ (i:Nat) (u:U),ρ[i]?=some (some u)->∃ v,σ[i]?=some (some v)/\Rp K H v u
 apart:∀ (i j:Nat) (u w:U),ρ[i]?=some (some u)->ρ[j]?=some (some w)->u.own=true->w.own=true->σ[i]?=σ[j]?->i=j
def w5(A:Qg->Prop)(H H':Hp):Prop:=∀ a o,H a=some o->¬A a->H' a=some o
structure fY (ρ af:En):Prop where
 len:af.length=ρ.length
 own:∀ (i:Nat) (u:U),af[i]?=some (some u)->u.own=true->∃ w,ρ[i]?=some (some w)/\w.own=true
 live:∀ (i:Nat) (u:U),ρ[i]?=some (some u)->∃ w,af[i]?=some (some w)
def Nw(H:Hp)(v:V)(u:U):Prop:=u.own=true->∃ a,v=.ref a/\H a=none
structure Go (K:qc) (ρ:En) (σ:St) (H:Hp) (af:En) (H':Hp):Prop where
 rs:Rs K af σ H'
 fr:w5 (Ow ρ σ) H H'
 shr:fY ρ af
 dm:∀ a,H' a=none->H a=none
section
variable{ρ af cM:En}{pj:Hp}
theorem Rs.ow(r:Rs K ρ σ H)(o:Ow ρ σ a):∃ c,H a=some c/\Mo c:=by
 have(i,u,e,ou,es):=o;have(v,ev,p):=r.rep i u e;rw[es]at ev;cases ev;have(b,c,eb,q,m):=p.own ou;cases eb;exact⟨c,q,m⟩
theorem w5.kp(r:Rs K ρ σ H)(f:w5 (Ow ρ σ) H H'):Kp H H':=by
 refine⟨λb xs h=>f b _ h λo=>?_,λb ob u h=>f b _ h λo=>?_,λb x h=>f b _ h λo=>?_⟩
 all_goals
  have(c,q,m):=r.ow o;rw[h]at q;cases q;exact m
theorem fY.refl(ρ:En):fY ρ ρ:=⟨rfl,λi u e o=>⟨u,e,o⟩,λi u e=>⟨u,e⟩⟩
theorem fY.trans(a:fY ρ af)(b:fY af cM):fY ρ cM:=⟨b.1.trans a.1,λi u e o=>let ⟨w,e',o'⟩:=b.2 i u e o; a.2 i w e' o',λi u e=>let ⟨w,e'⟩:=a.3 i u e; b.3 i w e'⟩
theorem fY.ow(s:fY ρ af)(o:Ow af σ a):Ow ρ σ a:=by
 have(i,u,e,ou,es):=o;have(w,e',o'):=s.2 i u e ou;exact⟨i,w,e',o',es⟩
theorem Go.refl(r:Rs K ρ σ H):Go K ρ σ H ρ H:=⟨r,λ_ _ h _=>h,fY.refl _,λ_ h=>h⟩
theorem Go.trans(a:Go K ρ σ H af H')(b:Go K af σ H' cM pj):Go K ρ σ H cM pj :=
 ⟨b.rs,λc o h n=>b.fr c o (a.fr c o h n) λz=>n<|a.shr.ow z,a.shr.trans b.shr,λc h=>a.dm c<|b.dm c h⟩
theorem Go.kp(r:Rs K ρ σ H)(g:Go K ρ σ H af H'):Kp H H':=g.fr.kp r
theorem Go.cz{u:U}(r:Rs K ρ σ H)(g:Go K ρ σ H af H')(h:Rp K H v u)(n:u.own=true->∃ a,v=.ref a/\¬Ow ρ σ a):Rp K H' v u:=by
 refine h.kp (g.kp r) λo a c ev q=>?_;have(b,eb,nb):=n o;cases ev;cases eb;exact g.fr _ _ q nb
theorem Nw.out{u:U}(r:Rs K ρ σ H)(n:Nw H v u):u.own=true->∃ a,v=.ref a/\¬Ow ρ σ a:=λo=>by
 have(a,e,h):=n o;refine⟨a,e,λz=>?_⟩;have(c,q,_):=r.ow z;rw[h]at q;cases q
theorem cn.dm(s:cn H H'):∀ a,H' a=none->H a=none:=λa h=>by
 cases e:H a with
 | none=>rfl
 | some o=>rw[s a o e]at h; cases h
theorem Go.grow(r:Rs K ρ σ H)(s:cn H H'):Go K ρ σ H ρ H' :=
 ⟨⟨r.len,λi u e=>let ⟨v,ev,p⟩:=r.rep i u e; ⟨v,ev,p.kp s.kp λ_ a c _ q=>s a c q⟩,r.apart⟩,λa o h _=>s a o h,fY.refl _,s.dm⟩
end
inductive Ar where
 | s (i:Nat) | u (x:U)
def Ar.get(ρ:En):Ar->Qb U
 | .s i=>(ρ[i]?).join
 | .u x=>some x
def jN(K:qc)(ρ:En)(σ:St)(H H':Hp)(v:V):Ar->Prop
 | .s i=>σ[i]?=some (some v)/\∃ u,ρ[i]?=some (some u)
 | .u x=>Rp K H' v x/\Nw H v x
abbrev ME:=En->Qb (Ar×En)
abbrev MA:=En->Qb (Qa Ar×En)
abbrev MT:=En->Qb (Bool×En)
def VE(K:qc)(t:TE)(m:ME):Prop :=
 ∀ (ρ:En) (σ:St) (H:Hp) (a:Ar) (af:En) (Q:VK),Rs K ρ σ H->m ρ=some (a,af)->(∀ v H',Go K ρ σ H af H'->jN K af σ H H' v a->Q v H')->t σ H Q
def VT(K:qc)(t:TT)(m:MT):Prop :=
 ∀ (ρ:En) (σ:St) (H:Hp) (b:Bool) (af:En) (Q:Bool->Hp->Prop),Rs K ρ σ H->m ρ=some (b,af)->(∀ H',Go K ρ σ H af H'->Q b H')->t σ H Q
structure Bx (K:qc) (ρ:En) (σ:St) (H H':Hp) (vs:Qa V) (as:Qa Ar):Prop where
 len:vs.length=as.length
 ar:∀ (i:Nat) (a:Ar),as[i]?=some a->∃ v,vs[i]?=some v/\jN K ρ σ H H' v a
 ap:∀ (i j:Nat) (x y:U),as[i]?=some (.u x)->as[j]?=some (.u y)->x.own=true->y.own=true->vs[i]?=vs[j]?->i=j
def jj(K:qc)(t:TA)(m:MA):Prop :=
 ∀ (ρ:En) (σ:St) (H:Hp) (as:Qa Ar) (af:En) (Q:Qa V->Hp->Prop),Rs K ρ σ H->m ρ=some (as,af)->(∀ vs H',Go K ρ σ H af H'->Bx K af σ H H' vs as->Q vs H')->t σ H Q
section
variable{ρ af cM:En}{pj:Hp}{a:Ar}{u:U}
theorem Nw.mono(n:Nw H' v u)(h:∀ a,H' a=none->H a=none):Nw H v u:=λo=>let ⟨a,e,q⟩:=n o; ⟨a,e,h a q⟩
theorem Nw.m7(r:Rs K ρ σ H)(g:Go K ρ σ H af H')(n:Nw H v u):u.own=true->∃ a,v=.ref a/\¬Ow af σ a:=λo=>by
 have(b,e,q):=n.out r o;exact⟨b,e,λz=>q<|g.shr.ow z⟩
theorem jN.later(r:Rs K ρ σ H)(g1:Go K ρ σ H af H')(g2:Go K af σ H' cM pj)(h:jN K af σ H H' v a)(e:a.get cM=some u):Rp K pj v u:=by
 cases a with
 | s i=>
  have(es,_):=h;have e':cM[i]?=some (some u):=by
   cases q:cM[i]? with
   | none=>rw[show Ar.get cM (.s i)=(cM[i]?).join from rfl,q]at e; cases e
   | some o=>
    rw[show Ar.get cM (.s i)=(cM[i]?).join from rfl,q]at e;cases o with
    | none=>cases e
    | some x=>cases e; rfl
  have(w,ew,p):=g2.rs.rep i u e';rw[es]at ew;cases ew;exact p
 | u x=>
  cases(show some x=some u from e);exact g2.cz g1.rs h.1<|h.2.m7 r g1
theorem jN.now(r:Rs K ρ σ H)(g1:Go K ρ σ H af H')(h:jN K af σ H H' v a)(e:a.get af=some u):Rp K H' v u:=h.later r g1 (Go.refl g1.rs) e
theorem Nw.data{x:D}:Nw H v (.d x):=λo=>by cases o
def zj(i:Nat):ME:=λρ=>match ρ[i]? with
 | some (some _)=>some (.s i,ρ)
 | _=>none
theorem ze:VE K (dS i) (zj i):=by
 intro ρ σ H a af Q r e q;unfold zj at e;split at e
 .rename_i u eu
  cases e;have(v,ev,p):=r.rep i u eu;exact⟨v,ev,q v H (Go.refl r) ⟨ev,u,eu⟩⟩
 .cases e
def mC(x:D):ME:=λρ=>some (.u<|.d x,ρ)
theorem AF{c:V}{x:D}(h:∀ H,DF K H c x):VE K (tC c) (mC x):=by
 intro ρ σ H a af Q r e q;cases e;exact q _ _ (Go.refl r) ⟨h H,Nw.data⟩
theorem zm{n:Int}:VE K (tC<|.int n) (mC<|.int n):=AF λ_=>.int n
theorem b8{n:Str}:VE K (tC<|.str n) (mC<|.str n):=AF λ_=>.str n
theorem iE{n:Bool}:VE K (tC<|.bl n) (mC<|.bool n):=AF λ_=>.bl n
theorem CB:VE K (tC .aI) (mC .none):=AF λ_=>.aI
def VO(K:qc)(r:R2)(f:U->U->Qb U):Prop :=
 ∀ (x y:V) (a b u:U) (H:Hp) (Q:VK),Rp K H x a->Rp K H y b->f a b=some u->(∀ v H',cn H H'->Rp K H' v u->Nw H v u->Q v H')->r x y H Q
def aq(f:U->U->Qb U)(ma mb:ME):ME:=λρ=>(ma ρ).bind λp=>(mb p.2).bind λq=>(p.1.get q.2).bind λx=>(q.1.get q.2).bind λy=>(f x y).bind λu=>some (.u u,q.2)
theorem zb{o:Qb α}{f:α->Qb β}{b:β}(h:o.bind f=some b):∃ a,o=some a/\f a=some b:=Option.bind_eq_some_iff.mp h
theorem zp{r:R2}{f:U->U->Qb U}{ma mb:ME}(h:VO K r f)(ha:VE K ta ma)(hb:VE K tb mb):VE K (kC r ta tb) (aq f ma mb):=by
 intro ρ σ H a af Q rs e q;obtain⟨⟨a1,aj⟩,e1,e⟩:=zb e;obtain⟨⟨b1,au⟩,e2,e⟩:=zb e;have(x,ex,e):=zb e;have(y,ey,e):=zb e;have(u,eu,e):=zb e;cases e;refine ha ρ σ H a1 aj _ rs e1 λv1 H1 g1 k1=>hb aj σ H1 b1 au _ g1.rs e2 λv2 H2 g2 k2=>?_;refine h _ _ x y u H2 _ (k1.later rs g1 g2 ex) (k2.now g1.rs g2 ey) eu λv H3 s p n=>?_;exact q v H3 ((g1.trans g2).trans<|Go.grow g2.rs s) ⟨p,n.mono (g1.trans g2).dm⟩
def VU(K:qc)(r:V->Hp->VK->Prop)(f:U->Qb U):Prop :=
 ∀ (x:V) (a u:U) (H:Hp) (Q:VK),Rp K H x a->f a=some u->(∀ v H',cn H H'->Rp K H' v u->Nw H v u->Q v H')->r x H Q
def eJ(f:U->Qb U)(ma:ME):ME:=λρ=>(ma ρ).bind λp=>(p.1.get p.2).bind λx=>(f x).bind λu=>some (.u u,p.2)
theorem ud{r:V->Hp->VK->Prop}{f:U->Qb U}{ma:ME}(h:VU K r f)(ha:VE K ta ma):VE K (ER r ta) (eJ f ma):=by
 intro ρ σ H a af Q rs e q;obtain⟨⟨a1,aj⟩,e1,e⟩:=zb e;have(x,ex,e):=zb e;have(u,eu,e):=zb e;cases e;refine ha ρ σ H a1 aj _ rs e1 λv1 H1 g1 k1=>?_;refine h _ x u H1 _ (k1.now rs g1 ex) eu λv H3 s p n=>?_;exact q v H3 (g1.trans<|Go.grow g1.rs s) ⟨p,n.mono g1.dm⟩
def zq:MA:=λρ=>some ([],ρ)
def zf(me:ME)(ma:MA):MA:=λρ=>(me ρ).bind λp=>(ma p.2).bind λq=>some (p.1::q.1,q.2)
theorem zn:jj K iH zq:=by
 intro ρ σ H as af Q r e q;cases e;exact q [] H (Go.refl r) ⟨rfl,λi a e=>by simp at e,λi j x y e=>by simp at e⟩
theorem zd{t:TA}{me:ME}{ma:MA}(he:VE K te me)(ha:jj K t ma):jj K (iJ te t) (zf me ma):=by
 intro ρ σ H as af Q r e q;obtain⟨⟨a1,aj⟩,e1,e⟩:=zb e;obtain⟨⟨Bi,au⟩,e2,e⟩:=zb e;cases e;refine he ρ σ H a1 aj _ r e1 λv1 H1 g1 k1=>ha aj σ H1 Bi _ _ g1.rs e2 λvs H2 g2 s2=>?_;have E9:∀ x,a1=.u x->x.own=true->∃ b c,v1=.ref b/\H1 b=some c:=λx ea o=>by
  subst ea;have(b,c,eb,hb,_):=k1.1.own o;exact⟨b,c,eb,hb⟩
 have oth:∀ (j:Nat) (y:U),Bi[j]?=some (.u y)->y.own=true->∃ b,vs[j]?=some (.ref b)/\H1 b=none:=λj y ej o=>by
  have(v,ev,k):=s2.ar j _ ej;have(b,eb,hb):=k.2 o;subst eb;exact⟨b,ev,hb⟩
 have ne:∀ (x:U) (j:Nat) (y:U),a1=.u x->x.own=true->Bi[j]?=some (.u y)->y.own=true->some v1≠vs[j]?:=λx j y ea ox ej oy z=>by
  have(b,c,e1,h1):=E9 x ea ox;have(b',e2,h2):=oth j y ej oy;rw[e2,e1]at z;cases z;rw[h1]at h2;cases h2
 refine q (v1::vs) H2 (g1.trans g2) ⟨by simp[s2.len],λi a ei=>?_,λi j x y ei ej ox oy ev=>?_⟩
 .cases i with
  | zero=>
   cases(show some a1=some a from ei);refine⟨v1,rfl,?_⟩;cases a1 with
   | s k=>
    have(es,w,ew):=k1;exact⟨es,g2.shr.live k w ew⟩
   | u x=>exact⟨g2.cz g1.rs k1.1<|k1.2.m7 r g1,k1.2⟩
  | succ i=>
   have(v,ev,k):=s2.ar i a ei;refine⟨v,ev,?_⟩;cases a with
   | s k'=>exact k
   | u x=>exact⟨k.1,k.2.mono g1.dm⟩
 .cases i with
  | zero=>
   cases j with
   | zero=>rfl
   | succ j=>exact absurd ev<|ne x j y (qx ei) ox ej oy
  | succ i=>
   cases j with
   | zero=>exact absurd ev.symm<|ne y i x (qx ej) oy ei ox
   | succ j=>exact congrArg (·+1)<|s2.ap i j x y ei ej ox oy ev
end
end L2
namespace L2
open PySem PySem.Spec PyProof.Rows
open Classical in
def lS(c:Int->Int->Prop)(g:Int->Int->D):U->U->Qb U
 | .d (.int i),.d (.int j)=>if c i j then some (.d<|g i j)else none
 | _,_=>none
def fI(g:Int->Int->D):U->U->Qb U
 | .d (.int i),.d (.int j)=>some<|.d<|g i j
 | _,_=>none
section
theorem DF.int_inv{i:Int}(h:DF K H v (.int i)):v=.int i:=by cases h; rfl
theorem DF.str_inv(h:DF K H v (.str x)):v=.str x:=by cases h; rfl
theorem DF.bV{b:Bool}(h:DF K H v (.bool b)):v=.bl b:=by cases h; rfl
theorem DF.aB{ds:Qa D}(h:DF K H v (.tuple ds)):∃ a xs,v=.ref a/\aP K H a xs/\aK K H xs ds:=by cases h with|tup h t=>exact⟨_,_,rfl,h,t⟩
theorem DF.lst_inv{ds:Qa D}(h:DF K H v (.list ds)):∃ a xs,v=.ref a/\PL K H a xs/\aK K H xs ds:=by cases h with|lst h t=>exact⟨_,_,rfl,h,t⟩
theorem DF.cP{ds:Qa (D×D)}(h:DF K H v (.dict ds))(nx:jF ds=true):∃ a o ws,v=.ref a/\H a=some (.bg o<|.dT ws)/\iC K H ws ds:=by
 cases h with
 | e8 h t=>exact⟨_,_,_,rfl,h,t⟩
 | exc h n t=>cases nx
 | obj h n t=>cases nx
theorem si{c:Int->Int->Prop}{g:Int->Int->V}{gd:Int->Int->D}(h:∀ i j H,DF K H (g i j)<|gd i j):VO K (rI c g) (lS c gd):=by
 intro x y a b u H Q ha hb e q;unfold lS at e;split at e
 .rename_i i j
  split at e
  .rename_i hc
   cases e;exact⟨i,j,DF.int_inv ha,DF.int_inv hb,hc,q _ _ (λ_ _ z=>z) (h i j H) Nw.data⟩
  .cases e
 .cases e
theorem rT{g:Int->Int->V}{gd:Int->Int->D}(h:∀ i j H,DF K H (g i j)<|gd i j):VO K (ia g) (fI gd):=by
 intro x y a b u H Q ha hb e q;unfold fI at e;split at e
 .rename_i i j
  cases e;exact⟨i,j,DF.int_inv ha,DF.int_inv hb,q _ _ (λ_ _ z=>z) (h i j H) Nw.data⟩
 .cases e
def dM:=fI λi j=>.int<|i+j
def iY:=fI λi j=>.int<|i - j
def gR:=lS rN λi j=>.int<|i * j
def iX:=lS (λ_ j=>0 < j) λi j=>.int<|i % j
def uC:=lS uM λi j=>.int<|i / j
def xX:=lS su λi j=>.int<|i.fdiv j
def xu:=lS xo λi j=>.int<|i^j.toNat
def nG:=fI λi j=>.bool<|decide<|i < j
def tV:=fI λi j=>.bool<|decide<|i<=j
def wK:=fI λi j=>.bool<|decide<|j < i
def Gk:=fI λi j=>.bool<|decide<|j<=i
theorem eS:VO K (ia λi j=>.int<|i+j) dM:=rT λi j H=>.int _
theorem jZ:VO K (ia λi j=>.int<|i - j) iY:=rT λi j H=>.int _
theorem jy:VO K (rI rN λi j=>.int<|i * j) gR:=si λi j H=>.int _
theorem ly:VO K (rI (λ_ j=>0 < j) λi j=>.int<|i % j) iX:=si λi j H=>.int _
theorem Js:VO K (rI uM λi j=>.int<|i / j) uC:=si λi j H=>.int _
theorem Jr:VO K (rI su λi j=>.int<|i.fdiv j) xX:=si λi j H=>.int _
theorem RE:VO K (rI xo λi j=>.int<|i^j.toNat) xu:=si λi j H=>.int _
theorem pK:VO K (ia λi j=>.bl<|decide<|i < j) nG:=rT λi j H=>.bl _
theorem xW:VO K (ia λi j=>.bl<|decide<|i<=j) tV:=rT λi j H=>.bl _
theorem CA:VO K (ia λi j=>.bl<|decide<|j < i) wK:=rT λi j H=>.bl _
theorem Pr:VO K (ia λi j=>.bl<|decide<|j<=i) Gk:=rT λi j H=>.bl _
def nQ:U->Qb U
 | .d (.int i)=>some<|.d<|.int (-i)
 | _=>none
theorem uS:VU K (rU λi=>.int (-i)) nQ:=by
 intro x a u H Q ha e q;unfold nQ at e;split at e
 .rename_i i
  cases e;exact⟨i,DF.int_inv ha,q _ _ (λ_ _ z=>z) (.int _) Nw.data⟩
 .cases e
def U.py:U->Qb D
 | .d x=>some x
 | .l xs=>some<|.list xs
 | _=>none
mutual
theorem DF.dv:∀ {v:V} {d:D},DF K H v d->d.hasDict=false->DV K H v d
 | _,_,.aI,_=>.aI
 | _,_,.bl b,_=>.bl b
 | _,_,.int i,_=>.int i
 | _,_,.str x,_=>.str x
 | _,_,.tup h t,q=>.tup ((aP.sq h))<|aK.dv t (by simpa [PyData.hasDict] using q)
 | _,_,.lst h t,q=>.lst h.sq<|aK.dv t (by simpa [PyData.hasDict] using q)
 | _,_,.e8 h t,q=>by simp[PyData.hasDict]at q
 | _,_,.exc h n t,q=>by simp[PyData.hasDict]at q
 | _,_,.obj h n t,q=>by simp[PyData.hasDict]at q
theorem aK.dv:∀ {v:Qa V} {d:Qa D},aK K H v d->PyData.hasDictAll d=false->gi K H v d
 | _,_,.nil,_=>.nil
 | _,_,.cons h t,q=>by
  simp only[PyData.hasDictAll,Bool.or_eq_false_iff]at q;exact .cons (DF.dv h q.1)<|aK.dv t q.2
end
theorem Rp.dv{u:U}{x:D}(h:Rp K H v u)(e:u.py=some x)(q:x.hasDict=false):DV K H v x:=by
 cases u with
 | d y=>cases e; exact DF.dv h q
 | l xs=>
  cases e;have(a,us,rfl,h1,h2):=h;exact .lst (bq.of h1)<|aK.dv h2 (by simpa [PyData.hasDict] using q)
 | t=>cases e
 | k=>cases e
 | o=>cases e
mutual
theorem Ad:∀ (x:D),x.canLay0=true->x.hasDict=false
 | .none,_=>rfl
 | .bool _,_=>rfl
 | .int _,_=>rfl
 | .str _,_=>rfl
 | .list xs,h=>by simp only[PyData.hasDict]; exact bB xs (by simpa [PyData.canLay0] using h)
 | .tuple xs,h=>by simp only[PyData.hasDict]; exact bB xs (by simpa [PyData.canLay0] using h)
 | .dict _,h=>by simp[PyData.canLay0]at h
theorem bB:∀ (xs:Qa D),PyData.canLayAll0 xs=true->PyData.hasDictAll xs=false
 | [],_=>rfl
 | x::xs,h=>by
  simp only[PyData.canLayAll0,Bool.and_eq_true]at h;simp only[PyData.hasDictAll,Ad x h.1,bB xs h.2];rfl
end
def xD(K:qc)(neg:Bool):R2:=λx y H Q=>∃ a b,DV K H x a/\DV K H y b/\SeqAt.shaped a=true/\SeqAt.shaped b=true/\Q (.bl (if neg=true then !PyData.eqv a b else PyData.eqv a b)) H
theorem Ie{X:Cx}(K:qc)(hK:X.K=K){k:Nat}(hr:aD k X.A):bu X (compareOp .Eq) (xD K false):=by
 subst hK;intro pins s σ H x y v u Q I rx ry h;have(a,b,da,db,sa,sb,q):=h;have(as,ra):=DV.reads I da rx;have(bs,rb):=DV.reads I db ry;exact SeqAt.compareEq_shaped ra rb sa sb hr.units ⟨.bl _,H,I,rfl,q⟩
theorem Ic{X:Cx}(K:qc)(hK:X.K=K){k:Nat}(hr:aD k X.A):bu X (compareOp .NotEq) (xD K true):=by
 subst hK;intro pins s σ H x y v u Q I rx ry h;have(a,b,da,db,sa,sb,q):=h;have(as,ra):=DV.reads I da rx;have(bs,rb):=DV.reads I db ry;exact SeqAt.compareNe_shaped ra rb sa sb hr.units ⟨.bl _,H,I,rfl,q⟩
def l8(neg:Bool)(a b:U):Qb U:=a.py.bind λx=>b.py.bind λy=>if SeqAt.shaped x=true/\SeqAt.shaped y=true then some (.d<|.bool (if neg=true then !PyData.eqv x y else PyData.eqv x y))else none
theorem Dr(neg:Bool):VO K (xD K neg) (l8 neg):=by
 intro x y a b u H Q ha hb e q;have(dx,ex,e):=zb e;have(dy,ey,e):=zb e;split at e
 .rename_i hs
  cases e;exact⟨dx,dy,ha.dv ex<|Ad _<|SeqAt.canLay_of_shaped hs.1,hb.dv ey<|Ad _<|SeqAt.canLay_of_shaped hs.2,hs.1,hs.2,q _ _ (λ_ _ z=>z) (.bl _) Nw.data⟩
 .cases e
theorem aK.bp{xs:Qa V}{ds:Qa D}{i:Int}{d:D}(h:aK K H xs ds)(e:L2.bp ds i=some d):∃ v,L2.bp xs i=some v/\DF K H v d:=by
 unfold L2.bp at e ⊢;have(j,ej,e):=zb e;have(v,ev,k):=h.get e;refine⟨v,?_,k⟩;rw[h.len,ej];exact ev
def cT:U->U->Qb U
 | .l ds,.d (.int i)=>(bp ds i).map .d
 | .d (.list ds),.d (.int i)=>(bp ds i).map .d
 | _,_=>none
def aT:U->U->Qb U
 | .d (.tuple ds),.d (.int i)=>(bp ds i).map .d
 | _,_=>none
theorem eF:VO K (BR K) cT:=by
 intro x y a b u H Q ha hb e q;unfold cT at e;split at e
 .rename_i ds i
  have(d,ed,rfl):=qr.mp e;have(p,us,rfl,h1,h2):=ha;have(v,ev,k):=h2.bp ed;exact⟨p,us,i,v,rfl,DF.int_inv hb,bq.of h1,ev,q _ _ (λ_ _ z=>z) k Nw.data⟩
 .rename_i ds i
  have(d,ed,rfl):=qr.mp e;have(p,us,rfl,h1,h2):=DF.lst_inv ha;have(v,ev,k):=h2.bp ed;exact⟨p,us,i,v,rfl,DF.int_inv hb,h1.sq,ev,q _ _ (λ_ _ z=>z) k Nw.data⟩
 .cases e
theorem zE:VO K (um K) aT:=by
 intro x y a b u H Q ha hb e q;unfold aT at e;split at e
 .rename_i ds i
  have(d,ed,rfl):=qr.mp e;have(p,us,rfl,h1,h2):=DF.aB ha;have(v,ev,k):=h2.bp ed;exact⟨p,us,i,v,rfl,DF.int_inv hb,(aP.sq h1),ev,q _ _ (λ_ _ z=>z) k Nw.data⟩
 .cases e
end
end L2
namespace L2
open PySem PySem.Spec PyProof.Rows
section
variable{ρ af:En}
theorem i4{c:HO}(h:H a=some c)(m:Mo c)(o:HO):Kp H (upd H a o):=by
 refine⟨λb xs e=>?_,λb ob u e=>?_,λb x e=>?_⟩
 all_goals
  rw[zt<|sA e h (by rintro rfl; exact m)];exact e
theorem Go.own{u u':U}{o:HO}(r:Rs K ρ σ H)(e:ρ[i]?=some (some u))(ou:u.own=true)(es:σ[i]?=some (some<|.ref a))(p:Rp K (upd H a o) (.ref a) u'):Go K ρ σ H (ρ.set i<|some u') (upd H a o):=by
 have hi:i < ρ.length:=(qk.mp e).1;have(c,hc,mc):=r.ow ⟨i,u,e,ou,es⟩;have kp:=i4 hc mc o;refine⟨⟨by rw[List.length_set]; exact r.len,λj w ej=>?_,λj k w w' ej ek oj ok rD=>?_⟩,λb ob hb n=>?_,⟨List.length_set,λj w ej oj=>?_,λj w ej=>?_⟩,λb hb=>?_⟩
 .by_cases hj:i=j
  .subst hj
   rw[List.getElem?_set_self hi]at ej;cases ej;exact⟨_,es,p⟩
  .rw[qC hj]at ej
   have(v,ev,q):=r.rep j w ej;refine⟨v,ev,q.kp kp λow b c' eb hb=>?_⟩;have ne:b≠a:=by
    rintro rfl;exact hj<|r.apart i j u w e ej ou ow (by rw[es,ev,eb])
   rw[zt ne];exact hb
 .have own:∀ (j:Nat) (w:U),(ρ.set i<|some u')[j]?=some (some w)->w.own=true->∃ w',ρ[j]?=some (some w')/\w'.own=true:=λj w ej oj=>by
   by_cases hj:i=j
   .subst hj; exact⟨u,e,ou⟩
   .rw[qC hj]at ej; exact⟨w,ej,oj⟩
  have(x,ex,ox):=own j w ej oj;have(y,ey,oy):=own k w' ek ok;exact r.apart j k x y ex ey ox oy rD
 .have ne:b≠a:=by
   rintro rfl;exact n ⟨i,u,e,ou,es⟩
  rw[zt ne];exact hb
 .by_cases hj:i=j
  .subst hj; exact⟨u,e,ou⟩
  .rw[qC hj]at ej; exact⟨w,ej,oj⟩
 .by_cases hj:i=j
  .subst hj; exact⟨u',ß hi⟩
  .exact⟨w,by rw[qC hj]; exact ej⟩
 .by_cases gf:b=a
  .subst gf; rw[zr]at hb; cases hb
  .rw[zt gf]at hb; exact hb
theorem Rp.iO{u:U}(h:Rp K H v u)(o:u.own=true):∃ a,v=.ref a:=let ⟨a,_,e,_⟩:=h.own o; ⟨a,e⟩
def Fz(K:qc)(H:Hp)(v:V)(H':Hp):Prop :=
 (∃ a xs o,v=.ref a/\K.lookup a=none/\H a=some (.lst xs)/\H'=upd H a (.bg o<|.lst xs))\/(∃ a xs o,v=.ref a/\K.lookup a=none/\H a=some (.dT xs)/\H'=upd H a (.bg o<|.dT xs))\/
  ((∀ a,v=.ref a->(∀ xs,H a≠some (.lst xs))/\∀ xs,H a≠some (.dT xs))/\H'=H)
def EV(K:qc)(t:TE):TE:=λσ H Q=>t σ H λv H1=>∀ H2,Fz K H1 v H2->Q v H2
theorem Inv.nF{X:Cx}{xs:Qa V}(I:Inv X pins σ H s)(e:H a=some (.lst xs)):∃ o,s.heap.get? a=some o/\Inv X pins σ (upd H a<|.bg o<|.lst xs) s:=by
 have ok:=(show zI X.prog X.w X.K H s.heap a (.lst xs) from I.aw a _ e);have(z,ai,n,r,h1):=id ok;refine⟨_,h1,?_⟩;have Fd:zI X.prog X.w X.K (upd H a<|.bg {cls:=.type "list",data:=.seq ai.toArray n}<|.lst xs) s.heap a (.lst xs):=⟨z,ai,n,r,h1⟩;exact I.write (t':=s.toks) (h':=s.heap) (by rw[e]; trivial) (.inl rfl) (λ_ _ _ q=>q) ⟨_,h1⟩ ⟨h1,Fd⟩
theorem Pp{X:Cx}{t:TE}(h:PE X e t):PE X e (EV X.K t):=by
 intro pins s σ H Q I q;refine aA (h pins s σ H _ I q) λu s1 hZ=>?_;have(v,H1,I1,r,k):=hZ;have nk:∀ a c,H1 a=some c->X.K.lookup a=none:=λa c ea=>by
  cases q:X.K.lookup a with
  | none=>rfl
  | some o=>rw[(I1.bs a o<|I1.ok.mod.cY a o q).2]at ea; cases ea
 by_cases c1:∃ a xs,v=.ref a/\H1 a=some (.lst xs)
 .have(a,xs,ev,ea):=c1
  have(o,_,I2):=I1.nF ea;exact⟨v,_,I2,r,k _<|.inl ⟨a,xs,o,ev,nk a _ ea,ea,rfl⟩⟩
 .by_cases c2:∃ a xs,v=.ref a/\H1 a=some (.dT xs)
  .have(a,xs,ev,ea):=c2
   have(o,_,I2):=I1.freeze ea;exact⟨v,_,I2,r,k _<|.inr<|.inl ⟨a,xs,o,ev,nk a _ ea,ea,rfl⟩⟩
  .exact⟨v,H1,I1,r,k _<|.inr<|.inr ⟨λa ev=>⟨λxs z=>c1 ⟨a,xs,ev,z⟩,λxs z=>c2 ⟨a,xs,ev,z⟩⟩,rfl⟩⟩
theorem g6{X:Cx}{t:TE}(h:Wr (PE X e t))(hK:X.K=K:=by rfl):Wr (PE X e<|EV K t):=hK▸⟨Pp h.run⟩
def U.fz:U->Qb D
 | .d x=>some x
 | .l xs=>some<|.list xs
 | .t kvs=>some<|.dict<|kvs.map λp=>(jH p.1,p.2)
 | .k _=>none
 | .o _ _=>none
def fu(me:ME):ME:=λρ=>(me ρ).bind λp=>(p.1.get p.2).bind λu=>u.fz.bind λx=>some (.u<|.d x,match p.1 with | .s i=>p.2.set i (some<|.d x) | .u _=>p.2)
theorem RD{ws:Qa (Qa Key×V)}{kvs:Qa (Qa Key×D)}(h:dn K H ws kvs):iC K H ws (kvs.map λp=>(jH p.1,p.2)):=by
 induction h with
 | nil=>exact .nil
 | @cons p q ps qs hq t ih=>
  have(k,v):=p;have(k',d):=q;have(e,hd):=hq;cases(show k=k' from e);exact .cons hd ih
theorem Fz.rp{u:U}{x:D}(h:Fz K H v H')(p:Rp K H v u)(e:u.fz=some x):DF K H' v x/\(u.own=false->H'=H)/\(u.own=true->∃ a o,v=.ref a/\H'=upd H a o):=by
 cases u with
 | d y=>
  cases e;have k:H'=H:=by
   rcases h with⟨a,xs,o,rfl,nk,ea,_⟩|⟨a,xs,o,rfl,nk,ea,_⟩|⟨_,rfl⟩
   .exfalso
    cases(show DF K H _ _ from p)with
    | tup h _=>
     rcases h with h|⟨ob,ai,n,hk,_⟩
     .rw[ea]at h; cases h
     .rw[nk]at hk; cases hk
    | lst h _=>
     rcases h with⟨o,h⟩|⟨ob,ai,n,hk,_⟩
     .rw[ea]at h; cases h
     .rw[nk]at hk; cases hk
    | e8 h _=>rw[ea]at h; cases h
    | exc h _ _=>have(_,h,_):=h; rw[ea]at h; cases h
    | obj h _ _=>rw[ea]at h; cases h
   .exfalso
    cases(show DF K H _ _ from p)with
    | tup h _=>
     rcases h with h|⟨ob,ai,n,hk,_⟩
     .rw[ea]at h; cases h
     .rw[nk]at hk; cases hk
    | lst h _=>
     rcases h with⟨o,h⟩|⟨ob,ai,n,hk,_⟩
     .rw[ea]at h; cases h
     .rw[nk]at hk; cases hk
    | e8 h _=>rw[ea]at h; cases h
    | exc h _ _=>have(_,h,_):=h; rw[ea]at h; cases h
    | obj h _ _=>rw[ea]at h; cases h
   .rfl
  subst k;exact⟨p,λ_=>rfl,λz=>by cases z⟩
 | l xs=>
  cases e;have(a,us,rfl,ea,ds):=p;rcases h with⟨a',f9,o,ev,_,gW,rfl⟩|⟨a',f9,o,ev,_,gW,_⟩|⟨z,_⟩
  .cases ev
   rw[ea]at gW;cases gW;exact⟨.lst (.inl ⟨o,zr⟩)<|ds.kp<|i4 ea trivial _,(λz=>by cases z),λ_=>⟨a,_,rfl,rfl⟩⟩
  .cases ev
   rw[ea]at gW;cases gW
  .exact absurd ea ((z a rfl).1 us)
 | t xs=>
  cases e;have(a,us,rfl,ea,ds):=p;rcases h with⟨a',f9,o,ev,_,gW,_⟩|⟨a',f9,o,ev,_,gW,rfl⟩|⟨z,_⟩
  .cases ev
   rw[ea]at gW;cases gW
  .cases ev
   rw[ea]at gW;cases gW;exact⟨.e8 zr<|RD<|ds.kp<|i4 ea trivial _,(λz=>by cases z),λ_=>⟨a,_,rfl,rfl⟩⟩
  .exact absurd ea ((z a rfl).2 us)
 | k xs=>cases e
 | o=>cases e
theorem g5{t:TE}{m:ME}(h:VE K t m):VE K (EV K t) (fu m):=by
 intro ρ σ H a af Q r e q;obtain⟨⟨b,aj⟩,e1,e⟩:=zb e;have(u,eu,e):=zb e;have(x,ex,e):=zb e;cases e;refine h ρ σ H b aj _ r e1 λv H1 g1 k1=>λH2 fz=>?_;have p:=k1.now r g1 eu;have(d,f1,f2):=fz.rp p ex;cases b with
 | s i=>
  have ei:aj[i]?=some (some u):=by
   have z:(aj[i]?).join=some u:=eu;cases q:aj[i]? with
   | none=>rw[q]at z; cases z
   | some o=>rw[q]at z; cases o with
    | none=>cases z
    | some w=>cases z; rfl
  have hi:i < aj.length:=(qk.mp ei).1
  by_cases ou:u.own=true
  .have(a,o,rfl,rfl):=f2 ou
   exact q _ _ (g1.trans<|Go.own (u':=.d x) g1.rs ei ou k1.1 d) ⟨d,Nw.data⟩
  .have m8:u.own=false:=by simpa using ou
   cases f1 m8;cases u with
   | d y=>
    cases ex;have es:aj.set i (some<|.d x)=aj:=by
     apply List.ext_getElem?;intro j
     by_cases hj:i=j
     .subst hj; rw[List.getElem?_set_self hi,ei]
     .rw[qC hj]
    show Q v H1;refine q v H1 ?_ ⟨d,Nw.data⟩;show Go K ρ σ H (aj.set i<|some<|.d x) H1;rw[es];exact g1
   | l=>cases m8
   | t=>cases m8
   | k=>cases m8
   | o=>cases m8
 | u w=>
  cases(show some w=some u from eu)
  by_cases ou:u.own=true
  .have(a,o,rfl,rfl):=f2 ou
   have(a',gW,Ny):=k1.2 ou;cases gW;obtain⟨c,hc,mc⟩:∃ c,H1 a=some c/\Mo c:=by
    have(b,c,eb,hb,m):=p.own ou;cases eb;exact⟨c,hb,m⟩
   have nw:¬Ow aj σ a:=by
    have(b,eb,nb):=k1.2.m7 r g1 ou;cases eb;exact nb
   have kp:=i4 hc mc o;refine q _ _ ⟨⟨g1.rs.len,λj y ej=>?_,g1.rs.apart⟩,λb ob hb n=>?_,g1.shr,λb hb=>?_⟩ ⟨d,Nw.data⟩
   .have(v,ev,p'):=g1.rs.rep j y ej
    refine⟨v,ev,p'.kp kp λoy b c' eb hb=>?_⟩;have ne:b≠a:=by
     rintro rfl;subst eb;exact nw ⟨j,y,ej,oy,ev⟩
    rw[zt ne];exact hb
   .have ne:b≠a:=by
     rintro rfl;rw[Ny]at hb;cases hb
    rw[zt ne];exact g1.fr b ob hb n
   .by_cases gf:b=a
    .subst gf; exact Ny
    .rw[zt gf]at hb; exact g1.dm b hb
  .have m8:u.own=false:=by simpa using ou
   cases f1 m8;exact q v H1 g1 ⟨d,Nw.data⟩
end
section
variable{ρ af:En}
def bC(ρ:En):Qa Ar->Qb (Qa U)
 | []=>some []
 | a::as=>(a.get ρ).bind λu=>(bC ρ as).bind λus=>some<|u::us
def iZ:Qa U->Qb (Qa D)
 | []=>some []
 | .d x::us=>(iZ us).bind λxs=>some<|x::xs
 | _::_=>none
def Bp(K:qc)(H:Hp):Qa V->Qa U->Prop:=Paired λv u=>Rp K H v u
theorem RC{vs:Qa V}{as:Qa Ar}{us:Qa U}(len:vs.length=as.length)(h:∀ (i:Nat) (a:Ar),as[i]?=some a->∃ v,vs[i]?=some v/\∀ u,a.get ρ=some u->Rp K H v u)(e:bC ρ as=some us):Bp K H vs us:=by
 induction as generalizing vs us with
 | nil=>
  cases e;cases vs with
  | nil=>exact .nil
  | cons=>simp at len
 | cons a as ih=>
  have(u,eu,e):=zb e;have(eG,wL,e):=zb e;cases e;cases vs with
  | nil=>simp at len
  | cons v vs=>
   have(v',ev,k):=h 0 a rfl;cases(show some v=some v' from ev);exact .cons (k u eu)<|ih (by simpa using len) (λi b eb=>h (i+1) b eb) wL
theorem Bx.m5{vs:Qa V}{as:Qa Ar}{us:Qa U}(r:Rs K ρ σ H)(g:Go K ρ σ H af H')(s:Bx K af σ H H' vs as)(e:bC af as=some us):Bp K H' vs us :=
 RC s.len (λi a ea=>let ⟨v,ev,k⟩:=s.ar i a ea; ⟨v,ev,λu eu=>k.now r g eu⟩) e
theorem Ib{vs:Qa V}{us:Qa U}{ds:Qa D}(h:Bp K H vs us)(e:iZ us=some ds):aK K H vs ds:=by
 induction h generalizing ds with
 | nil=>cases e; exact .nil
 | @cons v u vs us hv t ih=>
  cases u with
  | d x=>
   have(xs,ex,e):=zb (show(iZ us).bind (λxs=>some<|x::xs)=some ds from e);cases e;exact .cons hv<|ih ex
  | l=>cases e
  | t=>cases e
  | k=>cases e
  | o=>cases e
def bw(ma:MA):ME:=λρ=>(ma ρ).bind λp=>(bC p.2 p.1).bind λus=>(iZ us).bind λds=>if ds.length<=sizeLine then some (.u<|.d<|.tuple ds,p.2)else none
def eP(ma:MA):ME:=λρ=>(ma ρ).bind λp=>(bC p.2 p.1).bind λus=>(iZ us).bind λds=>if ds.length<=sizeLine then some (.u<|.l ds,p.2)else none
theorem cp{t:TA}{m:MA}(h:jj K t m):VE K (xA t) (bw m):=by
 intro ρ σ H a af Q r e q;obtain⟨⟨as,aj⟩,e1,e⟩:=zb e;have(us,eu,e):=zb e;have(ds,ed,e):=zb e;split at e
 .rename_i hz
  cases e;refine h ρ σ H as _ _ r e1 λvs H1 g1 s1=>?_;have dd:=Ib (s1.m5 r g1 eu) ed;refine⟨by rw[dd.len]; exact hz,λp hp=>?_⟩;have sm:=zM hp (.tup vs);exact q _ _ (g1.trans<|Go.grow g1.rs sm) ⟨.tup (.inl zr)<|dd.kp sm.kp,Nw.data⟩
 .cases e
theorem hE{t:TA}{m:MA}(h:jj K t m):VE K (xx t) (eP m):=by
 intro ρ σ H a af Q r e q;obtain⟨⟨as,aj⟩,e1,e⟩:=zb e;have(us,eu,e):=zb e;have(ds,ed,e):=zb e;split at e
 .rename_i hz
  cases e;refine h ρ σ H as _ _ r e1 λvs H1 g1 s1=>?_;have dd:=Ib (s1.m5 r g1 eu) ed;refine⟨by rw[dd.len]; exact hz,λp hp=>?_⟩;have sm:=zM hp (.lst vs);exact q _ _ (g1.trans<|Go.grow g1.rs sm) ⟨⟨p,_,rfl,zr,dd.kp sm.kp⟩,λ_=>⟨p,rfl,g1.dm p hp⟩⟩
 .cases e
def VC(K:qc)(r:Qa V->Hp->VK->Prop)(f:Qa U->Qb U):Prop :=
 ∀ (vs:Qa V) (us:Qa U) (u:U) (H:Hp) (Q:VK),Bp K H vs us->f us=some u->(∀ v H',cn H H'->Rp K H' v u->Nw H v u->Q v H')->r vs H Q
def bA(f:Qa U->Qb U)(ma:MA):ME:=λρ=>(ma ρ).bind λp=>(bC p.2 p.1).bind λus=>(f us).bind λu=>some (.u u,p.2)
theorem bN{f:Qa U->Qb U}{t:TA}{m:MA}(hc:VC K r f)(h:jj K t m):VE K (lG r t) (bA f m):=by
 intro ρ σ H a af Q rs e q;obtain⟨⟨as,aj⟩,e1,e⟩:=zb e;have(us,eu,e):=zb e;have(u,ef,e):=zb e;cases e;refine h ρ σ H as _ _ rs e1 λvs H1 g1 s1=>hc vs us u H1 _ (s1.m5 rs g1 eu) ef λv H2 s p n=>?_;exact q v H2 (g1.trans<|Go.grow g1.rs s) ⟨p,n.mono g1.dm⟩
def f1(f:U->Qb U):Qa U->Qb U
 | [u]=>f u
 | _=>none
theorem nP{f:U->Qb U}(h:∀ (v:V) (a u:U) (H:Hp) (Q:VK),Rp K H v a->f a=some u->(∀ v H',cn H H'->Rp K H' v u->Nw H v u->Q v H')->r [v] H Q):VC K r (f1 f):=by
 intro vs us u H Q hr e q;cases hr with
 | nil=>cases e
 | cons h1 t=>
  cases t with
  | nil=>exact h _ _ _ _ _ h1 e q
  | cons=>cases e
def U.items:U->Qb (Qa D)
 | .d (.tuple xs)=>some xs
 | .d (.list xs)=>some xs
 | .l xs=>some xs
 | _=>none
theorem Rp.items{u:U}{xs:Qa D}(h:Rp K H v u)(e:u.items=some xs):∃ p ys,v=.ref p/\(bq K H p ys\/bj K H p ys)/\aK K H ys xs:=by
 cases u with
 | d x=>
  cases x with
  | tuple ds=>cases e; have(a,ys,rfl,h1,h2):=DF.aB h; exact⟨a,ys,rfl,.inr<|(aP.sq h1),h2⟩
  | list ds=>cases e; have(a,ys,rfl,h1,h2):=DF.lst_inv h; exact⟨a,ys,rfl,.inl h1.sq,h2⟩
  | _=>cases e
 | l ds=>cases e; have(a,ys,rfl,h1,h2):=h; exact⟨a,ys,rfl,.inl<|bq.of h1,h2⟩
 | t=>cases e
 | k=>cases e
 | o=>cases e
def dJ(u:U):Qb U:=u.items.map λxs=>.d<|.int xs.length
theorem ft:VC K (B0 K) (f1 dJ):=nP λv a u H Q h e q=>by
 have(xs,ex,rfl):=qr.mp e;have(p,ys,rfl,s,d):=h.items ex;exact⟨p,ys,rfl,s,q _ _ (λ_ _ z=>z) (by rw[d.len]; exact .int _) Nw.data⟩
def mR(u:U):Qb U:=u.items.map λxs=>.d<|.tuple xs
theorem vm:VC K (yW K) (f1 mR):=nP λv a u H Q h e q=>by
 have(xs,ex,rfl):=qr.mp e;cases a with
 | d x=>
  cases x with
  | tuple ds=>
   cases ex;have(a,ys,rfl,h1,h2):=DF.aB h;exact⟨a,ys,rfl,.inr ⟨(aP.sq h1),q _ _ (λ_ _ z=>z) (.tup h1 h2) Nw.data⟩⟩
  | list ds=>
   cases ex;have(a,ys,rfl,h1,h2):=DF.lst_inv h;refine⟨a,ys,rfl,.inl ⟨h1.sq,λl hl=>?_⟩⟩;have sm:=zM hl (.tup ys);exact q _ _ sm (.tup (.inl zr)<|h2.kp sm.kp) Nw.data
  | _=>cases ex
 | l ds=>
  cases ex;have(a,ys,rfl,h1,h2):=h;refine⟨a,ys,rfl,.inl ⟨bq.of h1,λl hl=>?_⟩⟩;have sm:=zM hl (.tup ys);exact q _ _ sm (.tup (.inl zr)<|h2.kp sm.kp) Nw.data
 | t=>cases ex
 | k=>cases ex
 | o=>cases ex
def uc:U->Qb U
 | .d (.int i)=>some<|.d<|.int (if i < 0 then -i else i)
 | _=>none
theorem Ia:VC K (λxs H Q=>∃ i,xs=[.int i]/\Q (.int (if i < 0 then -i else i)) H) (f1 uc):=nP λv a u H Q h e q=>by
 unfold uc at e;split at e
 .rename_i i
  cases e;cases DF.int_inv h;exact⟨i,rfl,q _ _ (λ_ _ z=>z) (.int _) Nw.data⟩
 .cases e
def pJ:U->Qb U
 | .d (.int i)=>some<|.d<|.int i
 | .d (.bool k)=>some<|.d<|.int (if k then 1 else 0)
 | _=>none
theorem yR:VC K (λxs H Q=>(∃ i,xs=[.int i]/\Q (.int i) H)\/∃ k,xs=[.bl k]/\Q (.int (if k then 1 else 0)) H) (f1 pJ):=nP λv a u H Q h e q=>by
 unfold pJ at e;split at e
 .rename_i i
  cases e;cases DF.int_inv h;exact .inl ⟨i,rfl,q _ _ (λ_ _ z=>z) (.int _) Nw.data⟩
 .rename_i i
  cases e;cases DF.bV h;exact .inr ⟨i,rfl,q _ _ (λ_ _ z=>z) (.int _) Nw.data⟩
 .cases e
def xV:Qa U->Qb U
 | [.d<|.int i,.d<|.int j]=>some<|.d<|.int (if j > i then j else i)
 | _=>none
theorem Vq:VC K (λxs H Q=>∃ i j,xs=[.int i,.int j]/\Q (.int (if j > i then j else i)) H) xV:=by
 intro vs us u H Q hr e q;unfold xV at e;split at e
 .rename_i i j
  cases e;cases hr with
  | cons h1 t=>
   cases t with
   | cons h2 t=>
    cases t;cases DF.int_inv h1;cases DF.int_inv h2;exact⟨i,j,rfl,q _ _ (λ_ _ z=>z) (.int _) Nw.data⟩
 .cases e
def sf:Qa D->Qb (Qa Int)
 | []=>some []
 | .int i::xs=>(sf xs).bind λis=>some<|i::is
 | _::_=>none
theorem W1{ys:Qa V}{xs:Qa D}(h:aK K H ys xs)(e:sf xs=some ns):ys=ns.map V.int:=by
 induction xs generalizing ys ns with
 | nil=>cases e; cases h; rfl
 | cons x xs ih=>
  cases h with
  | cons h1 t=>
   cases x with
   | int i=>
    have(is,ei,e):=zb (show(sf xs).bind (λis=>some<|i::is)=some ns from e);cases e;rw[ih t ei,DF.int_inv h1];rfl
   | _=>cases e
def mB(me:ME):MT:=λρ=>(me ρ).bind λp=>(p.1.get p.2).bind λu=>match u with | .d (.bool b)=>some (b,p.2) | _=>none
theorem fG{t:TE}{m:ME}(h:VE K t m):VT K (tB t) (mB m):=by
 intro ρ σ H b af Q r e q;obtain⟨⟨a,aj⟩,e1,e⟩:=zb e;have(u,eu,e):=zb e;split at e
 .cases e
  refine h ρ σ H a _ _ r e1 λv H1 g1 k1=>?_;exact⟨_,DF.bV<|k1.now r g1 eu,q _ g1⟩
 .cases e
theorem zH{t:TE}{m:ME}(h:VE K t m):VT K (uH t) (mB m):=fG h
def rS(ma mb:MT):MT:=λρ=>(ma ρ).bind λp=>if p.1=true then mb p.2 else some (false,p.2)
def jG(ma mb:MT):MT:=λρ=>(ma ρ).bind λp=>if p.1=true then some (true,p.2)else mb p.2
def gQ(ma:MT):MT:=λρ=>(ma ρ).bind λp=>some (!p.1,p.2)
theorem H9{ta tb:TT}{ma mb:MT}(ha:VT K ta ma)(hb:VT K tb mb):VT K (B4 ta tb) (rS ma mb):=by
 intro ρ σ H b af Q r e q;obtain⟨⟨c,aj⟩,e1,e⟩:=zb e;refine ha ρ σ H c aj _ r e1 λH1 g1=>?_;dsimp only at e;split at e
 .rename_i hc
  rw[if_pos hc];exact hb aj σ H1 b af _ g1.rs e λH2 g2=>q H2<|g1.trans g2
 .rename_i hc
  rw[if_neg hc];cases e;exact q H1 g1
theorem mE{ta tb:TT}{ma mb:MT}(ha:VT K ta ma)(hb:VT K tb mb):VT K (EU ta tb) (jG ma mb):=by
 intro ρ σ H b af Q r e q;obtain⟨⟨c,aj⟩,e1,e⟩:=zb e;refine ha ρ σ H c aj _ r e1 λH1 g1=>?_;dsimp only at e;split at e
 .rename_i hc
  rw[if_pos hc];cases e;exact q H1 g1
 .rename_i hc
  rw[if_neg hc];exact hb aj σ H1 b af _ g1.rs e λH2 g2=>q H2<|g1.trans g2
theorem jY{ta:TT}{ma:MT}(ha:VT K ta ma):VT K (B3 ta) (gQ ma):=by
 intro ρ σ H b af Q r e q;obtain⟨⟨c,aj⟩,e1,e⟩:=zb e;cases e;exact ha ρ σ H c _ _ r e1 λH1 g1=>q H1 g1
def lj(ma mb:ME):ME:=λρ=>(mB ma ρ).bind λp=>if p.1=true then mb p.2 else some (.u<|.d<|.bool false,p.2)
theorem BY{a:Ar}{H1 H2:Hp}{aj au:En}(g1:Go K ρ σ H aj H1)(h:jN K au σ H1 H2 v a):jN K au σ H H2 v a:=by
 cases a with
 | s i=>exact h
 | u x=>exact⟨h.1,h.2.mono g1.dm⟩
theorem pT{ma mb:ME}(ha:VE K ta ma)(hb:VE K tb mb):VE K (CN ta tb) (lj ma mb):=by
 intro ρ σ H a af Q r e q;obtain⟨⟨c,aj⟩,e1,e⟩:=zb e;refine fG ha ρ σ H c aj (λc H1=>if c=true then tb σ H1 Q else Q (.bl false) H1) r e1 λH1 g1=>?_;dsimp only at e;split at e
 .rename_i hc
  rw[if_pos hc];exact hb aj σ H1 a af _ g1.rs e λv H2 g2 k=>q v H2 (g1.trans g2)<|BY g1 k
 .rename_i hc
  rw[if_neg hc];cases e;exact q _ H1 g1 ⟨.bl _,Nw.data⟩
def xU(ma:ME):ME:=λρ=>(mB ma ρ).bind λp=>some (.u<|.d<|.bool (!p.1),p.2)
theorem RB{ma:ME}(ha:VE K ta ma):VE K (CM ta) (xU ma):=by
 intro ρ σ H a af Q r e q;obtain⟨⟨c,aj⟩,e1,e⟩:=zb e;cases e;exact fG ha ρ σ H c _ (λc H1=>Q (.bl (!c)) H1) r e1 λH1 g1=>q _ H1 g1 ⟨.bl _,Nw.data⟩
def tK(mt:MT)(ma mb:ME):ME:=λρ=>(mt ρ).bind λp=>if p.1=true then ma p.2 else mb p.2
theorem GO{mt:MT}{ma mb:ME}(ht:VT K tt mt)(ha:VE K ta ma)(hb:VE K tb mb):VE K (AH tt ta tb) (tK mt ma mb):=by
 intro ρ σ H a af Q r e q;obtain⟨⟨c,aj⟩,e1,e⟩:=zb e;refine ht ρ σ H c aj _ r e1 λH1 g1=>?_;dsimp only at e;split at e
 .rename_i hc
  rw[if_pos hc];exact ha aj σ H1 a af _ g1.rs e λv H2 g2 k=>q v H2 (g1.trans g2)<|BY g1 k
 .rename_i hc
  rw[if_neg hc];exact hb aj σ H1 a af _ g1.rs e λv H2 g2 k=>q v H2 (g1.trans g2)<|BY g1 k
def U.oH:U->Qb Bool
 | .d .none=>some false
 | .d (.bool b)=>some b
 | .d (.int i)=>some<|i != 0
 | .d (.str x)=>if x.length<=sizeLine then some ((x.length:Int) != 0)else none
 | .d (.tuple xs)=>some (!xs.isEmpty)
 | .d (.list xs)=>some (!xs.isEmpty)
 | .l xs=>some (!xs.isEmpty)
 | _=>none
theorem Am{ys:Qa V}{xs:Qa D}(h:aK K H ys xs):(!xs.isEmpty)=!ys.isEmpty:=by cases h<;>rfl
def ub(ma:ME):MT:=λρ=>(ma ρ).bind λp=>(p.1.get p.2).bind λu=>u.oH.bind λb=>some (b,p.2)
theorem RA{ma:ME}(ha:VE K ta ma):VT K (rX K ta) (ub ma):=by
 intro ρ σ H b af Q r e q;obtain⟨⟨a,aj⟩,e1,e⟩:=zb e;have(u,eu,e):=zb e;have(c,ec,e):=zb e;cases e;refine ha ρ σ H a _ _ r e1 λv H1 g1 k1=>⟨_,?_,q _ g1⟩;have p:=k1.now r g1 eu;cases u with
 | d x=>
  cases(show DF K H1 v x from p)with
  | aI=>cases ec; rfl
  | bl=>cases ec; rfl
  | int=>cases ec; rfl
  | str x=>
   unfold U.oH at ec;dsimp only at ec;split at ec
   .cases ec; exact⟨by assumption,rfl⟩
   .cases ec
  | tup h t=>cases ec; exact .inr<|.inl ⟨_,(aP.sq h),Am t⟩
  | lst h t=>cases ec; exact .inl ⟨_,h.sq,Am t⟩
  | e8=>cases ec
  | exc=>cases ec
  | obj=>cases ec
 | l xs=>cases ec; have(a,us,rfl,h1,h2):=p; exact .inl ⟨_,bq.of h1,Am h2⟩
 | t=>cases ec
 | k=>cases ec
 | o=>cases ec
end
section
variable{ρ af:En}
abbrev FD:=Qa U->Qb (U×Qa U)
def sm(xs:Qa U):En:=xs.map some
def dC(vs:Qa V):St:=vs.map some
def lI(K:qc)(n:Nat)(f:FD):Sp:=λvs H Q _=>∃ us r outs,us.length=n/\Rs K (sm us) (dC vs) H/\f us=some (r,outs)/\
 ∀ v H',Go K (sm us) (dC vs) H (sm outs) H'->Rp K H' v r->Nw H v r->Q v H'
def wb:En->Qa Ar->Qa U->En
 | ρ,.s j::as,o::os=>wb (ρ.set j<|some o) as os
 | ρ,.u _::as,_::os=>wb ρ as os
 | ρ,_,_=>ρ
def fj(ρ:En):Qa Ar->Bool
 | []=>true
 | .s j::as=>(match ρ[j]? with|some (some u)=>!u.own || !(as.any λa=>match a with | .s k=>decide (k=j) | _=>false) | _=>true) && fj ρ as
 | .u _::as=>fj ρ as
def aS(f:FD)(ma:MA):ME:=λρ=>(ma ρ).bind λp=>if fj p.2 p.1=true then(bC p.2 p.1).bind λus=>(f us).bind λo=>some (.u o.1,wb p.2 p.1 o.2)else none
theorem yV:∀ {as:Qa Ar} {us:Qa U},bC ρ as=some us->us.length=as.length
 | [],us,e=>by cases e; rfl
 | a::as,us,e=>by
  have(u,eu,e):=zb e;have(eG,wL,e):=zb e;cases e;simp[yV wL]
theorem Jq:∀ {as:Qa Ar} {us:Qa U} {i:Nat} {a:Ar},bC ρ as=some us->as[i]?=some a->∃ u,us[i]?=some u/\a.get ρ=some u
 | [],us,i,a,e,ea=>by simp at ea
 | b::as,us,i,a,e,ea=>by
  have(u,eu,e):=zb e;have(eG,wL,e):=zb e;cases e;cases i with
  | zero=>cases(show some b=some a from ea); exact⟨u,rfl,eu⟩
  | succ i=>exact Jq (i:=i) wL ea
theorem Eb:∀ {as:Qa Ar} {us:Qa U} {i:Nat} {u:U},bC ρ as=some us->us[i]?=some u->∃ a,as[i]?=some a/\a.get ρ=some u:=λ{as us i u} e eu=>by
 have hi:i < as.length:=by rw[<-yV e]; exact(qk.mp eu).1
 have(u',e1,e2):=Jq e (qm hi);rw[eu]at e1;cases e1;exact⟨_,qm hi,e2⟩
theorem Hc{u:U}(e:Ar.get ρ (.s j)=some u):ρ[j]?=some (some u):=by
 have z:(ρ[j]?).join=some u:=e;cases q:ρ[j]? with
 | none=>rw[q]at z; cases z
 | some o=>
  rw[q]at z;cases o with
  | none=>cases z
  | some w=>cases z; rfl
theorem Jp:∀ {as:Qa Ar} {p q j:Nat} {u:U},fj ρ as=true->as[p]?=some (.s j)->as[q]?=some (.s j)->ρ[j]?=some (some u)->u.own=true->p=q
 | [],p,q,j,u,_,e,_,_,_=>by simp at e
 | a::as,p,q,j,u,d,ep,eq,ej,ou=>by
  have dd:fj ρ as=true:=by
   cases a with
   | s k=>unfold fj at d; rw[Bool.and_eq_true]at d; exact d.2
   | u=>exact d
  have vU:∀ {q':Nat},a=.s j->as[q']?=some (.s j)->False:=λ{q'} ea Bf=>by
   subst ea;unfold fj at d;rw[Bool.and_eq_true,ej]at d;have d1:=d.1;dsimp only at d1;rw[ou]at d1;have m:(as.any λa=>match a with | .s k=>decide (k=j) | _=>false)=true:=å.mpr ⟨.s j,Ç Bf,by simp⟩;rw[m]at d1;cases d1
  cases p with
  | zero=>
   cases q with
   | zero=>rfl
   | succ q=>exact(vU (qx ep) eq).elim
  | succ p=>
   cases q with
   | zero=>exact(vU (qx eq) ep).elim
   | succ q=>exact congrArg (·+1)<|Jp dd ep eq ej ou
theorem fH{us:Qa U}{u:U}:(sm us)[i]?=some (some u)↔us[i]?=some u:=by
 unfold sm;rw[List.getElem?_map];cases us[i]?<;>simp
theorem sT{vs:Qa V}:(dC vs)[i]?=some (some v)↔vs[i]?=some v:=by
 unfold dC;rw[List.getElem?_map];cases vs[i]?<;>simp
theorem xT:∀ {as:Qa Ar} {os:Qa U} {ρ:En} {j:Nat} {w:U},(wb ρ as os)[j]?=some (some w)->as.length=os.length->(∃ p:Nat,as[p]?=some (Ar.s j)/\os[p]?=some w)\/(ρ[j]?=some (some w)/\∀ p:Nat,as[p]?≠some (Ar.s j))
 | [],os,ρ,j,w,e,_=>.inr ⟨by cases os<;>exact e,λp z=>by simp at z⟩
 | a::as,[],ρ,j,w,e,l=>by simp at l
 | .u x::as,o::os,ρ,j,w,e,l=>by
  rcases xT (as:=as) (os:=os) (ρ:=ρ) (show(wb ρ as os)[j]?=some (some w) from e) (by simpa using l)with⟨p,h1,h2⟩|⟨h1,h2⟩
  .exact .inl ⟨p+1,h1,h2⟩
  .refine .inr ⟨h1,λp z=>?_⟩
   cases p with
   | zero=>cases(show some (Ar.u x)=some (.s j) from z)
   | succ p=>exact h2 p z
 | .s k::as,o::os,ρ,j,w,e,l=>by
  rcases xT (as:=as) (os:=os) (ρ:=ρ.set k (some o)) (show(wb (ρ.set k<|some o) as os)[j]?=some (some w) from e) (by simpa using l)with⟨p,h1,h2⟩|⟨h1,h2⟩
  .exact .inl ⟨p+1,h1,h2⟩
  .by_cases hk:k=j
   .subst hk
    have hl:k < (ρ.set k<|some o).length:=(qk.mp h1).1;rw[List.length_set]at hl;rw[List.getElem?_set_self hl]at h1;exact .inl ⟨0,rfl,by cases h1; rfl⟩
   .rw[qC hk]at h1
    refine .inr ⟨h1,λp z=>?_⟩;cases p with
    | zero=>cases(show some (Ar.s k)=some (.s j) from z); exact hk rfl
    | succ p=>exact h2 p z
theorem yx:∀ (ρ:En) (as:Qa Ar) (os:Qa U),(wb ρ as os).length=ρ.length
 | ρ,[],os=>by cases os<;>rfl
 | ρ,.s k::as,[]=>rfl
 | ρ,.u k::as,[]=>rfl
 | ρ,.s k::as,o::os=>by show(wb (ρ.set k<|some o) as os).length=_; rw[yx]; exact List.length_set
 | ρ,.u k::as,o::os=>yx ρ as os
theorem yQ:∀ {as:Qa Ar} {os:Qa U} {ρ:En} {j:Nat} {w:U},ρ[j]?=some (some w)->∃ w',(wb ρ as os)[j]?=some (some w')
 | [],os,ρ,j,w,e=>⟨w,by cases os<;>exact e⟩
 | .s k::as,[],ρ,j,w,e=>⟨w,e⟩
 | .u k::as,[],ρ,j,w,e=>⟨w,e⟩
 | .u k::as,o::os,ρ,j,w,e=>yQ (as:=as) (os:=os) e
 | .s k::as,o::os,ρ,j,w,e=>by
  by_cases hk:k=j
  .subst hk
   exact yQ (as:=as) (os:=os) (w:=o)<|ß (qk.mp e).1
  .exact yQ (as:=as) (os:=os) (w:=w) (by rw[qC hk]; exact e)
theorem Rz{as:Qa Ar}{us:Qa U}{vs:Qa V}{aj:En}{H1:Hp}(rs:Rs K ρ σ H)(g1:Go K ρ σ H aj H1)(s1:Bx K aj σ H H1 vs as)(dj:fj aj as=true)(eu:bC aj as=some us):
  Rs K (sm us) (dC vs) H1/\∀ (outs:Qa U) (H2:Hp),Go K (sm us) (dC vs) H1 (sm outs) H2->Go K ρ σ H (wb aj as outs) H2:=by
 have rp:=s1.m5 rs g1 eu;have lus:=yV eu;have AV:=s1.len;have adr:∀ (i:Nat) (u:U),us[i]?=some u->u.own=true->∃ b,vs[i]?=some (.ref b)/\((∃ j,as[i]?=some (.s j)/\σ[j]?=some (some<|.ref b)/\aj[j]?=some (some u))\/(as[i]?=some (.u u)/\H b=none)):=λi u ei ou=>by
  have(a,ea,eg):=Eb eu ei;have(v,ev,k):=s1.ar i a ea;have p:=k.now rs g1 eg;have(b,rfl):=p.iO ou;refine⟨b,ev,?_⟩;cases a with
  | s j=>exact .inl ⟨j,ea,k.1,Hc eg⟩
  | u x=>
   cases(show some x=some u from eg);have(b',eb,hb):=k.2 ou;cases eb;exact .inr ⟨ea,hb⟩
 have apart:∀ (i j:Nat) (u w:U),us[i]?=some u->us[j]?=some w->u.own=true->w.own=true->vs[i]?=vs[j]?->i=j:=λi j u w ei ej ou ow ev=>by
  have(b,vb,hb):=adr i u ei ou;have(c,vc,hc):=adr j w ej ow;have bc:b=c:=by rw[vb,vc]at ev; cases ev; rfl
  subst bc;rcases hb with⟨x,ax,sx,rx⟩|⟨ax,nx⟩
  .rcases hc with⟨y,ay,sy,ry⟩|⟨ay,ny⟩
   .have xy:x=y:=g1.rs.apart x y u w rx ry ou ow (by rw[sx,sy])
    subst xy;exact Jp dj ax ay rx ou
   .exfalso
    have(w',gg,qO):=g1.shr.own x u rx ou;have(c',jg,_):=rs.ow ⟨x,w',gg,qO,sx⟩;rw[ny]at jg;cases jg
  .rcases hc with⟨y,ay,sy,ry⟩|⟨ay,ny⟩
   .exfalso
    have(w',gg,qO):=g1.shr.own y w ry ow;have(c',jg,_):=rs.ow ⟨y,w',gg,qO,sy⟩;rw[nx]at jg;cases jg
   .exact s1.ap i j u w ax ay ou ow ev
 have AL:Rs K (sm us) (dC vs) H1:=by
  refine⟨by unfold sm dC; rw[List.length_map,List.length_map]; omega,λi u ei=>?_,λi j u w ei ej ou ow ev=>?_⟩
  .have pe:=fH.mp ei
   have(a,ea,eg):=Eb eu pe;have(v,ev,k):=s1.ar i a ea;exact⟨v,sT.mpr ev,k.now rs g1 eg⟩
  .have pe:=fH.mp ei
   have nI:=fH.mp ej;refine apart i j u w pe nI ou ow ?_;have(b,vb,_):=adr i u pe ou;have(c,vc,_):=adr j w nI ow;rw[sT.mpr vb,sT.mpr vc]at ev;rw[vb,vc];exact qx ev
 refine⟨AL,λouts H2 g2=>?_⟩;have lo:outs.length=us.length:=by have:=g2.shr.len; unfold sm at this; simpa using this
 have kp2:=g2.kp AL;have owA:∀ b,Ow (sm us) (dC vs) b->Ow aj σ b\/H b=none:=λb ⟨i,u,ei,ou,es⟩=>by
  have(c,vc,hc):=adr i u (fH.mp ei) ou;rw[sT.mp es]at vc;cases vc;rcases hc with⟨j,_,sj,rj⟩|⟨_,nb⟩
  .exact .inl ⟨j,u,rj,ou,sj⟩
  .exact .inr nb
 have qP:∀ (i:Nat) (w:U),outs[i]?=some w->∃ x,vs[i]?=some x/\Rp K H2 x w:=λi w ei=>by
  have(x,ex,px):=g2.rs.rep i w (fH.mpr ei);exact⟨x,sT.mp ex,px⟩
 have Nz:as.length=outs.length:=by omega
 have fN:∀ (j:Nat) (w:U),(wb aj as outs)[j]?=some (some w)->w.own=true->∃ w',aj[j]?=some (some w')/\w'.own=true:=λj w ej ow=>by
  rcases xT ej Nz with⟨p,ap,op⟩|⟨h1,_⟩
  .have(w',gg,qO):=g2.shr.own p w (fH.mpr op) ow
   have(a,ea,eg):=Eb eu (fH.mp gg);rw[ap]at ea;cases ea;exact⟨w',Hc eg,qO⟩
  .exact⟨w,h1,ow⟩
 refine⟨⟨by rw[yx]; exact g1.rs.len,λj w ej=>?_,λi j u w ei ej ou ow es=>?_⟩,λb ob hb nb=>?_,?_,λb hb=>g1.dm b<|g2.dm b hb⟩
 .rcases xT ej Nz with⟨p,ap,op⟩|⟨h1,h2⟩
  .have(x,vx,px):=qP p w op
   have(v',rC,k'):=s1.ar p _ ap;rw[vx]at rC;cases rC;exact⟨x,k'.1,px⟩
  .have(x,ex,px):=g1.rs.rep j w h1
   refine⟨x,ex,px.kp kp2 λow b c eb hb=>?_⟩;refine g2.fr b c hb λ⟨i,u,ei,ou,es⟩=>?_;have(c',Na,jg):=adr i u (fH.mp ei) ou;rw[sT.mp es]at Na;cases Na;subst eb;rcases jg with⟨k,ak,sk,rk⟩|⟨_,nb⟩
   .have:k=j:=g1.rs.apart k j u w rk h1 ou ow (by rw[sk,ex])
    subst this;exact h2 i ak
   .have(w',gg,qO):=g1.shr.own j w h1 ow
    have(c'',wC,_):=rs.ow ⟨j,w',gg,qO,ex⟩;rw[nb]at wC;cases wC
 .have(x,ex,ox):=fN i u ei ou
  have(y,ey,oy):=fN j w ej ow;exact g1.rs.apart i j x y ex ey ox oy es
 .refine g2.fr b ob (g1.fr b ob hb nb) λz=>?_
  rcases owA b z with z|z
  .exact nb (g1.shr.ow z)
  .rw[z]at hb; cases hb
 .refine⟨by rw[yx]; exact g1.shr.len,λj w ej ow=>?_,λj w ej=>?_⟩
  .have(x,ex,ox):=fN j w ej ow
   exact g1.shr.own j x ex ox
  .have(x,ex):=g1.shr.live j w ej
   exact yQ ex
theorem Hb:∀ ρ as af,zq ρ=some (as,af)->as.length=0:=λρ as af e=>by cases e; rfl
theorem HZ{me:ME}{ma:MA}(h:∀ ρ as af,ma ρ=some (as,af)->as.length=n):∀ ρ as af,zf me ma ρ=some (as,af)->as.length=n+1:=λρ as af e=>by
 obtain⟨⟨a1,aj⟩,e1,e⟩:=zb e;obtain⟨⟨Bi,au⟩,e2,e⟩:=zb e;cases e;simp[h _ _ _ e2]
theorem zK{f:FD}{t:TA}{m:MA}(n:Nat)(h:jj K t m)(hn:∀ ρ as af,m ρ=some (as,af)->as.length=n:=by repeat (first|exact Hb|refine HZ ?_)):VE K (B1 (lI K n f) t) (aS f m):=by
 intro ρ σ H a af Q rs e q;obtain⟨⟨as,aj⟩,e1,e⟩:=zb e;dsimp only at e;split at e
 .rename_i dj
  have(us,eu,e):=zb e;obtain⟨⟨r,outs⟩,ef,e⟩:=zb e;cases e;refine h ρ σ H as aj _ rs e1 λvs H1 g1 s1=>?_;have(AL,back):=Rz rs g1 s1 dj eu;exact⟨us,r,outs,by rw[yV eu]; exact hn _ _ _ e1,AL,ef,λv H2 g2 p n2=>q v H2 (back outs H2 g2) ⟨p,n2.mono g1.dm⟩⟩
 .cases e
end
inductive Fl where
 | nx (ρ:En) | bk (ρ:En) | ct (ρ:En) | rt (u:U) (ρ:En) | ex (x:D) (ρ:En)
def GN(K:qc)(H:Hp)(a:Qg)(x:D):Prop:=∃ n C fs ds,x=.dict ((.none,.str n)::ds)/\zBi H a C fs/\XN K n C/\jK K H fs ds
structure Sn (K:qc) (pn:Qa Nat) (ao:St) (A:Qg->Prop) (H₀ av:Hp) (ρ:En) (σ:St) (H:Hp):Prop where
 rs:Rs K ρ σ H
 fr:w5 A H₀ H
 ow:∀ (i:Nat) (u:U) (a:Qg),ρ[i]?=some (some u)->u.own=true->σ[i]?=some (some<|.ref a)->(i∈pn/\A a)\/H₀ a=none
 pin:∀ i∈pn,σ[i]?=ao[i]?
 dm:∀ a,H a=none->H₀ a=none
 kp:Kp av H
def OD:e9:=λ_ _ _=>False
def zBj(K:qc)(pn:Qa Nat)(EX:e9)(ao:St)(A:Qg->Prop)(H₀ av:Hp)(D:Ends):Fl->Prop
 | .nx ρ=>∀ σ H,Sn K pn ao A H₀ av ρ σ H->D.nx σ H
 | .bk ρ=>∀ σ H,Sn K pn ao A H₀ av ρ σ H->D.bk σ H
 | .ct ρ=>∀ σ H,Sn K pn ao A H₀ av ρ σ H->D.ct σ H
 | .rt u ρ=>∀ v σ H,Sn K pn ao A H₀ av ρ σ H->Rp K H v u->Nw H₀ v u->D.rt v H
 | .ex x ρ=>∀ a σ H,Sn K pn ao A H₀ av ρ σ H->H₀ a=none->GN K H a x->EX σ a H
abbrev MS:=En->Qb Fl
def VS(K:qc)(pn:Qa Nat)(EX:e9)(t:TS)(m:MS):Prop :=
 ∀ (ao:St) (A:Qg->Prop) (H₀ av:Hp) (ρ:En) (σ:St) (H:Hp) (f:Fl) (D:Ends),Sn K pn ao A H₀ av ρ σ H->m ρ=some f->zBj K pn EX ao A H₀ av D f->t D σ H
section
variable{EX:e9}{A:Qg->Prop}{jl:Hp}{ρ af:En}
theorem Sn.go(s:Sn K pn ao A H₀ av ρ σ H)(g:Go K ρ σ H af H'):Sn K pn ao A H₀ av af σ H':=by
 refine⟨g.rs,λa o h n=>g.fr a o (s.fr a o h n) λ⟨i,u,e,ou,es⟩=>?_,λi u a e o es=>?_,s.pin,λa h=>s.dm a<|g.dm a h,s.kp.trans<|g.kp s.rs⟩
 .rcases s.ow i u a e ou es with z|z
  .exact n z.2
  .rw[z]at h; cases h
 .have(w,e',o'):=g.shr.own i u e o
  exact s.ow i w a e' o' es
theorem Sn.re(s:Sn K pn ao A H₀ jl ρ σ H)(k:Kp av jl):Sn K pn ao A H₀ av ρ σ H:=⟨s.rs,s.fr,s.ow,s.pin,s.dm,k.trans s.kp⟩
theorem Sn.at(s:Sn K pn ao A H₀ av ρ σ H):Sn K pn ao A H₀ H ρ σ H:=⟨s.rs,s.fr,s.ow,s.pin,s.dm,Kp.refl H⟩
theorem Sn.set{u:U}(s:Sn K pn ao A H₀ av ρ σ H)(hi:i∉pn)(p:Rp K H v u)(n:u.own=true->∃ a,v=.ref a/\H₀ a=none/\¬Ow ρ σ a):Sn K pn ao A H₀ av (ρ.set i<|some u) (σ.set i<|some v) H:=by
 have ll:=s.rs.len;have inv:∀ (j:Nat) (w:U),(ρ.set i<|some u)[j]?=some (some w)->(j=i/\w=u/\i < ρ.length)\/(j≠i/\ρ[j]?=some (some w)):=λj w e=>by
  by_cases hj:i=j
  .subst hj
   have hl:=(qk.mp e).1;rw[List.length_set]at hl;rw[List.getElem?_set_self hl]at e;cases e;exact .inl ⟨rfl,rfl,hl⟩
  .rw[qC hj]at e
   exact .inr ⟨Ne.symm hj,e⟩
 have sat:∀ j,j≠i->(σ.set i<|some v)[j]?=σ[j]?:=λj h=>qC<|Ne.symm h;have iM:i < ρ.length->(σ.set i<|some v)[i]?=some (some v):=λh=>ß (by omega);refine⟨⟨by rw[List.length_set,List.length_set]; exact ll,λj w e=>?_,λj k x y ej ek ox oy es=>?_⟩,s.fr,λj w a e o es=>?_,λj hj=>?_,s.dm,s.kp⟩
 .rcases inv j w e with⟨rfl,rfl,hl⟩|⟨hj,e'⟩
  .exact⟨v,iM hl,p⟩
  .rw[sat j hj]
   exact s.rs.rep j w e'
 .rcases inv j x ej with⟨rfl,rfl,hl⟩|⟨hj,nI⟩
  .rcases inv k y ek with⟨rfl,rfl,_⟩|⟨hk,wN⟩
   .rfl
   .exfalso
    have(a,rfl,_,na):=n ox;rw[iM hl,sat k hk]at es;exact na ⟨k,y,wN,oy,es.symm⟩
  .rcases inv k y ek with⟨rfl,rfl,hl⟩|⟨hk,wN⟩
   .exfalso
    have(a,rfl,_,na):=n oy;rw[iM hl,sat j hj]at es;exact na ⟨j,x,nI,ox,es⟩
   .rw[sat j hj,sat k hk]at es
    exact s.rs.apart j k x y nI wN ox oy es
 .rcases inv j w e with⟨rfl,rfl,hl⟩|⟨hj,e'⟩
  .rw[iM hl]at es
   cases es;have(b,eb,hb,_):=n o;cases eb;exact .inr hb
  .rw[sat j hj]at es
   exact s.ow j w a e' o es
 .rw[sat j λz=>hi<|z▸hj]
  exact s.pin j hj
theorem jN.own{a:Ar}{u:U}(r:Rs K ρ σ H)(g:Go K ρ σ H af H')(k:jN K af σ H H' v a)(e:a.get af=some u)(nc:∀ j,a=.s j->u.own=false):Nw H v u/\(u.own=true->∃ b,v=.ref b/\¬Ow af σ b):=by
 cases a with
 | s j=>exact⟨(λo=>by rw[nc j rfl]at o; cases o),λo=>by rw[nc j rfl]at o; cases o⟩
 | u x=>
  cases(show some x=some u from e);exact⟨k.2,k.2.m7 r g⟩
def put(p:Ar×En):Qb (U×En):=match p.1 with
 | .s i=>match p.2[i]? with
  | some (some<|.d x)=>some (.d x,p.2)
  | _=>none
 | .u u=>some (u,p.2)
theorem HY{a:Ar}{u:U}{aj au:En}(e:put (a,aj)=some (u,au)):au=aj/\a.get aj=some u/\∀ j,a=.s j->u.own=false:=by
 cases a with
 | s i=>
  unfold put at e;dsimp only at e;split at e
  .rename_i x ex
   cases e;refine⟨rfl,?_,λ_ _=>rfl⟩;show(aj[i]?).join=_;rw[ex];rfl
  .cases e
 | u x=>
  cases e;exact⟨rfl,rfl,λj z=>by cases z⟩
def aR(i:Nat)(me:ME):MS:=λρ=>(me ρ).bind λp=>(put p).bind λq=>some<|.nx<|q.2.set i<|some q.1
theorem zL{me:ME}(h:VE K te me)(hi:i∉pn:=by decide):VS K pn EX (l0 te<|i3 i) (aR i me):=by
 intro ao A H₀ av ρ σ H f D s e k;obtain⟨⟨a,aj⟩,e1,e⟩:=zb e;obtain⟨⟨u,au⟩,e2,e3⟩:=zb e;clear e;have(rfl,eg,nc):=HY e2;cases e3;refine h ρ σ H a au _ s.rs e1 λv H1 g1 k1=>?_;have(n1,n2):=k1.own s.rs g1 eg nc;have s1:=s.go g1;refine k _ _<|s1.set hi (k1.now s.rs g1 eg) λo=>?_;have(b,rfl,hb):=n2 o;have(b',eb,gf):=n1 o;cases eb;exact⟨b,rfl,s.dm b gf,hb⟩
def zz(m1 m2:MS):MS:=λρ=>(m1 ρ).bind λf=>match f with
 | .nx af=>m2 af
 | f=>some f
theorem zu{t1 t2:TS}{m1 m2:MS}(h1:VS K pn EX t1 m1)(h2:VS K pn EX t2 m2):VS K pn EX (uj t1 t2) (zz m1 m2):=by
 intro ao A H₀ av ρ σ H f D s e k;have(f1,e1,e):=zb e;refine h1 ao A H₀ av ρ σ H f1 _ s e1 ?_;cases f1 with
 | nx aj=>exact λdI H1 s1=>h2 ao A H₀ av aj dI H1 f D s1 e k
 | bk aj=>cases e; exact k
 | ct aj=>cases e; exact k
 | rt u aj=>cases e; exact k
 | ex x aj=>cases e; exact k
def bF:MS:=λρ=>some<|.nx ρ
theorem cw:VS K pn EX CL bF:=λao A H₀ av ρ σ H f D s e k=>by cases e; exact k σ H s
def bt(mt:MT)(m1 m2:MS):MS:=λρ=>(mt ρ).bind λp=>if p.1=true then m1 p.2 else m2 p.2
theorem bR{t1 t2:TS}{mt:MT}{m1 m2:MS}(ht:VT K tt mt)(h1:VS K pn EX t1 m1)(h2:VS K pn EX t2 m2):VS K pn EX (B9 tt t1 t2) (bt mt m1 m2):=by
 intro ao A H₀ av ρ σ H f D s e k;obtain⟨⟨c,aj⟩,e1,e⟩:=zb e;refine ht ρ σ H c aj _ s.rs e1 λH1 g1=>?_;dsimp only at e;split at e
 .rename_i hc
  rw[if_pos hc];exact h1 ao A H₀ av aj σ H1 f D (s.go g1) e k
 .rename_i hc
  rw[if_neg hc];exact h2 ao A H₀ av aj σ H1 f D (s.go g1) e k
theorem n8{t:TS}{m:MS}(h:VS K pn EX t m):VS K pn EX (CW t) m:=by
 intro ao A H₀ av ρ σ H f D s e k;cases f with
 | nx aj=>exact⟨λaG H'=>Sn K pn ao A H₀ av aj aG H',h ao A H₀ av ρ σ H _ _ s e λaG H' s'=>s',λaG H' s'=>k aG H' s'⟩
 | bk aj=>exact⟨D.nx,h ao A H₀ av ρ σ H _ _ s e k,λ_ _ z=>z⟩
 | ct aj=>exact⟨D.nx,h ao A H₀ av ρ σ H _ _ s e k,λ_ _ z=>z⟩
 | rt u aj=>exact⟨D.nx,h ao A H₀ av ρ σ H _ _ s e k,λ_ _ z=>z⟩
 | ex x aj=>exact⟨D.nx,h ao A H₀ av ρ σ H _ _ s e k,λ_ _ z=>z⟩
def gq(me:ME):MS:=λρ=>(me ρ).bind λp=>some<|.nx p.2
theorem jX{me:ME}(h:VE K te me):VS K pn EX (CK te) (gq me):=by
 intro ao A H₀ av ρ σ H f D s e k;obtain⟨⟨a,aj⟩,e1,e⟩:=zb e;cases e;exact h ρ σ H a _ _ s.rs e1 λv H1 g1 k1=>k σ H1<|s.go g1
def bh(me:ME):MS:=λρ=>(me ρ).bind λp=>(put p).bind λq=>some<|.rt q.1 q.2
theorem bE{me:ME}(h:VE K te me):VS K pn EX (ui te) (bh me):=by
 intro ao A H₀ av ρ σ H f D s e k;obtain⟨⟨a,aj⟩,e1,e⟩:=zb e;obtain⟨⟨u,au⟩,e2,e3⟩:=zb e;clear e;have(rfl,eg,nc):=HY e2;cases e3;refine h ρ σ H a _ _ s.rs e1 λv H1 g1 k1=>?_;have(n1,n2):=k1.own s.rs g1 eg nc;exact k v σ H1 (s.go g1) (k1.now s.rs g1 eg)<|n1.mono s.dm
def pI(pn:Qa Nat)(i:Nat):MS:=λρ=>if i∈pn then none else(match ρ[i]? with
 | some (some u)=>some<|.rt u<|ρ.set i none
 | _=>none)
theorem HX:VS K pn EX (ui<|dS i) (pI pn i):=by
 intro ao A H₀ av ρ σ H f D s e k;unfold pI at e;split at e
 .cases e
 rename_i hi;split at e
 .rename_i u eu
  cases e;have(v,ev,p):=s.rs.rep i u eu;have back:∀ (j:Nat) (w:U),(ρ.set i none)[j]?=some (some w)->ρ[j]?=some (some w):=λj w e=>by
   by_cases hj:i=j
   .subst hj
    have hl:=(qk.mp e).1;rw[List.length_set]at hl;rw[List.getElem?_set_self hl]at e;cases e
   .rw[qC hj]at e
    exact e
  refine⟨v,ev,k v σ H ⟨⟨by rw[List.length_set]; exact s.rs.len,λj w e=>s.rs.rep j w<|back j w e,λa b x y ea eb=>s.rs.apart a b x y (back a x ea)<|back b y eb⟩,s.fr,λj w a e=>s.ow j w a<|back j w e,s.pin,s.dm,s.kp⟩ p λo=>?_⟩;have(a,rfl):=p.iO o;rcases s.ow i u a eu o ev with z|z
  .exact absurd z.1 hi
  .exact⟨a,rfl,z⟩
 .cases e
end
section
variable{EX:e9}{A:Qg->Prop}{jl:Hp}{ρ af:En}
def HW(K:qc)(J:It)(av:Hp)(ds:Qa D):Prop:=∀ H,Kp av H->∀ i:Nat,(∀ d,ds[i]?=some d->J.go i H/\∀ x H',J.vG i H x H'->cn H H'/\DF K H' x d)/\(i=ds.length->J.stop i H)
abbrev MI:=En->Qb (Qa D×En)
def VI(K:qc)(wi:TI)(mi:MI):Prop :=
 ∀ (ρ:En) (σ:St) (H:Hp) (ds:Qa D) (af:En) (R:It->Hp->Prop),Rs K ρ σ H->mi ρ=some (ds,af)->(∀ J H',Go K ρ σ H af H'->HW K J H' ds->R J H')->wi σ H R
def pF:U->Qb (Qa D)
 | .d (.list xs)=>some xs
 | _=>none
def l7:U->Qb (Qa D)
 | .d (.tuple xs)=>some xs
 | _=>none
def eK(f:U->Qb (Qa D))(me:ME):MI:=λρ=>(me ρ).bind λp=>(p.1.get p.2).bind λu=>(f u).bind λds=>some (ds,p.2)
theorem D1{me:ME}(h:VE K te me):VI K (CJ K te) (eK pF me):=by
 intro ρ σ H ds af R r e q;obtain⟨⟨a,aj⟩,e1,e⟩:=zb e;have(u,eu,e):=zb e;have(xs,ex,e):=zb e;cases e;refine h ρ σ H a _ _ r e1 λv H1 g1 k1=>?_;have p:=k1.now r g1 eu;unfold pF at ex;split at ex
 .cases ex
  have(b,ys,rfl,h1,h2):=DF.lst_inv p;refine⟨b,rfl,⟨ys,h1.sq⟩,q _ _ g1 λH2 k i=>⟨λd ed=>?_,λei=>?_⟩⟩
  .have(v,ev,dv):=(h2.kp k).get ed
   refine⟨⟨ys,v,(h1.kp k).sq,ev⟩,λx H' y=>?_⟩;have(rfl,y):=y;have:=y ys (h1.kp k).sq;rw[ev]at this;cases this;exact⟨λ_ _ z=>z,dv⟩
  .exact⟨ys,(h1.kp k).sq,by rw[h2.len]; omega⟩
 .cases ex
theorem sS{me:ME}(h:VE K te me):VI K (B5 K te) (eK l7 me):=by
 intro ρ σ H ds af R r e q;obtain⟨⟨a,aj⟩,e1,e⟩:=zb e;have(u,eu,e):=zb e;have(xs,ex,e):=zb e;cases e;refine h ρ σ H a _ _ r e1 λv H1 g1 k1=>?_;have p:=k1.now r g1 eu;unfold l7 at ex;split at ex
 .cases ex
  have(b,ys,rfl,h1,h2):=DF.aB p;refine⟨b,rfl,⟨ys,(aP.sq h1)⟩,q _ _ g1 λH2 k i=>⟨λd ed=>?_,λei=>?_⟩⟩
  .have(v,ev,dv):=(h2.kp k).get ed
   refine⟨⟨ys,v,(aP.kp k h1).sq,ev⟩,λx H' y=>?_⟩;have(rfl,y):=y;have:=y ys ((aP.kp k h1).sq);rw[ev]at this;cases this;exact⟨λ_ _ z=>z,dv⟩
  .exact⟨ys,(aP.kp k h1).sq,by rw[h2.len]; omega⟩
 .cases ex
def f7(lo:Int)(n:Nat):Qa D:=(List.range n).map λi=>.int<|lo+(i:Nat)
theorem Eo(lo:Int)(n:Nat):(f7 lo n).length=n:=by simp[f7]
theorem Ei{lo:Int}{d:D}(h:(f7 lo n)[i]?=some d):i < n/\d=.int (lo+(i:Nat)):=by
 have hl:=(qk.mp h).1;rw[Eo]at hl;refine⟨hl,?_⟩;unfold f7 at h;rw[List.getElem?_map,List.getElem?_range hl]at h;cases h;rfl
theorem K0{lo:Int}:HW K (w4 lo n) av (f7 lo n):=λH k i=>⟨λd ed=>by
  have(hi,rfl):=Ei ed;refine⟨hi,λx H' y=>?_⟩;have(rfl,rfl):=y;exact⟨λ_ _ z=>z,.int _⟩,λei=>by rw[Eo]at ei; exact Ü ei.symm⟩
def mD(ma:MA):MI:=λρ=>(ma ρ).bind λp=>(bC p.2 p.1).bind λus=>match us with
 | [.d<|.int j]=>if -(2^62)<=j/\j < 2^62 then some (f7 0 j.toNat,p.2)else none
 | _=>none
def xS(ma:MA):MI:=λρ=>(ma ρ).bind λp=>(bC p.2 p.1).bind λus=>match us with
 | [.d<|.int i,.d<|.int j]=>if -(2^62)<=i/\i < 2^62/\-(2^62)<=j/\j < 2^62 then some (f7 i (j - i).toNat,p.2)else none
 | _=>none
theorem tu{ta:TA}{ma:MA}(h:jj K ta ma):VI K (CI ta) (mD ma):=by
 intro ρ σ H ds af R r e q;obtain⟨⟨as,aj⟩,e1,e⟩:=zb e;have(us,eu,e):=zb e;refine h ρ σ H as aj _ r e1 λvs H1 g1 s1=>?_;have rp:=s1.m5 r g1 eu;dsimp only at e;split at e
 .split at e
  .rename_i j hc
   cases e;cases rp with
   | cons h1 t=>
    cases t;cases DF.int_inv h1;exact⟨j,rfl,hc.1,hc.2,q _ _ g1 K0⟩
  .cases e
 .cases e
theorem Vp{ta:TA}{ma:MA}(h:jj K ta ma):VI K (CH ta) (xS ma):=by
 intro ρ σ H ds af R r e q;obtain⟨⟨as,aj⟩,e1,e⟩:=zb e;have(us,eu,e):=zb e;refine h ρ σ H as aj _ r e1 λvs H1 g1 s1=>?_;have rp:=s1.m5 r g1 eu;dsimp only at e;split at e
 .split at e
  .rename_i i j hc
   cases e;cases rp with
   | cons h1 t=>
    cases t with
    | cons h2 t=>
     cases t;cases DF.int_inv h1;cases DF.int_inv h2;exact⟨i,j,rfl,hc,q _ _ g1 K0⟩
  .cases e
 .cases e
def qE:Nat->Qa D->Qa D
 | _,[]=>[]
 | i,d::ds=>.tuple [.int (i:Nat),d]::qE (i+1) ds
theorem Eu:∀ {ds:Qa D} {n i:Nat} {d:D},(qE n ds)[i]?=some d->∃ x,ds[i]?=some x/\d=.tuple [.int ((n+i:Nat):Int),x]
 | [],n,i,d,h=>by simp[qE]at h
 | x::ds,n,0,d,h=>by cases h; exact⟨x,rfl,rfl⟩
 | x::ds,n,i+1,d,h=>by
  have(y,ey,ed):=Eu (ds:=ds) (n:=n+1) (i:=i) h;exact⟨y,ey,by rw[ed]; congr 3; omega⟩
theorem Ex:∀ (ds:Qa D) (n:Nat),(qE n ds).length=ds.length
 | [],_=>rfl
 | _::ds,n=>congrArg (·+1)<|Ex ds<|n+1
def xR(ma:MA):MI:=λρ=>(ma ρ).bind λp=>(bC p.2 p.1).bind λus=>match us with
 | [.d<|.tuple ds]=>some (qE 0 ds,p.2)
 | _=>none
theorem Vo{ta:TA}{ma:MA}(h:jj K ta ma):VI K (Hd K ta) (xR ma):=by
 intro ρ σ H ds af R r e q;obtain⟨⟨as,aj⟩,e1,e⟩:=zb e;have(us,eu,e):=zb e;refine h ρ σ H as aj _ r e1 λvs H1 g1 s1=>?_;have rp:=s1.m5 r g1 eu;dsimp only at e;split at e
 .rename_i xs
  cases e;cases rp with
  | cons h1 t=>
   cases t;have(b,ys,rfl,h1,h2):=DF.aB h1;refine⟨b,rfl,⟨ys,(aP.sq h1)⟩,q _ _ g1 λH2 k i=>⟨λd ed=>?_,λei=>?_⟩⟩
   .have(x,ex,rfl):=Eu ed
    have(v,ev,dv):=(h2.kp k).get ex;refine⟨⟨ys,v,(aP.kp k h1).sq,ev⟩,λx H' y=>?_⟩;have(T,nT,rfl,y):=y;cases y ys v ((aP.kp k h1).sq) ev;have sm:=zM nT (.tup [.int i,v]);refine⟨sm,.tup (.inl zr)<|.cons ?_<|.cons (dv.kp sm.kp) .nil⟩;rw[Nat.zero_add];exact .int _
   .exact⟨ys,(aP.kp k h1).sq,by rw[Ex]at ei; rw[h2.len]; exact ei.symm⟩
 .cases e
abbrev MG:=D->En->Qb En
def zBk(pn:Qa Nat)(mg:MG):Prop:=∀ d ρ af,mg d ρ=some af->af.length=ρ.length/\∀ i∈pn,af[i]?=ρ[i]?
def Po(pn:Qa Nat)(mg:Qa D->En->Qb En):Prop:=∀ ds ρ af,mg ds ρ=some af->af.length=ρ.length/\∀ i∈pn,af[i]?=ρ[i]?
structure rJ (K:qc) (pn:Qa Nat) (g:TG) (mg:MG):Prop where
 run:∀ (ao:St) (A:Qg->Prop) (H₀ av:Hp) (ρ:En) (σ:St) (H:Hp) (v:V) (d:D) (af:En) (Q:St->Hp->Prop),Sn K pn ao A H₀ av ρ σ H->DF K H v d->mg d ρ=some af->(∀ aG,Sn K pn ao A H₀ av af aG H->Q aG H)->g v σ H Q
 ok:zBk pn mg
structure Bk (K:qc) (pn:Qa Nat) (g:gX) (mg:Qa D->En->Qb En):Prop where
 run:∀ (ao:St) (A:Qg->Prop) (H₀ av:Hp) (ρ:En) (σ:St) (H:Hp) (vs:Qa V) (ds:Qa D) (af:En) (Q:St->Hp->Prop),Sn K pn ao A H₀ av ρ σ H->aK K H vs ds->mg ds ρ=some af->(∀ aG,Sn K pn ao A H₀ av af aG H->Q aG H)->g vs σ H Q
 ok:Po pn mg
def zA(i:Nat):MG:=λd ρ=>some<|ρ.set i<|some<|.d d
theorem zy(hi:i∉pn:=by decide):rJ K pn (i3 i) (zA i) where
 run:=by
  intro ao A H₀ av ρ σ H v d af Q s h e q;cases e;exact q _ (s.set hi (u:=.d d) h λo=>by cases o)
 ok:=λd ρ af e=>by
  cases e;exact⟨List.length_set,λj hj=>qC (by rintro rfl; exact hi hj)⟩
def g9:Qa D->En->Qb En:=λds ρ=>match ds with | []=>some ρ|_=>none
def zW(g:MG)(gs:Qa D->En->Qb En):Qa D->En->Qb En:=λds ρ=>match ds with
 | d::ds=>(g d ρ).bind λaj=>gs ds aj
 | []=>none
theorem jW:Bk K pn xr g9 where
 run:=by
  intro ao A H₀ av ρ σ H vs ds af Q s h e q;cases h with
  | nil=>cases e; exact⟨rfl,q σ s⟩
  | cons=>cases e
 ok:=λds ρ af e=>by
  cases ds with
  | nil=>cases e; exact⟨rfl,λ_ _=>rfl⟩
  | cons=>cases e
theorem zR{gs:gX}{mg:MG}{qT:Qa D->En->Qb En}(h1:rJ K pn g mg)(h2:Bk K pn gs qT):Bk K pn (uK g gs) (zW mg qT) where
 run:=by
  intro ao A H₀ av ρ σ H vs ds af Q s h e q;cases h with
  | nil=>cases e
  | @cons v d vs ds hv t=>
   have(aj,e1,e):=zb (show(mg d ρ).bind (λaj=>qT ds aj)=some af from e);exact⟨v,vs,rfl,h1.run ao A H₀ av ρ σ H v d aj _ s hv e1 λdI s1=>h2.run ao A H₀ av aj dI H vs ds af Q s1 t e q⟩
 ok:=λds ρ af e=>by
  cases ds with
  | nil=>cases e
  | cons d ds=>
   have(aj,e1,e):=zb (show(mg d ρ).bind (λaj=>qT ds aj)=some af from e);have(a1,a2):=h1.ok d ρ aj e1;have(b1,b2):=h2.ok ds aj af e;exact⟨b1.trans a1,λi hi=>(b2 i hi).trans<|a2 i hi⟩
def gk(n:Nat)(gs:Qa D->En->Qb En):MG:=λd ρ=>match d with
 | .tuple ds=>if ds.length=n then gs ds ρ else none
 | _=>none
theorem jV{gs:gX}{qT:Qa D->En->Qb En}(h:Bk K pn gs qT):rJ K pn (xq K n gs) (gk n qT) where
 run:=by
  intro ao A H₀ av ρ σ H v d af Q s hd e q;unfold gk at e;split at e
  .split at e
   .rename_i ds hl
    have(a,xs,rfl,h1,h2):=DF.aB hd;exact⟨a,xs,rfl,(aP.sq h1),by rw[h2.len]; exact hl,h.run ao A H₀ av ρ σ H xs ds af Q s h2 e q⟩
   .cases e
  .cases e
 ok:=λd ρ af e=>by
  unfold gk at e;split at e
  .split at e
   .exact h.ok _ _ _ e
   .cases e
  .cases e
def k7(me:ME)(mg:MG):MS:=λρ=>(me ρ).bind λp=>(p.1.get p.2).bind λu=>match u with
 | .d d=>(mg d p.2).bind λaf=>some<|.nx af
 | _=>none
theorem uB{me:ME}{mg:MG}(h:VE K te me)(hg:rJ K pn g mg):VS K pn EX (l0 te g) (k7 me mg):=by
 intro ao A H₀ av ρ σ H f D s e k;obtain⟨⟨a,aj⟩,e1,e⟩:=zb e;have(u,eu,e):=zb e;refine h ρ σ H a aj _ s.rs e1 λv H1 g1 k1=>?_;have p:=k1.now s.rs g1 eu;dsimp only at e;split at e
 .have(au,e2,e3):=zb e
  cases e3;exact hg.run ao A H₀ av aj σ H1 v _ au _ (s.go g1) p e2 λaG s'=>k aG H1 s'
 .cases e
def xC(i j:Nat)(ma:MA):MS:=λρ=>(ma ρ).bind λp=>(bC p.2 p.1).bind λus=>match us with
 | [.d x,.d y]=>some<|.nx<|(p.2.set i<|some<|.d x).set j<|some<|.d y
 | _=>none
theorem Pn{ta:TA}{ma:MA}(h:jj K ta ma)(hi:i∉pn:=by decide)(hj:j∉pn:=by decide):VS K pn EX (B6 i j ta) (xC i j ma):=by
 intro ao A H₀ av ρ σ H f D s e k;obtain⟨⟨as,aj⟩,e1,e⟩:=zb e;have(us,eu,e):=zb e;refine h ρ σ H as aj _ s.rs e1 λvs H1 g1 s1=>?_;have rp:=s1.m5 s.rs g1 eu;dsimp only at e;split at e
 .rename_i x y
  cases e;cases rp with
  | @cons v _ vs _ h1 t=>
   cases t with
   | @cons w _ _ _ h2 t=>
    cases t;have sn:=(s.go g1).set hi (u:=.d x) h1 λo=>by cases o
    exact⟨v,w,rfl,k _ _ (sn.set hj (u:=.d y) h2 λo=>by cases o)⟩
 .cases e
def eQ(mg:MG)(mb:MS):Qa D->En->Qb Fl
 | [],ρ=>some<|.nx ρ
 | d::ds,ρ=>(mg d ρ).bind λaj=>(mb aj).bind λf=>match f with
  | .nx au=>eQ mg mb ds au
  | .ct au=>eQ mg mb ds au
  | .bk au=>some<|.nx au
  | .rt u au=>some<|.rt u au
  | .ex x au=>some<|.ex x au
def eO(mi:MI)(mg:MG)(mb:MS):MS:=λρ=>(mi ρ).bind λp=>eQ mg mb p.1 p.2
theorem gj{wi:TI}{tb:TS}{mi:MI}{mg:MG}{mb:MS}(hi:VI K wi mi)(hg:rJ K pn g mg)(hb:VS K pn EX tb mb):VS K pn EX (BW wi g tb) (eO mi mg mb):=by
 intro ao A H₀ av ρ σ H f D s e k;obtain⟨⟨ds,aj⟩,e1,e⟩:=zb e;refine hi ρ σ H ds aj _ s.rs e1 λJ H1 g1 run=>?_;have s1:=(s.go g1).at;have nh:Kp av H1:=(s.go g1).kp;refine⟨λi m aG H'=>m=ds.length - i/\i<=ds.length/\∃ af,Sn K pn ao A H₀ H1 af aG H'/\eQ mg mb (ds.drop i) af=some f,⟨ds.length,by simp,Ì _,aj,s1,e⟩,?_⟩;rintro i m aG H' ⟨rfl,ip,af,s',el⟩
 by_cases lQ:i < ds.length
 .rw[List.drop_eq_getElem_cons lQ]at el
  have(au,e2,el):=zb (show(mg ds[i] af).bind _=some f from el);have(fb,eb,el):=zb el;have(go,yl):=(run H' s'.kp i).1 ds[i] (qm lQ);refine .inr ⟨go,λfe H3=>∃ kY,Sn K pn ao A H₀ H1 kY fe H3/\eQ mg mb (ds.drop<|i+1) kY=some f,λfe H3 ⟨kY,s3,e3⟩=>⟨ds.length - (i+1),by omega,rfl,lQ,kY,s3,e3⟩,λx H2 y=>?_⟩;have(sm,dx):=yl x H2 y;have s2:=s'.go (Go.grow s'.rs sm);refine hg.run ao A H₀ H1 af aG H2 x ds[i] au _ s2 dx e2 λfe s3=>?_;refine hb ao A H₀ H1 au fe H2 fb _ s3 eb ?_;cases fb with
  | nx eM=>exact λgY H4 s4=>⟨eM,s4,el⟩
  | ct eM=>exact λgY H4 s4=>⟨eM,s4,el⟩
  | bk eM=>cases el; exact λgY H4 s4=>k gY H4<|s4.re nh
  | rt u eM=>cases el; exact λv gY H4 s4 p n=>k v gY H4 (s4.re nh) p n
  | ex x eM=>cases el; exact λa gY H4 s4 p n=>k a gY H4 (s4.re nh) p n
 .have ei:i=ds.length:=by omega
  subst ei;rw[List.drop_length]at el;cases el;exact .inl ⟨(run H' s'.kp _).2 rfl,k aG H'<|s'.re nh⟩
def gC(mt:MT)(mb:MS):Nat->En->Qb Fl
 | 0,_=>none
 | n+1,ρ=>(mt ρ).bind λp=>if p.1=true then(mb p.2).bind λf=>match f with
  | .nx au=>gC mt mb n au
  | .ct au=>gC mt mb n au
  | .bk au=>some<|.nx au
  | .rt u au=>some<|.rt u au
  | .ex x au=>some (.ex x au)else some (.nx p.2)
open Classical in
def sR(mt:MT)(mb:MS):MS:=λρ=>if h:∃ n,(gC mt mb n ρ).isSome=true then gC mt mb h.choose ρ else none
theorem Vn{tb:TS}{mt:MT}{mb:MS}(ht:VT K tt mt)(hb:VS K pn EX tb mb):VS K pn EX (Dj tt tb) (sR mt mb):=by
 intro ao A H₀ av ρ σ H f D s e k;unfold sR at e;split at e
 .rename_i hn
  generalize hn.choose=n at e;refine⟨λm aG H'=>∃ af,Sn K pn ao A H₀ av af aG H'/\gC mt mb m af=some f,⟨n,ρ,s,e⟩,?_⟩;rintro m aG H' ⟨af,s',el⟩;cases m with
  | zero=>cases el
  | succ m=>
   obtain⟨⟨b,aj⟩,e1,el⟩:=zb (show(mt af).bind _=some f from el);refine ht af aG H' b aj _ s'.rs e1 λH1 g1=>?_;dsimp only at el;split at el
   .rename_i hc
    rw[if_pos hc];have(fb,eb,el):=zb el;refine⟨λfE H2=>∃ au,Sn K pn ao A H₀ av au fE H2/\gC mt mb m au=some f,λfE H2 ⟨au,s2,e2⟩=>⟨m,Ø m,au,s2,e2⟩,?_⟩;refine hb ao A H₀ av aj aG H1 fb _ (s'.go g1) eb ?_;cases fb with
    | nx eM=>exact λgY H4 s4=>⟨eM,s4,el⟩
    | ct eM=>exact λgY H4 s4=>⟨eM,s4,el⟩
    | bk eM=>cases el; exact λgY H4 s4=>k gY H4 s4
    | rt u eM=>cases el; exact λv gY H4 s4 p n=>k v gY H4 s4 p n
    | ex x eM=>cases el; exact λa gY H4 s4 p n=>k a gY H4 s4 p n
   .rename_i hc
    rw[if_neg hc];cases el;exact k aG H1<|s'.go g1
 .cases e
theorem Al{mt:MT}{mb:MS}:∀ {n:Nat} {ρ:En} {f:Fl},gC mt mb n ρ=some f->∀ k,gC mt mb (n+k) ρ=some f
 | 0,_,_,e,_=>by cases e
 | n+1,ρ,f,e,k=>by
  rw[show n+1+k=(n+k)+1 by omega];obtain⟨⟨b,aj⟩,e1,e⟩:=zb (show(mt ρ).bind _=some f from e);show(mt ρ).bind _=some f;rw[e1];show(if b=true then _ else _)=_;dsimp only at e;split at e
  .rename_i hc
   rw[if_pos hc];have(fb,eb,e):=zb e;rw[eb];cases fb with
   | nx au=>exact Al (n:=n) e k
   | ct au=>exact Al (n:=n) e k
   | bk au=>exact e
   | rt u au=>exact e
   | ex x au=>exact e
  .rename_i hc
   rw[if_neg hc];exact e
theorem W0{mt:MT}{mb:MS}{ρ:En}{f:Fl}(e:gC mt mb n ρ=some f):sR mt mb ρ=some f:=by
 have h:∃ n,(gC mt mb n ρ).isSome=true:=⟨n,by rw[e]; rfl⟩;unfold sR;rw[dif_pos h];have(f',N7):=ã.mp h.choose_spec;rw[N7];have a:=Al e h.choose;have b:=Al N7 n;rw[Nat.add_comm,b]at a;exact a
end
section
variable{A:Qg->Prop}{jl:Hp}{ρ af:En}
def gL(nt:Nat)(js:Qa Nat)(ρ:En):En:=List.replicate nt none++js.map λj=>ρ.getD j none
def reset(nt:Nat)(ρ:En):En:=List.replicate nt none++ρ.drop nt
def back:Qa Nat->Qa (Qb U)->En->En
 | j::js,some u::us,ρ=>back js us<|ρ.set j<|some u
 | _::js,none::us,ρ=>back js us ρ
 | _,_,ρ=>ρ
def ij(nt:Nat)(mg:MG)(mt:MT)(me:ME):Qa D->En->Qa D->Qb (Qa D×En)
 | [],ρ,ys=>some (ys,ρ)
 | d::ds,ρ,ys=>if ys.length < sizeLine then(mg d ρ).bind λaj=>(mt aj).bind λb=>if b.1=true then(me b.2).bind λp=>(p.1.get p.2).bind λu=>(match u with
   | .d y=>ij nt mg mt me ds (reset nt p.2)<|ys++[y]
   | _=>none)else ij nt mg mt me ds (reset nt b.2) ys else none
def kG(mi:MI)(nt:Nat)(js:Qa Nat)(mg:MG)(mt:MT)(me:ME):ME:=λρ=>(mi ρ).bind λp=>(ij nt mg mt me p.1 (gL nt js p.2) []).bind λq=>some (.u<|.l q.1,back js (q.2.drop nt) p.2)
def jM(nt n:Nat):Qa Nat:=(List.range n).map (nt+·)
theorem yP:i∈jM nt n↔nt<=i/\i < nt+n:=by
 unfold jM;rw[List.mem_map];constructor
 .rintro⟨a,ha,rfl⟩
  have:=Ý.mp ha;omega
 .intro h
  exact⟨i - nt,Ý.mpr (by omega),by omega⟩
theorem uR{u:U}(h:(gL nt js ρ)[i]?=some (some u)):∃ p j,i=nt+p/\js[p]?=some j/\ρ[j]?=some (some u):=by
 unfold gL at h
 by_cases hi:i < nt
 .rw[List.getElem?_append_left (by simpa using hi),List.getElem?_replicate,if_pos hi]at h
  cases h
 .rw[List.getElem?_append_right (by simp; omega),List.length_replicate,List.getElem?_map]at h
  have(j,ej,e):=qr.mp h;refine⟨i - nt,j,by omega,ej,?_⟩;rw[qB]at e;cases q:ρ[j]? with
  | none=>rw[q]at e; cases e
  | some o=>rw[q]at e; exact congrArg some e
theorem Ha{p:Nat}(h:js[p]?=some j):(c0 nt js σ)[nt+p]?=some (σ.getD j none):=by
 unfold c0;rw[List.getElem?_append_right (by simp),List.length_replicate,Nat.add_sub_cancel_left,List.getElem?_map,h];rfl
theorem HV:(c0 nt js σ).length=nt+js.length:=by unfold c0; simp
theorem Jo:(gL nt js ρ).length=nt+js.length:=by unfold gL; simp
def rR(ρ:En)(σ:St)(js:Qa Nat)(a:Qg):Prop:=∃ (p j:Nat) (u:U),js[p]?=some j/\ρ[j]?=some (some u)/\u.own=true/\σ[j]?=some (some<|.ref a)
theorem Vm(r:Rs K ρ σ H)(nd:js.Nodup):Sn K (jM nt js.length) (c0 nt js σ) (rR ρ σ js) H H (gL nt js ρ) (c0 nt js σ) H:=by
 have sat:∀ {p j:Nat} {v:V},js[p]?=some j->σ[j]?=some (some v)->(c0 nt js σ)[nt+p]?=some (some v):=λ{p j v} hp hv=>by
  rw[Ha hp,qB,hv];rfl
 refine⟨⟨by rw[Jo,HV],λi u e=>?_,λi k u w ei ek ou ow es=>?_⟩,λ_ _ h _=>h,λi u a e o es=>?_,λ_ _=>rfl,λ_ h=>h,Kp.refl H⟩
 .have(p,j,rfl,hj,hr):=uR e
  have(v,ev,q):=r.rep j u hr;exact⟨v,sat hj ev,q⟩
 .have(p,j,rfl,hj,hr):=uR ei
  have(p',j',rfl,wx,A3):=uR ek;have(v,ev,_):=r.rep j u hr;have(v',rC,_):=r.rep j' w A3;rw[sat hj ev,sat wx rC]at es;have:j=j':=r.apart j j' u w hr A3 ou ow (by rw[ev,rC]; exact es);subst this;have l1:=(qk.mp hj);have l2:=(qk.mp wx);have(h1,e1):=l1;have(h2,e2):=l2;have:=(List.getElem_inj nd).mp (e1.trans e2.symm);omega
 .have(p,j,rfl,hj,hr):=uR e
  have(v,ev,_):=r.rep j u hr;rw[sat hj ev]at es;cases es;exact .inl ⟨yP.mpr ⟨by omega,by have:=(qk.mp hj).1; omega⟩,p,j,u,hj,hr,o,ev⟩
theorem Sn.reset{jo:St}{au:En}{fE:St}(s:Sn K (jM nt n) jo A H₀ av au fE H)(l1:au.length=nt+n)(l2:jo.length=nt+n):Sn K (jM nt n) jo A H₀ av (L2.reset nt au) jo H:=by
 have bk:∀ (i:Nat) (u:U),(L2.reset nt au)[i]?=some (some u)->nt<=i/\i < nt+n/\au[i]?=some (some u):=λi u e=>by
  unfold L2.reset at e
  by_cases hi:i < nt
  .rw[List.getElem?_append_left (by simpa using hi),List.getElem?_replicate,if_pos hi]at e
   cases e
  .rw[List.getElem?_append_right (by simp; omega),List.length_replicate,List.getElem?_drop,show nt+(i - nt)=i by omega]at e
   have:=(qk.mp e).1;exact⟨by omega,by omega,e⟩
 have pin:∀ i,nt<=i->i < nt+n->jo[i]?=fE[i]?:=λi h1 h2=>(s.pin i<|yP.mpr ⟨h1,h2⟩).symm;have ll:(L2.reset nt au).length=nt+n:=by unfold L2.reset; simp; omega
 refine⟨⟨by omega,λi u e=>?_,λi j u w ei ej ou ow es=>?_⟩,s.fr,λi u a e o es=>?_,λ_ _=>rfl,s.dm,s.kp⟩
 .have(h1,h2,e'):=bk i u e
  rw[pin i h1 h2];exact s.rs.rep i u e'
 .have(h1,h2,pe):=bk i u ei
  have(h3,h4,nI):=bk j w ej;rw[pin i h1 h2,pin j h3 h4]at es;exact s.rs.apart i j u w pe nI ou ow es
 .have(h1,h2,e'):=bk i u e
  rw[pin i h1 h2]at es;exact s.ow i u a e' o es
theorem yO:∀ {js:Qa Nat} {us:Qa (Qb U)} {ρ:En} {j:Nat} {w:U},(back js us ρ)[j]?=some (some w)->(∃ p:Nat,js[p]?=some j/\us[p]?=some (some w))\/(ρ[j]?=some (some w)/\∀ p:Nat,js[p]?=some j->∀ x,us[p]?≠some (some x))
 | [],us,ρ,j,w,e=>.inr ⟨by cases us<;>exact e,λp z=>by simp at z⟩
 | k::js,[],ρ,j,w,e=>.inr ⟨e,λp z x=>by simp⟩
 | k::js,none::us,ρ,j,w,e=>by
  rcases yO (js:=js) (us:=us) (ρ:=ρ) (show(back js us ρ)[j]?=some (some w) from e)with⟨p,h1,h2⟩|⟨h1,h2⟩
  .exact .inl ⟨p+1,h1,h2⟩
  .refine .inr ⟨h1,λp z x=>?_⟩
   cases p with
   | zero=>intro q; cases q
   | succ p=>exact h2 p z x
 | k::js,some u::us,ρ,j,w,e=>by
  rcases yO (js:=js) (us:=us) (ρ:=ρ.set k (some u)) (show(back js us<|ρ.set k<|some u)[j]?=some (some w) from e)with⟨p,h1,h2⟩|⟨h1,h2⟩
  .exact .inl ⟨p+1,h1,h2⟩
  .by_cases hk:k=j
   .subst hk
    have hl:k < (ρ.set k<|some u).length:=(qk.mp h1).1;rw[List.length_set]at hl;rw[List.getElem?_set_self hl]at h1;exact .inl ⟨0,rfl,by cases h1; rfl⟩
   .rw[qC hk]at h1
    refine .inr ⟨h1,λp z x=>?_⟩;cases p with
    | zero=>cases(show some k=some j from z); exact absurd rfl hk
    | succ p=>exact h2 p z x
theorem yU:∀ (js:Qa Nat) (us:Qa (Qb U)) (ρ:En),(back js us ρ).length=ρ.length
 | [],us,ρ=>by cases us<;>rfl
 | _::js,[],ρ=>rfl
 | _::js,none::us,ρ=>yU js us ρ
 | j::js,some u::us,ρ=>by show(back js us<|ρ.set j<|some u).length=_; rw[yU]; exact List.length_set
theorem y0:∀ {js:Qa Nat} {us:Qa (Qb U)} {ρ:En} {j:Nat} {w:U},ρ[j]?=some (some w)->∃ w',(back js us ρ)[j]?=some (some w')
 | [],us,ρ,j,w,e=>⟨w,by cases us<;>exact e⟩
 | _::js,[],ρ,j,w,e=>⟨w,e⟩
 | _::js,none::us,ρ,j,w,e=>y0 (js:=js) (us:=us) e
 | k::js,some u::us,ρ,j,w,e=>by
  by_cases hk:k=j
  .subst hk
   exact y0 (js:=js) (us:=us) (w:=u)<|ß (qk.mp e).1
  .exact y0 (js:=js) (us:=us) (w:=w) (by rw[qC hk]; exact e)
theorem Sn.comp_back{au:En}(r:Rs K ρ σ H)(s:Sn K (jM nt js.length) (c0 nt js σ) (rR ρ σ js) H av au (c0 nt js σ) H')(l:au.length=nt+js.length)(sh:fY (gL nt js ρ) au):
  Go K ρ σ H (back js (au.drop nt) ρ) H':=by
 have vH:∀ (p:Nat) (w:U),(au.drop nt)[p]?=some (some w)->au[nt+p]?=some (some w):=λp w e=>by rw[List.getElem?_drop]at e; exact e
 have kp:Kp H H':=by
  refine⟨λb xs h=>s.fr b _ h λ⟨p,j,u,hj,hr,ou,es⟩=>?_,λb ob u h=>s.fr b _ h λ⟨p,j,u,hj,hr,ou,es⟩=>?_,λb x h=>s.fr b _ h λ⟨p,j,u,hj,hr,ou,es⟩=>?_⟩
  all_goals
   have(c,q,m):=r.ow ⟨j,u,hr,ou,es⟩;rw[h]at q; cases q; exact m
 have Fb:∀ (p j:Nat) (w:U),js[p]?=some j->(au.drop nt)[p]?=some (some w)->w.own=true->∃ x,ρ[j]?=some (some x)/\x.own=true:=λp j w hj e o=>by
  have(x,ex,ox):=sh.own (nt+p) w (vH p w e) o;have(p',j',ep,wx,hr):=uR ex;have:p'=p:=by omega
  subst this;rw[hj]at wx;cases wx;exact⟨x,hr,ox⟩
 have own:∀ (j:Nat) (w:U),(back js (au.drop nt) ρ)[j]?=some (some w)->w.own=true->∃ x,ρ[j]?=some (some x)/\x.own=true:=λj w e o=>by
  rcases yO e with⟨p,hj,hu⟩|⟨h1,_⟩
  .exact Fb p j w hj hu o
  .exact⟨w,h1,o⟩
 refine⟨⟨by rw[yU]; exact r.len,λj w e=>?_,λi j u w ei ej ou ow es=>?_⟩,λa o h n=>s.fr a o h λ⟨p,j,u,hj,hr,ou,es⟩=>n ⟨j,u,hr,ou,es⟩,⟨yU _ _ _,own,λj w e=>y0 e⟩,s.dm⟩
 .rcases yO e with⟨p,hj,hu⟩|⟨h1,h2⟩
  .have(v,ev,q):=s.rs.rep (nt+p) w (vH p w hu)
   rw[Ha hj]at ev;refine⟨v,?_,q⟩;rw[qB]at ev;cases z:σ[j]? with
   | none=>rw[z]at ev; cases ev
   | some o=>rw[z]at ev; exact congrArg some<|qx ev
  .have(v,ev,q):=r.rep j w h1
   refine⟨v,ev,q.kp kp λow a c ea hc=>s.fr a c hc λ⟨p,j',u,hj,hr,ou,es⟩=>?_⟩;subst ea;have:j'=j:=r.apart j' j u w hr h1 ou ow (by rw[es,ev]);subst this;have e1:(gL nt js ρ)[nt+p]?=some (some u):=by
    unfold gL;rw[List.getElem?_append_right (by simp),List.length_replicate,Nat.add_sub_cancel_left,List.getElem?_map,hj];show some (ρ.getD j' none)=_;rw[qB,hr];rfl
   have(w',gg):=sh.live _ _ e1;exact h2 p hj w' (by rw[List.getElem?_drop]; exact gg)
 .have(x,ex,ox):=own i u ei ou
  have(y,ey,oy):=own j w ej ow;exact r.apart i j x y ex ey ox oy es
theorem fY.qM{iW aj:En}(l:iW.length=nt+n)(h0:∀ i,i < nt->iW[i]?=some none)(l1:aj.length=nt+n)(own:∀ (i:Nat) (u:U),nt<=i->aj[i]?=some (some u)->u.own=true->∃ w,iW[i]?=some (some w)/\w.own=true)(live:∀ (i:Nat) (u:U),nt<=i->iW[i]?=some (some u)->∃ w,aj[i]?=some (some w)):fY iW (L2.reset nt aj):=by
 have at':∀ i,nt<=i->(L2.reset nt aj)[i]?=aj[i]?:=λi hi=>by
  unfold L2.reset;rw[List.getElem?_append_right (by simp; omega),List.length_replicate,List.getElem?_drop,show nt+(i - nt)=i by omega]
 have lo:∀ i,i < nt->(L2.reset nt aj)[i]?=some none:=λi hi=>by
  unfold L2.reset;rw[List.getElem?_append_left (by simpa using hi),List.getElem?_replicate,if_pos hi]
 refine⟨by unfold L2.reset; simp; omega,λi u e o=>?_,λi u e=>?_⟩
 .by_cases hi:i < nt
  .rw[lo i hi]at e; cases e
  .rw[at' i (by omega)]at e
   exact own i u (by omega) e o
 .by_cases hi:i < nt
  .rw[h0 i hi]at e; cases e
  .rw[at' i (by omega)]
   exact live i u (by omega) e
theorem JU{aj:En}(h:i < nt):(L2.reset nt aj)[i]?=some none:=by
 unfold L2.reset;rw[List.getElem?_append_left (by simpa using h),List.getElem?_replicate,if_pos h]
theorem Ry(h:i < nt):(gL nt js ρ)[i]?=some none:=by
 unfold gL;rw[List.getElem?_append_left (by simpa using h),List.getElem?_replicate,if_pos h]
def VIA(K:qc)(js:Qa Nat)(wi:TI)(mi:MI):Prop :=
 ∀ (ρ:En) (σ:St) (H:Hp) (ds:Qa D) (af:En) (R:It->Hp->Prop),Rs K ρ σ H->mi ρ=some (ds,af)->(∀ J H',Go K ρ σ H af H'->(∀ H2,Kp H' H2->w5 (rR af σ js) H' H2->∀ i:Nat,(∀ d,ds[i]?=some d->J.go i H2/\∀ x H3,J.vG i H2 x H3->cn H2 H3/\DF K H3 x d)/\(i=ds.length->J.stop i H2))->R J H')->wi σ H R
theorem Pm{wi:TI}{mi:MI}{mg:MG}{mt:MT}{me:ME}(hi:VIA K js wi mi)(hg:rJ K (jM nt js.length) g mg)(ht:VT K tt mt)(he:VE K te me)(nd:js.Nodup:=by decide):
  VE K (vN wi nt js g tt te) (kG mi nt js mg mt me):=by
 intro ρ σ H a af Q r e q;obtain⟨⟨ds,aj⟩,e1,e⟩:=zb e;obtain⟨⟨zs,GG⟩,e2,e⟩:=zb e;cases e;refine hi ρ σ H ds aj _ r e1 λJ H1 g1 run=>?_;have s1:=Vm (nt:=nt) (js:=js) g1.rs nd;refine⟨λi m ys H'=>m=ds.length - i/\i<=ds.length/\∃ iW yd,Sn K (jM nt js.length) (c0 nt js σ) (rR aj σ js) H1 H1 iW (c0 nt js σ) H'/\fY (gL nt js aj) iW/\(∀ k,k < nt->iW[k]?=some none)/\aK K H' ys yd/\ij nt mg mt me (ds.drop i) iW yd=some (zs,GG),
  ⟨ds.length,by simp,Ì _,_,[],s1,fY.refl _,λk hk=>Ry hk,.nil,e2⟩,?_⟩
 rintro i m ys H' ⟨rfl,ip,iW,yd,s',sh,lo,dy,el⟩;have lc:iW.length=nt+js.length:=by rw[sh.len,Jo]
 by_cases lQ:i < ds.length
 .rw[List.drop_eq_getElem_cons lQ]at el
  unfold ij at el;split at el
  .rename_i hz
   have(au,e3,el):=zb el;obtain⟨⟨b,kY⟩,e4,el⟩:=zb el;have(l2,p2):=hg.ok _ _ _ e3;have(go,yl):=(run H' s'.kp s'.fr i).1 ds[i] (qm lQ);refine .inr ⟨go,by rw[dy.len]; exact hz,λgS H2=>∃ iV AE,Sn K (jM nt js.length) (c0 nt js σ) (rR aj σ js) H1 H1 iV (c0 nt js σ) H2/\fY (gL nt js aj) iV/\(∀ k,k < nt->iV[k]?=some none)/\aK K H2 gS AE/\ij nt mg mt me (ds.drop<|i+1) iV AE=some (zs,GG),
    λgS H2 ⟨iV,AE,z⟩=>⟨ds.length - (i+1),by omega,rfl,lQ,iV,AE,z⟩,λx H2 y=>?_⟩
   have(sm,dx):=yl x H2 y;have s2:=s'.go (Go.grow s'.rs sm);refine hg.run _ _ _ _ iW _ H2 x ds[i] au _ s2 dx e3 λfe s3=>?_;have toEnd:∀ {eM:En} {H4:Hp},Go K au fe H2 eM H4->Sn K (jM nt js.length) (c0 nt js σ) (rR aj σ js) H1 H1 (L2.reset nt eM) (c0 nt js σ) H4/\fY (gL nt js aj) (L2.reset nt eM):=λ{eM H4} g4=>by
    have l4:eM.length=nt+js.length:=by rw[g4.shr.len,l2,lc]
    refine⟨(s3.go g4).reset l4 HV,sh.trans<|fY.qM lc lo l4 (λk u hk ek ou=>?_) λk u hk ek=>?_⟩
    .have(w,ew,ow):=g4.shr.own k u ek ou
     have lk:k < nt+js.length:=by rw[<-l2.trans lc]; exact(qk.mp ew).1
     rw[p2 k<|yP.mpr ⟨hk,lk⟩]at ew;exact⟨w,ew,ow⟩
    .have lk:k < nt+js.length:=by rw[<-lc]; exact(qk.mp ek).1
     rw[<-p2 k (yP.mpr ⟨hk,lk⟩)]at ek;exact g4.shr.live k u ek
   refine ht au fe H2 b kY _ s3.rs e4 λH3 g3=>?_;dsimp only at el;split at el
   .rename_i hb
    rw[if_pos hb];obtain⟨⟨a4,eM⟩,e5,el⟩:=zb el;have(u,e6,el):=zb el;refine he kY fe H3 a4 eM _ g3.rs e5 λv H4 g4 k4=>?_;have pv:=k4.now g3.rs g4 e6;dsimp only at el;split at el
    .rename_i yv
     have(sn,sr):=toEnd (g3.trans g4);exact⟨_,_,sn,sr,λk hk=>JU hk,((dy.kp sm.kp).kp<|(g3.trans g4).kp s3.rs).snoc pv,el⟩
    .cases el
   .rename_i hb
    rw[if_neg hb];have(sn,sr):=toEnd g3;exact⟨_,_,sn,sr,λk hk=>JU hk,(dy.kp sm.kp).kp<|g3.kp s3.rs,el⟩
  .cases el
 .have ei:i=ds.length:=by omega
  subst ei;rw[List.drop_length]at el;cases el;refine .inl ⟨(run H' s'.kp s'.fr _).2 rfl,λDa hD=>?_⟩;have gb:=Sn.comp_back g1.rs s' lc sh;have sm:=zM hD (.lst ys);exact q _ _ ((g1.trans gb).trans<|Go.grow gb.rs sm) ⟨⟨Da,ys,rfl,zr,dy.kp sm.kp⟩,λ_=>⟨Da,rfl,(g1.trans gb).dm _ hD⟩⟩
theorem pE{wi:TI}{mi:MI}{mg:MG}{mt:MT}{me:ME}(hi:VI K wi mi)(hg:rJ K (jM nt js.length) g mg)(ht:VT K tt mt)(he:VE K te me)(nd:js.Nodup:=by decide):
  VE K (vN wi nt js g tt te) (kG mi nt js mg mt me):=Pm (λρ σ H ds af R r e q=>hi ρ σ H ds af R r e λJ H' g run=>q J H' g λH2 k _=>run H2 k) hg ht he nd
end
section
variable{EX:e9}{A:Qg->Prop}{jl:Hp}{ρ af:En}
def gB(pn:Qa Nat)(ρ:En):Nat->Qa U->Qb (Qa U)
 | _,[]=>some []
 | i,u::us=>(if i∈pn then(ρ[i]?).join.bind λo=>if o.own=true/\u.own=false then none else some o else if u.own=true then none else some u).bind λo=>(gB pn ρ (i+1) us).bind λos=>some<|o::os
def cj(n:Nat)(pn:Qa Nat)(m:MS):FD:=λus=>(m<|sm us++List.replicate (n - us.length) none).bind λf=>match f with
 | .rt u ρ=>(gB pn ρ 0 us).bind λos=>some (u,os)
 | .nx ρ=>(gB pn ρ 0 us).bind λos=>some (.d .none,os)
 | _=>none
theorem JT:∀ {us os:Qa U} {i:Nat},gB pn ρ i us=some os->os.length=us.length
 | [],os,i,e=>by cases e; rfl
 | u::us,os,i,e=>by
  have(o,e1,e):=zb e;have(AM,e2,e):=zb e;cases e;simp[JT e2]
theorem vg:∀ {us os:Qa U} {i p:Nat} {o:U},gB pn ρ i us=some os->os[p]?=some o->∃ u,us[p]?=some u/\((i+p∈pn/\ρ[i+p]?=some (some o)/\(o.own=true->u.own=true))\/(i+p∉pn/\o=u/\u.own=false))
 | [],os,i,p,o,e,ep=>by cases e; simp at ep
 | u::us,os,i,p,o,e,ep=>by
  have(o1,e1,e):=zb e;have(AM,e2,e):=zb e;cases e;cases p with
  | zero=>
   cases(show some o1=some o from ep);refine⟨u,rfl,?_⟩;rw[Nat.add_zero];split at e1
   .rename_i hi
    have(o2,e3,e1):=zb e1;split at e1
    .cases e1
    .rename_i hc
     cases e1;refine .inl ⟨hi,?_,λoo=>?_⟩
     .cases q:ρ[i]? with
      | none=>rw[q]at e3; cases e3
      | some x=>rw[q]at e3; cases x with
       | none=>cases e3
       | some y=>cases e3; rfl
     .cases hu:u.own with
      | true=>rfl
      | false=>exact absurd ⟨oo,hu⟩ hc
   .rename_i hi
    split at e1
    .cases e1
    .rename_i hc
     cases e1;exact .inr ⟨hi,rfl,by simpa using hc⟩
  | succ p=>
   have(u',eu,h):=vg (i:=i+1) (p:=p) e2 ep;refine⟨u',eu,?_⟩;rw[show i+(p+1)=i+1+p by omega];exact h
theorem JS:∀ {us os:Qa U} {i p:Nat} {u:U},gB pn ρ i us=some os->us[p]?=some u->u.own=true->i+p∈pn
 | [],os,i,p,u,e,ep,_=>by simp at ep
 | u::us,os,i,p,u',e,ep,o=>by
  have(o1,e1,e):=zb e;have(AM,e2,e):=zb e;cases p with
  | zero=>
   cases(show some u=some u' from ep);rw[Nat.add_zero];split at e1
   .assumption
   .first|cases e1 | (rw[if_pos o]at e1; cases e1)
  | succ p=>
   rw[show i+(p+1)=i+1+p by omega];exact JS (i:=i+1) (p:=p) e2 ep o
theorem vk{vs:Qa V}(h:i < vs.length):(fq N vs)[i]?=(dC vs)[i]?:=by
 unfold fq dC;rw[List.getElem?_append_left (by simpa using h)]
theorem WZ{us os:Qa U}{vs:Qa V}{OJ:En}(r:Rs K (sm us) (dC vs) H)(hl:us.length<=N.length)(ho:gB pn OJ 0 us=some os):
  Sn K pn (fq N vs) (Ow (sm us)<|dC vs) H H (sm us++List.replicate (N.length - us.length) none) (fq N vs) H:=by
 have lv:us.length=vs.length:=by have:=r.len; unfold sm dC at this; simpa using this
 have inv:∀ (i:Nat) (u:U),(sm us++List.replicate (N.length - us.length) none)[i]?=some (some u)->i < us.length/\(sm us)[i]?=some (some u):=λi u e=>by
  by_cases hi:i < us.length
  .rw[List.getElem?_append_left (by unfold sm; simpa using hi)]at e
   exact⟨hi,e⟩
  .rw[List.getElem?_append_right (by unfold sm; simp; omega),List.getElem?_replicate]at e
   split at e<;>cases e
 refine⟨⟨?_,λi u e=>?_,λi j u w ei ej ou ow es=>?_⟩,λ_ _ h _=>h,λi u a e o es=>?_,λ_ _=>rfl,λ_ h=>h,Kp.refl H⟩
 .unfold fq sm; simp; omega
 .have(hi,e'):=inv i u e
  rw[vk (by omega)];exact r.rep i u e'
 .have(hi,pe):=inv i u ei
  have(hj,nI):=inv j w ej;rw[vk (by omega),vk (by omega)]at es;exact r.apart i j u w pe nI ou ow es
 .have(hi,e'):=inv i u e
  rw[vk (by omega)]at es;have:=JS ho (fH.mp e') o;rw[Nat.zero_add]at this;exact .inl ⟨this,i,u,e',o,es⟩
theorem HU{us os:Qa U}{vs:Qa V}{aG:St}(r:Rs K (sm us) (dC vs) H)(s:Sn K pn (fq N vs) (Ow (sm us)<|dC vs) H H af aG H')(ho:gB pn af 0 us=some os):Go K (sm us) (dC vs) H (sm os) H':=by
 have lv:us.length=vs.length:=by have:=r.len; unfold sm dC at this; simpa using this
 have lo:=JT ho;have tX:∀ {p:Nat} {o:U},os[p]?=some o->p < vs.length:=λ{p o} e=>by have:=(qk.mp e).1; omega
 have pin:∀ {p:Nat} {o:U},os[p]?=some o->p∈pn->aG[p]?=(dC vs)[p]?:=λ{p o} e hp=>by rw[s.pin p hp,vk<|tX e]
 refine⟨⟨by unfold sm dC; simp; omega,λp o e=>?_,λp q o o' ep eq oo Fc es=>?_⟩,s.fr,⟨by unfold sm; simp; omega,λp o e oo=>?_,λp u e=>?_⟩,s.dm⟩
 .have e':=fH.mp e
  have(u,eu,h):=vg ho e';rw[Nat.zero_add]at h;rcases h with⟨hp,hr,_⟩|⟨_,rfl,ou⟩
  .have(v,ev,q):=s.rs.rep p o hr
   rw[pin e' hp]at ev;exact⟨v,ev,q⟩
  .have(v,ev,q):=r.rep p o (fH.mpr eu)
   exact⟨v,ev,q.kp s.kp λoo=>by rw[ou]at oo; cases oo⟩
 .have gJ:=fH.mp ep
  have Bf:=fH.mp eq;have(u,eu,h):=vg ho gJ;have(u',N5,h'):=vg ho Bf;rw[Nat.zero_add]at h h';rcases h with⟨hp,hr,_⟩|⟨_,rfl,ou⟩
  .rcases h' with⟨hq,A3,_⟩|⟨_,rfl,m8⟩
   .rw[<-pin gJ hp,<-pin Bf hq]at es
    exact s.rs.apart p q o o' hr A3 oo Fc es
   .rw[m8]at Fc; cases Fc
  .rw[ou]at oo; cases oo
 .have e':=fH.mp e
  have(u,eu,h):=vg ho e';rcases h with⟨_,_,h⟩|⟨_,rfl,ou⟩
  .exact⟨u,fH.mpr eu,h oo⟩
  .rw[ou]at oo; cases oo
 .have e':=fH.mp e
  have hp:p < os.length:=by have:=(qk.mp e').1; omega
  exact⟨os[p],fH.mpr<|qm hp⟩
theorem iA.Nr{base:Heap}{f:Qg}{k nn:Nat}{m:MS}(F:iA K x qual st f fd)(S:bo N ps (zJ st))(tP:ps.length=n)(hN:N.length=nn)(tQ:n<=nn)
  (bI:∀ (aV:Qc) (A:Qf) (outer:Qa Env) (s:Qd) (H:Hp) (E:XK),aD k (A.deeper<|envOfC qual (zJ st) s.heap.objs.size f aV)->
   ∃ t,Wr (dG (lg gN P w K mg base N qual (zJ st) f aV A outer s H E).oM (hU st) t)/\VS K pn OD t m):bP P w K mg base gN (k+1) f fd ps (lI K n<|cj nn pn m):=by
 refine F.Nq S (λvs H Q E h=>?_) λaV A outer s H vs Q E hr h=>?_
 .have(us,r,outs,hl,rs,_):=h
  have:=rs.len;unfold sm dC at this;simp at this;omega
 have(us,r,outs,hl,rs,ef,q):=h;have(t,wt,vt):=bI aV A outer s H E hr;refine⟨t,wt,?_⟩;have(fl,em,ef):=zb ef;have go:∀ (af:En),gB pn af 0 us=some outs->Sn K pn (fq N vs) (Ow (sm us)<|dC vs) H H (sm us++List.replicate (N.length - us.length) none) (fq N vs) H:=λaf ho=>WZ rs (by omega) ho;subst hN;cases fl with
 | nx af=>
  have(os,eo,ef):=zb (show(gB pn af 0 us).bind _=_ from ef);cases ef;refine vt _ _ _ _ _ _ _ (.nx af) _ (go af eo) em λaG H' s'=>?_;exact q _ _ (HU rs s' eo) .aI Nw.data
 | rt u af=>
  have(os,eo,ef):=zb (show(gB pn af 0 us).bind _=_ from ef);cases ef;refine vt _ _ _ _ _ _ _ (.rt r af) _ (go af eo) em λv aG H' s' p n'=>?_;exact q _ _ (HU rs s' eo) p n'
 | bk=>cases ef
 | ct=>cases ef
 | ex=>cases ef
end
section
variable{EX:e9}{ρ af:En}
def gP(i:Nat)(me:ME):ME:=λρ=>match ρ[i]? with
 | some (some<|.l _)=>(me ρ).bind λp=>(p.1.get p.2).bind λu=>match u,p.2[i]? with
  | .d x,some (some<|.l xs)=>if xs.length < sizeLine then some (.u<|.d .none,p.2.set i<|some<|.l<|xs++[x])else none
  | _,_=>none
 | _=>none
theorem mr{me:ME}(h:VE K te me):VE K (AI K "list" DU (dS i)<|iJ te iH) (gP i me):=by
 intro ρ σ H a af Q r e q;unfold gP at e;split at e
 .rename_i xs0 e0
  obtain⟨⟨b,aj⟩,e1,e⟩:=zb e;have(u,eu,e):=zb e;have(v0,eZ,p0):=r.rep i _ e0;have(l,us0,rfl,F1,_):=p0;refine⟨_,eZ,.inl ⟨rfl,us0,bq.of F1⟩,?_⟩;refine h ρ σ H b aj _ r e1 λv H1 g1 k1=>?_;have pv:=k1.now r g1 eu;dsimp only at e;split at e
  .rename_i x xs ex
   split at e
   .rename_i hz
    cases e;have(w,ew,p1):=g1.rs.rep i _ ex;have(l',us,rfl,hl,ds):=p1;rw[eZ]at ew;cases ew;refine⟨l,us,v,rfl,rfl,hl,by rw[ds.len]; exact hz,q _ _ (g1.trans<|Go.own (u':=.l (xs++[x])) g1.rs ex rfl eZ ?_) ⟨.aI,Nw.data⟩⟩;have kp:=i4 hl trivial (.lst<|us++[v]);exact⟨l,_,rfl,zr,(ds.kp kp).snoc<|DF.kp kp pv⟩
   .cases e
  .cases e
 .cases e
theorem qF{o:Qb (Qb U)}{u:U}(e:o.join=some u):o=some (some u):=by
 cases o with
 | none=>cases e
 | some x=>cases x with
  | none=>cases e
  | some y=>cases e; rfl
def n6(i:Nat)(me mi:ME):MS:=λρ=>(ρ[i]?).join.bind λ_=>(me ρ).bind λp=>(mi p.2).bind λq=>(p.1.get q.2).bind λu=>(q.1.get q.2).bind λw=>match u,w,q.2[i]? with
 | .d x,.d<|.int k,some (some<|.l xs)=>(dD xs.length k).bind λj=>some<|.nx<|q.2.set i<|some<|.l<|xs.set j x
 | _,_,_=>none
theorem yN{ti:TE}{me mi:ME}(h:VE K te me)(hi:VE K ti mi):VS K pn EX (l0 te<|B7 (dS i) ti Hk) (n6 i me mi):=by
 intro ao A H₀ av ρ σ H f D s e k;replace e:=zb e;have(w0,e0,e):=e;replace e:=zb e;obtain⟨⟨a,aj⟩,e1,e⟩:=e;replace e:=zb e;obtain⟨⟨b,au⟩,e2,e⟩:=e;replace e:=zb e;have(u,eu,e):=e;replace e:=zb e;have(w,ew,e):=e;have(v0,eZ,_):=s.rs.rep i w0 (qF e0);refine h ρ σ H a aj _ s.rs e1 λv H1 g1 k1=>⟨v0,eZ,?_⟩;refine hi aj σ H1 b au _ g1.rs e2 λy H2 g2 k2=>?_;have pv:=k1.later s.rs g1 g2 eu;have py:=k2.now g1.rs g2 ew;dsimp only at e;split at e
 .rename_i x n xs ex
  replace e:=zb e;have(j,ej,e):=e;cases e;have(w',gg,p1):=g2.rs.rep i _ ex;have(l,us,rfl,hl,ds):=p1;rw[eZ]at gg;cases gg;refine⟨l,us,n,j,rfl,DF.int_inv py,hl,by rw[ds.len]; exact ej,k _ _<|(s.go<|g1.trans g2).go<|Go.own (u':=.l (xs.set j x)) g2.rs ex rfl eZ ?_⟩;have kp:=i4 hl trivial (.lst<|us.set j v);exact⟨l,_,rfl,zr,(ds.kp kp).set (DF.kp kp pv) j⟩
 .cases e
def keys:Qa D->Qb (Qa Key)
 | []=>some []
 | .int i::ds=>(keys ds).bind λks=>some<|.inl i::ks
 | .str x::ds=>(keys ds).bind λks=>some<|.inr x::ks
 | _::_=>none
def cJ:D->Qb (Qa Key)
 | .tuple ds=>keys ds
 | _=>none
def jt:D->Qb Key
 | .int i=>some<|.inl i
 | .str x=>some<|.inr x
 | _=>none
theorem D0:∀ ks:Qa Key,keys (ks.map wc)=some ks
 | []=>rfl
 | .inl i::ks=>by show(keys<|ks.map wc).bind _=_; rw[D0 ks]; rfl
 | .inr x::ks=>by show(keys<|ks.map wc).bind _=_; rw[D0 ks]; rfl
theorem yT(ks:Qa Key):cJ (jH ks)=some ks:=D0 ks
theorem Dq:∀ {ds:Qa D} {ks:Qa Key} {xs:Qa V},aK K H xs ds->keys ds=some ks->xs=ks.map kV
 | [],ks,xs,h,e=>by cases e; cases h; rfl
 | d::ds,ks,xs,h,e=>by
  cases h with
  | cons h1 t=>
   cases d with
   | int i=>
    have(m9,e1,e):=zb (show(keys ds).bind (λks=>some<|Sum.inl i::ks)=some ks from e);cases e;rw[Dq t e1,DF.int_inv h1];rfl
   | str x=>
    have(m9,e1,e):=zb (show(keys ds).bind (λks=>some<|Sum.inr x::ks)=some ks from e);cases e;rw[Dq t e1,DF.str_inv h1];rfl
   | _=>cases e
theorem tm{d:D}(h:DF K H v d)(e:cJ d=some ks):∃ b,v=.ref b/\aP K H b (ks.map kV):=by
 cases d with
 | tuple ds=>
  have(b,xs,rfl,h1,h2):=DF.aB h;exact⟨b,rfl,by rw[<-Dq h2 e]; exact h1⟩
 | _=>cases e
theorem yw{d:D}{k:Key}(h:DF K H v d)(e:jt d=some k):v=kV k:=by
 cases d with
 | int i=>cases e; exact DF.int_inv h
 | str x=>cases e; exact DF.str_inv h
 | _=>cases e
theorem DZ:∀ {ks:Qa Key},aK K H (ks.map kV)<|ks.map wc
 | []=>.nil
 | .inl i::ks=>.cons (.int i) DZ
 | .inr x::ks=>.cons (.str x) DZ
section
variable[DecidableEq κ]
def bL(kvs:Qa (κ×D))(k:κ):Qb D:=(kvs.find? λkv=>decide<|kv.1=k).map (·.2)
def cf(kvs:Qa (κ×D))(k:κ)(d:D):Qa (κ×D):=if(kvs.any λkv=>decide<|kv.1=k)=true then kvs.map (λkv=>if kv.1=k then(kv.1,d)else kv)else kvs++[(k,d)]
theorem dn.val{kvs:Qa (κ×D)}(h:dn K H ws kvs)(k:κ):(∃ v d,fm ws k=some v/\bL kvs k=some d/\DF K H v d)\/(fm ws k=none/\bL kvs k=none):=by
 induction h with
 | nil=>exact .inr ⟨rfl,rfl⟩
 | @cons p q ps qs hq t ih=>
  unfold fm bL at ih ⊢;rw[List.find?_cons,List.find?_cons]
  by_cases hk:p.1=k
  .have fB:q.1=k:=hq.1▸hk
   rw[decide_eq_true hk,decide_eq_true fB];exact .inl ⟨_,_,rfl,rfl,hq.2⟩
  .have fB:¬q.1=k:=λz=>hk<|hq.1.trans z
   rw[decide_eq_false hk,decide_eq_false fB];exact ih
theorem dn.any{kvs:Qa (κ×D)}(h:dn K H ws kvs)(k:κ):(ws.any λkv=>decide<|kv.1=k)=(kvs.any λkv=>decide<|kv.1=k):=by
 induction h with
 | nil=>rfl
 | @cons p q ps qs hq t ih=>rw[List.any_cons,List.any_cons,ih,hq.1]
theorem dn.h9{kvs:Qa (κ×D)}(h:dn K H ws kvs)(k:κ){d:D}(hd:DF K H v d):dn K H (ws.map λkv=>if kv.1=k then(kv.1,v)else kv) (kvs.map λkv=>if kv.1=k then(kv.1,d)else kv):=by
 induction h with
 | nil=>exact .nil
 | @cons p q ps qs hq t ih=>
  refine .cons ?_ ih;dsimp only
  by_cases hk:p.1=k
  .have fB:q.1=k:=hq.1▸hk
   rw[if_pos hk,if_pos fB];exact⟨hq.1,hd⟩
  .have fB:¬q.1=k:=λz=>hk<|hq.1.trans z
   rw[if_neg hk,if_neg fB];exact hq
theorem dn.put{kvs:Qa (κ×D)}(h:dn K H ws kvs)(k:κ){d:D}(hd:DF K H v d):dn K H (dA ws k v) (cf kvs k d):=by
 unfold dA cf;rw[h.any k];split
 .exact h.h9 k hd
 .exact Paired.snoc h ⟨rfl,hd⟩
theorem dn.len{kvs:Qa (κ×D)}(h:dn K H ws kvs):ws.length=kvs.length:=Paired.length h
end
def r9(kvs:Qa (D×D))(k:Qa Key):Qb D:=(kvs.find? λkv=>decide<|cJ kv.1=some k).map (·.2)
theorem iC.val{ws:Qa (Qa Key×V)}{kvs:Qa (D×D)}(h:iC K H ws kvs)(k:Qa Key):(∃ v d,fm ws k=some v/\r9 kvs k=some d/\DF K H v d)\/(fm ws k=none/\r9 kvs k=none):=by
 induction ws generalizing kvs with
 | nil=>cases h; exact .inr ⟨rfl,rfl⟩
 | cons p ws ih=>
  cases h with
  | @cons k' v d _ ds hv t=>
   unfold fm r9 at ih ⊢;rw[List.find?_cons,List.find?_cons]
   by_cases hk:k'=k
   .have fB:cJ (jH k')=some k:=by rw[yT,hk]
    rw[decide_eq_true hk,decide_eq_true fB];exact .inl ⟨_,_,rfl,rfl,hv⟩
   .have fB:¬cJ (jH k')=some k:=by rw[yT]; exact λz=>hk<|qx z
    rw[decide_eq_false hk,decide_eq_false fB];exact ih t
def gO(u y:U):Qb (Qb D):=match u,y with
 | .t kvs,.d y=>(cJ y).map λk=>bL kvs k
 | .k kvs,.d y=>(jt y).map λk=>bL kvs k
 | .d (.dict kvs),.d y=>if jF kvs=true then(cJ y).map λk=>r9 kvs k else none
 | _,_=>none
theorem yM{u y:U}{o:Qb D}{x:V}(hu:Rp K H x u)(hy:Rp K H v y)(e:gO u y=some o):∃ a,x=.ref a/\((∃ w d,o=some d/\jR K H a v (some w)/\DF K H w d)\/(o=none/\jR K H a v none)):=by
 unfold gO at e;split at e
 .rename_i kvs y
  have(k,ek,rfl):=qr.mp e;have(a,ws,rfl,h1,h2):=hu;have(b,rfl,hb):=tm hy ek;refine⟨a,rfl,?_⟩;rcases h2.val k with⟨w,d,e1,e2,p⟩|⟨e1,e2⟩
  .exact .inl ⟨w,d,e2,.inr ⟨ws,k,b,.inl h1,rfl,hb,e1.symm⟩,p⟩
  .exact .inr ⟨e2,.inr ⟨ws,k,b,.inl h1,rfl,hb,e1.symm⟩⟩
 .rename_i kvs y
  have(k,ek,rfl):=qr.mp e;have(a,ws,rfl,h1,h2):=hu;cases yw hy ek;refine⟨a,rfl,?_⟩;rcases h2.val k with⟨w,d,e1,e2,p⟩|⟨e1,e2⟩
  .exact .inl ⟨w,d,e2,.inl ⟨ws,k,.inl h1,rfl,e1.symm⟩,p⟩
  .exact .inr ⟨e2,.inl ⟨ws,k,.inl h1,rfl,e1.symm⟩⟩
 .rename_i kvs y
  split at e
  rotate_left
  .cases e
  rename_i nx;have(k,ek,rfl):=qr.mp e;have(a,ob,ws,rfl,h1,h2):=DF.cP hu nx;have(b,rfl,hb):=tm hy ek;refine⟨a,rfl,?_⟩;rcases h2.val k with⟨w,d,e1,e2,p⟩|⟨e1,e2⟩
  .exact .inl ⟨w,d,e2,.inr ⟨ws,k,b,.inr ⟨ob,h1⟩,rfl,hb,e1.symm⟩,p⟩
  .exact .inr ⟨e2,.inr ⟨ws,k,b,.inr ⟨ob,h1⟩,rfl,hb,e1.symm⟩⟩
 .cases e
def iI(md my:ME):ME:=λρ=>(md ρ).bind λp=>(my p.2).bind λq=>(p.1.get q.2).bind λu=>(q.1.get q.2).bind λy=>(gO u y).bind λo=>o.bind λd=>some (.u<|.d d,q.2)
theorem mQ{md my:ME}(hd:VE K td md)(hy:VE K ty my):VE K (CS K td ty) (iI md my):=by
 intro ρ σ H a af Q r e q;obtain⟨⟨a1,aj⟩,e1,e⟩:=zb e;obtain⟨⟨b1,au⟩,e2,e⟩:=zb e;have(u,eu,e):=zb e;have(y,ey,e):=zb e;have(o,eo,e):=zb e;have(d,ed,e):=zb e;cases e;refine hd ρ σ H a1 aj _ r e1 λv1 H1 g1 k1=>hy aj σ H1 b1 _ _ g1.rs e2 λv2 H2 g2 k2=>?_;have(b,rfl,h):=yM (k1.later r g1 g2 eu) (k2.now g1.rs g2 ey) eo;rcases h with⟨w,d',rfl,g,p⟩|⟨rfl,_⟩
 .cases ed
  exact⟨b,w,rfl,g,q w H2 (g1.trans g2) ⟨p,Nw.data⟩⟩
 .cases ed
def nO(neg:Bool)(my md:ME):ME:=λρ=>(my ρ).bind λq=>(md q.2).bind λp=>(p.1.get p.2).bind λu=>(q.1.get p.2).bind λy=>(gO u y).bind λo=>some (.u<|.d<|.bool (if neg=true then !o.isSome else o.isSome),p.2)
theorem uA{md my:ME}(hy:VE K ty my)(hd:VE K td md):VE K (BP K ty td) (nO false my md):=by
 intro ρ σ H a af Q r e q;obtain⟨⟨b1,aj⟩,e1,e⟩:=zb e;obtain⟨⟨a1,au⟩,e2,e⟩:=zb e;have(u,eu,e):=zb e;have(y,ey,e):=zb e;have(o,eo,e):=zb e;cases e;refine hy ρ σ H b1 aj _ r e1 λv1 H1 g1 k1=>hd aj σ H1 a1 _ _ g1.rs e2 λv2 H2 g2 k2=>?_;have(b,rfl,h):=yM (k2.now g1.rs g2 eu) (k1.later r g1 g2 ey) eo;rcases h with⟨w,d',rfl,g,p⟩|⟨rfl,g⟩
 .exact⟨b,_,rfl,g,q _ H2 (g1.trans g2) ⟨.bl _,Nw.data⟩⟩
 .exact⟨b,_,rfl,g,q _ H2 (g1.trans g2) ⟨.bl _,Nw.data⟩⟩
def mP:ME:=λρ=>some (.u<|.t [],ρ)
def Dp:ME:=λρ=>some (.u<|.k [],ρ)
theorem tj:VE K yt mP:=by
 intro ρ σ H a af Q r e q;cases e;intro p hp;have sm:=zM hp (.dT []);exact q _ _ (Go.grow r sm) ⟨⟨p,[],rfl,zr,.nil⟩,λ_=>⟨p,rfl,hp⟩⟩
theorem Vl:VE K Dh Dp:=by
 intro ρ σ H a af Q r e q;cases e;intro p hp;have sm:=zM hp (.dK []);exact q _ _ (Go.grow r sm) ⟨⟨p,[],rfl,zr,.nil⟩,λ_=>⟨p,rfl,hp⟩⟩
def jw(i:Nat)(my mv:ME):MS:=λρ=>(ρ[i]?).join.bind λ_=>(mv ρ).bind λp=>(my p.2).bind λq=>(p.1.get q.2).bind λx=>(q.1.get q.2).bind λy=>match x,y,q.2[i]? with
 | .d x,.d y,some (some<|.t kvs)=>(cJ y).bind λk=>if kvs.length < sizeLine then some (.nx<|q.2.set i<|some<|.t<|cf kvs k x)else none
 | .d x,.d y,some (some<|.k kvs)=>(jt y).bind λk=>if kvs.length < sizeLine then some (.nx<|q.2.set i<|some<|.k<|cf kvs k x)else none
 | _,_,_=>none
theorem pS{my mv:ME}(hy:VE K ty my)(hv:VE K tv mv):VS K pn EX (CQ K (dS i) ty tv) (jw i my mv):=by
 intro ao A H₀ av ρ σ H f D s e k;replace e:=zb e;have(w0,e0,e):=e;replace e:=zb e;obtain⟨⟨a,aj⟩,e1,e⟩:=e;replace e:=zb e;obtain⟨⟨b,au⟩,e2,e⟩:=e;replace e:=zb e;have(u,eu,e):=e;replace e:=zb e;have(w,ew,e):=e;have(v0,eZ,_):=s.rs.rep i w0 (qF e0);refine hv ρ σ H a aj _ s.rs e1 λv H1 g1 k1=>⟨v0,eZ,?_⟩;refine hy aj σ H1 b au _ g1.rs e2 λy H2 g2 k2=>?_;have pv:=k1.later s.rs g1 g2 eu;have py:=k2.now g1.rs g2 ew;dsimp only at e;split at e
 .rename_i x yd kvs ex
  replace e:=zb e;have(ks,ek,e):=e;split at e
  .rename_i hz
   cases e;have(w',gg,p1):=g2.rs.rep i _ ex;have(l,us,rfl,hl,ds):=p1;rw[eZ]at gg;cases gg;have(kb,rfl,rh):=tm py ek;refine⟨l,_,rfl,nS.t hl rh (by rw[ds.len]; exact hz),k _ _<|(s.go<|g1.trans g2).go<|Go.own (u':=.t (cf kvs ks x)) g2.rs ex rfl eZ ?_⟩;have kp:=i4 hl trivial (.dT<|dA us ks v);exact⟨l,_,rfl,zr,(ds.kp kp).put ks<|DF.kp kp pv⟩
  .cases e
 .rename_i x yd kvs ex
  replace e:=zb e;have(ks,ek,e):=e;split at e
  .rename_i hz
   cases e;have(w',gg,p1):=g2.rs.rep i _ ex;have(l,us,rfl,hl,ds):=p1;rw[eZ]at gg;cases gg;cases yw py ek;refine⟨l,_,rfl,nS.k hl (by rw[ds.len]; exact hz),k _ _<|(s.go<|g1.trans g2).go<|Go.own (u':=.k (cf kvs ks x)) g2.rs ex rfl eZ ?_⟩;have kp:=i4 hl trivial (.dK<|dA us ks v);exact⟨l,_,rfl,zr,(ds.kp kp).put ks<|DF.kp kp pv⟩
  .cases e
 .cases e
def nY:U->Qb (Qa D)
 | .d (.dict kvs)=>if jF kvs=true then some (kvs.map (·.1))else none
 | _=>none
theorem JR:∀ {ws:Qa (Qa Key×V)} {kvs:Qa (D×D)},iC K H ws kvs->kvs.map (·.1)=ws.map λp=>jH p.1
 | [],_,.nil=>rfl
 | _::_,_,.cons _ t=>by rw[List.map_cons,List.map_cons,JR t]
theorem vf{me:ME}(h:VE K te me):VI K (Ig K te) (eK nY me):=by
 intro ρ σ H ds af R r e q;obtain⟨⟨a,aj⟩,e1,e⟩:=zb e;have(u,eu,e):=zb e;have(xs,ex,e):=zb e;cases e;refine h ρ σ H a _ _ r e1 λv H1 g1 k1=>?_;have p:=k1.now r g1 eu;unfold nY at ex;split at ex
 .split at ex
  rotate_left
  .cases ex
  rename_i nx;cases ex;have(b,o,ws,rfl,h1,h2):=DF.cP p nx;refine⟨b,ws,rfl,.inr ⟨o,h1,q _ _ g1 λH2 k i=>?_⟩⟩;rw[JR h2];have gU:=k.bg _ _ _ h1;refine⟨λd ed=>?_,λei=>?_⟩
  .rw[List.getElem?_map]at ed
   obtain⟨⟨ks,w⟩,ew,rfl⟩:=qr.mp ed;refine⟨⟨gU,(qk.mp ew).1⟩,λx H' y=>?_⟩;have(rfl,y):=y;have(kb,rfl,rh):=y ks w ew;exact⟨λ_ _ z=>z,.tup rh DZ⟩
  .rw[List.length_map]at ei
   exact⟨gU,Ü ei.symm⟩
 .cases ex
end
section
variable{ρ af:En}
abbrev MO:=En->Qb (Qb Int×En)
def xB(K:qc)(t:TO)(m:MO):Prop :=
 ∀ (ρ:En) (σ:St) (H:Hp) (o:Qb Int) (af:En) (Q:Qb Int->Hp->Prop),Rs K ρ σ H->m ρ=some (o,af)->(∀ H',Go K ρ σ H af H'->Q o H')->t σ H Q
def ko:MO:=λρ=>some (none,ρ)
def jU(me:ME):MO:=λρ=>(me ρ).bind λp=>(p.1.get p.2).bind λu=>match u with | .d (.int i)=>some (some i,p.2) | _=>none
theorem p8:xB K DX ko:=λρ σ H o af Q r e q=>by cases e; exact q H<|Go.refl r
theorem p7{me:ME}(h:VE K te me):xB K (CV te) (jU me):=by
 intro ρ σ H o af Q r e q;replace e:=zb e;obtain⟨⟨a,aj⟩,e1,e⟩:=e;replace e:=zb e;have(u,eu,e):=e;refine h ρ σ H a aj _ r e1 λv H1 g1 k1=>?_;have p:=k1.now r g1 eu;dsimp only at e;split at e
 .rename_i i
  cases e;exact⟨i,DF.int_inv p,q _ g1⟩
 .cases e
def fF(xs:Qa D)(lo hi:Qb Int):Qa D:=(xs.drop<|HT.aN xs.length 0 lo).take (HT.aN xs.length xs.length hi - HT.aN xs.length 0 lo)
theorem aK.cut{xs:Qa V}{ds:Qa D}(h:aK K H xs ds)(lo hi:Qb Int):aK K H (jv xs lo hi) (fF ds lo hi):=by
 unfold jv fF;rw[h.len];exact(h.drop _).take _
def Gx(K:qc)(r:V->Qb Int->Qb Int->Hp->VK->Prop)(f:U->Qb Int->Qb Int->Qb U):Prop :=
 ∀ (x:V) (a u:U) (lo hi:Qb Int) (H:Hp) (Q:VK),Rp K H x a->f a lo hi=some u->(∀ v H',cn H H'->Rp K H' v u->Nw H v u->Q v H')->r x lo hi H Q
def kF(f:U->Qb Int->Qb Int->Qb U)(me:ME)(ml mh:MO):ME:=λρ=>(me ρ).bind λp=>(ml p.2).bind λl=>(mh l.2).bind λh=>(p.1.get h.2).bind λx=>(f x l.1 h.1).bind λu=>some (.u u,h.2)
theorem pD{r:V->Qb Int->Qb Int->Hp->VK->Prop}{f:U->Qb Int->Qb Int->Qb U}{tl th:TO}{me:ME}{ml mh:MO}(hs:Gx K r f)(he:VE K te me)(hl:xB K tl ml)(hh:xB K th mh):VE K (ES r te tl th) (kF f me ml mh):=by
 intro ρ σ H a af Q rs e q;obtain⟨⟨a1,aj⟩,e1,e⟩:=zb e;obtain⟨⟨lo,au⟩,e2,e⟩:=zb e;obtain⟨⟨hi,kY⟩,e3,e⟩:=zb e;have(x,ex,e):=zb e;have(u,eu,e):=zb e;cases e;refine he ρ σ H a1 aj _ rs e1 λv1 H1 g1 k1=>hl aj σ H1 lo au _ g1.rs e2 λH2 g2=>hh au σ H2 hi _ _ g2.rs e3 λH3 g3=>?_;refine hs _ x u lo hi H3 _ (k1.later rs g1 (g2.trans g3) ex) eu λv H4 s p n=>?_;have g:=g1.trans (g2.trans g3);exact q v H4 (g.trans<|Go.grow g.rs s) ⟨p,n.mono g.dm⟩
def nM(u:U)(lo hi:Qb Int):Qb U:=match u with
 | .l xs=>some<|.l<|fF xs lo hi
 | .d (.list xs)=>some<|.l<|fF xs lo hi
 | _=>none
theorem yL:Gx K (BQ K) nM:=by
 intro x a u lo hi H Q p e q;unfold nM at e;split at e
 .cases e
  have(b,us,rfl,h1,h2):=p;refine⟨b,us,rfl,bq.of h1,λl hl=>?_⟩;have sm:=zM hl (.lst<|jv us lo hi);exact q _ _ sm ⟨l,_,rfl,zr,(h2.cut lo hi).kp sm.kp⟩ λ_=>⟨l,rfl,hl⟩
 .cases e
  have(b,us,rfl,h1,h2):=DF.lst_inv p;refine⟨b,us,rfl,h1.sq,λl hl=>?_⟩;have sm:=zM hl (.lst<|jv us lo hi);exact q _ _ sm ⟨l,_,rfl,zr,(h2.cut lo hi).kp sm.kp⟩ λ_=>⟨l,rfl,hl⟩
 .cases e
def GL(K:qc):V->Qb Int->Qb Int->Hp->VK->Prop:=λx lo hi H Q=>∃ a xs,x=.ref a/\aP K H a xs/\∀ p H',cn H H'->aP K H' p (jv xs lo hi)->Q (.ref p) H'
theorem BX{X:Cx}:t4 X (GL X.K):=by
 intro pins s σ H x v vl vu lo hi sl Q I rx hs pl pu h;have(a,xs,rfl,fA,q):=h;have hx:bj X.K H a xs:=fA.sq
 by_cases hw:HT.aN xs.length 0 lo=0/\HT.aN xs.length xs.length hi=xs.length
 .cases rx
  have(ai,r,ht,hz):=I.tuple hx;have hlen:ai.toArray.size=xs.length:=by rw[List.size_toArray]; exact r.length.symm
  refine⟨"tuple",_,PyProof.Rows.slot_tuple_getitem.lookup,ht.typeIs,?_⟩;refine HT.cO ht hs pl pu (by rw[hlen]; exact hw) ⟨.ref a,H,I,rfl,q a H (cn.refl _) ?_⟩;unfold jv;rw[hw.1,hw.2];simpa using fA
 .exact Q7 pins s σ H _ v vl vu lo hi sl Q I rx hs pl pu ⟨a,xs,rfl,hx,hw,λp hp=>q p _ (zM hp _)<|.inl zr⟩
def rQ(u:U)(lo hi:Qb Int):Qb U:=match u with
 | .d (.tuple xs)=>some<|.d<|.tuple<|fF xs lo hi
 | _=>none
theorem Dn:Gx K (GL K) rQ:=by
 intro x a u lo hi H Q p e q;unfold rQ at e;split at e
 .cases e
  have(b,us,rfl,h1,h2):=DF.aB p;exact⟨b,us,rfl,h1,λl H' sm hl=>q _ _ sm (.tup hl<|(h2.cut lo hi).kp sm.kp) Nw.data⟩
 .cases e
def uz:U->U->Qb U
 | .d (.tuple xs),.d (.tuple ys)=>if xs≠[]/\xs.length+ys.length<=sizeLine then some (.d<|.tuple<|xs++ys)else none
 | _,_=>none
theorem Vk:VO K (CU K) uz:=by
 intro x y a b u H Q ha hb e q;unfold uz at e;split at e
 .split at e
  .rename_i xs ys hc
   cases e;have(p,us,rfl,h1,h2):=DF.aB ha;have(p',eG,rfl,gU,jJ):=DF.aB hb;refine⟨p,p',us,eG,rfl,rfl,(aP.sq h1),(aP.sq gU),?_,by rw[h2.len,jJ.len]; exact hc.2,λz=>?_,λ_ r hr=>?_⟩
   .rintro rfl
    cases h2;exact hc.1 rfl
   .subst z
    cases jJ;exact q _ _ (λ_ _ z=>z) (by rw[List.append_nil]; exact .tup h1 h2) Nw.data
   .have s:=zM hr (.tup<|us++eG)
    exact q _ _ s (.tup (.inl zr)<|(h2.app jJ).kp s.kp) Nw.data
  .cases e
 .cases e
def Pl:Qa Int->Int->Int
 | [],d=>d
 | n::ns,_=>ns.foldl (λa b=>if a < b then b else a) n
def zBr:Qa U->Qa U->Qb U
 | [u],[.d<|.int d]=>u.items.bind λxs=>(sf xs).map λns=>.d<|.int<|Pl ns d
 | _,_=>none
def pk:D->Qb (Qa Int)
 | .tuple [.tuple ks,_]=>sf ks
 | _=>none
def U.lst:U->Qb (Qa D)
 | .l xs=>some xs
 | .d (.list xs)=>some xs
 | _=>none
end
section
variable{ρ af:En}
def zzN(ma:MA):ME:=λρ=>(ma ρ).bind λp=>(bC p.2 p.1).bind λus=>match us with
 | [.d<|.int j]=>if(-(2^62)<=j/\j < 2^62)/\j.toNat<=sizeLine then some (.u<|.l<|f7 0 j.toNat,p.2)else none
 | _=>none
def l6:MT:=λρ=>some (true,ρ)
theorem sQ:VT K BO l6:=λρ σ H b af Q r e q=>by cases e; exact q H<|Go.refl r
def sV:D->Qb V
 | .none=>some .aI
 | .bool b=>some<|.bl b
 | .int i=>some<|.int i
 | .str x=>some<|.str x
 | _=>none
theorem xi{x:D}{w:V}(h:DF K H v x)(e:sV x=some w):v=w:=by
 cases h<;>cases e<;>rfl
def bS(neg:Bool):U->U->Qb U
 | .d x,.d y=>(sV x).bind λv=>(sV y).bind λw=>if BU v w=true then some (.d<|.bool (if neg=true then !decide (v=w)else decide (v=w)))else none
 | _,_=>none
theorem gA:VO K Nk (bS false):=by
 intro x y a b u H Q ha hb e q;unfold bS at e;split at e
 .have(v,ev,e):=zb e
  have(w,ew,e):=zb e;split at e
  .rename_i hs
   cases e;cases xi ha ev;cases xi hb ew;exact⟨hs,q _ _ (λ_ _ z=>z) (.bl _) Nw.data⟩
  .cases e
 .cases e
theorem uQ:VO K Nj (bS true):=by
 intro x y a b u H Q ha hb e q;unfold bS at e;split at e
 .have(v,ev,e):=zb e
  have(w,ew,e):=zb e;split at e
  .rename_i hs
   cases e;cases xi ha ev;cases xi hb ew;exact⟨hs,q _ _ (λ_ _ z=>z) (.bl _) Nw.data⟩
  .cases e
 .cases e
def nX:U->Bool
 | .d .none=>true
 | _=>false
def nL(neg:Bool):U->U->Qb U
 | a,.d .none=>some<|.d<|.bool (if neg=true then !nX a else nX a)
 | _,_=>none
theorem T5{a:U}(h:Rp K H v a):decide (v=.aI)=nX a:=by
 cases a with
 | d x=>cases(show DF K H v x from h)<;>simp[nX]
 | l=>have(_,_,rfl,_):=h; simp[nX]
 | t=>have(_,_,rfl,_):=h; simp[nX]
 | k=>have(_,_,rfl,_):=h; simp[nX]
 | o=>have(_,_,_,_,_,rfl,_):=h; simp[nX]
theorem Jn:VO K (λx y H Q=>y=.aI/\Q (.bl (!decide (x=.aI))) H) (nL true):=by
 intro x y a b u H Q ha hb e q;unfold nL at e;split at e
 .cases e
  refine⟨by cases hb; rfl,?_⟩;rw[T5 ha];exact q _ _ (λ_ _ z=>z) (.bl _) Nw.data
 .cases e
theorem Rx{F:FD}{E:XK}(hO:xv H)(hS:bq K H a (ns.map V.int))(h:∃ outs,F [.d<|.list<|ns.map .int]=some (.d<|.bool true,outs)):lI K 1 F [.ref a] H (λv _=>v=.bl true) E:=by
 have(outs,ho):=h;have pl:PL K H a (ns.map V.int):=by
  rcases hS with (h|⟨o,h⟩) | h
  .rcases hO a with z|⟨o,xs,z⟩
   .rw[z]at h; cases h
   .rw[z]at h; cases h
  .exact .inl ⟨o,h⟩
  .exact .inr h
 have dd:aK K H (ns.map V.int) (ns.map PyData.int):=by
  clear ho hS pl
  induction ns with
  | nil=>exact .nil
  | cons n ns ih=>exact .cons (.int n) ih
 refine⟨[.d<|.list<|ns.map .int],.d<|.bool true,outs,rfl,⟨rfl,λi u e=>?_,λi j u w ei ej ou ow es=>?_⟩,ho,λv H' g p n=>DF.bV p⟩
 .have e':=fH.mp e
  cases i with
  | zero=>cases e'; exact⟨.ref a,rfl,DF.lst pl dd⟩
  | succ i=>simp at e'
 .have e':=fH.mp ei
  cases i with
  | zero=>cases e'; cases ou
  | succ i=>simp at e'
end
section
variable{ρ:En}{me ma mb mk mi md my mv:ME}{mA mK:MA}{mt mu:MT}{m1 m2:MS}{u:U}{x:D}{f:U->U->Qb U}
theorem bd{a:α}{f:α->Qb β}:(some a).bind f=f a:=rfl
theorem SK{u:U}:Ar.get ρ (.u u)=some u:=rfl
theorem Xo:Ar.get ρ (.s i)=(ρ[i]?).join:=rfl
theorem Zu{u:U}:(some<|some u).join=some u:=rfl
theorem Rv:zj i ρ=(ρ[i]?).join.bind λ_=>some (.s i,ρ):=by
 unfold zj;cases ρ[i]? with
 | none=>rfl
 | some o=>cases o<;>rfl
theorem zBl:mC x ρ=some (.u<|.d x,ρ):=rfl
theorem Pj:aq f ma mb ρ=(ma ρ).bind λp=>(mb p.2).bind λq=>(p.1.get q.2).bind λx=>(q.1.get q.2).bind λy=>(f x y).bind λu=>some (.u u,q.2):=rfl
theorem Pg{f:U->Qb U}:eJ f ma ρ=(ma ρ).bind λp=>(p.1.get p.2).bind λx=>(f x).bind λu=>some (.u u,p.2):=rfl
theorem Ru:zq ρ=some ([],ρ):=rfl
theorem T4:zf me mA ρ=(me ρ).bind λp=>(mA p.2).bind λq=>some (p.1::q.1,q.2):=rfl
theorem Z5:bC ρ []=some []:=rfl
theorem Lu{a:Ar}{as:Qa Ar}:bC ρ (a::as)=(a.get ρ).bind λu=>(bC ρ as).bind λus=>some (u::us):=rfl
theorem zit:iZ []=some []:=rfl
theorem zhl{us:Qa U}:iZ (.d x::us)=(iZ us).bind λxs=>some (x::xs):=rfl
theorem Rt:bw mA ρ=(mA ρ).bind λp=>(bC p.2 p.1).bind λus=>(iZ us).bind λds=>if ds.length<=sizeLine then some (.u<|.d<|.tuple ds,p.2)else none:=rfl
theorem Rr:eP mA ρ=(mA ρ).bind λp=>(bC p.2 p.1).bind λus=>(iZ us).bind λds=>if ds.length<=sizeLine then some (.u<|.l ds,p.2)else none:=rfl
theorem Pf{f:Qa U->Qb U}:bA f mA ρ=(mA ρ).bind λp=>(bC p.2 p.1).bind λus=>(f us).bind λu=>some (.u u,p.2):=rfl
theorem Rq{f:FD}:aS f mA ρ=(mA ρ).bind λp=>if fj p.2 p.1=true then(bC p.2 p.1).bind λus=>(f us).bind λo=>some (.u o.1,wb p.2 p.1 o.2)else none:=rfl
theorem Z4:fj ρ []=true:=rfl
theorem Xn{as:Qa Ar}:fj ρ (.u u::as)=fj ρ as:=rfl
theorem Ro{as:Qa Ar}:fj ρ (.s j::as)=((match ρ[j]? with|some (some u)=>!u.own || !(as.any λa=>match a with | .s k=>decide (k=j) | _=>false) | _=>true) && fj ρ as):=rfl
theorem Pe{as:Qa Ar}{o:U}{os:Qa U}:wb ρ (.s j::as) (o::os)=wb (ρ.set j<|some o) as os:=rfl
theorem Pd{as:Qa Ar}{o:U}{os:Qa U}:wb ρ (.u u::as) (o::os)=wb ρ as os:=rfl
theorem Xm:wb ρ [] []=ρ:=rfl
def k6(m2:MS):Fl->Qb Fl
 | .nx af=>m2 af
 | f=>some f
theorem bind_fn{o:Qb α}{f g:α->Qb β}(h:∀ a,f a=g a):o.bind f=o.bind g:=by cases o with|none=>rfl|some a=>exact h a
theorem Rn:zz m1 m2 ρ=(m1 ρ).bind (k6 m2):=bind_fn λf=>by cases f<;>rfl
theorem Zt:k6 m2 (.nx ρ)=m2 ρ:=rfl
theorem ZD:k6 m2 (.rt u ρ)=some (.rt u ρ):=rfl
def U.dat:U->Qb U
 | .d x=>some<|.d x
 | _=>none
theorem SJ:U.dat (.d x)=some (.d x):=rfl
theorem SH:put (.s i,ρ)=(ρ[i]?).join.bind λu=>u.dat.bind λd=>some (d,ρ):=by
 unfold put;dsimp only;cases ρ[i]? with
 | none=>rfl
 | some o=>
  cases o with
  | none=>rfl
  | some u=>cases u<;>rfl
theorem SG:put (.u u,ρ)=some (u,ρ):=rfl
theorem Rm:aR i me ρ=(me ρ).bind λp=>(put p).bind λq=>some (.nx<|q.2.set i<|some q.1):=rfl
theorem Rl:bh me ρ=(me ρ).bind λp=>(put p).bind λq=>some (.rt q.1 q.2):=rfl
theorem T3:pI pn i ρ=if i∈pn then none else(ρ[i]?).join.bind λu=>some (.rt u<|ρ.set i none):=by
 unfold pI;split
 .rfl
 .cases ρ[i]? with
  | none=>rfl
  | some o=>cases o<;>rfl
theorem T2:bF ρ=some (.nx ρ):=rfl
theorem T1:gq me ρ=(me ρ).bind λp=>some (.nx p.2):=rfl
theorem Rk:bt mt m1 m2 ρ=(mt ρ).bind λp=>if p.1=true then m1 p.2 else m2 p.2:=rfl
theorem Pc:tK mt ma mb ρ=(mt ρ).bind λp=>if p.1=true then ma p.2 else mb p.2:=rfl
def U.rG:U->Qb Bool
 | .d (.bool b)=>some b
 | _=>none
theorem SF{b:Bool}:U.rG (.d<|.bool b)=some b:=rfl
theorem zBm:mB me ρ=(me ρ).bind λp=>(p.1.get p.2).bind λu=>u.rG.bind λb=>some (b,p.2):=by
 unfold mB;congr 1
 funext p
 congr 1
 funext u
 cases u with
 | d x=>cases x<;>rfl
 | l=>rfl
 | t=>rfl
 | k=>rfl
 | o=>rfl
theorem Rj:rS mt mu ρ=(mt ρ).bind λp=>if p.1=true then mu p.2 else some (false,p.2):=rfl
theorem Pb:jG mt mu ρ=(mt ρ).bind λp=>if p.1=true then some (true,p.2)else mu p.2:=rfl
theorem RQ:gQ mt ρ=(mt ρ).bind λp=>some (!p.1,p.2):=rfl
theorem TZ:lj ma mb ρ=(mB ma ρ).bind λp=>if p.1=true then mb p.2 else some (.u<|.d<|.bool false,p.2):=rfl
theorem TY:xU ma ρ=(mB ma ρ).bind λp=>some (.u<|.d<|.bool (!p.1),p.2):=rfl
theorem RP:ub ma ρ=(ma ρ).bind λp=>(p.1.get p.2).bind λu=>u.oH.bind λb=>some (b,p.2):=rfl
theorem RO:l6 ρ=some (true,ρ):=rfl
def U.lo:U->Qb (Qa D)
 | .l xs=>some xs
 | _=>none
theorem Pa{xs:Qa D}:U.lo (.l xs)=some xs:=rfl
def U.da:U->Qb D
 | .d x=>some x
 | _=>none
theorem O9:U.da (.d x)=some x:=rfl
def U.num:U->Qb Int
 | .d (.int i)=>some i
 | _=>none
theorem To{n:Int}:U.num (.d<|.int n)=some n:=rfl
theorem RN:gP i me ρ=(ρ[i]?).join.bind λw=>w.lo.bind λ_=>(me ρ).bind λp=>(p.1.get p.2).bind λu=>u.da.bind λx=>(p.2[i]?).join.bind λw=>w.lo.bind λxs=>if xs.length < sizeLine then some (.u<|.d .none,p.2.set i<|some<|.l<|xs++[x])else none:=by
 unfold gP;cases ρ[i]? with
 | none=>rfl
 | some o=>
  cases o with
  | none=>rfl
  | some w=>
   cases w with
   | l xs0=>
    show((me ρ).bind _)=((me ρ).bind _);congr 1
    funext p
    congr 1
    funext u
    cases u with
    | d x=>
     show(match U.d x,p.2[i]? with | .d x,some (some<|.l xs)=>_|_,_=>none)=((p.2[i]?).join.bind _);cases p.2[i]? with
     | none=>rfl
     | some o=>
      cases o with
      | none=>rfl
      | some w=>cases w<;>rfl
    | l=>rfl
    | t=>rfl
    | k=>rfl
    | o=>rfl
   | d=>rfl
   | t=>rfl
   | k=>rfl
   | o=>rfl
theorem Xl:n6 i me mi ρ=(ρ[i]?).join.bind λ_=>(me ρ).bind λp=>(mi p.2).bind λq=>(p.1.get q.2).bind λu=>(q.1.get q.2).bind λw=>u.da.bind λx=>w.num.bind λk=>(q.2[i]?).join.bind λz=>z.lo.bind λxs=>(dD xs.length k).bind λj=>some (.nx<|q.2.set i<|some<|.l<|xs.set j x):=by
 unfold n6;congr 1; funext _; congr 1; funext p; congr 1; funext q; congr 1; funext u; congr 1; funext w;cases u with
 | d x=>
  cases w with
  | d y=>
   cases y with
   | int k=>
    show(match U.d x,U.d<|.int k,q.2[i]? with | .d x,.d<|.int k,some (some<|.l xs)=>_|_,_,_=>none)=((q.2[i]?).join.bind _);cases q.2[i]? with
    | none=>rfl
    | some o=>
     cases o with
     | none=>rfl
     | some w=>cases w<;>rfl
   | _=>rfl
  | l=>rfl
  | t=>rfl
  | k=>rfl
  | o=>rfl
 | l=>rfl
 | t=>rfl
 | k=>rfl
 | o=>rfl
theorem TX:iI md my ρ=(md ρ).bind λp=>(my p.2).bind λq=>(p.1.get q.2).bind λu=>(q.1.get q.2).bind λy=>(gO u y).bind λo=>o.bind λd=>some (.u<|.d d,q.2):=rfl
theorem RM{neg:Bool}:nO neg my md ρ=(my ρ).bind λq=>(md q.2).bind λp=>(p.1.get p.2).bind λu=>(q.1.get p.2).bind λy=>(gO u y).bind λo=>some (.u<|.d<|.bool (if neg=true then !o.isSome else o.isSome),p.2):=rfl
theorem Xk:mP ρ=some (.u<|.t [],ρ):=rfl
def AX(x:D):Ar×En->En
 | (.s i,ρ)=>ρ.set i<|some<|.d x
 | (.u _,ρ)=>ρ
theorem O8:fu me ρ=(me ρ).bind λp=>(p.1.get p.2).bind λu=>u.fz.bind λx=>some (.u<|.d x,AX x p):=by
 unfold fu;congr 1; funext p; congr 1; funext u; congr 1; funext x;have(a,aj):=p;cases a<;>rfl
theorem Tn:AX x (.s i,ρ)=ρ.set i (some<|.d x):=rfl
theorem Tj:AX x (.u u,ρ)=ρ:=rfl
theorem O7{xs:Qa D}:U.fz (.l xs)=some (.list xs):=rfl
theorem O6{kvs:Qa (Qa Key×D)}:U.fz (.t kvs)=some (.dict<|kvs.map λp=>(jH p.1,p.2)):=rfl
theorem PQ{g:U->Qb (Qa D)}:eK g me ρ=(me ρ).bind λp=>(p.1.get p.2).bind λu=>(g u).bind λds=>some (ds,p.2):=rfl
theorem Xj{xs:Qa D}:pF (.d<|.list xs)=some xs:=rfl
theorem Xi{xs:Qa D}:l7 (.d<|.tuple xs)=some xs:=rfl
theorem ZC{kvs:Qa (D×D)}:nY (.d<|.dict kvs)=if jF kvs=true then some (kvs.map (·.1))else none:=rfl
def xh:Qa U->Qb (Qa D)
 | [.d<|.int j]=>if -(2^62)<=j/\j < 2^62 then some (f7 0 j.toNat)else none
 | _=>none
theorem RL{n:Int}:xh [.d<|.int n]=if -(2^62)<=n/\n < 2^62 then some (f7 0 n.toNat)else none:=rfl
theorem TV:mD mA ρ=(mA ρ).bind λp=>(bC p.2 p.1).bind λus=>(xh us).bind λds=>some (ds,p.2):=bind_fn λp=>bind_fn λus=>match us with
 | []=>rfl
 | [.d<|.int j]=>by
  show(if _ then _ else _)=(if _ then _ else _:Qb (Qa D)).bind _;split<;>rfl
 | [.d .none]=>rfl
 | [.d<|.bool _]=>rfl
 | [.d<|.str _]=>rfl
 | [.d<|.list _]=>rfl
 | [.d<|.tuple _]=>rfl
 | [.d<|.dict _]=>rfl
 | [.l _]=>rfl
 | [.t _]=>rfl
 | [.k _]=>rfl
 | [.o _ _]=>rfl
 | .d x::b::us=>by cases x<;>rfl
 | .l x::b::us=>rfl
 | .t x::b::us=>rfl
 | .k x::b::us=>rfl
 | .o x y::b::us=>rfl
theorem RK{mI:MI}{mg:MG}:eO mI mg m1 ρ=(mI ρ).bind λp=>eQ mg m1 p.1 p.2:=rfl
theorem PN{mI:MI}{mg:MG}:kG mI nt js mg mt me ρ=(mI ρ).bind λp=>(ij nt mg mt me p.1 (gL nt js p.2) []).bind λq=>some (.u<|.l q.1,back js (q.2.drop nt) p.2):=rfl
theorem PM{f:U->Qb Int->Qb Int->Qb U}{ml mh:MO}:kF f me ml mh ρ=(me ρ).bind λp=>(ml p.2).bind λl=>(mh l.2).bind λh=>(p.1.get h.2).bind λx=>(f x l.1 h.1).bind λu=>some (.u u,h.2):=rfl
theorem YA:ko ρ=some (none,ρ):=rfl
theorem TU:jU me ρ=(me ρ).bind λp=>(p.1.get p.2).bind λu=>u.num.bind λi=>some (some i,p.2):=bind_fn λp=>bind_fn λu=>by
 cases u with
 | d x=>cases x<;>rfl
 | l=>rfl
 | t=>rfl
 | k=>rfl
 | o=>rfl
def B2:Qa U->Qb (D×D)
 | [.d x,.d y]=>some (x,y)
 | _=>none
theorem Xh{y:D}:B2 [.d x,.d y]=some (x,y):=rfl
theorem RJ:xC i j mA ρ=(mA ρ).bind λp=>(bC p.2 p.1).bind λus=>(B2 us).bind λz=>some (.nx<|(p.2.set i<|some<|.d z.1).set j<|some<|.d z.2):=by
 refine bind_fn λp=>bind_fn λus=>?_
 match us with
 | []=>rfl
 | [a]=>cases a<;>rfl
 | [.d x,.d y]=>rfl
 | [.d x,.l y]=>rfl
 | [.d x,.t y]=>rfl
 | [.d x,.k y]=>rfl
 | [.d x,.o _ _]=>rfl
 | [.l x,b]=>rfl
 | [.t x,b]=>rfl
 | [.k x,b]=>rfl
 | [.o _ _,b]=>rfl
 | a::b::c::us=>cases a<;>(try rfl)<;>(cases b<;>rfl)
theorem RH{mg:MG}:k7 me mg ρ=(me ρ).bind λp=>(p.1.get p.2).bind λu=>u.da.bind λd=>(mg d p.2).bind λaf=>some (.nx af):=by
 unfold k7;congr 1; funext p; congr 1; funext u;cases u<;>rfl
theorem Xg:zA i x ρ=some (ρ.set i<|some<|.d x):=rfl
theorem TR{gs:Qa D->En->Qb En}{ds:Qa D}:gk n gs (.tuple ds) ρ=if ds.length=n then gs ds ρ else none:=rfl
theorem Xf{g:MG}{gs:Qa D->En->Qb En}{ds:Qa D}:zW g gs (x::ds) ρ=(g x ρ).bind λaj=>gs ds aj:=rfl
theorem TQ:g9 [] ρ=some ρ:=rfl
theorem r8{c:Int->Int->Prop}{g:Int->Int->D}{a:Int}(h:c a b):lS c g (.d<|.int a) (.d<|.int b)=some (.d<|g a b):=by
 unfold lS;dsimp only;rw[if_pos h]
theorem Ti{a:Int}:dM (.d<|.int a) (.d<|.int b)=some (.d<|.int<|a+b):=rfl
theorem Th{a:Int}:iY (.d<|.int a) (.d<|.int b)=some (.d<|.int<|a - b):=rfl
theorem Hn{a:Int}(h:rN a b):gR (.d<|.int a) (.d<|.int b)=some (.d<|.int<|a * b):=r8 h
theorem PK{a:Int}(h:0 < b):iX (.d<|.int a) (.d<|.int b)=some (.d<|.int<|a % b):=r8 (c:=λ_ j=>0 < j) h
theorem Qo{a:Int}(h:uM a b):uC (.d<|.int a) (.d<|.int b)=some (.d<|.int<|a / b):=r8 h
theorem yk{a:Int}(h:su a b):xX (.d<|.int a) (.d<|.int b)=some (.d<|.int<|a.fdiv b):=r8 h
theorem PJ{a:Int}(h:xo a b):xu (.d<|.int a) (.d<|.int b)=some (.d<|.int<|a^b.toNat):=r8 h
theorem PH{a:Int}:nG (.d<|.int a) (.d<|.int b)=some (.d<|.bool<|decide<|a < b):=rfl
theorem PF{a:Int}:tV (.d<|.int a) (.d<|.int b)=some (.d<|.bool<|decide<|a<=b):=rfl
theorem PD{a:Int}:wK (.d<|.int a) (.d<|.int b)=some (.d<|.bool<|decide<|b < a):=rfl
theorem Pz{a:Int}:Gk (.d<|.int a) (.d<|.int b)=some (.d<|.bool<|decide<|b<=a):=rfl
theorem Tg{a:Int}:nQ (.d<|.int a)=some (.d<|.int (-a)):=rfl
theorem Tf{a:Int}:uc (.d<|.int a)=some (.d<|.int (if a < 0 then -a else a)):=rfl
theorem Xe{b:Bool}:pJ (.d<|.bool b)=some (.d<|.int (if b then 1 else 0)):=rfl
theorem Xd{a:Int}:xV [.d<|.int a,.d<|.int b]=some (.d<|.int (if b > a then b else a)):=rfl
theorem Py{f:U->Qb U}:f1 f [u]=f u:=rfl
theorem Te{xs:Qa D}:dJ (.l xs)=some (.d<|.int xs.length):=rfl
theorem Td{xs:Qa D}:dJ (.d<|.tuple xs)=some (.d<|.int xs.length):=rfl
theorem Tc{xs:Qa D}:dJ (.d<|.list xs)=some (.d<|.int xs.length):=rfl
theorem ZA{xs:Qa D}:mR (.l xs)=some (.d<|.tuple xs):=rfl
theorem Tb{xs:Qa D}{k:Int}:cT (.l xs) (.d<|.int k)=(bp xs k).map .d:=rfl
theorem Ta{xs:Qa D}{k:Int}:cT (.d<|.list xs) (.d<|.int k)=(bp xs k).map .d:=rfl
theorem S9{xs:Qa D}{k:Int}:aT (.d<|.tuple xs) (.d<|.int k)=(bp xs k).map .d:=rfl
theorem S8{xs:Qa D}{lo hi:Qb Int}:nM (.l xs) lo hi=some (.l<|fF xs lo hi):=rfl
theorem S7{a:Int}:bS false (.d<|.int a) (.d<|.int b)=some (.d<|.bool<|decide<|a=b):=by
 show some (U.d<|.bool<|decide<|V.int a=V.int b)=_;congr 3;exact decide_eq_decide.mpr ⟨λh=>by cases h; rfl,λh=>by rw[h]⟩
theorem S6{a:Int}:bS true (.d<|.int a) (.d<|.int b)=some (.d<|.bool (!decide (a=b))):=by
 show some (U.d<|.bool (!decide (V.int a=V.int b)))=_;congr 4;exact decide_eq_decide.mpr ⟨λh=>by cases h; rfl,λh=>by rw[h]⟩
theorem S5{a b:Str}:bS false (.d<|.str a) (.d<|.str b)=some (.d<|.bool<|decide<|a=b):=by
 show some (U.d<|.bool<|decide<|V.str a=V.str b)=_;congr 3;exact decide_eq_decide.mpr ⟨λh=>by cases h; rfl,λh=>by rw[h]⟩
def rP(pn:Qa Nat)(us:Qa U):Fl->Qb (U×Qa U)
 | .rt u ρ=>(gB pn ρ 0 us).bind λos=>some (u,os)
 | .nx ρ=>(gB pn ρ 0 us).bind λos=>some (.d .none,os)
 | _=>none
theorem Qn{us:Qa U}:cj n pn m1 us=(m1<|sm us++List.replicate (n - us.length) none).bind (rP pn us):=by
 exact bind_fn λf=>by cases f<;>rfl
theorem Zz{us:Qa U}:rP pn us (.rt u ρ)=(gB pn ρ 0 us).bind λos=>some (u,os):=rfl
theorem Z3:gB pn ρ n []=some []:=rfl
theorem ziv{us:Qa U}:gB pn ρ n (u::us)=(if n∈pn then(ρ[n]?).join.bind λo=>if o.own=true/\u.own=false then none else some o else if u.own=true then none else some u).bind λo=>(gB pn ρ (n+1) us).bind λos=>some (o::os):=rfl
theorem S4:U.own (.d x)=false:=rfl
theorem S3{xs:Qa D}:U.own (.l xs)=true:=rfl
theorem Xc:sm []=[]:=rfl
theorem Zy{us:Qa U}:sm (u::us)=some u::sm us:=rfl
theorem zAa{a:α}{xs:Qa α}:bp (a::xs) 0=some a:=by
 unfold bp dD;rw[if_pos (by decide),if_pos (by simp only[qu]; omega)];rfl
theorem zAb{a b:α}{xs:Qa α}:bp (a::b::xs) 1=some b:=by
 unfold bp dD;rw[if_pos (by decide),if_pos (by simp only[qu]; omega)];rfl
theorem zAc{a b c:α}{xs:Qa α}:bp (a::b::c::xs) 2=some c:=by
 unfold bp dD;rw[if_pos (by decide),if_pos (by simp only[qu]; omega)];rfl
theorem zAd:dD (n+1) 0=some 0:=by
 unfold dD;rw[if_pos (by decide),if_pos (by omega)];rfl
theorem zAe:dD (n+1+1) 1=some 1:=by
 unfold dD;rw[if_pos (by decide),if_pos (by omega)];rfl
theorem zAf{a:Int}(h:b.natAbs < 18446744073709551616):gR (.d<|.int a) (.d<|.int b)=some (.d<|.int<|a * b):=Hn (.inr ⟨by omega,by omega⟩)
theorem zAg{a:Int}(h:a.natAbs < 18446744073709551616):gR (.d<|.int a) (.d<|.int b)=some (.d<|.int<|a * b):=Hn (.inl ⟨by omega,by omega⟩)
theorem zAh{a:Int}(h:0 < b):iX (.d<|.int a) (.d<|.int b)=some (.d<|.int<|a % b):=PK h
theorem zAi{a:Int}(h:0 < b)(h2:b<=340282366920938463463374607431768211456):uC (.d<|.int a) (.d<|.int b)=some (.d<|.int<|a / b):=Qo (U8 h (by omega))
theorem zAj{a:Int}(h:0<=b)(h2:b<=1000000)(h3:a.natAbs < 18446744073709551616):xu (.d<|.int a) (.d<|.int b)=some (.d<|.int<|a^b.toNat):=PJ ⟨h,h2,by omega⟩
theorem zl:sizeLine=16777216:=rfl
theorem Zx:reset nt ρ=List.replicate nt none++ρ.drop nt:=rfl
theorem S2:gL nt js ρ=List.replicate nt none++js.map λj=>ρ.getD j none:=rfl
def lK(j:Nat):Qa Ar->Bool
 | []=>true
 | .u _::as=>lK j as
 | .s k::as=>!decide (k=j) && lK j as
theorem Dm:∀ {as:Qa Ar},lK j as=!(as.any λa=>match a with | .s k=>decide (k=j) | _=>false)
 | []=>rfl
 | .u _::as=>by rw[List.any_cons]; exact Dm (as:=as)
 | .s k::as=>by
  unfold lK;rw[List.any_cons,Dm (as:=as),Bool.not_or]
def wQ:Qb U->Bool
 | some u=>!u.own
 | none=>true
theorem S1:wQ (some<|.d x)=true:=rfl
theorem Zw:lK j []=true:=rfl
theorem S0{as:Qa Ar}:lK j (.u u::as)=lK j as:=rfl
theorem SY{k:Nat}{as:Qa Ar}:lK j (.s k::as)=(!decide (k=j) && lK j as):=rfl
theorem Zv{as:Qa Ar}:fj ρ (.s j::as)=((lK j as || wQ (ρ[j]?).join) && fj ρ as):=by
 rw[Ro,Dm];congr 1;cases ρ[j]? with
 | none=>simp[wQ]
 | some o=>
  cases o with
  | none=>simp[wQ]
  | some u=>simp[wQ,Bool.or_comm]
theorem Xb{us:Qa (Qb U)}:back (j::js) (some u::us) ρ=back js us (ρ.set j<|some u):=rfl
theorem Xa{us:Qa (Qb U)}:back [] us ρ=ρ:=by cases us<;>rfl
end
structure XT (K:qc) (tab:Qa (Str×Qa Str)) (fl:Qa Str):Prop where
 cl:∀ n ups C,tab.lookup n=some ups->XN K n C->XI K C/\∀ f∈fl,eT K C f
 is:∀ n ups C,tab.lookup n=some ups->XN K n C->∀ c C',(tab.lookup c).isSome=true->XN K c C'->PySem.W.kitOne K (.ref C) (.ref C')=some (decide (c=n) || ups.contains c)
 ni:∀ n ups C,tab.lookup n=some ups->XN K n C->PySem.W.kitOne K (.ref C) (.type "ValueError")=some (ups.contains ("ValueError":Str))
section
variable{fl:Qa Str}{n:Str}
end
section
variable{fl:Qa Str}{n:Str}
end
section
variable{X:Cx}{fl:Qa Str}{n:Str}
end
section
def mq:U->U->Qb U
 | .d (.str i),.d (.str j)=>if i.length+j.length<=sizeLine then some (.d<|.str<|i++j)else none
 | _,_=>none
theorem yK:VO K (λx y H Q=>∃ i j,x=.str i/\y=.str j/\i.length+j.length<=sizeLine/\Q (.str<|i++j) H) mq:=by
 intro x y a b u H Q ha hb e q;unfold mq at e;split at e
 .split at e
  .rename_i i j hc
   cases e;exact⟨i,j,DF.str_inv ha,DF.str_inv hb,hc,q _ _ (cn.refl H) (DF.str _) Nw.data⟩
  .cases e
 .cases e
def pC:U->U->Qb U
 | .d (.str z),.d (.int i)=>if z.length<=sizeLine then(bp z.cps.toList i).map λc=>.d (.str ⟨#[c]⟩)else none
 | _,_=>none
theorem Dl:VO K GI pC:=by
 intro x y a b u H Q ha hb e q;unfold pC at e;split at e
 .split at e
  .rename_i z i hc
   have(c,ec,rfl):=qr.mp e;exact⟨z,i,c,DF.str_inv ha,DF.int_inv hb,hc,ec,q _ _ (cn.refl H) (DF.str _) Nw.data⟩
  .cases e
 .cases e
def AU(ty:U->Bool)(f:U->U->Qb U)(mo ma:ME):ME:=λρ=>(mo ρ).bind λp=>(p.1.get p.2).bind λx0=>if ty x0=true then(ma p.2).bind λq=>(p.1.get q.2).bind λx=>(q.1.get q.2).bind λy=>(f x y).bind λu=>some (.u u,q.2)else none
theorem MM{r:V->Qa V->Hp->VK->Prop}{ty:U->Bool}{f:U->U->Qb U}{to:TE}{mo ma:ME}(ht:∀ (x:V) (a:U) (H:Hp),Rp K H x a->ty a=true->vJ K T x H)(h:VO K (λx y H Q=>r x [y] H Q) f)
  (ho:VE K to mo) (ha:VE K ta ma):VE K (AI K T r to<|iJ ta iH) (AU ty f mo ma):=by
 intro ρ σ H a af Q rs e q;obtain⟨⟨a1,aj⟩,e1,e⟩:=zb e;have(x0,ex0,e):=zb e;split at e
 rotate_left
 .cases e
 rename_i qX;obtain⟨⟨b1,au⟩,e2,e⟩:=zb e;have(x,ex,e):=zb e;have(y,ey,e):=zb e;have(u,eu,e):=zb e;cases e;refine ho ρ σ H a1 aj _ rs e1 λv1 H1 g1 k1=>⟨ht _ _ _ (k1.now rs g1 ex0) qX,ha aj σ H1 b1 au _ g1.rs e2 λv2 H2 g2 k2=>?_⟩;refine h _ _ x y u H2 _ (k1.later rs g1 g2 ex) (k2.now g1.rs g2 ey) eu λv H3 s p n=>?_;exact q v H3 ((g1.trans g2).trans<|Go.grow g2.rs s) ⟨p,n.mono (g1.trans g2).dm⟩
def tyL:U->Bool
 | .l _=>true
 | .d (.list _)=>true
 | _=>false
def vK:U->Bool
 | .d (.str _)=>true
 | _=>false
theorem Ik(x:V)(a:U)(H:Hp)(h:Rp K H x a)(e:vK a=true):vJ K "str" x H:=by
 unfold vK at e;split at e
 .cases DF.str_inv h; rfl
 .cases e
def xg:D->Qb Str
 | .str x=>some x
 | _=>none
theorem Ea:∀ {us:Qa V} {ds:Qa D} {ys:Qa Str},aK K H us ds->ds.mapM xg=some ys->us=ys.map V.str
 | _,_,ys,.nil,e=>by cases e; rfl
 | _,_,ys,.cons (d:=d) h t,e=>by
  rw[List.mapM_cons]at e;have(y,e1,e):=zb e;have(gS,e2,e):=zb e;cases e;cases d with
  | str x=>cases e1; cases DF.str_inv h; rw[Ea t e2]; rfl
  | _=>cases e1
def rZ:U->U->Qb U
 | .d (.str sep),.l ds=>(ds.mapM xg).bind λys=>if(ys.map (·.length)).sum+ys.length * sep.length<=16777216 then some (.d<|.str<|Txt.join sep ys)else none
 | .d (.str sep),.d (.list ds)=>(ds.mapM xg).bind λys=>if(ys.map (·.length)).sum+ys.length * sep.length<=16777216 then some (.d<|.str<|Txt.join sep ys)else none
 | _,_=>none
theorem JD:VO K (λx y H Q=>Hf K x [y] H Q) rZ:=by
 intro x y a b u H Q ha hb e q;unfold rZ at e;split at e
 .have(ys,ey,e):=zb e
  split at e
  .rename_i hc
   cases e;have(l,us,rfl,h1,h2):=hb;cases Ea h2 ey;exact⟨_,l,ys,DF.str_inv ha,rfl,bq.of h1,hc,q _ _ (cn.refl H) (DF.str _) Nw.data⟩
  .cases e
 .have(ys,ey,e):=zb e
  split at e
  .rename_i hc
   cases e;have(l,us,rfl,h1,h2):=DF.lst_inv hb;cases Ea h2 ey;exact⟨_,l,ys,DF.str_inv ha,rfl,h1.sq,hc,q _ _ (cn.refl H) (DF.str _) Nw.data⟩
  .cases e
 .cases e
def wJ:D->Qb V
 | .none=>some .aI
 | .bool b=>some<|.bl b
 | .int i=>some<|.int i
 | .str x=>some<|.str x
 | _=>none
theorem JC{w:V}{d:D}(h:DF K H v d)(e:wJ d=some w):v=w/\lx w=true:=by
 cases d with
 | none=>cases e; cases h; exact⟨rfl,rfl⟩
 | bool b=>cases e; cases DF.bV h; exact⟨rfl,rfl⟩
 | int i=>cases e; cases DF.int_inv h; exact⟨rfl,rfl⟩
 | str x=>cases e; cases DF.str_inv h; exact⟨rfl,rfl⟩
 | _=>cases e
theorem IP:∀ {us:Qa V} {ds:Qa D} {ws:Qa V},aK K H us ds->ds.mapM wJ=some ws->us=ws/\ws.all lx=true
 | _,_,ws,.nil,e=>by cases e; exact⟨rfl,rfl⟩
 | _,_,ws,.cons h t,e=>by
  rw[List.mapM_cons]at e;have(y,e1,e):=zb e;have(gS,e2,e):=zb e;cases e;have(rfl,f1):=JC h e1;have(rfl,f2):=IP t e2;exact⟨rfl,by rw[List.all_cons,f1,f2]; rfl⟩
end
def BC(K:qc)(C:Qg):Bool:=match K.lookup C with
 | some ⟨.type "type",_,.cls cd,sl⟩=>(match cd.mro,sl.toList with
  | .ref C'::bm,[_,_,_,_,some<|.builtin m,_]=>C'==C && m == "ValueError.__new__" && !cd.hasDel && cd.hasDict && PySem.W.tailIn K EL bm
  | _,_=>false)
 | _=>false
def xf(K:qc)(C:Qg):Bool:=BC K C && PySem.W.findIn K (.ref C) "__getattribute__"==some (some<|.builtin "BaseException.__getattribute__") && PySem.W.findIn K (.ref C) "__getattr__"==some none &&
 PySem.W.findIn K (.ref C) "__setattr__"==some (some<|.builtin "object.__setattr__") && PySem.W.findIn K (.ref C) "__class__"==some (some<|.builtin "object.__class__") &&
 PySem.W.specialIn K (.builtin "object.__class__") "__get__"==some (some<|.builtin "getset_descriptor.__get__") && PySem.W.takesIn K (.builtin "object.__class__")==some true && PySem.W.mroIn K C (.type "object")==some true
theorem zAl{C:Qg}(q:BC K C=true):∃ nm qn N bs bm sn sub ab col dd k0 k1 k2 k3 k5,K.lookup C=some (excClassObj nm qn C N bs bm true sn sub ab col dd k0 k1 k2 k3 k5 "ValueError.__new__")/\PySem.W.tailIn K EL bm=true:=by
 unfold BC at q;split at q
 .rename_i dd cd sl ho
  split at q
  .rename_i C' bm k0 k1 k2 k3 m k5 hm hs
   simp only[Bool.and_eq_true,beq_iff_eq,Bool.not_eq_true']at q;obtain⟨⟨⟨⟨rfl,rfl⟩,wB⟩,rm⟩,ht⟩:=q;have(nm,bs,mro,ns,qn,hd,sn,sub,ab,col,del):=cd;dsimp only at hm wB rm;subst hm wB rm;obtain⟨l⟩:=sl;dsimp only at hs;subst hs;exact⟨nm,qn,ns,bs,bm,sn,sub,ab,col,dd,k0,k1,k2,k3,k5,ho,ht⟩
  .cases q
 .cases q
theorem zAm{C:Qg}(q:xf K C=true):XI K C:=by
 unfold xf at q;simp only[Bool.and_eq_true,beq_iff_eq]at q;obtain⟨⟨⟨⟨⟨⟨⟨h1,h2⟩,h3⟩,h4⟩,h5⟩,h6⟩,h7⟩,h8⟩:=q;exact⟨⟨zAl h1,h2,h3,h4⟩,h5,h6,h7,h8⟩
def ug(K:qc)(n:Str):Qb Qg:=match PySem.W.nsIn K mainGlobals n with
 | some (some<|.ref C)=>some C
 | _=>none
theorem IM{n:Str}{C:Qg}(h:XN K n C):ug K n=some C:=by
 unfold ug;rw[show PySem.W.nsIn K mainGlobals n=some (some<|.ref C) from h]
def BB(K:qc)(tab:Qa (Str×Qa Str))(fl:Qa Str):Bool:=tab.all λp=>match ug K p.1 with
 | some C=>xf K C && fl.all (λf=>PySem.W.findIn K (.ref C) f==some none) && PySem.W.kitOne K (.ref C) (.type "ValueError")==some (p.2.contains ("ValueError":Str)) &&
   tab.all λp'=>match ug K p'.1 with
    | some C'=>PySem.W.kitOne K (.ref C) (.ref C')==some (decide (p'.1=p.1) || p.2.contains p'.1)
    | none=>false
 | none=>false
theorem Em:∀ {l:Qa (Str×β)} {n:Str} {b:β},l.lookup n=some b->(n,b)∈l
 | [],_,_,e=>by cases e
 | (m,c)::l,n,b,e=>by
  rw[List.lookup_cons]at e;cases q:(n==m)with
  | true=>
   rw[q]at e;cases e;rw[beq_iff_eq.mp q];exact qp
  | false=>
   rw[q]at e;exact qo _<|Em e
theorem zAn{fl:Qa Str}(h:BB K tab fl=true):XT K tab fl:=by
 unfold BB at h;have one:∀ n ups C,tab.lookup n=some ups->XN K n C->(xf K C && fl.all (λf=>PySem.W.findIn K (.ref C) f==some none) && PySem.W.kitOne K (.ref C) (.type "ValueError")==some (ups.contains ("ValueError":Str)) &&
   tab.all λp'=>match ug K p'.1 with
    | some C'=>PySem.W.kitOne K (.ref C) (.ref C')==some (decide (p'.1=n) || ups.contains p'.1)
    | none=>false)=true:=λn ups C hn xn=>by
  have z:=Þ.mp h (n,ups) (Em hn);dsimp only at z;rw[IM xn]at z;exact z
 refine⟨λn ups C hn xn=>?_,λn ups C hn xn c C' hc xc=>?_,λn ups C hn xn=>?_⟩
 .have z:=one n ups C hn xn
  simp only[Bool.and_eq_true]at z;refine⟨zAm z.1.1.1,λf hf=>?_⟩;exact beq_iff_eq.mp<|Þ.mp z.1.1.2 f hf
 .have z:=one n ups C hn xn
  simp only[Bool.and_eq_true]at z;have(EN,hu'):=ã.mp hc;have y:=Þ.mp z.2 (c,EN) (Em hu');dsimp only at y;rw[IM xc]at y;exact beq_iff_eq.mp y
 .have z:=one n ups C hn xn
  simp only[Bool.and_eq_true]at z;exact beq_iff_eq.mp z.1.2
section
variable{X:Cx}{C:Qg}{es:Qa Expr}{t:TA}
end
abbrev RX(α:Type):=(α×En) ⊕ (D×En)
abbrev MX:=En->Qb (RX Ar)
abbrev MXA:=En->Qb (RX<|Qa Ar)
section
variable{EX:e9}{ρ af:En}{A:Qg->Prop}
def mXR(n f:Str)(ma:MA):En->Qb (D×En):=λρ=>(ma ρ).bind λp=>(bC p.2 p.1).bind λus=>(iZ us).bind λds=>match ds with
 | [x]=>some (.dict [(.none,.str n),(.str f,x)],p.2)
 | _=>none
def under(tab:Qa (Str×Qa Str))(c:Str):D->Bool
 | .dict ((.none,.str n)::_)=>match tab.lookup n with|some ups=>ups.contains c|none=>false
 | _=>false
end
abbrev FX:=Qa U->Qb ((U×Qa U) ⊕ (D×Qa U))
def spX(K:qc)(n:Nat)(f:FX):Sp:=λvs H Q E=>∃ us r,us.length=n/\Rs K (sm us) (dC vs) H/\f us=some r/\match r with
 | .inl o=>∀ v H',Go K (sm us) (dC vs) H (sm o.2) H'->Rp K H' v o.1->Nw H v o.1->Q v H'
 | .inr o=>∀ a H',Go K (sm us) (dC vs) H (sm o.2) H'->H a=none->GN K H' a o.1->E (.ref a) none H'
structure GD (P:Qe) (w:Qh) (K:qc) (mg:Str->Qb Qc) (base:Heap) (x:Str) (k:Nat) (ps:Qa Str) (sp:Sp):Prop where
 ex:∃ (f:Qg) (fd:FuncData),bP P w K mg base (CXv P w K) k f fd ps sp/\jS K fd ps []/\PySem.W.keepIn K (.ref f)=true/\mg x=some (.ref f)
section
variable{X:Cx}{EX:e9}{k:Nat}{es:Qa Expr}{t:TA}
end
section
variable{EX:e9}{ρ af:En}{A:Qg->Prop}
end
section
variable{X:Cx}{C:Qg}{es:Qa Expr}{t:TA}{EX:e9}
end
def tyD:D->Qb String
 | .none=>some "NoneType"
 | .bool _=>some "bool"
 | .int _=>some "int"
 | .str _=>some "str"
 | .tuple _=>some "tuple"
 | _=>none
def Nb:U->Qb String
 | .d x=>tyD x
 | .l _=>some "list"
 | _=>none
def ni(t T:String):Bool:=t==T || (t == "bool" && T == "int")
def CD:Qa String:=["NoneType", "bool", "int", "str", "tuple", "list"]
theorem TN(K:qc):∀ t∈CD,∀ T∈["int", "bool", "str", "tuple", "list"],PySem.W.kitOne K (.type t) (.type T)=some (ni t T):=by
 have hm:∀ T∈["int", "bool", "str", "tuple", "list"],PySem.W.kitMeta T=true:=by decide +kernel
 have hs:∀ t∈CD,∀ T∈["int", "bool", "str", "tuple", "list"],(PySem.fastBuiltinMro t).map (·.contains (Value.type T))=some (ni t T):=by decide +kernel
 intro t ht T hT;unfold PySem.W.kitOne;split
 .rename_i q
  have e:t=T:=Value.type.inj (beq_iff_eq.mp q);subst e;unfold ni;simp
 .unfold PySem.W.kitCls PySem.W.subIn
  simp only[hm T hT,if_true];exact hs t ht T hT
def gZ(T:String)(u:U):Qb U:=(Nb u).bind λt=>if t∈CD/\T∈["int", "bool", "str", "tuple", "list"]then some (.d<|.bool<|ni t T)else none
section
theorem Qm{u:U}{t:String}(h:Rp K H v u)(e:Nb u=some t):cQ K H v (.type t):=by
 cases u with
 | d x=>
  cases x with
  | none=>cases e; cases h; exact .aI
  | bool b=>cases e; cases DF.bV h; exact .bl _
  | int i=>cases e; cases DF.int_inv h; exact .int _
  | str x=>cases e; cases DF.str_inv h; exact .str _
  | tuple ds=>cases e; have(a,ys,rfl,h1,_):=DF.aB h; exact .tup h1
  | list ds=>cases e
  | dict ds=>cases e
 | l xs=>cases e; have(a,us,rfl,h1,_):=h; exact .lst h1
 | t kvs=>cases e
 | k kvs=>cases e
 | o=>cases e
theorem mf{me:ME}(h:VE K te me):VE K (lG (BM K)<|iJ te<|iJ (tC<|.ty T) iH) (eJ (gZ T) me):=by
 intro ρ σ H a af Q rs e q;obtain⟨⟨a1,aj⟩,e1,e⟩:=zb e;have(x,ex,e):=zb e;have(u,eu,e):=zb e;cases e;refine h ρ σ H a1 _ _ rs e1 λv1 H1 g1 k1=>?_;have p:=k1.now rs g1 ex;unfold gZ at eu;have(t,et,eu):=zb eu;split at eu
 .rename_i hc
  cases eu;exact⟨v1,.type t,T,_,rfl,Qm p et,TN K t hc.1 T hc.2,q _ _ g1 ⟨DF.bl _,Nw.data⟩⟩
 .cases eu
def uf(x:D)(ds:Qa D):Qb Bool:=(wJ x).bind λw=>(ds.mapM wJ).bind λws=>some<|Fy w ws
def lR(neg:Bool)(a b:U):Qb U:=match a with
 | .d x=>b.items.bind λds=>(uf x ds).bind λr=>some<|.d<|.bool (if neg=true then !r else r)
 | _=>none
theorem xI(neg:Bool):VO K (vS K neg) (lR neg):=by
 intro x y a b u H Q ha hb e q;cases a with
 | d d=>
  have(ds,e1,e):=zb (show b.items.bind _=some u from e);have(r,e2,e):=zb e;have(w,e3,e2):=zb e2;have(ws,e4,e2):=zb e2;cases e2;cases e;have(p,ys,rfl,sq,df):=hb.items e1;have(rfl,f1):=JC ha e3;have(rfl,f2):=IP df e4;exact⟨p,_,rfl,sq,f1,f2,q _ _ (cn.refl H) (by cases neg<;>exact DF.bl _) Nw.data⟩
 | _=>cases e
def Bh:D->Qb Bool
 | .bool b=>some b
 | _=>none
theorem IL:∀ {us:Qa V} {ds:Qa D} {bs:Qa Bool},aK K H us ds->ds.mapM Bh=some bs->us=bs.map V.bl
 | _,_,bs,.nil,e=>by cases e; rfl
 | _,_,bs,.cons (d:=d) h t,e=>by
  rw[List.mapM_cons]at e;have(y,e1,e):=zb e;have(gS,e2,e):=zb e;cases e;cases d with
  | bool x=>cases e1; cases DF.bV h; rw[IL t e2]; rfl
  | _=>cases e1
def rO(u:U):Qb U:=u.items.bind λds=>(ds.mapM Bh).bind λbs=>some<|.d<|.bool<|bs.all id
theorem Ij:VC K (GP K) (f1 rO):=nP λv a u H Q h e q=>by
 have(ds,ex,e):=zb e;have(bs,eb,e):=zb e;cases e;have(p,ys,rfl,s,d):=h.items ex;cases IL d eb;exact⟨p,bs,rfl,s,q _ _ (λ_ _ z=>z) (.bl _) Nw.data⟩
def uP(f f':U->U->Qb U)(ma mb mc:ME):ME:=λρ=>(ma ρ).bind λp=>(mb p.2).bind λq=>(p.1.get q.2).bind λx=>(q.1.get q.2).bind λy=>(f x y).bind λr=>match r with
 | .d (.bool true)=>(mc q.2).bind λs=>(q.1.get s.2).bind λy'=>(s.1.get s.2).bind λz=>(f' y' z).bind λu=>some (.u u,s.2)
 | .d (.bool false)=>some (.u<|.d<|.bool false,q.2)
 | _=>none
theorem IJ{r r':R2}{f f':U->U->Qb U}{tc:TE}{ma mb mc:ME}(h:VO K r f)(h':VO K r' f')(ha:VE K ta ma)(hb:VE K tb mb)(hc:VE K tc mc):VE K (uY r r' ta tb tc) (uP f f' ma mb mc):=by
 intro ρ σ H a af Q rs e q;obtain⟨⟨a1,aj⟩,e1,e⟩:=zb e;obtain⟨⟨b1,au⟩,e2,e⟩:=zb e;have(x,ex,e):=zb e;have(y,ey,e):=zb e;have(rr,er,e):=zb e;refine ha ρ σ H a1 aj _ rs e1 λv1 H1 g1 k1=>hb aj σ H1 b1 au _ g1.rs e2 λv2 H2 g2 k2=>?_;refine h _ _ x y rr H2 _ (k1.later rs g1 g2 ex) (k2.now g1.rs g2 ey) er λv H3 s p n=>?_;have g3:=Go.grow g2.rs s;split at e
 .cases DF.bV p
  refine⟨true,rfl,?_⟩;rw[if_pos rfl];obtain⟨⟨c1,kY⟩,e3,e⟩:=zb e;have(y',ey',e):=zb e;have(z,ez,e):=zb e;have(u,eu,e):=zb e;cases e;refine hc au σ H3 c1 _ _ g3.rs e3 λv3 H4 g4 k4=>?_;refine h' _ _ y' z u H4 _ (k2.later g1.rs g2 (g3.trans g4) ey') (k4.now g3.rs g4 ez) eu λw H5 s5 p5 n5=>?_;exact q w H5 ((((g1.trans g2).trans g3).trans g4).trans<|Go.grow g4.rs s5) ⟨p5,n5.mono λb hb=>(g1.trans g2).dm b<|g3.dm b<|g4.dm b hb⟩
 .cases DF.bV p
  cases e;refine⟨false,rfl,?_⟩;rw[if_neg (by decide)];exact q _ H3 ((g1.trans g2).trans g3) ⟨DF.bl _,Nw.data⟩
 .cases e
def uy:U->U->Qb U
 | .d (.str z),.d (.int n)=>if 0<=n/\n<=1 then some (.d<|.str<|rV z n)else none
 | _,_=>none
theorem TM:VO K (λx y H Q=>∃ z n,x=.str z/\y=.int n/\0<=n/\n<=1/\Q (.str<|rV z n) H) uy:=by
 intro x y a b u H Q ha hb e q;unfold uy at e;split at e
 .split at e
  .rename_i z n hc
   cases e;exact⟨z,n,DF.str_inv ha,DF.int_inv hb,hc.1,hc.2,q _ _ (cn.refl H) (DF.str _) Nw.data⟩
  .cases e
 .cases e
end
section
variable{X:Cx}
end
section
variable{I:Qg}{fp wr:Qa Qg}{P:Nat->Qc->Prop}{St:Nat->Qd->Prop}
end
section
end
section
variable{X:Cx}
theorem W9{a b c:Expr}{tc:TE}{ic:CmpOp}{r r':R2}(ho:bu X (compareOp op) r)(c9:bu X (compareOp ic) r')(ha:Wr (PE X a ta))(hb:Wr (PE X b tb))(hc:Wr (PE X c tc))(hm:lastMarks [op,ic] [b,c]=false:=by rfl):
  Wr (PT X (.Compare a [op,ic] [b,c] pos)<|uH<|uY r r' ta tb tc):=⟨XA ho c9 ha.run hb.run hc.run hm⟩
noncomputable def Ii(K:qc):R2:=λx y H Q=>CU K x y H Q\/∃ a b,x=.ref a/\y=.ref b/\bj K H a []/\(∃ ys,bj K H b ys)/\Q y H
end
section
variable{X:Cx}
theorem TL{t b:Qg}{ws:Qa Qc}(ht:IsTup s.heap t #[])(hb:IsTup s.heap b ws.toArray)(h:Q (.ref b) s):wpAny (model prog w) A (binaryOp .Add (.ref t)<|.ref b) Q E s:=by
 obtain⟨⟨c1,d1,o1,s1⟩,h1,z1,n1,y1⟩:=id ht;obtain⟨⟨c2,d2,o2,s2⟩,h2,z2,n2,y2⟩:=id hb;cases(show c1=_ from z1);cases(show c2=_ from z2);cases(show o1=_ from y1);cases(show o2=_ from y2);have mt:=tuple_addW0 t b #[] ws.toArray n1 n2 d1 d2 s1 s2 rfl;exact concat_meets ⟨_,h1,rfl⟩ ⟨_,h2,rfl⟩ noFill_tuple_add seq_tuple_add PySem.F.slot_tuple_add PySem.F.entry_tuple_add (PySem.F.args_tuple_add_2 _ _) mt ⟨h1,h2,h⟩
theorem JQ(hK:X.K=K:=by rfl):bu X (binaryOp .Add) (Ii K):=by
 subst hK;intro pins s σ H x y v u Q I rx ry h;rcases h with h|⟨a,b,rfl,rfl,ha,⟨ys,hb⟩,q⟩
 .exact Vg pins s σ H x y v u Q I rx ry h
 .cases rx
  cases ry;have(ai,r1,p1,_):=I.tuple ha;have(fQ,r2,p2,_):=I.tuple hb;cases r1;exact TL p1 p2 ⟨.ref b,H,I,rfl,q⟩
noncomputable def sP:U->U->Qb U
 | .d (.tuple []),.d (.tuple ys)=>some<|.d<|.tuple ys
 | a,b=>uz a b
theorem JP:VO K (Ii K) sP:=by
 intro x y a b u H Q ha hb e q;unfold sP at e;split at e
 .cases e
  have(p,us,rfl,h1,h2):=DF.aB ha;have(p',eG,rfl,gU,jJ):=DF.aB hb;cases h2;exact .inr ⟨p,p',rfl,rfl,(aP.sq h1),⟨eG,(aP.sq gU)⟩,q _ _ (cn.refl H) hb Nw.data⟩
 .exact .inl (Vk x y _ _ u H Q ha hb e q)
end
def lV(K:qc)(g:Qg)(ns:Qa Int):Prop:=∃ (o:Obj) (ai:Array Qc) (n:Nat),K.lookup g=some o/\o.cls=.type "tuple"/\o.data=.seq ai n/\ai.size<=sizeLine/\zF (ns.map V.int) ai.toList
section
variable{X:Cx}
theorem lV.sq{g:Qg}(h:lV K g ns):bj K H g (ns.map V.int):=.inr h
theorem JO:∀ (ns:Qa Int),gi K H (ns.map V.int)<|ns.map PyData.int
 | []=>.nil
 | n::ns=>.cons (.int n)<|JO ns
theorem lV.dv{g:Qg}(h:lV K g ns):DV K H (.ref g) (.tuple<|ns.map PyData.int):=.tup h.sq (JO ns)
noncomputable def xb(neg:Bool)(ns:Qa Int)(a:U):Qb U:=l8 neg a (.d<|.tuple<|ns.map PyData.int)
theorem zAo{neg:Bool}{g:Qg}{me:ME}(gt:lV K g ns)(h:VE K te me):VE K (kC (xD K neg) te<|tC<|.ref g) (eJ (xb neg ns) me):=by
 intro ρ σ H a af Q rs e q;obtain⟨⟨a1,aj⟩,e1,e⟩:=zb e;have(x,ex,e):=zb e;have(u,eu,e):=zb e;cases e;refine h ρ σ H a1 _ _ rs e1 λv1 H1 g1 k1=>?_;have p:=k1.now rs g1 ex;have(dx,e2,eu):=zb eu;have(dy,e3,eu):=zb eu;cases e3;split at eu
 .rename_i hs
  cases eu;exact⟨dx,_,p.dv e2<|Ad _<|SeqAt.canLay_of_shaped hs.1,gt.dv,hs.1,hs.2,q _ _ g1 ⟨DF.bl _,Nw.data⟩⟩
 .cases eu
end
theorem nr{α:Sort _}{a b:α}(h:a=b):a=b:=h
structure Ph {α:Type} (a:α):Type where
 n:Nat
def Wo(o:Qb α)(Q:α->Prop):Prop:=∃ a,o=some a/\Q a
def Co(f:α->Qb β)(t:Ph f)(Q:β->Prop)(a:α):Prop:=Wo (f a) Q
section
variable{a:α}{o:Qb α}{f:α->Qb β}{Q:α->Prop}{R:β->Prop}
theorem zX:Wo (some a) Q=Q a:=propext ⟨λ⟨_,e,h⟩=>(by cases e; exact h),λh=>⟨a,rfl,h⟩⟩
theorem zo:Wo (o.bind f) R=Wo o (Co f ⟨0⟩ R):=propext (by
 cases o with
 | none=>exact⟨λ⟨_,e,_⟩=>(by cases e),λ⟨_,e,_⟩=>(by cases e)⟩
 | some a=>rw[zX]; exact Iff.rfl)
theorem hJ{t:Ph f}:Co f t R a=Wo (f a) R:=rfl
theorem nW{c:Prop}[Decidable c]{x y:Qb α}(h:c->Wo x Q)(h':¬c->Wo y Q):Wo (if c then x else y) Q:=by
 split
 .exact h ‹_›
 .exact h' ‹_›
end
section
variable{ρ:En}{me ma mb mc mk mi md my mv mo:ME}{mA mK:MA}{mt mu:MT}{mI:MI}{mg:MG}{m1 m2:MS}{u:U}{x:D}{mx:MX}{mXA:MXA}
variable{QE:Ar×En->Prop}{QA:Qa Ar×En->Prop}{QT:Bool×En->Prop}{QS:Fl->Prop}{QI:Qa D×En->Prop}{QO:Qb Int×En->Prop}{QG:En->Prop}{QX:RX Ar->Prop}{QXA:RX (Qa Ar)->Prop}{QR:D×En->Prop}{QF:U×Qa U->Prop}{QFX:(U×Qa U) ⊕ (D×Qa U)->Prop}
theorem JM:Wo (zj i ρ) QE=Wo (ρ[i]?).join (Co (λ_=>some (.s i,ρ)) ⟨0⟩ QE):=by rw[Rv,zo]
theorem GQ:Wo (mC x ρ) QE=QE (.u<|.d x,ρ):=by rw[zBl,zX]
noncomputable def xa(f:U->U->Qb U)(a:Ar)(q:Ar×En):Qb (Ar×En):=(a.get q.2).bind λx=>(q.1.get q.2).bind λy=>(f x y).bind λu=>some (.u u,q.2)
noncomputable def Fs(f:U->U->Qb U)(mb:ME)(p:Ar×En):Qb (Ar×En):=(mb p.2).bind (xa f p.1)
theorem SX{f:U->U->Qb U}:Wo (aq f ma mb ρ) QE=Wo (ma ρ) (Co (Fs f mb) ⟨0⟩ QE):=by rw[Pj,zo]; rfl
theorem W8{f:U->U->Qb U}{p:Ar×En}:Wo (Fs f mb p) QE=Wo (mb p.2) (Co (xa f p.1) ⟨0⟩ QE):=by unfold Fs; rw[zo]
theorem zAp{f:U->Qb U}:Wo (eJ f ma ρ) QE=Wo (ma ρ) (Co (λp=>(p.1.get p.2).bind λx=>(f x).bind λu=>some (.u u,p.2)) ⟨0⟩ QE):=by rw[Pg,zo]
theorem JL:Wo (zq ρ) QA=QA ([],ρ):=by rw[Ru,zX]
theorem TJ:Wo (zf me mA ρ) QA=Wo (me ρ) (Co (λp=>(mA p.2).bind λq=>some (p.1::q.1,q.2)) ⟨0⟩ QA):=by rw[T4,zo]
theorem W7:Wo (bw mA ρ) QE=Wo (mA ρ) (Co (λp=>(bC p.2 p.1).bind λus=>(iZ us).bind λds=>if ds.length<=sizeLine then some (.u<|.d<|.tuple ds,p.2)else none) ⟨0⟩ QE):=by rw[Rt,zo]
theorem W6:Wo (eP mA ρ) QE=Wo (mA ρ) (Co (λp=>(bC p.2 p.1).bind λus=>(iZ us).bind λds=>if ds.length<=sizeLine then some (.u<|.l ds,p.2)else none) ⟨0⟩ QE):=by rw[Rr,zo]
theorem zAq{f:Qa U->Qb U}:Wo (bA f mA ρ) QE=Wo (mA ρ) (Co (λp=>(bC p.2 p.1).bind λus=>(f us).bind λu=>some (.u u,p.2)) ⟨0⟩ QE):=by rw[Pf,zo]
theorem Ql{f:FD}:Wo (aS f mA ρ) QE=Wo (mA ρ) (Co (λp=>if fj p.2 p.1=true then(bC p.2 p.1).bind λus=>(f us).bind λo=>some (.u o.1,wb p.2 p.1 o.2)else none) ⟨0⟩ QE):=by rw[Rq,zo]
theorem W5:Wo (zz m1 m2 ρ) QS=Wo (m1 ρ) (Co (k6 m2) ⟨0⟩ QS):=by rw[Rn,zo]
theorem Qk:Wo (aR i me ρ) QS=Wo (me ρ) (Co (λp=>(put p).bind λq=>some<|.nx<|q.2.set i<|some q.1) ⟨0⟩ QS):=by rw[Rm,zo]
theorem Xx:Wo (bh me ρ) QS=Wo (me ρ) (Co (λp=>(put p).bind λq=>some<|.rt q.1 q.2) ⟨0⟩ QS):=by rw[Rl,zo]
theorem Y5:Wo (pI pn i ρ) QS=Wo (if i∈pn then none else(ρ[i]?).join.bind λu=>some<|.rt u<|ρ.set i none) QS:=by rw[T3]
theorem Kk:Wo (bF ρ) QS=QS (.nx ρ):=by rw[T2,zX]
theorem TH:Wo (gq me ρ) QS=Wo (me ρ) (Co (λp=>some<|.nx p.2) ⟨0⟩ QS):=by rw[T1,zo]
theorem Qj:Wo (bt mt m1 m2 ρ) QS=Wo (mt ρ) (Co (λp=>if p.1=true then m1 p.2 else m2 p.2) ⟨0⟩ QS):=by rw[Rk,zo]
theorem Xw:Wo (tK mt ma mb ρ) QE=Wo (mt ρ) (Co (λp=>if p.1=true then ma p.2 else mb p.2) ⟨0⟩ QE):=by rw[Pc,zo]
theorem zBn:Wo (mB me ρ) QT=Wo (me ρ) (Co (λp=>(p.1.get p.2).bind λu=>u.rG.bind λb=>some (b,p.2)) ⟨0⟩ QT):=by rw[zBm,zo]
theorem Xv:Wo (rS mt mu ρ) QT=Wo (mt ρ) (Co (λp=>if p.1=true then mu p.2 else some (false,p.2)) ⟨0⟩ QT):=by rw[Rj,zo]
theorem SW:Wo (jG mt mu ρ) QT=Wo (mt ρ) (Co (λp=>if p.1=true then some (true,p.2)else mu p.2) ⟨0⟩ QT):=by rw[Pb,zo]
theorem Xu:Wo (gQ mt ρ) QT=Wo (mt ρ) (Co (λp=>some (!p.1,p.2)) ⟨0⟩ QT):=by rw[RQ,zo]
theorem Y4:Wo (lj ma mb ρ) QE=Wo (mB ma ρ) (Co (λp=>if p.1=true then mb p.2 else some (.u<|.d<|.bool false,p.2)) ⟨0⟩ QE):=by rw[TZ,zo]
theorem Y3:Wo (xU ma ρ) QE=Wo (mB ma ρ) (Co (λp=>some (.u<|.d<|.bool (!p.1),p.2)) ⟨0⟩ QE):=by rw[TY,zo]
theorem Xt:Wo (ub ma ρ) QT=Wo (ma ρ) (Co (λp=>(p.1.get p.2).bind λu=>u.oH.bind λb=>some (b,p.2)) ⟨0⟩ QT):=by rw[RP,zo]
theorem Xs:Wo (l6 ρ) QT=QT (true,ρ):=by rw[RO,zX]
theorem Xr:Wo (gP i me ρ) QE=Wo (ρ[i]?).join (Co (λw=>w.lo.bind λ_=>(me ρ).bind λp=>(p.1.get p.2).bind λu=>u.da.bind λx=>(p.2[i]?).join.bind λw=>w.lo.bind λxs=>if xs.length < sizeLine then some (.u<|.d .none,p.2.set i<|some<|.l<|xs++[x])else none) ⟨0⟩ QE):=by rw[RN,zo]
theorem Z2:Wo (n6 i me mi ρ) QS=Wo (ρ[i]?).join (Co (λ_=>(me ρ).bind λp=>(mi p.2).bind λq=>(p.1.get q.2).bind λu=>(q.1.get q.2).bind λw=>u.da.bind λx=>w.num.bind λk=>(q.2[i]?).join.bind λz=>z.lo.bind λxs=>(dD xs.length k).bind λj=>some<|.nx<|q.2.set i<|some<|.l<|xs.set j x) ⟨0⟩ QS):=by rw[Xl,zo]
noncomputable def xH(w:U)(y x:D):Qb U:=match w with
 | .t kvs=>(cJ y).bind λk=>if kvs.length < sizeLine then some (.t<|cf kvs k x)else none
 | .k kvs=>(jt y).bind λk=>if kvs.length < sizeLine then some (.k<|cf kvs k x)else none
 | _=>none
theorem TF:jw i my mv ρ=(ρ[i]?).join.bind λ_=>(mv ρ).bind λp=>(my p.2).bind λq=>(p.1.get q.2).bind λx=>(q.1.get q.2).bind λy=>x.da.bind λx=>y.da.bind λy=>(q.2[i]?).join.bind λw=>(xH w y x).bind λz=>some (.nx<|q.2.set i<|some z):=by
 unfold jw;refine bind_fn λ_=>bind_fn λp=>bind_fn λq=>bind_fn λx=>bind_fn λy=>?_;cases x with
 | l=>rfl
 | t=>rfl
 | k=>rfl
 | o=>rfl
 | d x=>
  cases y with
  | l=>rfl
  | t=>rfl
  | k=>rfl
  | o=>rfl
  | d y=>
   show _=((q.2[i]?).join.bind _);cases q.2[i]? with
   | none=>rfl
   | some o=>
    cases o with
    | none=>rfl
    | some w=>
     cases w with
     | l=>rfl
     | d=>rfl
     | o=>rfl
     | t kvs=>
      show(cJ y).bind _=((cJ y).bind _).bind _;cases cJ y with
      | none=>rfl
      | some k=>
       show(if _ then _ else _)=(if _ then _ else _:Qb U).bind _;split<;>rfl
     | k kvs=>
      show(jt y).bind _=((jt y).bind _).bind _;cases jt y with
      | none=>rfl
      | some k=>
       show(if _ then _ else _)=(if _ then _ else _:Qb U).bind _;split<;>rfl
theorem Y2:Wo (jw i my mv ρ) QS=Wo (ρ[i]?).join (Co (λ_=>(mv ρ).bind λp=>(my p.2).bind λq=>(p.1.get q.2).bind λx=>(q.1.get q.2).bind λy=>x.da.bind λx=>y.da.bind λy=>(q.2[i]?).join.bind λw=>(xH w y x).bind λz=>some<|.nx<|q.2.set i<|some z) ⟨0⟩ QS):=by rw[TF,zo]
theorem Y1:Wo (iI md my ρ) QE=Wo (md ρ) (Co (λp=>(my p.2).bind λq=>(p.1.get q.2).bind λu=>(q.1.get q.2).bind λy=>(gO u y).bind λo=>o.bind λd=>some (.u<|.d d,q.2)) ⟨0⟩ QE):=by rw[TX,zo]
theorem Xq{neg:Bool}:Wo (nO neg my md ρ) QE=Wo (my ρ) (Co (λq=>(md q.2).bind λp=>(p.1.get p.2).bind λu=>(q.1.get p.2).bind λy=>(gO u y).bind λo=>some (.u<|.d<|.bool (if neg=true then !o.isSome else o.isSome),p.2)) ⟨0⟩ QE):=by rw[RM,zo]
theorem Z1:Wo (mP ρ) QE=QE (.u<|.t [],ρ):=by rw[Xk,zX]
theorem Z0:Wo (Dp ρ) QE=QE (.u<|.k [],ρ):=by show Wo (some _) QE=_; rw[zX]
theorem Tz:Wo (fu me ρ) QE=Wo (me ρ) (Co (λp=>(p.1.get p.2).bind λu=>u.fz.bind λx=>some (.u<|.d x,AX x p)) ⟨0⟩ QE):=by rw[O8,zo]
theorem Tx{g:U->Qb (Qa D)}:Wo (eK g me ρ) QI=Wo (me ρ) (Co (λp=>(p.1.get p.2).bind λu=>(g u).bind λds=>some (ds,p.2)) ⟨0⟩ QI):=by rw[PQ,zo]
theorem Tw{n:Int}(h:-4611686018427387904<=n)(h2:n < 4611686018427387904):xh [.d<|.int n]=some (f7 0 n.toNat):=by rw[RL,if_pos ⟨by omega,by omega⟩]
theorem Y0:Wo (mD mA ρ) QI=Wo (mA ρ) (Co (λp=>(bC p.2 p.1).bind λus=>(xh us).bind λds=>some (ds,p.2)) ⟨0⟩ QI):=by rw[TV,zo]
noncomputable def BA:Qa U->Qb (Qa D)
 | [.d<|.int i,.d<|.int j]=>if -(2^62)<=i/\i < 2^62/\-(2^62)<=j/\j < 2^62 then some (f7 i (j - i).toNat)else none
 | _=>none
theorem Tv{a:Int}(h:-4611686018427387904<=a)(h2:a < 4611686018427387904)(h3:-4611686018427387904<=b)(h4:b < 4611686018427387904):BA [.d<|.int a,.d<|.int b]=some (f7 a (b - a).toNat):=by
 show(if _ then _ else _)=_;rw[if_pos ⟨by omega,by omega,by omega,by omega⟩]
theorem TC:xS mA ρ=(mA ρ).bind λp=>(bC p.2 p.1).bind λus=>(BA us).bind λds=>some (ds,p.2):=bind_fn λp=>bind_fn λus=>by
 match us with
 | []=>rfl
 | [.d<|.int i,.d<|.int j]=>
  show(if _ then _ else _)=(if _ then _ else _:Qb (Qa D)).bind _;split<;>rfl
 | [.d x]=>cases x<;>rfl
 | [.l _]=>rfl
 | [.t _]=>rfl
 | [.k _]=>rfl
 | [.o _ _]=>rfl
 | [.d x,.d y]=>cases x<;>(try rfl)<;>(cases y<;>(try rfl)<;>(show(if _ then _ else _)=(if _ then _ else _:Qb (Qa D)).bind _; split<;>rfl))
 | [.d x,.l y]=>cases x<;>rfl
 | [.d x,.t y]=>cases x<;>rfl
 | [.d x,.k y]=>cases x<;>rfl
 | [.d x,.o _ _]=>cases x<;>rfl
 | [.l _,_]=>rfl
 | [.t _,_]=>rfl
 | [.k _,_]=>rfl
 | [.o _ _,_]=>rfl
 | a::b::c::us=>
  cases a with
  | d x=>cases x<;>(try rfl)<;>(cases b with
   | d y=>cases y<;>rfl
   | l=>rfl
   | t=>rfl
   | o=>rfl
   | k=>rfl)
  | l=>rfl
  | t=>rfl
  | k=>rfl
  | o=>rfl
theorem YZ:Wo (xS mA ρ) QI=Wo (mA ρ) (Co (λp=>(bC p.2 p.1).bind λus=>(BA us).bind λds=>some (ds,p.2)) ⟨0⟩ QI):=by rw[TC,zo]
noncomputable def CF:Qa U->Qb (Qa D)
 | [.d<|.tuple ds]=>some<|qE 0 ds
 | _=>none
theorem YY{ds:Qa D}:CF [.d<|.tuple ds]=some (qE 0 ds):=rfl
theorem TB:xR mA ρ=(mA ρ).bind λp=>(bC p.2 p.1).bind λus=>(CF us).bind λds=>some (ds,p.2):=bind_fn λp=>bind_fn λus=>by
 match us with
 | []=>rfl
 | [.d x]=>cases x<;>rfl
 | [.l _]=>rfl
 | [.t _]=>rfl
 | [.k _]=>rfl
 | [.o _ _]=>rfl
 | .d x::b::us=>cases x<;>rfl
 | .l x::b::us=>rfl
 | .t x::b::us=>rfl
 | .k x::b::us=>rfl
 | .o x y::b::us=>rfl
theorem YX:Wo (xR mA ρ) QI=Wo (mA ρ) (Co (λp=>(bC p.2 p.1).bind λus=>(CF us).bind λds=>some (ds,p.2)) ⟨0⟩ QI):=by rw[TB,zo]
theorem Xp:Wo (eO mI mg m1 ρ) QS=Wo (mI ρ) (Co (λp=>eQ mg m1 p.1 p.2) ⟨0⟩ QS):=by rw[RK,zo]
theorem Ww:Wo (kG mI nt js mg mt me ρ) QE=Wo (mI ρ) (Co (λp=>(ij nt mg mt me p.1 (gL nt js p.2) []).bind λq=>some (.u<|.l q.1,back js (q.2.drop nt) p.2)) ⟨0⟩ QE):=by rw[PN,zo]
theorem Tu{f:U->Qb Int->Qb Int->Qb U}{ml mh:MO}:Wo (kF f me ml mh ρ) QE=Wo (me ρ) (Co (λp=>(ml p.2).bind λl=>(mh l.2).bind λh=>(p.1.get h.2).bind λx=>(f x l.1 h.1).bind λu=>some (.u u,h.2)) ⟨0⟩ QE):=by rw[PM,zo]
theorem zix:Wo (ko ρ) QO=QO (none,ρ):=by rw[YA,zX]
theorem YW:Wo (jU me ρ) QO=Wo (me ρ) (Co (λp=>(p.1.get p.2).bind λu=>u.num.bind λi=>some (some i,p.2)) ⟨0⟩ QO):=by rw[TU,zo]
theorem Wu:Wo (xC i j mA ρ) QS=Wo (mA ρ) (Co (λp=>(bC p.2 p.1).bind λus=>(B2 us).bind λz=>some<|.nx<|(p.2.set i<|some<|.d z.1).set j<|some<|.d z.2) ⟨0⟩ QS):=by rw[RJ,zo]
theorem Wt:Wo (k7 me mg ρ) QS=Wo (me ρ) (Co (λp=>(p.1.get p.2).bind λu=>u.da.bind λd=>(mg d p.2).bind λaf=>some<|.nx af) ⟨0⟩ QS):=by rw[RH,zo]
theorem zkA:Wo (zA i x ρ) QG=QG (ρ.set i<|some<|.d x):=by rw[Xg,zX]
theorem YV{gs:Qa D->En->Qb En}{ds:Qa D}:Wo (gk n gs (.tuple ds) ρ) QG=Wo (if ds.length=n then gs ds ρ else none) QG:=by rw[TR]
theorem zkB{g:MG}{gs:Qa D->En->Qb En}{ds:Qa D}:Wo (zW g gs (x::ds) ρ) QG=Wo (g x ρ) (Co (λaj=>gs ds aj) ⟨0⟩ QG):=by rw[Xf,zo]
theorem YU:Wo (g9 [] ρ) QG=QG ρ:=by rw[TQ,zX]
theorem Ts{ty:U->Bool}{f:U->U->Qb U}:Wo (AU ty f mo ma ρ) QE=Wo (mo ρ) (Co (λp=>(p.1.get p.2).bind λx0=>if ty x0=true then(ma p.2).bind λq=>(p.1.get q.2).bind λx=>(q.1.get q.2).bind λy=>(f x y).bind λu=>some (.u u,q.2)else none) ⟨0⟩ QE):=by
 show Wo (Option.bind _ _) QE=_;rw[zo]
theorem Tr{z:Str}:vK (.d<|.str z)=true:=rfl
theorem Ws{f f':U->U->Qb U}:uP f f' ma mb mc ρ=(ma ρ).bind λp=>(mb p.2).bind λq=>(p.1.get q.2).bind λx=>(q.1.get q.2).bind λy=>(f x y).bind λr=>r.rG.bind λb=>if b=true then(mc q.2).bind λs=>(q.1.get s.2).bind λy'=>(s.1.get s.2).bind λz=>(f' y' z).bind λu=>some (.u u,s.2)else some (.u<|.d<|.bool false,q.2):=by
 refine bind_fn λp=>bind_fn λq=>bind_fn λx=>bind_fn λy=>bind_fn λr=>?_;cases r with
 | d x=>cases x with
  | bool b=>cases b<;>rfl
  | _=>rfl
 | l=>rfl
 | t=>rfl
 | k=>rfl
 | o=>rfl
theorem zkC{f f':U->U->Qb U}:Wo (uP f f' ma mb mc ρ) QE=Wo (ma ρ) (Co (λp=>(mb p.2).bind λq=>(p.1.get q.2).bind λx=>(q.1.get q.2).bind λy=>(f x y).bind λr=>r.rG.bind λb=>if b=true then(mc q.2).bind λs=>(q.1.get s.2).bind λy'=>(s.1.get s.2).bind λz=>(f' y' z).bind λu=>some (.u u,s.2)else some (.u<|.d<|.bool false,q.2)) ⟨0⟩ QE):=by rw[Ws,zo]
noncomputable def x1:Qa D->Qb D
 | [x]=>some x
 | _=>none
theorem Wq{us:Qa U}:Wo (cj n pn m1 us) QF=Wo (m1<|sm us++List.replicate (n - us.length) none) (Co (rP pn us) ⟨0⟩ QF):=by rw[Qn,zo]
noncomputable def nV(Q:Fl->Prop)(P:En->Prop):Fl->Prop
 | .nx ρ=>P ρ
 | .ct ρ=>P ρ
 | .bk ρ=>Q<|.nx ρ
 | .rt u ρ=>Q<|.rt u ρ
 | .ex x ρ=>Q<|.ex x ρ
theorem zkD{Q:Fl->Prop}{P:En->Prop}:nV Q P (.nx ρ)=P ρ:=rfl
theorem s9{Q:Fl->Prop}(P:Nat->En->Prop){ds:Qa D}(h0:P 0 ρ)(st:∀ i d ρ,ds[i]?=some d->P i ρ->Wo (mg d ρ) (Co m1 ⟨0⟩<|nV Q<|P<|i+1))(hQ:∀ ρ,P ds.length ρ->Q (.nx ρ)):Wo (eQ mg m1 ds ρ) Q:=by
 have main:∀ (es:Qa D) (n:Nat) (ρ:En),n+es.length=ds.length->(∀ i,es[i]?=ds[n+i]?)->P n ρ->Wo (eQ mg m1 es ρ) Q:=by
  intro es
  induction es with
  | nil=>
   intro n ρ hn _ hp;show Wo (some _) Q;rw[zX];rw[List.length_nil,Nat.add_zero]at hn;exact hQ ρ<|hn▸hp
  | cons d es ih=>
   intro n ρ hn he hp;have e0:=he 0;rw[List.getElem?_cons_zero,Nat.add_zero]at e0;have(aj,e1,f,e2,k):=st n d ρ e0.symm hp;have kE:∀ au,P (n+1) au->Wo (eQ mg m1 es au) Q:=λau z=>ih (n+1) au (by rw[qu]at hn; omega) (λi=>by
    have:=he (i+1);rw[List.getElem?_cons_succ]at this;rw[this,show n+(i+1)=n+1+i by omega]) z
   unfold eQ;rw[zo];refine⟨aj,e1,?_⟩;rw[hJ,zo];refine⟨f,e2,?_⟩;rw[hJ];cases f with
   | nx au=>exact kE au k
   | ct au=>exact kE au k
   | bk au=>exact⟨_,rfl,k⟩
   | rt u au=>exact⟨_,rfl,k⟩
   | ex x au=>exact⟨_,rfl,k⟩
 exact main ds 0 ρ (by omega) (λi=>by rw[Nat.zero_add]) h0
theorem mV{g:α->D}{Q:Fl->Prop}(P:Qa α->Qa α->En->Prop)(h0:P [] as ρ)(st:∀ bs a cs ρ,as=bs++a::cs->P bs (a::cs) ρ->Wo (mg (g a) ρ) (Co m1 ⟨0⟩<|nV Q<|P (bs++[a]) cs))(hQ:∀ ρ,P as [] ρ->Q (.nx ρ)):Wo (eQ mg m1 (as.map g) ρ) Q:=by
 have main:∀ (cs bs:Qa α) (ρ:En),as=bs++cs->P bs cs ρ->Wo (eQ mg m1 (cs.map g) ρ) Q:=by
  intro cs
  induction cs with
  | nil=>
   intro bs ρ e hp;rw[List.append_nil]at e;subst e;exact⟨_,rfl,hQ ρ hp⟩
  | cons a cs ih=>
   intro bs ρ e hp;have(aj,e1,f,e2,k):=st bs a cs ρ e hp;have kE:∀ au,P (bs++[a]) cs au->Wo (eQ mg m1 (cs.map g) au) Q:=λau z=>ih (bs++[a]) au (by rw[e,List.append_assoc]; rfl) z;rw[List.map_cons];unfold eQ;rw[zo];refine⟨aj,e1,?_⟩;rw[hJ,zo];refine⟨f,e2,?_⟩;rw[hJ];cases f with
   | nx au=>exact kE au k
   | ct au=>exact kE au k
   | bk au=>exact⟨_,rfl,k⟩
   | rt u au=>exact⟨_,rfl,k⟩
   | ex x au=>exact⟨_,rfl,k⟩
 exact main as [] ρ rfl h0
def tM(nt:Nat)(me:ME)(ys:Qa D)(P:En->Qa D->Prop)(p:Bool×En):Prop:=if p.1=true then Wo (me p.2) (Co (λq=>(q.1.get q.2).bind λu=>u.da.bind λy=>some (reset nt q.2,ys++[y])) ⟨0⟩ λz=>P z.1 z.2)else P (reset nt p.2) ys
theorem HH{ys:Qa D}{P:En->Qa D->Prop}:tM nt me ys P (true,ρ)=Wo (me ρ) (Co (λq=>(q.1.get q.2).bind λu=>u.da.bind λy=>some (reset nt q.2,ys++[y])) ⟨0⟩ λz=>P z.1 z.2):=rfl
theorem Tq{ys:Qa D}{P:En->Qa D->Prop}:tM nt me ys P (false,ρ)=P (reset nt ρ) ys:=rfl
theorem Ct{Q:Qa D×En->Prop}(P:Nat->En->Qa D->Prop){ds:Qa D}(hz:ds.length<=sizeLine)(hP:∀ i ρ ys,P i ρ ys->ys.length<=i)(h0:P 0 ρ [])(st:∀ i d ρ ys,ds[i]?=some d->P i ρ ys->Wo (mg d ρ) (Co mt ⟨0⟩<|tM nt me ys<|P<|i+1))(hQ:∀ ρ ys,P ds.length ρ ys->Q (ys,ρ)):Wo (ij nt mg mt me ds ρ []) Q:=by
 have main:∀ (es:Qa D) (n:Nat) (ρ:En) (ys:Qa D),n+es.length=ds.length->(∀ i,es[i]?=ds[n+i]?)->P n ρ ys->Wo (ij nt mg mt me es ρ ys) Q:=by
  intro es
  induction es with
  | nil=>
   intro n ρ ys hn _ hp;rw[List.length_nil,Nat.add_zero]at hn;exact⟨_,rfl,hQ ρ ys<|hn▸hp⟩
  | cons d es ih=>
   intro n ρ ys hn he hp;have e0:=he 0;rw[List.getElem?_cons_zero,Nat.add_zero]at e0;obtain⟨aj,e1,⟨b,au⟩,e2,k⟩:=st n d ρ ys e0.symm hp;have hl:=hP _ _ _ hp;rw[qu]at hn;have kE:∀ au AD,P (n+1) au AD->Wo (ij nt mg mt me es au AD) Q:=λau AD z=>ih (n+1) au AD (by omega) (λi=>by
    have:=he (i+1);rw[List.getElem?_cons_succ]at this;rw[this,show n+(i+1)=n+1+i by omega]) z
   unfold ij;rw[if_pos (by omega),zo];refine⟨aj,e1,?_⟩;rw[hJ,zo];refine⟨_,e2,?_⟩;rw[hJ];cases b with
   | false=>rw[if_neg qf]; exact kE _ _ k
   | true=>
    rw[if_pos rfl,zo];have(q,e3,k):=k;refine⟨q,e3,?_⟩;rw[hJ,zo]at k ⊢;have(u,e4,k):=k;refine⟨u,e4,?_⟩;rw[hJ,zo]at k;have(y,e5,z,e6,k):=k;cases u with
    | d y'=>cases e5; cases e6; exact kE _ _ k
    | l=>cases e5
    | t=>cases e5
    | k=>cases e5
    | o=>cases e5
 exact main ds 0 ρ [] (by omega) (λi=>by rw[Nat.zero_add]) h0
theorem Wp{Q:Fl->Prop}(P:Nat->En->Prop)(k:Nat)(h0:P k ρ)(st:∀ k ρ,P k ρ->Wo (mt ρ) λp=>if p.1=true then Wo (m1 p.2) (nV Q λaf=>∃ k',k' < k/\P k' af)else Q (.nx p.2)):Wo (sR mt m1 ρ) Q:=by
 have main:∀ (k:Nat) (ρ:En),P k ρ->∃ n f,gC mt m1 n ρ=some f/\Q f:=by
  intro k
  induction k using Nat.strongRecOn with
  | ind k ih=>
   intro ρ hp;obtain⟨⟨b,aj⟩,e1,z⟩:=st k ρ hp;cases b with
   | false=>
    rw[if_neg qf]at z;exact⟨1,_,by unfold gC; rw[e1]; rfl,z⟩
   | true=>
    rw[if_pos rfl]at z;have(f,e2,z):=z;have kE:∀ au,(∃ k',k' < k/\P k' au)->f=.nx au\/f=.ct au->∃ n f,gC mt m1 n ρ=some f/\Q f:=by
     rintro au ⟨k',hk,FT⟩ hf;have(n,f',e3,q):=ih k' hk au FT;refine⟨n+1,f',?_,q⟩;unfold gC;rw[e1,bd,if_pos rfl,e2,bd];rcases hf with rfl|rfl<;>exact e3
    cases f with
    | nx au=>exact kE au z<|.inl rfl
    | ct au=>exact kE au z<|.inr rfl
    | bk au=>exact⟨1,_,by unfold gC; rw[e1,bd,if_pos rfl,e2]; rfl,z⟩
    | rt u au=>exact⟨1,_,by unfold gC; rw[e1,bd,if_pos rfl,e2]; rfl,z⟩
    | ex u au=>exact⟨1,_,by unfold gC; rw[e1,bd,if_pos rfl,e2]; rfl,z⟩
 have(n,f,e,q):=main k ρ h0;exact⟨f,W0 e,q⟩
end
theorem i8{o:Qb α}{b:α}(h:Wo o (λa=>a=b)):o=some b:=by
 have(a,e,rfl):=h;exact e
theorem ur:sizeLine=16777216:=Eq.trans zl (Eq.symm<|Eq.symm<|Nat.add_zero _)
theorem Wn{dc:Decidable (n < 16777216)}{a b:Qb α}(h:n < 16777216):(if n < 16777216 then a else b)=a:=if_pos h
theorem DO{xs:Qa α}{r:Int}(h0:0<=r)(h1:r < (xs.length:Int)):∃ a,bp xs r=some a/\a∈xs/\xs[r.toNat]?=some a:=by
 have hk:r.toNat < xs.length:=by omega
 have ek:r=((r.toNat:Nat):Int):=by omega
 have q:bp xs ((r.toNat:Nat):Int)=some xs[r.toNat]:=Vf (qm hk);rw[<-ek]at q;exact⟨_,q,List.getElem_mem hk,qm hk⟩
theorem Dk{xs:Qa D}{r:Int}{Q:U->Prop}(h0:0<=r)(h1:r < (xs.length:Int))(k:∀ a∈xs,Q<|.d a):Wo ((bp xs r).map U.d) Q:=by
 have(a,e,m,_):=DO h0 h1;rw[e];exact⟨_,rfl,k a m⟩
theorem Qi{f:α->D}{xs:Qa α}{r:Int}{Q:U->Prop}(h0:0<=r)(h1:r < (xs.length:Int))(k:∀ a∈xs,xs[r.toNat]?=some a->Q (.d<|f a)):Wo ((bp (xs.map f) r).map U.d) Q:=by
 have(a,e,m,z):=DO (xs:=xs.map f) h0 (by rw[List.length_map]; exact h1);rw[List.getElem?_map]at z;have(b,hb,rfl):=qr.mp z;rw[e];exact⟨_,rfl,k b (Ç hb) hb⟩
theorem Cs{lo:Int}{d:D}(h:(f7 lo n)[i]?=some d):i < n/\d=.int (lo+(i:Nat)):=Ei h
theorem yj{lo:Int}:(f7 lo n).length=n:=by
 unfold f7;rw[List.length_map,List.length_range]
theorem Ho{ρ:En}{mg:MG}{m1:MS}{Q:Fl->Prop}(P:Nat->En->Prop)(h0:P 0 ρ)(st:∀ i ρ,i < n->P i ρ->Wo (mg (.int<|0+(i:Nat)) ρ) (Co m1 ⟨0⟩<|nV Q<|P<|i+1))(hQ:∀ ρ,P n ρ->Q (.nx ρ)):Wo (eQ mg m1 (f7 0 n) ρ) Q :=
 s9 P h0 (λi d ρ hd hp=>by
  have(hi,rfl):=Cs hd;exact st i ρ hi hp) λρ hp=>hQ ρ (by rw[yj]at hp; exact hp)
theorem Ut{ρ:En}{mg:MG}{mt:MT}{me:ME}{Q:Qa D×En->Prop}(P:Nat->En->Qa D->Prop)(hz:n<=sizeLine)(h0:P 0 ρ [])(hP:∀ i ρ ys,P i ρ ys->ys.length<=i)(st:∀ i ρ ys,i < n->P i ρ ys->Wo (mg (.int<|0+(i:Nat)) ρ) (Co mt ⟨0⟩<|tM nt me ys<|P<|i+1))(hQ:∀ ρ ys,P n ρ ys->Q (ys,ρ)):Wo (ij nt mg mt me (f7 0 n) ρ []) Q :=
 Ct P (by rw[yj]; exact hz) hP h0 (λi d ρ ys hd hp=>by
  have(hi,rfl):=Cs hd;exact st i ρ ys hi hp) λρ ys hp=>hQ ρ ys (by rw[yj]at hp; exact hp)
def aY(n:Nat)(z:Str):Prop:=z.length<=n/\∀ c∈z.cps.toList,c < 128
theorem aY.mono{z:Str}(h:aY n z)(hm:n<=m):aY m z:=⟨qy h.1 hm,h.2⟩
theorem aY.app{y:Str}(hx:aY n x)(hy:aY m y):aY (n+m) (x++y):=⟨by rw[PySem.Str.length_append]; have:=hx.1; have:=hy.1; omega,λc hc=>by
 rw[PySem.Str.cps_append,Array.toList_append,List.mem_append]at hc;exact hc.elim (hx.2 c)<|hy.2 c⟩
theorem aY.one{c:Nat}(h:c < 128):aY 1 ⟨#[c]⟩:=⟨qe _,λd hd=>by
 cases qq.mp hd;exact h⟩
theorem aY.join:∀ {ys:Qa Str},(∀ z∈ys,aY n z)->aY (ys.length * n) (PySem.Str.join "" ys)
 | [],_=>⟨Ì _,λc hc=>by cases hc⟩
 | [x],h=>(h x qp).mono (by simp)
 | x::y::r,h=>by
  have:=((h x qp).app (show aY 0 "" from⟨qe _,λc hc=>by cases hc⟩)).app (aY.join λz hz=>h z<|qo _ hz);exact this.mono (by simp only[qu,Nat.add_mul]; omega)
theorem Yz{ys:Qa Str}(h:∀ z∈ys,aY n z):aY (ys.length * n) (Txt.join "" ys):=by
 show aY _ (PySem.Builtin.Str.glued "" ys);rw[PySem.StrLaws.glued_eq_join];exact aY.join h
theorem P9{y:Str}(h:x.length+y.length<=16777216):mq (.d<|.str x) (.d<|.str y)=some (.d<|.str<|x++y):=by
 unfold mq;dsimp only;rw[if_pos (by rw[zl]; exact h)]
theorem uO{y:Str}{Q:U->Prop}(hx:aY n x)(hy:aY m y)(hn:n+m<=1000)(k:aY (n+m) (x++y)->Q (.d<|.str<|x++y)):Wo (mq (.d<|.str x)<|.d<|.str y) Q:=by
 rw[P9 (by have:=hx.1; have:=hy.1; omega)];exact⟨_,rfl,k<|hx.app hy⟩
theorem yJ{z:Str}{r:Int}{Q:U->Prop}(h0:0<=r)(h1:r < (z.length:Int))(hz:z.length<=1000)(k:∀ c∈z.cps.toList,Q<|.d<|.str ⟨#[c]⟩):Wo (pC (.d<|.str z)<|.d<|.int r) Q:=by
 have hl:z.length=z.cps.toList.length:=by rw[Array.length_toList]; rfl
 have(c,e,m,_):=DO (xs:=z.cps.toList) h0 (by rw[<-hl]; exact h1);unfold pC;dsimp only;rw[if_pos (by rw[zl]; omega),e];exact⟨_,rfl,k c m⟩
theorem Ky:∀ (zs:Qa Str),(zs.map PyData.str).mapM xg=some zs
 | []=>rfl
 | z::zs=>by
  rw[List.map_cons,List.mapM_cons,Ky zs];rfl
theorem Kc:∀ {ys:Qa Str},(∀ z∈ys,z.length<=n)->(ys.map (·.length)).sum<=ys.length * n
 | [],_=>by simp
 | y::ys,h=>by
  have:=Kc (ys:=ys) λz hz=>h z<|qo _ hz;have:=h y qp;simp only[List.map_cons,List.sum_cons,qu,Nat.add_mul];omega
theorem II{zs:Qa Str}{Q:U->Prop}(h:∀ z∈zs,aY n z)(hl:zs.length<=m)(hm:m * n<=1000)(k:aY (m * n) (Txt.join "" zs)->Q (.d<|.str<|Txt.join "" zs)):Wo (rZ (.d<|.str "")<|.l<|zs.map PyData.str) Q:=by
 have h1:=Kc (n:=n) λz hz=>(h z hz).1;have h2:zs.length * n<=m * n:=Ê _ hl;unfold rZ;dsimp only;rw[Ky,bd,if_pos (by rw[show(("":Str)).length=0 by decide,Nat.mul_zero]; omega)];exact⟨_,rfl,k<|(Yz h).mono h2⟩
theorem D9:∀ (zs:Qa Str),(zs.map PyData.str).mapM wJ=some (zs.map V.str)
 | []=>rfl
 | z::zs=>by
  rw[List.map_cons,List.mapM_cons,D9 zs];rfl
theorem Wm{xs:Qa D}{lo hi:Qb Int}:rQ (.d<|.tuple xs) lo hi=some (.d<|.tuple<|fF xs lo hi):=rfl
theorem Kj{xs ys:Qa D}(h:xs.length+ys.length<=16777216):sP (.d<|.tuple xs) (.d<|.tuple ys)=some (.d<|.tuple<|xs++ys):=by
 cases xs with
 | nil=>rfl
 | cons x xs=>
  show uz (.d<|.tuple<|x::xs) (.d<|.tuple ys)=_;unfold uz;dsimp only;rw[if_pos ⟨by simp,by rw[zl]; exact h⟩]
theorem Tp{i:Int}:gZ "int" (.d<|.int i)=some (.d<|.bool true):=rfl
theorem R9{i:Int}:gZ "bool" (.d<|.int i)=some (.d<|.bool false):=rfl
theorem R8{z:Str}:gZ "str" (.d<|.str z)=some (.d<|.bool true):=rfl
theorem R7{xs:Qa D}:gZ "tuple" (.d<|.tuple xs)=some (.d<|.bool true):=rfl
theorem Wl{a b:String}:(PySem.Str.ofString a=PySem.Str.ofString b)=(a=b):=propext ⟨λh=>by
 rw[PySem.Str.ofString_eq_toList,PySem.Str.ofString_eq_toList]at h;have h1:=congrArg (λz:Str=>z.cps.toList) h;dsimp only at h1;exact String.toList_inj.mp<|List.map_inj_right (λx y e=>Char.ext<|UInt32.toNat_inj.mp e) |>.mp h1,λh=>by rw[h]⟩
theorem Us{xs:Qa D}{lo hi:Qb Int}{x:D}(h:x∈fF xs lo hi):x∈xs:=by
 unfold fF at h;exact List.mem_of_mem_drop<|List.mem_of_mem_take h
theorem Ur(xs:Qa D)(lo hi:Qb Int):(fF xs lo hi).length<=xs.length:=by
 unfold fF;rw[List.length_take,List.length_drop];omega
structure fD (k M:Nat) (d:D):Prop where
 lay:d.canLay0=true
 gK:d.depth<=k
 shw:d.showable=true
 len:d.shown.length<=M
theorem fD.mono{k M k' M':Nat}{d:D}(h:fD k M d)(h1:k<=k')(h2:M<=M'):fD k' M' d:=⟨h.lay,qy h.gK h1,h.shw,qy h.len h2⟩
theorem vd{i:Int}(h:i.natAbs < 10^n)(h0:0 < n:=by decide)(h1:n<=470:=by decide):fD 0 (n+1) (.int i):=by
 refine⟨rfl,by simp[PyData.depth],?_,?_⟩
 .show decide (i.natAbs.log2 < 1920)=true
  refine decide_eq_true ?_
  by_cases z:i.natAbs=0
  .rw[z]; decide
  .have e1:10^n<=16^n:=Nat.pow_le_pow_left (by decide) n
   have e2:16^n=2^(4 * n):=by rw[Nat.pow_mul]
   have e3:i.natAbs < 2^(4 * n):=by rw[<-e2]; exact qi h e1
   exact qi ((Nat.log2_lt z).mpr e3) (by omega)
 .show(PySem.Str.ofString<|toString i).length<=n+1
  rw[PySem.ofString_length];exact PySem.int_text_length_le10 h0 h
theorem yI{z:Str}(h:aY n z):fD 0 (10 * n+2) (.str z):=by
 refine⟨?_,by simp[PyData.depth],rfl,?_⟩
 .show z.cps.all (· < 0x110000)=true
  rw[Array.all_eq_true'];intro c hc;have:=h.2 c (Array.mem_toList_iff.mpr hc);exact decide_eq_true (by omega)
 .have:=PySem.StrLaws.reprText_len z λc hc=>ø (h.2 c hc) (by decide)
  have:=h.1;show(reprText z).length<=_;omega
theorem IH{k M:Nat}:∀ {ds:Qa D},(∀ d∈ds,fD k M d)->PyData.canLayAll0 ds=true/\PyData.depthAll ds<=k/\PyData.showableAll ds=true/\((PyData.shownAll ds).map (·.length)).sum+2 * ds.length<=ds.length * (M+2)
 | [],_=>⟨rfl,by simp[PyData.depthAll],rfl,by simp[PyData.shownAll]⟩
 | d::ds,h=>by
  have(a0,a1,a2,a3):=IH (ds:=ds) λx hx=>h x<|qo _ hx;have(b0,b1,b2,b3):=h d qp;refine⟨?_,?_,?_,?_⟩
  .show(d.canLay0 && PyData.canLayAll0 ds)=true
   rw[a0,b0];rfl
  .simp only[PyData.depthAll]
   omega
  .show(d.showable && PyData.showableAll ds)=true
   rw[a2,b2];rfl
  .show((d.shown::PyData.shownAll ds).map (·.length)).sum+_<=_
   rw[List.map_cons,List.sum_cons,qu,Nat.add_mul,Nat.one_mul];omega
theorem p6{k M:Nat}{ds:Qa D}(h:∀ d∈ds,fD k M d)(hn:ds.length<=n):fD (k+1) (n * (M+2)+3) (.tuple ds):=by
 have(a0,a1,a2,a3):=IH h;refine⟨a0,?_,a2,?_⟩
 .simp only[PyData.depth]
  omega
 .have:=tupleText_len_le (PyData.shownAll ds)
  have e:=PyData.shownAll_length ds;have m:ds.length * (M+2)<=n * (M+2):=Ê _ hn;show(tupleText<|PyData.shownAll ds).length<=_;omega
theorem fD.shaped{k M:Nat}{d:D}(h:fD k M d)(hk:k<=64):SeqAt.shaped d=true:=by
 unfold SeqAt.shaped;rw[h.lay,Bool.true_and];exact decide_eq_true<|qy h.gK hk
theorem fD.eqD{k M k' M':Nat}{a b:D}{neg:Bool}(ha:fD k M a)(hb:fD k' M' b)(hk:k<=64)(fB:k'<=64):l8 neg (.d a) (.d b)=some (.d<|.bool (if neg=true then !PyData.eqv a b else PyData.eqv a b)):=by
 have ea:U.py (.d a)=some a:=rfl;have eb:U.py (.d b)=some b:=rfl;unfold l8;rw[ea,bd,eb,bd,if_pos ⟨ha.shaped hk,hb.shaped fB⟩]
section
variable{X:Cx}
end
section
variable{X:Cx}
end
section
noncomputable def zBs:U->Qb U
 | .d (.int i)=>if i.natAbs.log2 < 1920 then some (.d<|.str<|toString i)else none
 | .d (.str z)=>if z.length<=sizeLine then some (.d<|.str z)else none
 | _=>none
abbrev MJ:=En->Str->Qb (Str×En)
noncomputable def U.sr:U->Qb Str
 | .d (.str z)=>some z
 | _=>none
end
section
variable{ρ:En}{me:ME}{mj:MJ}{QE:Ar×En->Prop}{QJ:Str×En->Prop}{acc z y:Str}{i:Int}
end
end L2
namespace L2
open PySem PySem.Spec PyProof.Rows PySem.NumText
abbrev ts(n:Int):Str:=PySem.Str.ofString (toString n)
end L2
namespace L2
open PySem PySem.Spec PyProof.Rows
section
variable{X:Cx}{f:Expr}{tx:TE}{k:Nat}
theorem IG(hr:aD k X.A)(ho:Wr (PE X o td))(he:Wr (PE X e ty))(hf:Wr (PE X f tx))(m:M2 X o "get" apos e f aM):Wr (PE X (.Call (.Attribute o "get" apos) [e,f] [] aM)<|Dv X.K td ty tx):=⟨XQ (sv hr) ho.run he.run hf.run m⟩
end
section
noncomputable def l9:U->Bool
 | .t _=>true
 | .k _=>true
 | .d (.dict kvs)=>jF kvs
 | _=>false
theorem Kb{x:V}{u:U}(h:Rp K H x u)(e:l9 u=true):∃ a,x=.ref a/\Bu H a:=by
 unfold l9 at e;split at e
 .have(a,ws,rfl,h1,_):=h
  exact⟨a,rfl,.inr ⟨_,.inl h1⟩⟩
 .have(a,ws,rfl,h1,_):=h
  exact⟨a,rfl,.inl ⟨_,.inl h1⟩⟩
 .have(a,ob,ws,rfl,h1,_):=DF.cP h e
  exact⟨a,rfl,.inr ⟨_,.inr ⟨ob,h1⟩⟩⟩
 .cases e
noncomputable def sO(md my mx:ME):ME:=λρ=>(md ρ).bind λp=>(p.1.get p.2).bind λu0=>if l9 u0=true then(my p.2).bind λq=>(mx q.2).bind λz=>(p.1.get z.2).bind λu=>(q.1.get z.2).bind λy=>(z.1.get z.2).bind λx=>(gO u y).bind λo=>match x with
 | .d x=>some (.u<|.d<|o.getD x,z.2)
 | _=>none else none
theorem IF{tx:TE}{md my mx:ME}(hd:VE K td md)(hy:VE K ty my)(hx:VE K tx mx):VE K (Dv K td ty tx) (sO md my mx):=by
 intro ρ σ H a af Q r e q;obtain⟨⟨a1,aj⟩,e1,e⟩:=zb e;have(u0,e0,e):=zb e;split at e
 rotate_left
 .cases e
 rename_i FK;obtain⟨⟨b1,au⟩,e2,e⟩:=zb e;obtain⟨⟨c1,kY⟩,e3,e⟩:=zb e;have(u,eu,e):=zb e;have(y,ey,e):=zb e;have(x,ex,e):=zb e;have(o,eo,e):=zb e;split at e
 rotate_left
 .cases e
 cases e;refine hd ρ σ H a1 aj _ r e1 λv1 H1 g1 k1=>?_;have(b,rfl,hb):=Kb (k1.now r g1 e0) FK;refine⟨b,rfl,hb,hy aj σ H1 b1 _ _ g1.rs e2 λv2 H2 g2 k2=>hx au σ H2 c1 _ _ g2.rs e3 λv3 H3 g3 k3=>?_⟩;have(b',eb,h):=yM (k1.later r g1 (g2.trans g3) eu) (k2.later g1.rs g2 g3 ey) eo;cases eb;have p3:=k3.now g2.rs g3 ex;rcases h with⟨w,d',rfl,g,p⟩|⟨rfl,g⟩
 .exact⟨_,g,q w H3 ((g1.trans g2).trans g3) ⟨p,Nw.data⟩⟩
 .exact⟨_,g,q v3 H3 ((g1.trans g2).trans g3) ⟨p3,Nw.data⟩⟩
end
section
variable{ok ov:Qc}
theorem uF{T:Qc}{vs:Array Qc}{x:Qc}{Q:Unit->Qd->Prop}(e:s.heap.get? it=some {cls:=T,data:=.fields vs})(hj:j < vs.size)
  (q:∀ h':Heap,h'.get? it=some {cls:=T,data:=.fields (vs.setIfInBounds j x)}->h'.objs.size=s.heap.objs.size->(∀ b o,b≠it->s.heap.get? b=some o->h'.get? b=some o)->Q () {s with heap:=h'}):wpAny (model prog w) A (setField (.ref it) j x) Q E s:=by
 refine wpAny_setField e rfl hj<|q _ ?_ ?_ λb o hb z=>?_
 .exact Ú _ e (á<|à rfl _)
 .exact Heap.size_update ..
 .exact((Ï ..).2 b hb).trans z
end
section
variable{X:Cx}{kk:Nat}
end
abbrev sH(h:Heap)(t1:Qg):Heap:=h.push {cls:=.type "tuple_iterator",data:=.fields #[.ref t1,.int 0 0]}
abbrev uW(h:Heap)(t1 t2:Qg):Heap:=(sH h t1).push {cls:=.type "tuple_iterator",data:=.fields #[.ref t2,.int 0 0]}
abbrev sG(h:Heap)(t1 t2:Qg):Heap:=(uW h t1 t2).push {cls:=.type "tuple",data:=.seq #[.ref h.objs.size,.ref (sH h t1).objs.size]}
abbrev yy(h:Heap)(t1 t2:Qg):Heap:=(sG h t1 t2).push {cls:=.type "tuple",data:=.seq #[.none,.none]}
abbrev Ed(h:Heap)(t1 t2:Qg):Heap:=(yy h t1 t2).push {cls:=.type "zip",data:=.fields #[.none,.bool false,.bool false,.ref (uW h t1 t2).objs.size,.ref (sG h t1 t2).objs.size]}
theorem Wj(t1 t2:Qg)(xs ys:Array Qc):
  Meets (Builtin.«zip.__new__» ⟨[.type "zip",.ref t1,.ref t2],[]⟩) (λ_ R s=>s.heap.IsTuple t1 xs/\s.heap.IsTuple t2 ys/\
   R (.ok<|.ret<|.ref (yy s.heap t1 t2).objs.size) {s with heap:=Ed s.heap t1 t2}):=
 .of_wp λprog w A R s h=>by
  have(hp,g,d,tk,os):=s;have(h1,h2,h):=h;have jJ:Heap.IsTuple (sH hp t1) t2 ys:=by
   have(o,e,r):=h2;exact⟨o,qd _ e,r⟩
  have FL:=sub_zip
  wp_walk using wpAny_pyIter_tuple h1,wpAny_pyIter_tuple jJ
  exact⟨_,rfl,h⟩
section
variable{z TI TO i1 i2 t1 t2:Qg}{k:Nat}{xs ys:Array Qc}{x y a b:Qc}
theorem Yy{Q:Qb Qc->Qd->Prop}(ap:ZipApart z TI TO i1 i2 t1 t2)(hz:IsZip s.heap z TI TO .none)(hI:IsPair s.heap TI (.ref i1) (.ref i2))(hO:IsPair s.heap TO a b)
  (h1:s.heap.IsTupleIter i1 t1 k) (h2:s.heap.IsTupleIter i2 t2 k) (g1:s.heap.IsTuple t1 xs) (g2:s.heap.IsTuple t2 ys) (ex:xs[k]?=some x) (ey:ys[k]?=some y)
  (q:∀ h':Heap,IsZip h' z TI TO (rawInt s.heap.objs.size)->IsPair h' TO x y->h'.IsTupleIter i1 t1 (k+1)->h'.IsTupleIter i2 t2 (k+1)->IsPair h' s.heap.objs.size x y->
   (∀ c o,c≠z->c≠TO->c≠i1->c≠i2->s.heap.get? c=some o->h'.get? c=some o)->Q (some<|.ref s.heap.objs.size) {s with heap:=h'}):wpAny (model prog w) A (pyNext<|.ref z) Q E s:=by
 have kT:s.TypeIs (.ref z) "zip":=⟨_,hz,rfl⟩;unfold pyNext;refine qa<|wpAny_attempt<|wpAny_callSpecial?_slot (name:=Str.ofString "__next__") kT F.slot_zip_next<|wpAny_call_entry F.slot_zip_next kT F.entry_zip_next ?_<|F.args_zip_next_1 _;unfold Builtin.«zip.__next__»;refine qa<|qb ?_;refine qa<|wpAny_field hz rfl (x:=.bool false) rfl ?_;refine qa<|wpAny_field hz rfl (x:=.ref TI) rfl ?_;refine qa<|wpAny_seqItems hI rfl ?_;show wpAny _ _ (Builtin.SmallTypes.ownedTupleIsFree (.ref z) >>= _) _ _ s;unfold Builtin.SmallTypes.ownedTupleIsFree;refine qa<|qa<|wpAny_field hz rfl (x:=.none) rfl<|qb ?_;show wpAny _ _ (if true=true then _ else _) _ _ _;rw[if_pos rfl];refine qa<|wpAny_rule<|qa<|wpAny_field hz rfl (x:=.ref TO) rfl ?_;refine qa<|uF hz (by simp) λha ka za fa=>?_;have N1:IsPair ha TO a b:=fa _ _ ap.TOz hO;have wF:ha.IsTupleIter i1 t1 k:=by
  have(o,e,r):=h1;exact⟨o,fa _ _ ap.i1z e,r⟩
 have Gf:ha.IsTuple t1 xs:=by
  have(o,e,r):=g1;exact⟨o,fa _ _ ap.l1z e,r⟩
 refine qa ?_;show wpAny _ _ (forIn [(Value.ref i1,0),(Value.ref i2,1)] (none,()) _) _ _ _;rw[List.forIn_cons];refine qa<|qa<|wpAny_onRaise ?_;show wpAny _ _ (Builtin.SmallTypes.nextOf (.ref i1) >>= _) _ _ _;refine qa<|Er (s:={s with heap:=ha}) wF Gf ex λhb kb sb=>qb ?_;refine qa<|wpAny_seqItems (s:={s with heap:=hb}) (o:=_) ((sb.2 _ ap.TOi1).trans N1) rfl ?_;refine qa<|wpAny_updateSeq_pair (s:={s with heap:=hb}) ((sb.2 _ ap.TOi1).trans N1) λhc kc sc=>?_;refine qa<|wpAny_letGo<|qb ?_;show wpAny _ _ (forIn [(Value.ref i2,1)] (none,()) _) _ _ _;rw[List.forIn_cons];have kP:∀ c o,c≠z->c≠TO->c≠i1->s.heap.get? c=some o->hc.get? c=some o:=λc o n1 n2 n3 e=>(sc.2 c n2).trans<|(sb.2 c n3).trans<|fa c o n1 e;have h22:hc.IsTupleIter i2 t2 k:=by
  have(o,e,r):=h2;exact⟨o,kP _ _ ap.i2z (Ne.symm ap.TOi2) (Ne.symm ap.i12) e,r⟩
 have g22:hc.IsTuple t2 ys:=by
  have(o,e,r):=g2;exact⟨o,kP _ _ ap.l2z ap.l2TO ap.l2i1 e,r⟩
 refine qa<|qa<|wpAny_onRaise ?_;show wpAny _ _ (Builtin.SmallTypes.nextOf (.ref i2) >>= _) _ _ _;refine qa<|Er (s:={s with heap:=hc}) h22 g22 ey λhd kd sd=>qb ?_;have NZ:IsPair hd TO x b:=(sd.2 _ ap.TOi2).trans kc;refine qa<|wpAny_seqItems (s:={s with heap:=hd}) NZ rfl ?_;refine qa<|wpAny_updateSeq_pair (s:={s with heap:=hd}) NZ λhe ke se=>?_;refine qa<|wpAny_letGo<|qb ?_;show wpAny _ _ (forIn ([]:Qa (Qc×Nat)) (none,()) _) _ _ _;rw[List.forIn_nil];refine qb ?_;have NY:IsPair he TO x y:=ke;show wpAny _ _ (seqItems? (.ref TO) >>= _) _ _ _;refine qa<|wpAny_seqItems (s:={s with heap:=he}) NY rfl ?_;simp only[newTuple];refine qa<|qA ?_ (by show(2:Nat)<=sizeLine; decide);have sz:he.objs.size=s.heap.objs.size:=by rw[se.1,sd.1,sc.1,sb.1]; exact za
 show wpAny _ _ (Builtin.SmallTypes.ownedTupleHandOut (.ref z) (.ref he.objs.size) >>= _) _ _ {s with heap:=he.push {cls:=.type "tuple",data:=.seq #[x,y]}};have kz:(he.push {cls:=.type "tuple",data:=.seq #[x,y]}).get? z=some {cls:=.type "zip",data:=.fields #[.ellipsis,.bool false,.bool false,.ref TI,.ref TO]}:=
  qd _ ((se.2 _<|Ne.symm ap.TOz).trans<|(sd.2 _<|Ne.symm ap.i2z).trans<|(sc.2 _<|Ne.symm ap.TOz).trans<|(sb.2 _<|Ne.symm ap.i1z).trans ka)
 have kt:(he.push {cls:=.type "tuple",data:=.seq #[x,y]}).get? he.objs.size=some {cls:=.type "tuple",data:=.seq #[x,y]}:=qg _ rfl;have kO:(he.push {cls:=.type "tuple",data:=.seq #[x,y]}).get? TO=_:=qd _ NY;have k1:Heap.IsTupleIter (he.push {cls:=.type "tuple",data:=.seq #[x,y]}) i1 t1 (k+1):=by
  have(o,e,r):=kb;exact⟨o,qd _<|(se.2 _<|Ne.symm ap.TOi1).trans<|(sd.2 _ ap.i12).trans<|(sc.2 _<|Ne.symm ap.TOi1).trans e,r⟩
 have k2:Heap.IsTupleIter (he.push {cls:=.type "tuple",data:=.seq #[x,y]}) i2 t2 (k+1):=by
  have(o,e,r):=kd;exact⟨o,qd _<|(se.2 _<|Ne.symm ap.TOi2).trans e,r⟩
 have kk:∀ c o,c≠z->c≠TO->c≠i1->c≠i2->s.heap.get? c=some o->(he.push {cls:=.type "tuple",data:=.seq #[x,y]}).get? c=some o:=λc o n1 n2 n3 n4 e=>
  qd _ ((se.2 c n2).trans<|(sd.2 c n4).trans<|kP c o n1 n2 n3 e)
 have nz:he.objs.size≠z:=by
  rw[sz];exact Ne.symm<|qj<|qh hz
 generalize he.push {cls:=.type "tuple",data:=.seq #[x,y]}=hf at kz kt kO k1 k2 kk ⊢;unfold Builtin.SmallTypes.ownedTupleHandOut;refine qa<|qa<|uF (s:={s with heap:=hf}) kz (by simp) λhg kg zg fg=>?_;refine uF (s:={s with heap:=hg}) kg (by simp) λhh kh zh fh=>?_;have up:∀ c o,c≠z->hf.get? c=some o->hh.get? c=some o:=λc o n e=>fh c o n<|fg c o n e;refine qb ⟨_,rfl,qb ?_⟩;rw[sz]at kt kh nz ⊢;refine q hh kh (up _ _ ap.TOz kO) ?_ ?_ (up _ _ nz kt) λc o n1 n2 n3 n4 e=>up _ _ n1<|kk c o n1 n2 n3 n4 e
 .have(o,e,r):=k1
  exact⟨o,up _ _ ap.i1z e,r⟩
 .have(o,e,r):=k2
  exact⟨o,up _ _ ap.i2z e,r⟩
theorem Wi{Q:Qb Qc->Qd->Prop}(hh:A.handled=none)(ap:ZipApart z TI TO i1 i2 t1 t2)(hz:IsZip s.heap z TI TO .none)(hI:IsPair s.heap TI (.ref i1) (.ref i2))(hO:IsPair s.heap TO a b)
  (h1:s.heap.IsTupleIter i1 t1 k) (h2:s.heap.IsTupleIter i2 t2 k) (g1:s.heap.IsTuple t1 xs) (g2:s.heap.IsTuple t2 ys) (en:xs[k]?=none)
  (q:∀ h':Heap,(∀ c o,c≠z->c≠TO->c≠i1->c≠i2->s.heap.get? c=some o->h'.get? c=some o)->Q none {s with heap:=h'}):wpAny (model prog w) A (pyNext<|.ref z) Q E s:=by
 have kT:s.TypeIs (.ref z) "zip":=⟨_,hz,rfl⟩;unfold pyNext;refine qa<|wpAny_attempt<|wpAny_callSpecial?_slot (name:=Str.ofString "__next__") kT F.slot_zip_next<|wpAny_call_entry F.slot_zip_next kT F.entry_zip_next ?_<|F.args_zip_next_1 _;unfold Builtin.«zip.__next__»;refine qa<|qb ?_;refine qa<|wpAny_field hz rfl (x:=.bool false) rfl ?_;refine qa<|wpAny_field hz rfl (x:=.ref TI) rfl ?_;refine qa<|wpAny_seqItems hI rfl ?_;show wpAny _ _ (Builtin.SmallTypes.ownedTupleIsFree (.ref z) >>= _) _ _ s;unfold Builtin.SmallTypes.ownedTupleIsFree;refine qa<|qa<|wpAny_field hz rfl (x:=.none) rfl<|qb ?_;show wpAny _ _ (if true=true then _ else _) _ _ _;rw[if_pos rfl];refine qa<|wpAny_rule<|qa<|wpAny_field hz rfl (x:=.ref TO) rfl ?_;refine qa<|uF hz (by simp) λha ka za fa=>?_;have wF:ha.IsTupleIter i1 t1 k:=by
  have(o,e,r):=h1;exact⟨o,fa _ _ ap.i1z e,r⟩
 have Gf:ha.IsTuple t1 xs:=by
  have(o,e,r):=g1;exact⟨o,fa _ _ ap.l1z e,r⟩
 refine qa ?_;show wpAny _ _ (forIn [(Value.ref i1,0),(Value.ref i2,1)] (none,()) _) _ _ _;rw[List.forIn_cons];refine qa<|qa<|wpAny_onRaise ?_;show wpAny _ _ (Builtin.SmallTypes.nextOf (.ref i1) >>= _) _ _ _;refine qa<|Kz (s:={s with heap:=ha}) hh wF Gf en λhb e sb hZ=>?_;have(oe,ge,ce):=hZ;have kb:=sb z _ (Ne.symm ap.i1z) ka;refine uF (s:={s with heap:=hb}) kb (by simp) λhc kc zc fc=>?_;have nez:e≠z:=λh=>by
  rw[h]at ge;have z1:=qx (ge.symm.trans kb);rw[z1]at ce;have z2 : "zip" = "StopIteration":=Value.type.inj ce;exact absurd z2 (by decide)
 show wpAny _ _ (isInstance (.ref e) (.type "StopIteration") >>= _) _ _ _;refine qa<|wpAny_isInstance (T := "StopIteration") (b:=true) ⟨oe,fc _ _ nez ge,ce⟩ isSubtype_stop ?_;exact qb<|q hc λc o n1 n2 n3 n4 e=>fc c o n1<|sb c o n3<|fa c o n1 e
end
noncomputable def Ov(K:qc)(a b:Qg):It :=
 ⟨λi H=>∃ xs ys x y,bj K H a xs/\bj K H b ys/\xs[i]?=some x/\ys[i]?=some y,λi H x H'=>∃ T,H T=none/\x=.ref T/\∀ xs ys v u,bj K H a xs->bj K H b ys->xs[i]?=some v->ys[i]?=some u->H'=upd H T (.tup [v,u]),λi H=>∃ xs ys,bj K H a xs/\bj K H b ys/\xs.length=i⟩
abbrev Ou(z TI TO i1 i2 t1 t2:Qg)(i:Nat)(h:Heap):Prop:=IsZip h z TI TO .none/\IsPair h TI (.ref i1) (.ref i2)/\(∃ a b,IsPair h TO a b)/\h.IsTupleIter i1 t1 i/\h.IsTupleIter i2 t2 i
theorem Wh{k:Nat}(z TI TO i1 i2 t1 t2:Qg)(ap:ZipApart z TI TO i1 i2 t1 t2):
  Turn P w K (.Tuple elts k pos) (Ov K t1 t2) [z,TI,TO,i1,i2] z (Ou z TI TO i1 i2 t1 t2) where
 mem:=by simp
 obj:=λi h st c hc=>by
  obtain⟨hz,hI,⟨a,b,hO⟩,⟨o1,e1,_,d1⟩,⟨o2,e2,_,d2⟩⟩:=st;simp only[qv,List.not_mem_nil,or_false]at hc;rcases hc with rfl|rfl|rfl|rfl|rfl
  .exact⟨_,hz,λv q=>by
    have q':Data.fields _=Data.cell v:=q;cases q'⟩
  .exact⟨_,hI,λv q=>by
    have q':Data.seq _ _=Data.cell v:=q;cases q'⟩
  .exact⟨_,hO,λv q=>by
    have q':Data.seq _ _=Data.cell v:=q;cases q'⟩
  .exact⟨o1,e1,λv q=>by rw[d1]at q; cases q⟩
  .exact⟨o2,e2,λv q=>by rw[d2]at q; cases q⟩
 keep:=λi h h' st kk=>by
  obtain⟨hz,hI,⟨a,b,hO⟩,⟨o1,e1,r1⟩,⟨o2,e2,r2⟩⟩:=st;exact⟨kk z (by simp) _ hz,kk TI (by simp) _ hI,⟨a,b,kk TO (by simp) _ hO⟩,⟨o1,kk i1 (by simp) _ e1,r1⟩,⟨o2,kk i2 (by simp) _ e2,r2⟩⟩
 item:=by
  intro X hP hw hK hc i pins s σ H E I hf st hg;subst hP hw hK;have(xs,ys,x,y,nA,oX,hx,hy):=hg;obtain⟨hz,hI,⟨a,b,hO⟩,h1,h2⟩:=st;have(qV,AK,oS,_):=I.tuple nA;have(fQ,E4,oR,_):=I.tuple oX;have(u1,eu1,r1):=AK.get hx;have(u2,eu2,r2):=E4.get hy;refine Yy ap hz hI hO h1 h2 oS oR (by simpa using eu1) (by simpa using eu2) λh' z' O' k1 k2 ni kk=>?_;refine⟨_,rfl,wpAny_letOwnedTupleGo_zip (s:={s with heap:=h'}) z' λjJ z2 sb=>?_⟩;have nm:s.heap.objs.size∉[z,TI,TO,i1,i2]:=λhm=>by
   have:s.heap.objs.size < s.heap.objs.size:=by
    simp only[qv,List.not_mem_nil,or_false]at hm;have(_,e1,_):=h1;have(_,e2,_):=h2;rcases hm with h|h|h|h|h
    .exact qi (h▸qh hz) (qe _)
    .exact qi (h▸qh hI) (qe _)
    .exact qi (h▸qh hO) (qe _)
    .exact qi (h▸qh e1) (qe _)
    .exact qi (h▸qh e2) (qe _)
   exact Ð _ this
  have nz:s.heap.objs.size≠z:=λh=>nm (by rw[h]; simp);have I2:Inv X pins σ H {s with heap:=jJ}:=I.dN (t':=s.toks) (wr:=[z,TI,TO,i1,i2]) (λc o hc q=>by
   simp only[qv,List.not_mem_nil,or_false,not_or]at hc;exact(sb.2 c hc.1).trans<|kk c o hc.1 hc.2.2.1 hc.2.2.2.1 hc.2.2.2.2 q) hf
  have fT:g7 X pins H s.heap.objs.size:=I.eY (qe _) (I.aw.fresh<|qe _);have I3:Inv X pins σ (upd H s.heap.objs.size<|.tup [x,y]) {s with heap:=jJ}:=I2.oI fT I.sz ⟨by show 2<=sizeLine; decide,[u1,u2],.cons r1<|.cons r2 .nil,_,(sb.2 _ nz).trans ni,rfl,⟨_,rfl⟩,.inl rfl⟩;refine⟨.ref s.heap.objs.size,_,I3,rfl,⟨_,I.aw.fresh<|qe _,rfl,λf9 gS v u FQ FP hv hu=>?_⟩,⟨z2,(sb.2 _ ap.TIz).trans<|kk _ _ ap.TIz ap.TITO ap.TIi1 ap.TIi2 hI,⟨_,_,(sb.2 _ ap.TOz).trans O'⟩,?_,?_⟩,λc hc=>?_⟩
  .cases I.bG nA FQ
   cases I.bG oX FP;rw[hx]at hv;rw[hy]at hu;cases hv;cases hu;rfl
  .have(o,e,r):=k1
   exact⟨o,(sb.2 _ ap.i1z).trans e,r⟩
  .have(o,e,r):=k2
   exact⟨o,(sb.2 _ ap.i2z).trans e,r⟩
  .have ne:c≠s.heap.objs.size:=λh=>nm<|h▸hc
   rw[zt ne];exact(hf c hc).1
 done:=by
  intro X hP hw hK hc i pins s σ H E I hf st hg;subst hP hw hK;have(xs,ys,nA,oX,hl):=hg;obtain⟨hz,hI,⟨a,b,hO⟩,h1,h2⟩:=st;have(qV,AK,oS,_):=I.tuple nA;have(fQ,E4,oR,_):=I.tuple oX;refine Wi (I.ok.hd hc) ap hz hI hO h1 h2 oS oR (by
   have:=AK.length;simp;omega) λh' kk=>⟨rfl,I.dN (t':=s.toks) (wr:=[z,TI,TO,i1,i2]) (λc o hc q=>by
   simp only[qv,List.not_mem_nil,or_false,not_or]at hc;exact kk c o hc.1 hc.2.2.1 hc.2.2.2.1 hc.2.2.2.2 q) hf⟩
 self:=λ_ _ _ _ _ st h=>wpAny_pyIter_zip st.1 h
section
theorem Yx{t1 t2:Qg}{xs ys:Array Qc}(h1:s.heap.IsTuple t1 xs)(h2:s.heap.IsTuple t2 ys)
  (h:∀ h':Heap,Ou (s.heap.objs.size+4) (s.heap.objs.size+2) (s.heap.objs.size+3) s.heap.objs.size (s.heap.objs.size+1) t1 t2 0 h'->(∀ b o,s.heap.get? b=some o->h'.get? b=some o)->Q (.ref<|s.heap.objs.size+4) {s with heap:=h'}):
  wpAny (model prog w) A (call (.type "zip") [.ref t1,.ref t2]) Q E s:=by
 refine callType_new F.called_zip (by decide) (F.typeCall_zip_2 _ _) (F.newCall_zip_2 _ _) (λobj=>F.args_object_init_3 obj _ _) F.entry_zip_new (Wj t1 t2 xs ys) ⟨h1,h2,?_⟩;have z1:(sH s.heap t1).objs.size=s.heap.objs.size+1:=Heap.size_push ..;have z2:(uW s.heap t1 t2).objs.size=s.heap.objs.size+2:=by rw[Heap.size_push,z1]
 have z3:(sG s.heap t1 t2).objs.size=s.heap.objs.size+3:=by rw[Heap.size_push,z2]
 have z4:(yy s.heap t1 t2).objs.size=s.heap.objs.size+4:=by rw[Heap.size_push,z3]
 show _/\_;rw[z4];have ez:(Ed s.heap t1 t2).get? (s.heap.objs.size+4)=some {cls:=.type "zip",data:=.fields #[.none,.bool false,.bool false,.ref<|s.heap.objs.size+2,.ref<|s.heap.objs.size+3]}:=by
  have:=qg (yy s.heap t1 t2) (o:={cls:=.type "zip",data:=.fields #[.none,.bool false,.bool false,.ref (uW s.heap t1 t2).objs.size,.ref (sG s.heap t1 t2).objs.size]}) rfl;rw[z4,z2,z3]at this;rw[<-this];unfold Ed;rw[z2,z3]
 refine⟨⟨_,ez,rfl⟩,h _ ⟨ez,?_,⟨.none,.none,?_⟩,⟨{cls:=.type "tuple_iterator",data:=.fields #[.ref t1,.int 0 0]},?_,rfl,rfl⟩,⟨{cls:=.type "tuple_iterator",data:=.fields #[.ref t2,.int 0 0]},?_,rfl,rfl⟩⟩ λb o x=>?_⟩
 .have:=qg (uW s.heap t1 t2) (o:={cls:=.type "tuple",data:=.seq #[.ref s.heap.objs.size,.ref (sH s.heap t1).objs.size]}) rfl
  rw[z2,z1]at this;refine qd _<|qd _ ?_;unfold sG;rw[z1];exact this
 .have:=qg (sG s.heap t1 t2) (o:={cls:=.type "tuple",data:=.seq #[.none,.none]}) rfl
  rw[z3]at this;exact qd _ this
 .exact qd _ (qd _<|qd _<|qd _<|qg _ rfl)
 .have:=qg (sH s.heap t1) (o:={cls:=.type "tuple_iterator",data:=.fields #[.ref t2,.int 0 0]}) rfl
  rw[z1]at this;exact qd _<|qd _<|qd _ this
 .exact qd _ (qd _<|qd _<|qd _<|qd _ x)
end
section
variable{X:Cx}{k:Nat}
noncomputable def ML(K:qc)(ta:TA):TI:=λσ H R=>ta σ H λvs H1=>∃ a b,vs=[.ref a,.ref b]/\(∃ xs,bj K H1 a xs)/\(∃ ys,bj K H1 b ys)/\R (Ov K a b) H1
theorem P8{a b:Expr}{ta:TA}(ha:Wr (PA X [a,b] ta))(hK:X.K=K:=by rfl)(hg:Gl X "zip":=by exact rfl)(hm:X.mg "zip"=none:=by exact nZ ‹Bl _ _› (by decide))(hs:zQ a=true:=by rfl)(lO:[b].all zQ=true:=by rfl):
  Wr (PI X (.Tuple elts k qI) (.Call (.Name "zip" p) [a,b] [] pos)<|ML K ta):=by
 subst hK;refine⟨?_⟩;intro pins s σ H R I h;refine Call_<|og I hg hm boot_zip<|Ñ (aA (ha.run pos pins s σ H _ I h) λus s1 hZ=>?_) (hG hs)<|oE lO;have(vs,H1,I1,r1,q1):=hZ;obtain⟨t1,t2,e,⟨xs,nA⟩,⟨ys,oX⟩,q⟩:=q1;subst e;have(u1,u2,rfl,ru1,ru2):=xP r1;cases ru1;cases ru2;have(qV,AK,oS,hz1):=I1.tuple nA;have(fQ,E4,oR,hz2):=I1.tuple oX;have tl1:t1 < s1.heap.objs.size:=by
  have(o,e,_):=oS;exact qh e
 have tl2:t2 < s1.heap.objs.size:=by
  have(o,e,_):=oR;exact qh e
 have oP:∀ {x y:Nat},x < y->x≠y:=λh=>qj h;refine Yx (show s1.heap.IsTuple t1 qV.toArray from oS) (show s1.heap.IsTuple t2 fQ.toArray from oR) λh' tO kk=>?_;have I2:Inv X pins σ H1 {s1 with heap:=h'}:=I1.kept (t':=s1.toks) kk;refine wpAny_pyIter_zip tO.1 ?_;have f:∀ j:Nat,g7 X pins H1 (s1.heap.objs.size+j):=λj=>I1.eY (Nat.le_add_right _ _)<|I1.aw.fresh<|Nat.le_add_right _ _;have ap:ZipApart (s1.heap.objs.size+4) (s1.heap.objs.size+2) (s1.heap.objs.size+3) s1.heap.objs.size (s1.heap.objs.size+1) t1 t2:=by
  generalize s1.heap.objs.size=n at tl1 tl2;constructor<;>(simp only[Qg]at *; omega)
 refine⟨_,_,_,_,H1,rfl,I2,Wh _ _ _ _ _ t1 t2 ap,tO,λc hc=>?_,q⟩;simp only[qv,List.not_mem_nil,or_false]at hc;rcases hc with rfl|rfl|rfl|rfl|rfl
 .exact f 4
 .exact f 2
 .exact f 3
 .exact f 0
 .exact f 1
end
noncomputable def pB:Qa D->Qa D->Qa D
 | x::xs,y::ys=>.tuple [x,y]::pB xs ys
 | _,_=>[]
theorem IE:∀ {xs ys:Qa D} {i:Nat} {d:D},(pB xs ys)[i]?=some d->∃ x y,xs[i]?=some x/\ys[i]?=some y/\d=.tuple [x,y]
 | [],ys,i,d,h=>by simp[pB]at h
 | x::xs,[],i,d,h=>by simp[pB]at h
 | x::xs,y::ys,0,d,h=>by cases h; exact⟨x,y,rfl,rfl,rfl⟩
 | x::xs,y::ys,i+1,d,h=>IE (xs:=xs) (ys:=ys) (i:=i) h
theorem Ka:∀ (xs ys:Qa D),xs.length=ys.length->(pB xs ys).length=xs.length
 | [],[],_=>rfl
 | [],y::ys,h=>by cases h
 | x::xs,[],h=>by cases h
 | x::xs,y::ys,h=>congrArg (·+1)<|Ka xs ys<|Nat.succ.inj h
noncomputable def ua:Qa U->Qb (Qa D)
 | [.d<|.tuple xs,.d<|.tuple ys]=>if xs.length=ys.length then some (pB xs ys)else none
 | _=>none
noncomputable def Bz(ma:MA):MI:=λρ=>(ma ρ).bind λp=>(bC p.2 p.1).bind λus=>(ua us).bind λds=>some (ds,p.2)
theorem P7{ta:TA}{ma:MA}(h:jj K ta ma):VI K (ML K ta) (Bz ma):=by
 intro ρ σ H ds af R r e q;obtain⟨⟨as,aj⟩,e1,e⟩:=zb e;have(us,eu,e):=zb e;have(zs,ez,e):=zb e;cases e;refine h ρ σ H as aj _ r e1 λvs H1 g1 s1=>?_;have rp:=s1.m5 r g1 eu;unfold ua at ez;split at ez
 .split at ez
  rotate_left
  .cases ez
  rename_i xs ys hl;cases ez;cases rp with
  | cons p1 t=>
   cases t with
   | cons p2 t=>
    cases t;have(a,vx,rfl,h1,d1):=DF.aB p1;have(b,vy,rfl,h2,d2):=DF.aB p2;refine⟨a,b,rfl,⟨vx,(aP.sq h1)⟩,⟨vy,(aP.sq h2)⟩,q _ _ g1 λH2 kk i=>⟨λd ed=>?_,λei=>?_⟩⟩
    .have(x,y,ex,ey,rfl):=IE ed
     have(v,ev,dv):=(d1.kp kk).get ex;have(w,ew,dw):=(d2.kp kk).get ey;refine⟨⟨vx,vy,v,w,(aP.kp kk h1).sq,(aP.kp kk h2).sq,ev,ew⟩,λz H' y=>?_⟩;have(T,nT,rfl,y):=y;cases y vx vy v w ((aP.kp kk h1).sq) ((aP.kp kk h2).sq) ev ew;have sm:=zM nT (.tup [v,w]);exact⟨sm,.tup (.inl zr)<|.cons (dv.kp sm.kp)<|.cons (dw.kp sm.kp) .nil⟩
    .exact⟨vx,vy,(aP.kp kk h1).sq,(aP.kp kk h2).sq,by rw[Ka _ _ hl]at ei; rw[d1.len]; exact ei.symm⟩
 .cases ez
section
theorem zkI{b:Qg}{Q:Bool->Qd->Prop}(hT:s.TypeIs (.ref b) "tuple")(h:Q false s):wpAny (model prog w) A (Builtin.Dict.quietEq<|.ref b) Q E s:=by
 unfold Builtin.Dict.quietEq;refine qa<|wpAny_specialOf hT F.slot_tuple_eq.lookup<|qb ?_;exact h
theorem Z9{id:String}{o:Obj}{Q:Array DictEntry->Qd->Prop}(ho:s.heap.get? d=some o)(hd:o.data=.dict es ep)
  (hk:∀ e∈es.toList,∃ b,e.key=.ref b/\s.TypeIs (.ref b) "tuple") (hh:∀ e∈es.toList,¬(es.filter (·.hash==e.hash)).size > 1) (h:Q es s):
  wpAny (model prog w) A (Builtin.Dict.entriesForEmpty id d) Q E s:=by
 unfold Builtin.Dict.entriesForEmpty;refine qa<|wpAny_dictEntries ho hd ?_;refine qa ?_;rw[<-Array.forIn_toList];refine wpAny_forIn_list _ (λrest _ s'=>s'=s/\∀ e∈rest,e∈es.toList) _ ?_ ?_ _ _ ⟨rfl,λe h=>h⟩
 .rintro e rest b s' ⟨rfl,hr⟩
  have(c,ec,tc):=hk e (hr e qp);rw[ec];refine qa<|zkI tc ?_;simp only[Bool.not_false,if_true];rw[if_neg<|hh e<|hr e qp];exact qb ⟨rfl,λe h=>hr e<|qo _ h⟩
 .rintro b s' ⟨rfl,_⟩
  exact qb h
theorem P6(ne:es.isEmpty=false)(hk:∀ e∈es.toList,∃ b,e.key=.ref b):(decide (es.size<=8) && es.all λe=>(keyPart e.key).isSome)=false:=by
 have:(es.all λe=>(keyPart e.key).isSome)=false:=by
  rw[<-Array.all_toList];cases h:es.toList with
  | nil=>
   have:es=#[]:=by
    apply Array.ext';rw[h]
   rw[this]at ne;cases ne
  | cons e r=>
   have(b,eb):=hk e (by rw[h]; exact qp);rw[List.all_cons,eb];rfl
 rw[this,Bool.and_false]
theorem zhT{o:Obj}(hdS:(d==sysModules)=false)(ho:s.heap.get? d=some o)(hx:o.ExactDict)(hd:o.data=.dict es ep)(hz:es.size<=sizeLine)
  (hk:∀ e∈es.toList,∃ b,e.key=.ref b/\s.TypeIs (.ref b) "tuple") (hh:∀ e∈es.toList,¬(es.filter (·.hash==e.hash)).size > 1)
  (h:∀ h':Heap,(∃ o' gJ,h'.get? s.heap.objs.size=some o'/\o'.ExactDict/\o'.data=.dict es gJ)->(∀ b u,s.heap.get? b=some u->h'.get? b=some u)->Q (.ref s.heap.objs.size) {s with heap:=h'}):
  wpAny (model prog w) A (call (.type "dict") [.ref d]) Q E s:=by
 refine callType_codes (Q₁:=λobj aC=>obj=.ref s.heap.objs.size/\aC={s with heap:=s.heap.push {cls:=.type "dict",data:=.dict #[]}}) F.kt_called_dict (F.kt_typeCall_dict_1 _) F.entry_dict_init (kt_code_dict_new _ ⟨rfl,rfl⟩) ?_;rintro obj aC ⟨rfl,rfl⟩;have nd:s.heap.objs.size≠d:=Ne.symm (qj<|qh ho);have hn:(s.heap.push {cls:=.type "dict",data:=.dict #[]}).get? s.heap.objs.size=some {cls:=.type "dict",data:=.dict #[]}:=qg _ rfl;have c9:(s.heap.push {cls:=.type "dict",data:=.dict #[]}).get? d=some o:=qd _ ho;have kk:∀ b u,s.heap.get? b=some u->(s.heap.push {cls:=.type "dict",data:=.dict #[]}).get? b=some u:=λb u e=>qd _ e;generalize s.heap.push {cls:=.type "dict",data:=.dict #[]}=h1 at hn c9 kk ⊢;have tn:Shared.TypeIs {s with heap:=h1} (.ref s.heap.objs.size) "dict":=⟨_,hn,rfl⟩;have to:Shared.TypeIs {s with heap:=h1} (.ref d) "dict":=⟨_,c9,hx.1⟩;refine⟨tn,F.args_dict_init_2 _ _,?_⟩;unfold Builtin.«dict.__init__»;refine qa ?_;unfold Builtin.Dict.selfAndRest;refine qa<|wpAny_notOrdered_dict tn ?_;show wpAny _ _ (pure (s.heap.objs.size,[Value.ref d])) _ _ _;refine qb ?_;show wpAny _ _ (Builtin.Dict.updateFrom "dict.__init__" s.heap.objs.size (.ref d) [] .none) _ _ _;unfold Builtin.Dict.updateFrom;refine qa<|wpAny_typeOf to ?_;rw[if_neg (by decide)];refine qa ?_;unfold Builtin.Dict.merge;refine qa ?_;unfold Builtin.Dict.readDirectly;refine qa<|wpAny_isInstance to isSubtype_dict_dict ?_;simp only[Bool.not_true,Bool.false_eq_true,if_false];refine qa<|wpAny_specialOf to F.slot_dict_iter.lookup<|qb ?_;simp only[beq_self_eq_true,if_true];refine qa<|qb ?_;unfold Builtin.Dict.mergeDict;rw[if_neg (by simpa using nd)];unfold Builtin.Dict.showsAll;rw[if_neg (by rw[hdS]; exact qf)];refine qa<|qb ?_;refine qa<|wpAny_dictEntries c9 hd ?_;cases ne:es.isEmpty with
 | true=>
  have e0:es=#[]:=Array.isEmpty_iff.mp ne;subst e0;have fw:(decide ((#[]:Array DictEntry).size<=8) && (#[]:Array DictEntry).all λe=>(keyPart e.key).isSome)=true:=by rw[<-Array.all_toList]; rfl
  simp only[fw,Bool.not_true,Bool.false_eq_true,if_false];refine qa<|wpAny_dictEpoch (s:={s with heap:=h1}) c9 hd ?_;refine qa<|wpAny_dictEntries (s:={s with heap:=h1}) c9 hd ?_;refine qa ?_;rw[Std.Legacy.Range.forIn_eq_forIn_range'];simp only[Std.Legacy.Range.size,Nat.sub_zero,Nat.add_sub_cancel,Nat.div_one,Array.size_empty,List.range'_zero,List.forIn_nil];refine qb<|qb ?_;exact qa<|qb<|qb ⟨rfl,h h1 ⟨_,0,hn,⟨rfl,rfl,rfl⟩,rfl⟩ kk⟩
 | false=>
  have fw:=P6 ne λe he=>let ⟨b,eb,_⟩:=hk e he; ⟨b,eb⟩;simp only[fw,Bool.not_false,if_true];refine qa<|wpAny_dictEntries hn rfl ?_;simp only[Array.isEmpty_empty,if_true];refine qa<|Z9 (s:={s with heap:=h1}) c9 hd (λe he=>?_) hh ?_
  .have(b,eb,o2,eo,ec):=hk e he
   exact⟨b,eb,o2,kk _ _ eo,ec⟩
  simp only[ne,Bool.not_false,if_true];refine qa<|wpAny_updateDictKeysTo hn rfl ?_ (by show es.size<=_; omega);refine qb<|qa<|qb<|qb ⟨rfl,h _ ⟨_,_,Ú _ hn rfl,⟨rfl,rfl,rfl⟩,rfl⟩ λb u e=>?_⟩;exact((Ï ..).2 b<|qj<|qh e).trans<|kk b u e
end
noncomputable def hK:Key->Int
 | .inl i=>hashInt i
 | .inr _=>0
noncomputable def hT(ks:Qa Key):Int:=reduceHash (Builtin.Tuple.tupleHashOf<|ks.map hK)
noncomputable def By(ks:Qa Key):Bool:=ks.all λk=>match k with | .inl _=>true | .inr _=>false
noncomputable def pR(NC:Qa (Qa Key)):Bool:=NC.all By && decide ((NC.map hT).Nodup)
theorem zAs:∀ {ks:Qa Key},By ks=true->(tupleKind<|zC P w).hash ks=hT ks:=λ{ks} h=>by
 show reduceHash (Builtin.Tuple.tupleHashOf<|ks.map<|GK w)=_;unfold hT;congr 2;refine Ö λk hk=>?_;have:=Þ.mp h k hk;cases k with
 | inl i=>rfl
 | inr x=>cases this
theorem ZS{es:Qa DictEntry}(hn:(es.map (·.hash)).Nodup){e:DictEntry}(he:e∈es):(es.filter (·.hash==e.hash)).length<=1:=by
 induction es with
 | nil=>cases he
 | cons x es ih=>
  rw[List.map_cons,List.nodup_cons]at hn;rw[List.filter_cons];rcases qv.mp he with rfl|NT
  .rw[if_pos (by simp)]
   have:es.filter (·.hash==e.hash)=[]:=List.filter_eq_nil_iff.mpr λy hy z=>hn.1<|À.mpr ⟨y,hy,by simpa using z⟩;rw[this];simp
  .have:¬((x.hash==e.hash)=true):=λz=>hn.1<|À.mpr ⟨e,NT,by simpa using (beq_iff_eq.mp z).symm⟩
   rw[if_neg this];exact ih hn.2 NT
section
variable{X:Cx}
theorem Uq{l:Qa (Qa Key×V)}{m:Qa (Qa Key×Qg×Qc)}(r:KT X.K H l m):m.map (·.1)=l.map (·.1):=by
 induction r with
 | nil=>rfl
 | cons hq t ih=>rw[List.map_cons,List.map_cons,ih,hq.1]
theorem Up(I:Inv X pins σ H s)(e:Rd H a (.dT kvs))(hh:pR (kvs.map (·.1))=true)(h:∀ p s',H p=none->Inv X pins σ (upd H p<|.dT kvs) s'->Q (.ref p) s'):wpAny (model X.prog X.w) A (call (.type "dict") [.ref a]) Q E s:=by
 have(z,y,xs,r,o,es,ep,h1,h2,h3,h4,h5):=(show zI X.prog X.w X.K H s.heap a (.dT kvs) from CT I.aw e);have(_,_,f9,r',dd):=lr I.aW I.aw e;have hlen:es.size=kvs.length:=by
  have:=congrArg List.length h4;rw[Array.length_toList,List.length_map,<-Ep r]at this;exact this
 have(hi,hn):=ó.mp hh;have hn:=of_decide_eq_true hn;have kM:=Uq r;have hashes:es.toList.map (·.hash)=(kvs.map (·.1)).map hT:=by
  rw[h4,<-kM,List.map_map,List.map_map];refine Ö λx hx=>?_;exact zAs<|Þ.mp hi x.1 (by rw[<-kM]; exact À.mpr ⟨x,hx,rfl⟩)
 refine zhT y h1 h2 h3 (by omega) (λq hq=>?_) (λq hq=>?_) λh' ⟨o',gJ,n1,n2,n3⟩ kk=>?_
 .rw[h4]at hq
  have(x,hx,rfl):=À.mp hq;have key:∀ {l:Qa (Qa Key×V)} {m:Qa (Qa Key×Qg×Qc)},KT X.K H l m->∀ x∈m,aP X.K H x.2.1 (x.1.map kV):=by
   intro l m q
   induction q with
   | nil=>intro x hx; cases hx
   | cons hq _ ih=>
    intro x hx;rcases qv.mp hx with e|hx
    .subst e
     rw[<-hq.1];exact hq.2.1
    .exact ih x hx
  exact⟨x.2.1,rfl,(mO I.aW I.aw<|key r x hx).typeIs⟩
 .rw[<-hashes]at hn
  have:=ZS hn hq;rw[<-Array.length_toList,Array.toList_filter];omega
 .refine h _ _ (I.aw.fresh<|qe _) (I.laid (a:=s.heap.objs.size) (o:=.dT kvs) (t':=s.toks) kk (qe _) ⟨z,beq_eq_false_iff_ne.mpr<|Ne.symm<|qj I.wV,xs,?_,o',es,gJ,n1,n2,n3,h4,h5⟩)
  exact KT.keeps r λb ys hb=>by rw[zt (λz=>by rw[z,I.aw.fresh<|qe _]at hb; cases hb)]; exact hb
theorem ZR:eE X (.type "dict") (λxs H Q=>∃ a kvs,xs=[.ref a]/\Rd H a (.dT kvs)/\pR (kvs.map (·.1))=true/\∀ p,H p=none->Q (.ref p) (upd H p<|.dT kvs)):=by
 intro pins s σ H xs us Q I r h;have(a,kvs,rfl,hr,hh,q):=h;have(u,rfl,ru):=jT r;cases ru;exact Up I hr hh λp s' hp I'=>⟨.ref p,_,I',rfl,q p hp⟩
end
noncomputable def pH:Qa (D×D)->Qb (Qa<|Qa Key×D)
 | []=>some []
 | (k,d)::r=>(cJ k).bind λk=>(pH r).bind λr=>some<|(k,d)::r
noncomputable def sZ:U->Qb U
 | .t kvs=>if pR (kvs.map (·.1))=true then some (.t kvs)else none
 | .d (.dict kvs)=>if jF kvs=true then(pH kvs).bind λkvs=>if pR (kvs.map (·.1))=true then some (.t kvs)else none else none
 | _=>none
section
theorem J9{ws:Qa (Qa Key×V)}{kvs:Qa (Qa Key×D)}(h:dn K H ws kvs):ws.map (·.1)=kvs.map (·.1):=by
 induction h with
 | nil=>rfl
 | cons hq t ih=>rw[List.map_cons,List.map_cons,ih,hq.1]
theorem D8:∀ {kvs:Qa (D×D)} {ws:Qa (Qa Key×V)} {r:Qa (Qa Key×D)},iC K H ws kvs->pH kvs=some r->dn K H ws r
 | [],ws,r,h,e=>by cases h; cases e; exact .nil
 | (k,d)::kvs,ws,r,h,e=>by
  have(k',ek,e):=zb (show(cJ k).bind _=some r from e);have(r',er,e):=zb e;cases e;cases h with
  | @cons k2 v _ vs ds hv t=>
   rw[yT]at ek;cases ek;exact .cons ⟨rfl,hv⟩<|D8 t er
theorem Yw:VC K (λxs H Q=>∃ a kvs,xs=[.ref a]/\Rd H a (.dT kvs)/\pR (kvs.map (·.1))=true/\∀ p,H p=none->Q (.ref p) (upd H p<|.dT kvs)) (f1 sZ):=nP λv a u H Q h e q=>by
 unfold sZ at e;split at e
 .split at e
  rotate_left
  .cases e
  rename_i kvs hh;cases e;have(b,ws,rfl,h1,h2):=h;refine⟨b,ws,rfl,.inl h1,by rw[J9 h2]; exact hh,λp hp=>?_⟩;have sm:=zM hp (.dT ws);exact q _ _ sm ⟨p,ws,rfl,zr,h2.kp sm.kp⟩ λ_=>⟨p,rfl,hp⟩
 .split at e
  rotate_left
  .cases e
  rename_i nx;have(r,er,e):=zb e;split at e
  rotate_left
  .cases e
  rename_i hh;cases e;have(b,o,ws,rfl,h1,h2):=DF.cP h nx;have kd:=D8 h2 er;refine⟨b,ws,rfl,.inr ⟨o,h1⟩,by rw[J9 kd]; exact hh,λp hp=>?_⟩;have sm:=zM hp (.dT ws);exact q _ _ sm ⟨p,ws,rfl,zr,kd.kp sm.kp⟩ λ_=>⟨p,rfl,hp⟩
 .cases e
end
def xG(i j:Int):Prop:=i.natAbs.log2 < 1000000/\j.natAbs.log2 < 1000000
theorem J8{n:Int}(h:n.natAbs.log2 < 1000000):Builtin.Int.intBits n<=2^20:=by
 refine intBits_le ?_
 by_cases z:n.natAbs=0
 .rw[z]; exact Nat.two_pow_pos _
 .exact qi ((Nat.log2_lt z).mp h) (â (by decide) (by decide))
section
variable{X:Cx}
theorem u9:bu X (binaryOp .Mult) (rI xG λi j=>.int<|i * j):=tI λ_ _ _ _ _ _ _ hc q=>mul_int q<|IntMulOk.of_bits (J8 hc.1)<|J8 hc.2
end
section
noncomputable def pG:=lS xG λi j=>.int<|i * j
theorem u7:VO K (rI xG λi j=>.int<|i * j) pG:=si λi j H=>.int _
noncomputable def xF:Qa U->Qb U
 | [.d<|.int i,.d<|.int j]=>some<|.d<|.int (if j < i then j else i)
 | _=>none
theorem Uo:VC K (λxs H Q=>∃ i j,xs=[.int i,.int j]/\Q (.int (if j < i then j else i)) H) xF:=by
 intro vs us u H Q hr e q;unfold xF at e;split at e
 .rename_i i j
  cases e;cases hr with
  | cons h1 t=>
   cases t with
   | cons h2 t=>
    cases t;cases DF.int_inv h1;cases DF.int_inv h2;exact⟨i,j,rfl,q _ _ (λ_ _ z=>z) (.int _) Nw.data⟩
 .cases e
end
section
variable{ρ:En}{me ma mb mc mk mi md my mv mx mo:ME}{mA mK:MA}{mt mu:MT}{mI:MI}{mg:MG}{m1 m2:MS}{u:U}{x:D}
variable{QE:Ar×En->Prop}{QI:Qa D×En->Prop}
theorem Z8:Wo (sO md my mx ρ) QE=Wo (md ρ) (Co (λp=>(p.1.get p.2).bind λu0=>if l9 u0=true then(my p.2).bind λq=>(mx q.2).bind λz=>(p.1.get z.2).bind λu=>(q.1.get z.2).bind λy=>(z.1.get z.2).bind λx=>(gO u y).bind λo=>x.da.bind λx=>some (.u<|.d<|o.getD x,z.2)else none) ⟨0⟩ QE):=by
 have e:sO md my mx ρ=(md ρ).bind λp=>(p.1.get p.2).bind λu0=>if l9 u0=true then(my p.2).bind λq=>(mx q.2).bind λz=>(p.1.get z.2).bind λu=>(q.1.get z.2).bind λy=>(z.1.get z.2).bind λx=>(gO u y).bind λo=>x.da.bind λx=>some (.u<|.d<|o.getD x,z.2)else none:=by
  unfold sO;refine bind_fn λp=>bind_fn λu0=>?_;split
  .refine bind_fn λq=>bind_fn λz=>bind_fn λu=>bind_fn λy=>bind_fn λx=>bind_fn λo=>?_
   cases x<;>rfl
  .rfl
 rw[e,zo]
theorem Wg:Wo (Bz mA ρ) QI=Wo (mA ρ) (Co (λp=>(bC p.2 p.1).bind λus=>(ua us).bind λds=>some (ds,p.2)) ⟨0⟩ QI):=by
 show Wo (Option.bind _ _) QI=_;rw[zo]
theorem YT{kvs:Qa (Qa Key×D)}:l9 (.t kvs)=true:=rfl
theorem Zg{kvs:Qa (Key×D)}:l9 (.k kvs)=true:=rfl
theorem Wf{a:Int}:xF [.d<|.int a,.d<|.int b]=some (.d<|.int (if b < a then b else a)):=rfl
theorem uN{a:Int}(h:a.natAbs.log2 < 1000000)(h2:b.natAbs.log2 < 1000000):pG (.d<|.int a) (.d<|.int b)=some (.d<|.int<|a * b):=r8 (c:=xG) ⟨h,h2⟩
theorem HG{g:α->D}{b:α->Bool}{e:α->D}{Q:Qa D×En->Prop}(hz:as.length<=sizeLine)
  (st:∀ a∈as,∀ ys,Wo (mg (g a) ρ)<|Co mt ⟨0⟩<|tM nt me ys λaf zs=>af=ρ/\zs=if b a=true then ys++[e a]else ys) (q:Q ((as.filter b).map e,ρ)):Wo (ij nt mg mt me (as.map g) ρ []) Q:=by
 refine Ct (λi af ys=>af=ρ/\ys=((as.take i).filter b).map e) (by rw[List.length_map]; exact hz) (λi af ys h=>?_) ⟨rfl,rfl⟩ (λi d af ys hd h=>?_) λaf ys h=>?_
 .rw[h.2,List.length_map]
  exact qy (ï _ _) (by rw[List.length_take]; exact Nat.min_le_left _ _)
 .have(rfl,rfl):=h
  rw[List.getElem?_map]at hd;have(a,ha,rfl):=qr.mp hd;have:=st a (Ç ha) (((as.take i).filter b).map e);have en:((as.take<|i+1).filter b).map e=if b a=true then((as.take i).filter b).map e++[e a]else((as.take i).filter b).map e:=by
   rw[List.take_succ,ha,List.filter_append,List.map_append];show _++(([a]:Qa α).filter b).map e=_;rw[List.filter_cons];split<;>simp
  rw[en];exact this
 .have(rfl,rfl):=h
  rw[List.length_map,List.take_of_length_le<|qe _];exact q
end
section
variable{X:Cx}
end
end L2
namespace L2
open PySem
noncomputable def lW(n d:Int):Int:=(if d < 0 then -n else n) / (Int.gcd n d:Nat)
noncomputable def kZ(n d:Int):Int:=(if d < 0 then -d else d) / (Int.gcd n d:Nat)
theorem Yv{n d:Int}(hd:d≠0):lW n d * d=n * kZ n d/\1<=kZ n d/\Int.gcd (lW n d) (kZ n d)=1/\kZ n d<=d.natAbs/\(lW n d).natAbs<=n.natAbs:=by
 have hg:0 < Int.gcd n d:=Int.gcd_pos_of_ne_zero_right n hd;have(u,hu):=Int.gcd_dvd_left n d;have(v,hv):=Int.gcd_dvd_right n d;have NR:(0:Int) < (Int.gcd n d:Nat):=Int.natCast_pos.mpr hg;have hc:Int.gcd (n / (Int.gcd n d:Nat)) (d / (Int.gcd n d:Nat))=1:=Int.gcd_ediv_gcd_ediv_gcd hg;unfold lW kZ;generalize (Int.gcd n d:Nat)=g at *;have Bc:(g:Int)≠0:=by omega
 have eu:n / (g:Int)=u:=by rw[hu]; exact æ u Bc
 have ev:d / (g:Int)=v:=by rw[hv]; exact æ v Bc
 have N5:(-n) / (g:Int)=-u:=by rw[hu,<-Int.mul_neg]; exact æ (-u) Bc
 have rC:(-d) / (g:Int)=-v:=by rw[hv,<-Int.mul_neg]; exact æ (-v) Bc
 rw[eu,ev]at hc;have g1:1<=g:=hg;have an:n.natAbs=g * u.natAbs:=by rw[hu,Int.natAbs_mul]; rfl
 have ad:d.natAbs=g * v.natAbs:=by rw[hv,Int.natAbs_mul]; rfl
 have lu:u.natAbs<=n.natAbs:=by rw[an]; exact Nat.le_mul_of_pos_left _ hg
 have lv:v.natAbs<=d.natAbs:=by rw[ad]; exact Nat.le_mul_of_pos_left _ hg
 by_cases c:d < 0
 .rw[if_pos c,if_pos c,N5,rC]
  have hv0:v < 0:=by
   rcases(by omega:v < 0\/0<=v)with z|z
   .exact z
   .have:=Int.mul_nonneg (Int.le_of_lt NR) z
    omega
  refine⟨?_,by omega,?_,by omega,by omega⟩
  .rw[hu,hv]
   simp only[Int.neg_mul,Int.mul_neg,Int.neg_inj]
   ac_rfl
  .rw[Int.neg_gcd,Int.gcd_neg]
   exact hc
 .rw[if_neg c,if_neg c,eu,ev]
  have hv0:0 < v:=by
   rcases(by omega:0 < v\/v<=0)with z|z
   .exact z
   .have:=Int.mul_nonneg (Int.le_of_lt NR) (show 0<=-v by omega)
    rw[Int.mul_neg,<-hv]at this;omega
  refine⟨?_,by omega,hc,by omega,by omega⟩;rw[hu,hv]
  ac_rfl
theorem We{n d N D:Int}(hd:d≠0)(h1:1<=D)(hc:Int.gcd N D=1)(he:N * d=n * D):N=lW n d/\D=kZ n d:=by
 have(e,y1,c,_,_):=Yv (n:=n) hd;generalize lW n d=x at *;generalize kZ n d=y at *;have k:N * y=x * D:=by
  have z:(N * y) * d=(x * D) * d:=by grind
  exact ô hd z
 have d1:D∣y:=by
  have t:D∣N * y:=⟨x,by rw[k]; ac_rfl⟩;have u:=ñ.mpr t;rw[Int.gcd_comm,hc]at u;simpa using u
 have d2:y∣D:=by
  have t:y∣x * D:=⟨N,by rw[<-k]; ac_rfl⟩;have u:=ñ.mpr t;rw[Int.gcd_comm,c]at u;simpa using u
 have l1:=Int.le_of_dvd (by omega) d1;have l2:=Int.le_of_dvd (by omega) d2;have e2:D=y:=by omega
 refine⟨?_,e2⟩;rw[e2]at k;exact ô (by omega) k
theorem J7(n d:Int){g:Int}(hg:0 < g):n.fdiv (if d < 0 then 0 - g else g)=(if d < 0 then -n else n) / g:=by
 split
 .rw[Int.zero_sub,<-Int.fdiv_eq_ediv_of_nonneg _ (Int.le_of_lt hg)]
  have:=Int.neg_fdiv_neg (-n) g;rw[Int.neg_neg]at this;exact this
 .rw[Int.fdiv_eq_ediv_of_nonneg _<|Int.le_of_lt hg]
theorem Wd(x y:Int):Int.gcd (if x < 0 then -x else x) (if y < 0 then -y else y)=Int.gcd x y:=by
 rw[U6];split
 .exact Int.gcd_neg
 .rfl
theorem Um{n d:Int}(hd:d≠0):lW n d=(Rat.divInt n d).num/\kZ n d=((Rat.divInt n d).den:Int):=by
 have h:=We (n:=n) (d:=d) (N:=(Rat.divInt n d).num) (D:=((Rat.divInt n d).den:Int)) hd (by have:=(Rat.divInt n d).den_pos; omega) (by
  have:=(Rat.divInt n d).reduced;exact this) (by
  have e:Rat.divInt (Rat.divInt n d).num ((Rat.divInt n d).den:Int)=Rat.divInt n d:=Rat.num_divInt_den _;rw[Rat.divInt_eq_divInt_iff (by have:=(Rat.divInt n d).den_pos; omega) hd]at e;rw[e])
 exact⟨h.1.symm,h.2.symm⟩
noncomputable def fR(r:Rat):D:=.tuple [.int r.num,.int (r.den:Int)]
theorem P5{n d:Int}(hd:d≠0):PyData.tuple [.int<|lW n d,.int<|kZ n d]=fR (Rat.divInt n d):=by
 have(e1,e2):=Um (n:=n) hd;rw[e1,e2];rfl
theorem t9(r:Rat):1<=(r.den:Int):=by have:=r.den_pos; omega
theorem cop(r:Rat):Int.gcd r.num (r.den:Int)=1:=by
 have:=r.reduced;exact this
theorem Ul(a b:Rat):Rat.divInt (a.num * b.den+b.num * a.den) ((a.den:Int) * b.den)=a+b:=by
 rw[Rat.add_def',<-Rat.divInt_ofNat,Int.natCast_mul]
theorem Uk(a b:Rat):Rat.divInt (a.num * b.num) ((a.den:Int) * b.den)=a * b:=by
 rw[Rat.mul_def',<-Rat.divInt_ofNat,Int.natCast_mul]
theorem Wc(r:Rat):r * (r.den:Rat)=(r.num:Rat):=by
 have e:(r.num:Rat) / ((r.den:Int):Rat)=r:=by rw[<-Rat.divInt_eq_div]; exact Rat.num_divInt_den r
 have n:((r.den:Int):Rat)≠0:=λh=>by
  have:=Rat.intCast_inj.mp (show((r.den:Int):Rat)=((0:Int):Rat) from h);have:=r.den_pos;omega
 have:=Rat.div_mul_cancel (a:=(r.num:Rat)) n;rw[e]at this;exact this
def Bd(M B:Nat)(r:Rat):Prop:=∃ k:Int,r * (M:Rat)=(k:Rat)/\k.natAbs<=B
section
variable{M N C:Nat}{r s:Rat}
theorem Bd.le(h:Bd M B r)(c:B<=C):Bd M C r:=let ⟨k,e,b⟩:=h; ⟨k,e,qy b c⟩
theorem Bd.size(hM:0 < M)(h:Bd M B r):r.den<=M/\r.num.natAbs<=B:=by
 have(k,e,b):=h;have e2:r.num * (M:Int)=k * (r.den:Int):=by
  have h1:=Wc r;have h2:((r.num * (M:Int):Int):Rat)=((k * (r.den:Int):Int):Rat):=by
   rw[Rat.intCast_mul,Rat.intCast_mul,<-h1,<-e,Rat.intCast_natCast,Rat.intCast_natCast,Rat.mul_assoc,Rat.mul_assoc,Rat.mul_comm (r.den:Rat)]
  exact Rat.intCast_inj.mp h2
 have dv:(r.den:Int)∣(M:Int):=by
  have t:(r.den:Int)∣r.num * (M:Int):=⟨k,by rw[e2,Int.mul_comm]⟩;have u:=ñ.mpr t;rw[Int.gcd_comm,cop]at u;simpa using u
 have(c,hc):=dv;have dp:(0:Int) < r.den:=by have:=r.den_pos; omega
 have c0:0 < c:=by
  rcases(by omega:0 < c\/c<=0)with z|z
  .exact z
  .have:=Int.mul_nonneg (Int.le_of_lt dp) (show 0<=-c by omega)
   rw[Int.mul_neg,<-hc]at this;omega
 have ek:k=r.num * c:=by
  rw[hc]at e2;have:k * (r.den:Int)=(r.num * c) * (r.den:Int):=by rw[<-e2]; ac_rfl
  exact ô (by omega) this
 constructor
 .have:(r.den:Int) * 1<=(r.den:Int) * c:=Int.mul_le_mul_of_nonneg_left (by omega) (by omega)
  omega
 .rw[ek,Int.natAbs_mul]at b
  exact qy (Nat.le_mul_of_pos_right _ (by omega)) b
theorem Bd.add(h:Bd M B r)(h':Bd M C s):Bd M (B+C) (r+s):=by
 have(k,e,b):=h;have(l,f,c):=h';exact⟨k+l,by rw[Rat.add_mul,e,f,Rat.intCast_add],qy (Int.natAbs_add_le _ _)<|Nat.add_le_add b c⟩
theorem Bd.mul(h:Bd M B r)(h':Bd N C s):Bd (M * N) (B * C) (r * s):=by
 have(k,e,b):=h;have(l,f,c):=h';refine⟨k * l,?_,by rw[Int.natAbs_mul]; exact ð b c⟩;rw[Rat.intCast_mul,<-e,<-f,Rat.natCast_mul];grind
theorem Bd.neg(h:Bd M B r):Bd M B (-r):=by
 have(k,e,b):=h;exact⟨-k,by rw[Rat.neg_mul,e,Rat.intCast_neg],by rw[Int.natAbs_neg]; exact b⟩
theorem Bd.zero:Bd M B 0:=⟨0,by rw[Rat.zero_mul]; rfl,Ì _⟩
theorem Bd.wide(h:Bd M B r)(c:Nat):Bd (M * c) (B * c) r:=by
 have(k,e,b):=h;refine⟨k * c,?_,by rw[Int.natAbs_mul,Int.natAbs_natCast]; exact Ê _ b⟩;rw[Rat.intCast_mul,<-e,Rat.natCast_mul,Rat.intCast_natCast,Rat.mul_assoc]
theorem Bd.one:Bd 1 1 1:=⟨1,by rw[Rat.one_mul]; rfl,qe _⟩
end
abbrev Pq(α:Type):=Qa (Qa Int×α)
section
noncomputable def look(p:Pq α)(k:Qa Int):Qb α:=(p.find? λt=>decide<|t.1=k).map (·.2)
noncomputable def dz(p:Pq α)(k:Qa Int)(x:α):Pq α:=if(p.any λt=>decide<|t.1=k)=true then p.map (λt=>if t.1=k then(t.1,x)else t)else p++[(k,x)]
def bW(p:Pq α):Prop:=(p.map (·.1)).Nodup
theorem Eh{p:Pq α}{k:Qa Int}:look p k=none↔(p.any λt=>decide<|t.1=k)=false:=by
 induction p with
 | nil=>simp[look]
 | cons t p ih=>
  unfold look at ih ⊢;rw[List.find?_cons,List.any_cons]
  by_cases h:t.1=k
  .simp[h]
  .rw[decide_eq_false h,Bool.false_or]
   exact ih
theorem Wa{p:Pq α}{k:Qa Int}:(look p k).isSome=(p.any λt=>decide<|t.1=k):=by
 cases h:look p k with
 | none=>rw[Eh.mp h]; rfl
 | some x=>
  cases z:(p.any λt=>decide<|t.1=k)with
  | true=>rfl
  | false=>rw[Eh.mpr z]at h; cases h
theorem V9(p:Pq α)(k:Qa Int)(x:α):(dz p k x).map (·.1)=if(p.any λt=>decide<|t.1=k)=true then p.map (·.1)else p.map (·.1)++[k]:=by
 unfold dz;split
 .rw[List.map_map]
  refine Ö λt _=>?_;show(if t.1=k then(t.1,x)else t).1=t.1;split<;>rfl
 .rw[List.map_append]
  rfl
theorem Ja{p:Pq α}{k:Qa Int}{x:α}{t:Qa Int×α}(h:t∈dz p k x):(t∈p/\t.1≠k)\/t=(k,x):=by
 unfold dz at h;split at h
 .have(u,hu,rfl):=À.mp h
  by_cases c:u.1=k
  .rw[if_pos c]; exact .inr (by rw[c])
  .rw[if_neg c]; exact .inl ⟨hu,c⟩
 .rename_i hn
  rcases Á.mp h with z|z
  .exact .inl ⟨z,λe=>hn<|å.mpr ⟨t,z,decide_eq_true e⟩⟩
  .exact .inr (qq.mp z)
theorem bW.put{p:Pq α}(h:bW p)(k:Qa Int)(x:α):bW (dz p k x):=by
 unfold bW;rw[V9];split
 .exact h
 .rename_i hn
  refine List.nodup_append.mpr ⟨h,by simp,λa ha b hb=>?_⟩;have:b=k:=by simpa using hb
  rw[this];have(t,ht,rfl):=À.mp ha;exact λe=>hn<|å.mpr ⟨t,ht,decide_eq_true e⟩
theorem I9(p:Pq α)(k:Qa Int)(x:α):(dz p k x).length<=p.length+1:=by
 unfold dz;split
 .rw[List.length_map]; omega
 .rw[qt]; exact qe _
noncomputable def cH[Add α][Zero α](acc:Pq α)(ts:Pq α):Pq α:=ts.foldl (λa t=>dz a t.1<|(look a t.1).getD 0+t.2) acc
end
section
variable[Add α][Zero α]
theorem yi(ts:Pq α):∀ {acc:Pq α},bW acc->bW (cH acc ts):=by
 induction ts with
 | nil=>exact λh=>h
 | cons t ts ih=>exact λh=>ih<|h.put _ _
theorem yH(ts:Pq α):∀ (acc:Pq α),(cH acc ts).length<=acc.length+ts.length:=by
 induction ts with
 | nil=>intro acc; exact qe _
 | cons t ts ih=>
  intro acc;have h1:=ih (dz acc t.1<|(look acc t.1).getD 0+t.2);have h2:=I9 acc t.1 ((look acc t.1).getD 0+t.2);rw[qu];show(cH (dz acc t.1<|(look acc t.1).getD 0+t.2) ts).length<=_;omega
theorem J6(acc ts:Pq α)(t:Qa Int×α):cH acc (ts++[t])=dz (cH acc ts) t.1 ((look (cH acc ts) t.1).getD 0+t.2):=by
 unfold cH;rw[List.foldl_append];rfl
theorem J5{Pk:Qa Int->Prop}(ts:Pq α):∀ {acc:Pq α},(∀ t∈acc,Pk t.1)->(∀ t∈ts,Pk t.1)->∀ t∈cH acc ts,Pk t.1:=by
 induction ts with
 | nil=>exact λh _=>h
 | cons t ts ih=>
  intro acc h1 h2;refine ih (acc:=dz acc t.1 _) (λu hu=>?_) λu hu=>h2 u<|qo _ hu;rcases Ja hu with⟨z,_⟩|rfl
  .exact h1 u z
  .exact h2 t qp
end
theorem V8{p:Pq α}{k:Qa Int}{x:α}(h:look p k=some x):(k,x)∈p:=by
 unfold look at h;have(t,ht,rfl):=qr.mp h;have h1:=List.mem_of_find?_eq_some ht;have h2:t.1=k:=by simpa using List.find?_some ht
 rw[<-h2];exact h1
theorem p4{p:Pq α}(nd:bW p){t:Qa Int×α}(h:t∈p):look p t.1=some t.2:=by
 induction p with
 | nil=>cases h
 | cons u p ih=>
  have oN:u.1∉p.map (·.1)/\bW p:=õ.mp nd;unfold look at ih ⊢;rw[List.find?_cons];rcases qv.mp h with rfl|h
  .rw[decide_eq_true rfl]; rfl
  .rw[decide_eq_false λe=>oN.1<|List.mem_map.mpr ⟨t,h,e.symm⟩]
   exact ih oN.2 h
noncomputable def aJ(p:Pq Rat)(g:Qa Int->Rat):Rat:=(p.map λt=>t.2 * g t.1).sum
theorem gz(g:Qa Int->Rat):aJ [] g=0:=rfl
theorem zB(t:Qa Int×Rat)(p:Pq Rat)(g:Qa Int->Rat):aJ (t::p) g=t.2 * g t.1+aJ p g:=rfl
theorem I0(p q:Pq Rat)(g:Qa Int->Rat):aJ (p++q) g=aJ p g+aJ q g:=by
 induction p with
 | nil=>rw[List.nil_append,gz,Rat.zero_add]
 | cons t p ih=>rw[List.cons_append,zB,zB,ih,Rat.add_assoc]
theorem J4{p q:Pq Rat}(h:p.Perm q)(g:Qa Int->Rat):aJ p g=aJ q g:=by
 induction h with
 | nil=>rfl
 | cons t _ ih=>rw[zB,zB,ih]
 | swap t u p=>rw[zB,zB,zB,zB]; grind
 | trans _ _ i1 i2=>exact i1.trans i2
theorem DD(p:Pq Rat)(g:Qa Int->Rat):aJ (p.filter λt=>decide<|t.2≠0) g=aJ p g:=by
 induction p with
 | nil=>rfl
 | cons t p ih=>
  rw[List.filter_cons]
  by_cases h:t.2=0
  .rw[if_neg (by simp[h]),zB,h,ih]; grind
  .rw[if_pos (by simp[h]),zB,zB,ih]
theorem WQ{p:Pq Rat}(nd:bW p){k:Qa Int}{x:Rat}(h:look p k=some x)(y:Rat)(g:Qa Int->Rat):aJ (p.map λt=>if t.1=k then(t.1,x+y)else t) g=aJ p g+y * g k:=by
 induction p with
 | nil=>cases h
 | cons t p ih=>
  have oN:t.1∉p.map (·.1)/\bW p:=õ.mp nd;rw[List.map_cons,zB,zB]
  by_cases c:t.1=k
  .have e:p.map (λt=>if t.1=k then(t.1,x+y)else t)=p:=by
    have:∀ u∈p,(λt:Qa Int×Rat=>if t.1=k then(t.1,x+y)else t) u=id u:=λu hu=>if_neg λz=>oN.1<|À.mpr ⟨u,hu,z.trans c.symm⟩;rw[List.map_congr_left this,List.map_id]
   have ex:t.2=x:=by
    unfold look at h;rw[List.find?_cons,decide_eq_true c]at h;exact qx h
   rw[e,if_pos c,ex,c];grind
  .have h':look p k=some x:=by
    unfold look at h ⊢;rw[List.find?_cons,decide_eq_false c]at h;exact h
   rw[if_neg c,ih oN.2 h'];grind
theorem Uj{p:Pq Rat}(nd:bW p)(k:Qa Int)(y:Rat)(g:Qa Int->Rat):aJ (dz p k<|(look p k).getD 0+y) g=aJ p g+y * g k:=by
 unfold dz;cases h:look p k with
 | none=>
  rw[if_neg (by rw[Eh.mp h]; exact qf),I0,zB,gz,Option.getD_none];grind
 | some x=>
  rw[if_pos (by rw[<-Wa,h]; rfl),Option.getD_some];exact WQ nd h y g
theorem DN(ts:Pq Rat)(g:Qa Int->Rat):∀ {acc:Pq Rat},bW acc->aJ (cH acc ts) g=aJ acc g+aJ ts g:=by
 induction ts with
 | nil=>intro acc _; rw[gz,Rat.add_zero]; rfl
 | cons t ts ih=>
  intro acc nd;show aJ (cH (dz acc t.1 _) ts) g=_;rw[ih<|nd.put _ _,Uj nd,zB,Rat.add_assoc]
def tL(a b:Qa Int×α):Prop:=ju a.1 b.1=true
noncomputable def ins(x:Qa Int×α):Pq α->Pq α
 | []=>[x]
 | y::l=>if ju x.1 y.1=true then x::y::l else y::ins x l
noncomputable def tG:Pq α->Pq α
 | []=>[]
 | x::l=>ins x<|tG l
theorem D7(x:Qa Int×α):∀ l:Pq α,(ins x l).Perm<|x::l
 | []=>.refl _
 | y::l=>by
  unfold ins;split
  .exact .refl _
  .exact((D7 x l).cons y).trans (List.Perm.swap x y l)
theorem oC:∀ l:Pq α,(tG l).Perm l
 | []=>.refl _
 | x::l=>(D7 x<|tG l).trans<|(oC l).cons x
theorem J3(x:Qa Int×α):∀ {l:Pq α},l.Pairwise tL->(∀ y∈l,x.1≠y.1)->(ins x l).Pairwise tL
 | [],_,_=>by unfold ins; simp
 | y::l,h,ne=>by
  have(h1,h2):=Ò.mp h;unfold ins;split
  .rename_i c
   refine Ò.mpr ⟨λw hw=>?_,h⟩;rcases qv.mp hw with rfl|hw
   .exact c
   .exact y8 c (h1 w hw)
  .rename_i c
   refine Ò.mpr ⟨λw hw=>?_,J3 x h2 λw hw=>ne w<|qo _ hw⟩;rcases qv.mp ((D7 x l).mem_iff.mp hw)with rfl|hw
   .exact(Ej<|ne y qp).resolve_left c
   .exact h1 w hw
theorem D6:∀ {l:Pq α},bW l->(tG l).Pairwise tL
 | [],_=>.nil
 | x::l,nd=>by
  have oN:x.1∉l.map (·.1)/\bW l:=õ.mp nd;exact J3 x (D6 oN.2) λy hy e=>oN.1<|À.mpr ⟨y,(oC l).mem_iff.mp hy,e.symm⟩
structure Nf (p:Pq Rat):Prop where
 st:p.Pairwise tL
 nz:∀ t∈p,t.2≠0
theorem DM{p:Pq Rat}{k:Qa Int}(h:∀ t∈p,t.1≠k):aJ p (λe=>if e=k then 1 else 0)=0:=by
 induction p with
 | nil=>rfl
 | cons t p ih=>
  rw[zB,ih λu hu=>h u<|qo _ hu,if_neg<|h t qp];grind
theorem oP{a b:Qa Int×α}(h:tL a b):a.1≠b.1:=λe=>by
 unfold tL at h;rw[e,yS]at h;cases h
theorem Nf.tail{t:Qa Int×Rat}{p:Pq Rat}(h:Nf (t::p)):Nf p:=⟨(Ò.mp h.st).2,λu hu=>h.nz u<|qo _ hu⟩
theorem Nf.fC{t:Qa Int×Rat}{p:Pq Rat}(h:Nf (t::p)):aJ (t::p) (λe=>if e=t.1 then 1 else 0)=t.2:=by
 rw[zB,DM λu hu e=>oP ((List.pairwise_cons.mp h.st).1 u hu) e.symm,if_pos rfl];grind
theorem IZ:∀ {p q:Pq Rat},Nf p->Nf q->(∀ g,aJ p g=aJ q g)->p=q
 | [],[],_,_,_=>rfl
 | [],t::q,_,hq,h=>by
  have:=h λe=>if e=t.1 then 1 else 0;rw[hq.fC,gz]at this;exact absurd this.symm<|hq.nz t qp
 | t::p,[],hp,_,h=>by
  have:=h λe=>if e=t.1 then 1 else 0;rw[hp.fC,gz]at this;exact absurd this<|hp.nz t qp
 | t::p,u::q,hp,hq,h=>by
  have key:t.1=u.1:=by
   by_cases c:t.1=u.1
   .exact c
   .exfalso
    rcases Ej c with z|z
    .have:=h λe=>if e=t.1 then 1 else 0
     rw[hp.fC,DM]at this
     .exact hp.nz t qp this
     .intro w hw e
      rcases qv.mp hw with rfl|hw
      .exact c e.symm
      .have:=y8 z ((Ò.mp hq.st).1 w hw)
       rw[e,yS]at this;cases this
    .have:=h λe=>if e=u.1 then 1 else 0
     rw[hq.fC,DM]at this
     .exact hq.nz u qp this.symm
     .intro w hw e
      rcases qv.mp hw with rfl|hw
      .exact c e
      .have:=y8 z ((Ò.mp hp.st).1 w hw)
       rw[e,yS]at this;cases this
  have val:t.2=u.2:=by
   have:=h λe=>if e=t.1 then 1 else 0;rw[hp.fC,key,hq.fC]at this;exact this
  have tl:∀ g,aJ p g=aJ q g:=λg=>by
   have:=h g;rw[zB,zB,key,val]at this;grind
  rw[IZ hp.tail hq.tail tl,Prod.ext key val]
noncomputable def nz(p:Pq Rat):Pq Rat:=p.filter λt=>decide<|t.2≠0
theorem G3{p:Pq Rat}(h:bW p):bW (nz p):=h.sublist (List.filter_sublist.map _)
theorem AS:bW ([]:Pq Rat):=List.nodup_nil
def PB(M B:Nat)(p:Pq Rat):Prop:=∀ t∈p,Bd M B t.2
theorem DL{M:Nat}{p:Pq Rat}(h:PB M B p)(k:Qa Int):Bd M B ((look p k).getD 0):=by
 cases e:look p k with
 | none=>exact Bd.zero
 | some x=>exact h _<|V8 e
theorem yh{M:Nat}(ts:Pq Rat):∀ {C:Nat} {acc:Pq Rat},PB M C acc->PB M B ts->PB M (C+ts.length * B) (cH acc ts):=by
 induction ts with
 | nil=>intro C acc h _ t ht; exact(h t ht).le (by rw[List.length_nil]; omega)
 | cons t ts ih=>
  intro C acc h h' u hu;have hp:PB M (C+B) (dz acc t.1<|(look acc t.1).getD 0+t.2):=λv hv=>by
   rcases Ja hv with⟨z,_⟩|rfl
   .exact(h v z).le (by omega)
   .exact(DL h _).add (h' t qp)
  exact(ih hp (λv hv=>h' v<|qo _ hv) u hu).le (by rw[qu,Nat.add_mul]; omega)
theorem Nn{M:Nat}:PB M B []:=λt ht=>by cases ht
noncomputable def bZ(a b:Qa Int):Qa Int:=List.zipWith (·+·) a b
noncomputable def cS[Mul α](p q:Pq α):Pq α:=p.flatMap λs=>q.map λt=>(bZ s.1 t.1,s.2 * t.2)
theorem WO(s:Qa Int×Rat)(q:Pq Rat)(g:Qa Int->Rat):aJ (q.map λt=>(bZ s.1 t.1,s.2 * t.2)) g=s.2 * aJ q λb=>g (bZ s.1 b):=by
 induction q with
 | nil=>rw[List.map_nil,gz,gz,Rat.mul_zero]
 | cons t q ih=>rw[List.map_cons,zB,zB,ih]; grind
theorem IY(p q:Pq Rat)(g:Qa Int->Rat):aJ (cS p q) g=aJ p λa=>aJ q λb=>g (bZ a b):=by
 induction p with
 | nil=>rfl
 | cons s p ih=>
  show aJ (_++cS p q) g=_;rw[I0,WO,ih,zB]
theorem Kx{p:Pq Rat}{g h:Qa Int->Rat}(e:∀ t∈p,g t.1=h t.1):aJ p g=aJ p h:=by
 induction p with
 | nil=>rfl
 | cons t p ih=>rw[zB,zB,e t qp,ih λu hu=>e u<|qo _ hu]
theorem D5[Mul α](p q:Pq α):(cS p q).length=p.length * q.length:=by
 induction p with
 | nil=>simp[cS]
 | cons s p ih=>
  show(_++cS p q).length=_;rw[qt,ih,List.length_map,qu,Nat.add_mul,Nat.one_mul,Nat.add_comm]
theorem DK[Mul α]{p q:Pq α}{t:Qa Int×α}(h:t∈cS p q):∃ u∈p,∃ v∈q,t=(bZ u.1 v.1,u.2 * v.2):=by
 have(u,hu,h):=List.mem_flatMap.mp h;have(v,hv,rfl):=À.mp h;exact⟨u,hu,v,hv,rfl⟩
theorem Ui{M N C:Nat}{p q:Pq Rat}(h:PB M B p)(h':PB N C q):PB (M * N) (B * C) (cS p q):=λt ht=>by
 have(u,hu,v,hv,rfl):=DK ht;exact(h u hu).mul<|h' v hv
noncomputable def iv(m:Nat)(r:Rat):Int:=r.num * ((m:Int) / (r.den:Int))
noncomputable def cB(ks:Qa Int):D:=.tuple (ks.map PyData.int)
abbrev kL(ks:Qa Int):Qa Key:=ks.map Sum.inl
section
variable{c:α->D}
noncomputable def bf(c:α->D)(p:Pq α):Qa (Qa Key×D):=p.map λt=>(kL t.1,c t.2)
noncomputable def bM(c:α->D)(p:Pq α):Qa (D×D):=p.map λt=>(cB t.1,c t.2)
theorem sN{a b:Qa Int}:kL a=kL b↔a=b:=U0
theorem HP(k:Qa Int):jH (kL k)=cB k:=by
 unfold jH cB kL;rw[List.map_map];rfl
theorem qD(k:Qa Int):cJ (cB k)=some (kL k):=by rw[<-HP,yT]
theorem JN(p:Pq α):(bf c p).map (λp=>(jH p.1,p.2))=bM c p:=by
 unfold bf bM;rw[List.map_map];refine Ö λt _=>?_;show(jH<|kL t.1,c t.2)=_;rw[HP]
theorem Ef{p:Pq α}:U.fz (.t<|bf c p)=some (.dict<|bM c p):=by
 show some (PyData.dict _)=_;rw[JN]
theorem yg(p:Pq α):jF (bM c p)=true:=by
 cases p with
 | nil=>rfl
 | cons t p=>rfl
theorem Uh(p:Pq α)(k:Qa Int):bL (bf c p) (kL k)=(look p k).map c:=by
 unfold bL bf look
 induction p with
 | nil=>rfl
 | cons t p ih=>
  rw[List.map_cons,List.find?_cons,List.find?_cons]
  by_cases h:t.1=k
  .rw[decide_eq_true h,decide_eq_true<|sN.mpr h]; rfl
  .rw[decide_eq_false h,decide_eq_false λz=>h<|sN.mp z]; exact ih
theorem WN(p:Pq α)(k:Qa Int):r9 (bM c p) (kL k)=(look p k).map c:=by
 unfold r9 bM look
 induction p with
 | nil=>rfl
 | cons t p ih=>
  rw[List.map_cons,List.find?_cons,List.find?_cons]
  by_cases h:t.1=k
  .rw[decide_eq_true h,decide_eq_true (show cJ (cB t.1)=some (kL k) by rw[qD,h])]; rfl
  .rw[decide_eq_false h,decide_eq_false (show ¬cJ (cB t.1)=some (kL k) by rw[qD]; exact λz=>h<|sN.mp<|qx z)]; exact ih
theorem Zf{p:Pq α}{k:Qa Int}:gO (.t<|bf c p) (.d<|cB k)=some ((look p k).map c):=by
 show(cJ<|cB k).map _=_;rw[qD,Option.map_some,Uh]
theorem Ze{p:Pq α}{k:Qa Int}:gO (.d<|.dict<|bM c p) (.d<|cB k)=some ((look p k).map c):=by
 show(if jF (bM c p)=true then _ else _)=_;rw[if_pos<|yg p];show(cJ<|cB k).map _=_;rw[qD,Option.map_some,WN]
theorem WM{p:Pq α}:jF (bM c p)=true:=yg p
theorem WL{p:Pq α}:(bM c p).map (λx=>x.1)=p.map λt=>cB t.1:=by
 unfold bM;rw[List.map_map];rfl
theorem Z7{k:Qa Int}:cJ (cB k)=some (kL k):=qD k
theorem P4(p:Pq α)(k:Qa Int)(x:α):cf (bf c p) (kL k) (c x)=bf c (dz p k x):=by
 have any:((bf c p).any λkv=>decide<|kv.1=kL k)=(p.any λt=>decide<|t.1=k):=by
  unfold bf;rw[List.any_map];congr 1
  funext t
  exact decide_eq_decide.mpr sN
 unfold cf dz;rw[any];split
 .unfold bf
  rw[List.map_map,List.map_map];refine Ö λt _=>?_;show(if kL t.1=kL k then _ else _)=(λt:Qa Int×α=>(kL t.1,c t.2)) (if t.1=k then(t.1,x)else t)
  by_cases h:t.1=k
  .rw[if_pos<|sN.mpr h,if_pos h]
  .rw[if_neg λz=>h<|sN.mp z,if_neg h]
 .unfold bf
  rw[List.map_append];rfl
theorem HN(p:Pq α):(bf c p).length=p.length:=List.length_map ..
theorem xm{p:Pq α}{k:Qa Int}{x:α}(h:p.length < 16777216):xH (.t<|bf c p) (cB k) (c x)=some (.t<|bf c<|dz p k x):=by
 show(cJ<|cB k).bind _=_;rw[qD,bd,if_pos (by rw[HN]; exact h),P4]
theorem D4:∀ p:Pq α,pH (bM c p)=some (bf c p)
 | []=>rfl
 | t::p=>by
  show(cJ<|cB t.1).bind _=_;rw[qD,bd];show(pH<|bM c p).bind _=_;rw[D4 p,bd];rfl
theorem J2(p:Pq α):(bf c p).map (·.1)=(p.map (·.1)).map kL:=by
 unfold bf;rw[List.map_map,List.map_map];rfl
def uE(p:Pq α):Prop:=pR ((p.map (·.1)).map kL)=true
theorem zAt{p:Pq α}(h:uE p):sZ (.d<|.dict<|bM c p)=some (.t<|bf c p):=by
 show(if jF (bM c p)=true then _ else _)=_;rw[if_pos<|yg p,D4,bd,if_pos (by rw[J2]; exact h)]
theorem zAu{p:Pq α}(h:uE p):sZ (.t<|bf c p)=some (.t<|bf c p):=by
 show(if _ then _ else _)=_;rw[if_pos (by rw[J2]; exact h)]
end
theorem R6{r:Rat}:aT (.d<|fR r) (.d<|.int 0)=some (.d<|.int r.num):=rfl
theorem R5{r:Rat}:aT (.d<|fR r) (.d<|.int 1)=some (.d<|.int (r.den:Int)):=rfl
theorem HM(r:Rat):(!decide (r.num=0))=decide (r≠0):=by
 rw[Bool.eq_iff_iff,Bool.not_eq_true',decide_eq_false_iff_not,decide_eq_true_iff];exact not_congr Rat.num_eq_zero
theorem J1{f:α->D}{g:β->D}:∀ (as:Qa α) (bs:Qa β),pB (as.map f) (bs.map g)=(as.zip bs).map λt=>.tuple [f t.1,g t.2]
 | [],bs=>by cases bs<;>rfl
 | a::as,[]=>rfl
 | a::as,b::bs=>by rw[List.map_cons,List.map_cons,List.zip_cons_cons,List.map_cons,<-J1 as bs]; rfl
theorem Ki{f:α->D}{ks:Qa Int}(h:as.length=ks.length):ua [.d<|.tuple<|as.map f,.d<|cB ks]=some ((as.zip ks).map λt=>.tuple [f t.1,.int t.2]):=by
 show(if _ then _ else _)=_;rw[if_pos (by rw[List.length_map,List.length_map]; exact h),J1]
theorem KZ{as ks:Qa Int}(h:as.length=ks.length):ua [.d<|cB as,.d<|cB ks]=some ((as.zip ks).map λt=>.tuple [.int t.1,.int t.2]):=Ki (f:=PyData.int) h
theorem sM{g:α->D}{e:α->D}{mg:MG}{mt:MT}{me:ME}{ρ:En}{Q:Qa D×En->Prop}(hz:as.length<=16777216)
  (st:∀ a∈as,∀ ys,Wo (mg (g a) ρ)<|Co mt ⟨0⟩<|tM nt me ys λaf zs=>af=ρ/\zs=ys++[e a]) (q:Q (as.map e,ρ)):Wo (ij nt mg mt me (as.map g) ρ []) Q:=by
 refine HG (b:=λ_=>true) (e:=e) (by rw[ur]; exact hz) (λa ha ys=>?_) ?_
 .simp only[if_true]
  exact st a ha ys
 .rw[show as.filter (λ_=>true)=as from List.filter_eq_self.mpr λ_ _=>rfl]
  exact q
theorem KY(r:Rat):SeqAt.shaped (fR r)=true:=by
 unfold SeqAt.shaped fR;simp[PyData.canLay0,PyData.canLayAll0,PyData.depth,PyData.depthAll]
theorem P2(a b:Rat):PyData.eqv (fR a) (fR b)=decide (a=b):=by
 unfold fR;simp only[PyData.eqv,PyData.eqvAll];rw[Bool.eq_iff_iff,decide_eq_true_iff];constructor
 .intro h
  simp only[Bool.and_eq_true,beq_iff_eq]at h;exact Rat.ext h.1 (by omega)
 .rintro rfl
  simp
theorem DJ{a b:Rat}{neg:Bool}:l8 neg (.d<|fR a) (.d<|fR b)=some (.d<|.bool (if neg=true then !decide (a=b)else decide (a=b))):=by
 show(some<|fR a).bind _=_;rw[bd];show(some<|fR b).bind _=_;rw[bd,if_pos ⟨KY a,KY b⟩,P2]
theorem P1:PyData.tuple [.int 1,.int 1]=fR 1:=rfl
theorem P0{r:Rat}(h1:r.num.natAbs < 10^n)(h2:r.den < 10^n)(h0:0 < n:=by decide)(h3:n<=470:=by decide):fD 1 (2 * (n+1+2)+3) (fR r):=by
 refine p6 (λd hd=>?_)<|qe _;rcases qv.mp hd with rfl|hd
 .exact vd h1 h0 h3
 .rw[qq.mp hd]
  exact vd (by rw[Int.natAbs_natCast]; exact h2) h0 h3
theorem WK{o:Qb Rat}:(Option.map fR o).getD (.tuple [.int 0,.int 1])=fR (o.getD 0):=by cases o<;>rfl
theorem Yu[Mul α](p q:Pq α)(s:Qa Int×α):cS (p++[s]) q=cS p q++q.map λt=>(bZ s.1 t.1,s.2 * t.2):=by
 unfold cS;rw[List.flatMap_append];simp
noncomputable def mon:Qa (Rat×Int)->Rat
 | []=>1
 | t::l=>t.1^t.2.toNat * mon l
noncomputable def mono(pt:Qa Rat)(e:Qa Int):Rat:=mon (pt.zip e)
noncomputable def dO(s:Int)(q:Pq Rat):Pq Rat:=q.map λt=>(t.1,(s:Rat) * t.2)
theorem PY{s:Int}(hs:s=1\/s=-1)(r:Rat):PyData.tuple [.int<|s * r.num,.int (r.den:Int)]=fR ((s:Rat) * r):=by
 rcases hs with rfl|rfl
 .rw[Int.one_mul,show((1:Int):Rat)=1 from rfl,Rat.one_mul]; rfl
 .rw[show((-1:Int):Rat)=-1 from rfl,Rat.neg_mul,Rat.one_mul,Int.neg_mul,Int.one_mul]; rfl
theorem DC{M:Nat}{s:Int}(hs:s=1\/s=-1){q:Pq Rat}(h:PB M B q):PB M B (dO s q):=λt ht=>by
 have(u,hu,rfl):=À.mp ht;rcases hs with rfl|rfl
 .show Bd M B (((1:Int):Rat) * u.2)
  rw[show((1:Int):Rat)=1 from rfl,Rat.one_mul];exact h u hu
 .show Bd M B (((-1:Int):Rat) * u.2)
  rw[show((-1:Int):Rat)=-1 from rfl,Rat.neg_mul,Rat.one_mul];exact(h u hu).neg
theorem Yt{p:Pq α}{k:Qa Int}{x:α}(h:∀ t∈p,t.1≠k):dz p k x=p++[(k,x)]:=by
 unfold dz;rw[if_neg];intro z;have(t,ht,e):=å.mp z;exact h t ht<|of_decide_eq_true e
theorem WJ{bs cs:Pq α}{t:Qa Int×α}(nd:bW (bs++t::cs)):∀ u∈bs,u.1≠t.1:=λu hu e=>by
 unfold bW at nd;rw[List.map_append,List.map_cons]at nd;exact(List.nodup_append.mp nd).2.2 u.1 (À.mpr ⟨u,hu,rfl⟩) t.1 qp e
theorem IX(bs:Pq Rat)(t:Qa Int×Rat):nz (bs++[t])=if t.2=0 then nz bs else nz bs++[t]:=by
 unfold nz;rw[List.filter_append,List.filter_cons]
 by_cases h:t.2=0
 .rw[if_pos h,if_neg (by simp[h])]; simp
 .rw[if_neg h,if_pos (by simp[h])]; rfl
theorem HL{bs cs:Pq Rat}{t:Qa Int×Rat}(nd:bW (bs++t::cs)):dz (nz bs) t.1 t.2=nz bs++[t]:=Yt λu hu=>WJ nd u (Õ.mp hu).1
theorem yf{f:α->β}:∀ {l:Qa α},(l.map f).Nodup->∀ a∈l,∀ b∈l,f a=f b->a=b
 | [],_,a,ha,_,_,_=>by cases ha
 | x::l,nd,a,ha,b,hb,e=>by
  rw[List.map_cons,List.nodup_cons]at nd;rcases qv.mp ha with h1|h1
  .rcases qv.mp hb with h2|h2
   .rw[h1,h2]
   .exact(nd.1<|À.mpr ⟨b,h2,by rw[<-e,h1]⟩).elim
  .rcases qv.mp hb with h2|h2
   .exact(nd.1<|À.mpr ⟨a,h1,by rw[e,h2]⟩).elim
   .exact yf nd.2 a h1 b h2 e
theorem PX{n d:Int}{M:Nat}(hd:0 < d)(h:d∣(M:Int))(h0:0 < M):Bd M (n.natAbs * M) (Rat.divInt n d):=by
 have(c,hc):=h;have c0:0 < c:=by
  rcases(by omega:0 < c\/c<=0)with z|z
  .exact z
  .have:=Int.mul_nonneg (Int.le_of_lt hd) (show 0<=-c by omega)
   rw[Int.mul_neg,<-hc]at this;omega
 have dr:((d:Int):Rat)≠0:=λz=>by
  have:=Rat.intCast_inj.mp (show((d:Int):Rat)=((0:Int):Rat) from z);omega
 refine⟨n * c,?_,?_⟩
 .have e:(M:Rat)=((d:Int):Rat) * ((c:Int):Rat):=by rw[<-Rat.intCast_mul,<-hc,Rat.intCast_natCast]
  rw[e,Rat.divInt_eq_div,Rat.intCast_mul];grind
 .rw[Int.natAbs_mul]
  refine Nat.mul_le_mul_left _ ?_;have:1 * c<=d * c:=Int.mul_le_mul_of_nonneg_right (by omega) (by omega);omega
end L2
namespace L2
open PySem PySem.Spec PyProof.Rows
open PySem.AutoSeq1 (wpAny_loadPart')
theorem ZZ(t:Qg)(items:Array Qc)(n:Nat)(dd:Qb Qg)(sl:Array (Qb Qc))(u:Tok):
  Meets (Builtin.«tuple.__mul__» ⟨[.ref t,.int 1 u],[]⟩) (λ_ R s=>s.heap.get? t=some {cls:=.type "tuple",dict:=dd,data:=.seq items n,slots:=sl}/\R (.ok<|.ret<|.ref t) s):=
 .of_wp λprog w A R s h=>by
  have(hp,g,d,tk,os):=s;have(hl,h):=h
  wp_walk using wpAny_loadPart' hl
  exact⟨_,rfl,h⟩
theorem ZY(t:Qg)(items:Array Qc)(n:Nat)(dd:Qb Qg)(sl:Array (Qb Qc))(x:Int)(u:Tok)(hf:(decide (x < -2^63) || decide (x>=2^63))=false)(h1:(items.isEmpty || x==1)=false)(h0:(decide (x<=0) || items.isEmpty)=true):
  Meets (Builtin.«tuple.__mul__» ⟨[.ref t,.int x u],[]⟩) (λ_ R s=>s.heap.get? t=some {cls:=.type "tuple",dict:=dd,data:=.seq items n,slots:=sl}/\
   R (.ok<|.ret<|.ref s.heap.objs.size) {s with heap:=s.heap.push {cls:=.type "tuple",data:=.seq #[]}}):=
 .of_wp λprog w A R s h=>by
  have(hp,g,d,tk,os):=s;have(hl,h):=h
  wp_walk using wpAny_loadPart' hl
  refine wpAny_ite_false (by rw[hf]; rfl) ?_
  wp_walk using wpAny_loadPart' hl
  exact⟨_,rfl,h⟩
theorem ZX(t:Qg)(items:Array Qc)(n:Nat)(dd:Qb Qg)(sl:Array (Qb Qc))(x:Int)(u:Tok)(hf:(decide (x < -2^63) || decide (x>=2^63))=false)(h1:(items.isEmpty || x==1)=false)(h0:(decide (x<=0) || items.isEmpty)=false)
  (hm:¬((items.size:Int) * x > (2^63 - 1) / 8)) (ht:Builtin.Tuple.tupleTooMany ((items.size:Int) * x)=false) (hz:(List.foldl (λx1 x2=>x1++x2) #[] (List.replicate x.toNat items)).size<=sizeLine):
  Meets (Builtin.«tuple.__mul__» ⟨[.ref t,.int x u],[]⟩) (λ_ R s=>s.heap.get? t=some {cls:=.type "tuple",dict:=dd,data:=.seq items n,slots:=sl}/\
   R (.ok<|.ret<|.ref s.heap.objs.size) {s with heap:=s.heap.push {cls:=.type "tuple",data:=.seq (List.foldl (λx1 x2=>x1++x2) #[] (List.replicate x.toNat items))}}):=
 .of_wp λprog w A R s h=>by
  have(hp,g,d,tk,os):=s;have(hl,h):=h
  wp_walk using wpAny_loadPart' hl
  refine wpAny_ite_false (by rw[hf]; rfl) ?_
  wp_walk using wpAny_loadPart' hl
  refine wpAny_ite_false (decide_eq_false hm) ?_
  wp_walk using wpAny_loadPart' hl
  exact⟨_,rfl,h⟩
theorem zfW:fillsNumberSlot (.type "tuple") "mul"=pure false :=
 PySem.fillsNumberSlot_seq (id := "tuple.__mul__") (r:=some (.builtin "tuple.__rmul__")) F.slot_tuple_mul.lookup (by decide +kernel) F.slot_tuple_rmul.lookup (by decide +kernel)
theorem zjq:seqRepeat? (.type "tuple")=pure (some<|.builtin "tuple.__mul__"):=by
 unfold seqRepeat?;rw[PySem.seqSlot_of (T := "tuple") (name := "__mul__") (id := "tuple.__mul__") F.slot_tuple_mul.lookup (by decide +kernel),PySem.seqSlot_of (T := "tuple") (name := "__rmul__") (id := "tuple.__rmul__") F.slot_tuple_rmul.lookup (by decide +kernel)];rfl
theorem zhz(a:Int)(t:Tok)(l:Qg)(items:Array Qc)(n:Nat)(dd:Qb Qg)(sl:Array (Qb Qc)):
  Meets (Builtin.«int.__rmul__» ⟨[.int a t,.ref l],[]⟩) (λ_ R s=>s.heap.get? l=some {cls:=.type "tuple",dict:=dd,data:=.seq items n,slots:=sl}/\R (.ok<|.ret Value.notImplemented) s):=
 .of_wp λprog w A R s h=>by have(hp,g,d,tk,os):=s; have(hl,h):=h; wp_walk; exact⟨_,rfl,h⟩
section
variable{X:Cx}
noncomputable def G2(K:qc):R2:=λx y H Q=>∃ l k xs,x=.ref l/\y=.int k/\bj K H l xs/\xs≠[]/\k < 1000000/\-1000000 < k/\xs.length * k.toNat<=1000000/\
 ((k=1/\Q x H)\/(k≠1/\∀ p,H p=none->Q (.ref p) (upd H p<|.tup (List.replicate k.toNat xs).flatten)))
theorem DI(K:qc)(hK:X.K=K:=by rfl):bu X (binaryOp .Mult) (G2 K):=by
 subst hK;intro pins s σ H x y v u Q I rx ry h;have(l,k,xs,rfl,rfl,hq,rg,hk,hk0,hz,q):=h;cases rx;have(t,rfl):=ry;have(ai,rv,ht,hzz):=I.tuple hq;obtain⟨⟨c,e8,dt,sl⟩,hl,hc,n,hd⟩:=ht;replace hc:c=.type "tuple":=hc;replace hd:dt=.seq ai.toArray n:=hd;subst hc hd;have lv:=rv.length;have NG:ai.toArray.isEmpty=false:=by
  cases ai with
  | nil=>cases rv; exact absurd rfl rg
  | cons a r=>rfl
 have hf:(decide (k < -2^63) || decide (k>=2^63))=false:=by
  rw[Bool.or_eq_false_iff];exact⟨decide_eq_false (by omega),decide_eq_false (by omega)⟩
 have f0:List.foldl (λx1 x2=>x1++x2) #[] (List.replicate k.toNat ai.toArray)=(List.replicate k.toNat ai).flatten.toArray:=by
  have:=KH ai k.toNat [];rw[List.nil_append]at this;exact this
 have ln:(List.replicate k.toNat xs).flatten.length<=sizeLine:=by
  rw[JA,Nat.mul_comm];have:sizeLine=16777216:=ur;omega
 refine wpAny_binaryOp_repeat_ref (T := "tuple") (U := "int") (by decide) ⟨_,hl,rfl⟩ (λs'=>typeIs_int s' k t) zfW F.fills_int_mul F.slot_int_rmul zjq F.slot_int_index.lookup
  (call_meets F.slot_int_rmul (typeIs_int s k t) F.entry_int_rmul (F.args_int_rmul_2 _ _) (zhz k t l ai.toArray n e8 sl) ⟨hl,rfl,⟨_,hl,rfl⟩,?_⟩)
 rcases q with⟨rfl,q⟩|⟨k1,q⟩
 .exact call_meets F.slot_tuple_mul ⟨_,hl,rfl⟩ F.entry_tuple_mul (F.args_tuple_mul_2 _ _) (ZZ l ai.toArray n e8 sl t) ⟨hl,.ref l,H,I,rfl,q⟩
 .have h1:(ai.toArray.isEmpty || k==1)=false:=by rw[NG,Bool.false_or]; simpa using k1
  by_cases k0:k<=0
  .refine call_meets F.slot_tuple_mul ⟨_,hl,rfl⟩ F.entry_tuple_mul (F.args_tuple_mul_2 _ _) (ZY l ai.toArray n e8 sl k t hf h1 (by rw[decide_eq_true k0]; rfl)) ⟨hl,.ref _,_,I.laid (t':=s.toks) (o:=.tup []) (λ_ _ q=>qd _ q) (qe _) ⟨Ì _,[],.nil,_,qg _ rfl,rfl,⟨_,rfl⟩,.inl rfl⟩,rfl,?_⟩
   have:=q _ I.fresh;rw[show k.toNat=0 by omega]at this;exact this
  .have m63:(ai.toArray.size:Int) * k<=1000000:=by
    have e1:(ai.toArray.size:Int)=(xs.length:Int):=by rw[List.size_toArray,lv]
    have e2:k=(k.toNat:Int):=by omega
    rw[e1,e2,<-Int.natCast_mul];omega
   refine call_meets F.slot_tuple_mul ⟨_,hl,rfl⟩ F.entry_tuple_mul (F.args_tuple_mul_2 _ _) (ZX l ai.toArray n e8 sl k t hf h1 (by rw[decide_eq_false k0,NG]; rfl) (by omega) (decide_eq_false (by rw[show((sizeLine:Nat):Int)=16777216 by rw[ur]; rfl]; omega)) ?_) ⟨hl,.ref _,_,I.laid (t':=s.toks) (o:=.tup (List.replicate k.toNat xs).flatten) (λ_ _ q=>qd _ q) (qe _) ⟨ln,(List.replicate k.toNat ai).flatten,rv.rep k.toNat,_,qg _ rfl,rfl,⟨0,?_⟩,.inl rfl⟩,rfl,q _ I.fresh⟩
   .rw[f0,List.size_toArray,JA,Nat.mul_comm]
    have:sizeLine=16777216:=ur;rw[<-lv];omega
   .show Data.seq (List.foldl (λx1 x2=>x1++x2) #[] (List.replicate k.toNat ai.toArray)) _=_
    rw[f0]
end
noncomputable def pL:U->U->Qb U
 | .d (.tuple xs),.d (.int k)=>if xs≠[]/\k < 1000000/\-1000000 < k/\xs.length * k.toNat<=1000000 then some (.d<|.tuple (List.replicate k.toNat xs).flatten)else none
 | _,_=>none
theorem IW{vs:Qa V}{ds:Qa D}(h:aK K H vs ds):∀ n:Nat,aK K H (List.replicate n vs).flatten (List.replicate n ds).flatten
 | 0=>.nil
 | n+1=>by
  rw[List.replicate_succ,List.replicate_succ,List.flatten_cons,List.flatten_cons];exact h.app<|IW h n
theorem DH:VO K (G2 K) pL:=by
 intro x y a b u H Q ha hb e q;unfold pL at e;split at e
 .split at e
  rotate_left
  .cases e
  rename_i xs k hc;cases e;have(l,vs,rfl,h1,h2):=DF.aB ha;cases DF.int_inv hb;have ln:=h2.len;refine⟨l,k,vs,rfl,rfl,(aP.sq h1),λz=>hc.1<|List.eq_nil_of_length_eq_zero (by rw[<-ln,z]; rfl),hc.2.1,hc.2.2.1,by rw[ln]; exact hc.2.2.2,?_⟩
  by_cases k1:k=1
  .subst k1
   refine .inl ⟨rfl,q _ _ (λ_ _ z=>z) ?_ Nw.data⟩;have e:(List.replicate (1:Int).toNat xs).flatten=xs:=by simp
   rw[e];exact DF.tup h1 h2
  .refine .inr ⟨k1,λp hp=>?_⟩
   have sm:=zM hp (.tup (List.replicate k.toNat vs).flatten);exact q _ _ sm (.tup (.inl zr)<|(IW h2 _).kp sm.kp) Nw.data
 .cases e
theorem Kh{xs:Qa D}{k:Int}(h:0 < xs.length)(h2:k < 1000)(h3:-1000 < k)(h4:xs.length < 1000):pL (.d<|.tuple xs) (.d<|.int k)=some (.d<|.tuple (List.replicate k.toNat xs).flatten):=by
 show(if _ then _ else _)=_;rw[if_pos ⟨λz=>by rw[z]at h; exact Ð _ h,by omega,by omega,qy (ð (Nat.le_of_lt h4) (show k.toNat<=1000 by omega)) (by decide)⟩]
end L2
namespace L2
open PySem PySem.Spec PyProof.Rows
noncomputable def DB(K:qc)(tk tv:TE):TE:=λσ H Q=>∀ p,H p=none->tk σ (upd H p<|.dT []) λx H1=>tv σ H1 λy H2=>H2 p=some (.dT [])/\∃ k b,x=.ref b/\aP K H2 b (k.map kV)/\Q (.ref p) (upd H2 p<|.dT [(k,y)])
theorem WH{X:Cx}{k v:Expr}(hu:X.A.units+1 < cLine)(hk:PE X k tk)(hv:PE X v tv):PE X (.Dict [some k] [v] pos) (DB X.K tk tv):=by
 intro pins s σ H Q I q;have hn:=I.aw.fresh (qe s.heap.objs.size);have I1:=I.laid (a:=s.heap.objs.size) (o:=.dT []) (h':=s.heap.push {cls:=.type "dict",data:=.dict #[]}) (t':=s.toks) (λ_ _ q=>qd _ q) (qe _) (Kt s.heap I.wV);refine wpAny_Dict_any rfl rfl (by simp) (by show 1<=15; decide)<|pairTrees_cons_walk<|aA (hk pins _ σ _ _ I1<|q _ hn) λu s1 ⟨x,H1,I1,rx,q1⟩=>aA (hv pins s1 σ H1 _ I1 q1) λw2 s2 ⟨y,H2,I2,ry,e,ks,b,ex,eb,q2⟩=>pairTrees_nil_walk ?_;subst ex;cases rx;unfold storeAll;rw[List.forIn_cons];have(z,hd,xs,rel,dd):=Hi I2.aW I2.aw e;cases rel;refine qa<|qa<|wpAny_dictSet_heap (hsz:=Ì _) (show X.A.units < cLine from Nat.lt_of_succ_lt hu) (mO I2.aW I2.aw eb) dd λh' kU hs=>qb ?_;dsimp only;rw[List.forIn_nil];refine qb ?_;have(q',es,ep,hq,h2,h3,h4,_,h5):=kU;refine⟨.ref s.heap.objs.size,_,vh (ob:=.dT [(ks,y)]) I2 (by rw[e]; exact True.intro) hs ⟨q',hq⟩ ⟨by show 1<=sizeLine; decide,hd,_,(KT.put (kvs:=[]) .nil ks eb ry).keeps λc ys ec=>?_,q',es,ep,hq,h2,h3,h4,h5⟩,rfl,q2⟩;rw[zt (sA ec e (λz=>nomatch z))];exact ec
theorem DG{X:Cx}{k v:Expr}(hr:aD n X.A)(hk:Wr (PE X k tk))(hv:Wr (PE X v tv)):Wr (PE X (.Dict [some k] [v] pos)<|DB X.K tk tv):=⟨WH (sv hr) hk.run hv.run⟩
section
variable{ρ aj af:En}
theorem Rs.free{p:Qg}{c o:HO}(r:Rs K ρ σ H)(hc:H p=some c)(m:Mo c)(n:¬Ow ρ σ p):Rs K ρ σ (upd H p o):=by
 have kp:=i4 hc m o;refine⟨r.len,λi u e=>?_,r.apart⟩;have(v,ev,q):=r.rep i u e;refine⟨v,ev,q.kp kp λou a c' ea ha=>?_⟩;have ne:a≠p:=by
  rintro rfl;exact n ⟨i,u,e,ou,by rw[ev,ea]⟩
 rw[zt ne];exact ha
theorem Go.free{p:Qg}{c o:HO}(g:Go K ρ σ H af H')(hp:H p=none)(hc:H' p=some c)(m:Mo c)(n:¬Ow af σ p):Go K ρ σ H af (upd H' p o):=by
 refine⟨g.rs.free hc m n,λa ob ha hn=>?_,g.shr,λa ha=>?_⟩
 .have ne:a≠p:=by
   rintro rfl;rw[hp]at ha;cases ha
  rw[zt ne];exact g.fr a ob ha hn
 .by_cases e:a=p
  .subst e
   exact hp
  .rw[zt e]at ha
   exact g.dm a ha
noncomputable def uV(mk mv:ME):ME:=λρ=>(mk ρ).bind λp=>(mv p.2).bind λq=>(p.1.get q.2).bind λk=>(q.1.get q.2).bind λv=>k.da.bind λk=>v.da.bind λv=>(cJ k).bind λk=>some (.u<|.t [(k,v)],q.2)
theorem oz{w:U}{x:D}(h:w.da=some x):w=.d x:=by
 cases w<;>first | (cases h; rfl) | cases h
theorem DE{mk mv:ME}(hk:VE K tk mk)(hv:VE K tv mv):VE K (DB K tk tv) (uV mk mv):=by
 intro ρ σ H a af Q r e q;obtain⟨⟨a1,aj⟩,e1,e⟩:=zb e;obtain⟨⟨b1,au⟩,e2,e⟩:=zb e;have(uk,ek,e):=zb e;have(uv,ev,e):=zb e;have(dk,Gr,e):=zb e;have(dv,Gq,e):=zb e;have(ks,Gn,e):=zb e;cases e;cases oz Gr;cases oz Gq;intro p hp;have sm:=zM hp (.dT []);have g0:=Go.grow r sm;have n0:¬Ow ρ σ p:=λz=>by
  have(c,hc,_):=r.ow z;rw[hp]at hc;cases hc
 refine hk ρ σ (upd H p<|.dT []) a1 aj _ g0.rs e1 λx H1 g1 k1=>hv aj σ H1 b1 _ _ g1.rs e2 λy H2 g2 k2=>?_;have n1:¬Ow aj σ p:=λz=>n0<|g1.shr.ow z;have n2:¬Ow au σ p:=λz=>n1<|g2.shr.ow z;have jd:H2 p=some (.dT []):=g2.fr p _ (g1.fr p _ zr n0) n1;have pk:=k1.later g0.rs g1 g2 ek;have pv:=k2.now g1.rs g2 ev;have(b,rfl,hb):=tm pk Gn;have kp:=i4 jd trivial (.dT [(ks,y)]);refine⟨jd,ks,b,rfl,hb,q _ _ (((g0.trans g1).trans g2).free hp jd trivial n2) ⟨⟨p,[(ks,y)],rfl,zr,.cons ⟨rfl,DF.kp kp pv⟩ .nil⟩,λ_=>⟨p,rfl,hp⟩⟩⟩
end
section
variable{X:Cx}{k:Nat}
end
section
variable{ρ:En}{mk mv:ME}{mA:MA}{f:Qa D->Qa D}{QE:Ar×En->Prop}{QI:Qa D×En->Prop}
theorem Z6:Wo (uV mk mv ρ) QE=Wo (mk ρ) (Co (λp=>(mv p.2).bind λq=>(p.1.get q.2).bind λk=>(q.1.get q.2).bind λv=>k.da.bind λk=>v.da.bind λv=>(cJ k).bind λk=>some (.u<|.t [(k,v)],q.2)) ⟨0⟩ QE):=by
 show Wo (Option.bind _ _) QE=_;rw[zo]
end
end L2
namespace L2
open PySem
noncomputable def ch:Nat->Nat->Nat
 | _,0=>1
 | 0,_+1=>0
 | n+1,k+1=>ch n k+ch n (k+1)
theorem MK{a b:Qa Int}(h:a.length+b.length<=1000):sP (.d<|cB a) (.d<|cB b)=some (.d<|cB<|a++b):=by
 have:=Kj (xs:=a.map PyData.int) (ys:=b.map PyData.int) (by rw[List.length_map,List.length_map]; omega);rw[<-List.map_append]at this;exact this
theorem PV{k:Int}:PyData.tuple [.int k]=cB [k]:=rfl
end L2
namespace L2
open PySem PySem.Spec PyProof.Rows
open PySem.AutoSeq1 (wpAny_loadPart')
open MeetsSeq MeetsSeq2 MeetsSeq3 SeqRoads2
end L2
namespace L2
open PySem PySem.Spec PyProof.Rows
section
variable{l b:Qg}{items fS:Array Qc}{xs ys:Qa Int}
end
section
variable{X:Cx}{k:Nat}
end
section
noncomputable def inD:D->Qb Int
 | .int i=>some i
 | _=>none
theorem IV:∀ {us:Qa V} {ds:Qa D} {bs:Qa Int},aK K H us ds->ds.mapM inD=some bs->us=bs.map V.int
 | _,_,bs,.nil,e=>by cases e; rfl
 | _,_,bs,.cons (d:=d) h t,e=>by
  rw[List.mapM_cons]at e;have(y,e1,e):=zb e;have(gS,e2,e):=zb e;cases e;cases d with
  | int x=>cases e1; cases DF.int_inv h; rw[IV t e2]; rfl
  | _=>cases e1
end
section
variable{X:Cx}{a b c d:Expr}{tc:TE}
end
section
end
section
variable{f f' f'':U->U->Qb U}{ma mb mc md:ME}{ρ:En}{QE:Ar×En->Prop}
end
end L2
namespace HT
open PySem PySem.Spec PyProof.Rows
section
variable{prog:Program} {w:World} {A:Around} {E:Value->Shared->Prop} {s:Shared}
end
end HT
namespace L2
open PySem PySem.Spec PyProof.Rows
section
variable{X:Cx}{st:Expr}{ts:TE}{p2:Pos}
end
section
end
section
end
def G1(K:qc):Qa V->Hp->VK->Prop:=λxs H Q=>∃ (p:Qg) (ns:Qa Int) (m:Int),xs=[.ref p]/\bj K H p (ns.map V.int)/\m∈ns/\(∀ x∈ns,x<=m)/\Q (.int m) H
theorem PR{X:Cx}(K:qc)(hK:X.K=K)(hc:X.calm=true):eE X (.builtin "max") (G1 K):=by
 subst hK;intro pins s σ H xs us Q I r h;have(p,ns,m,rfl,hq,z1,z2,q):=h;have(u,rfl,ru):=jT r;cases ru;have val:∀ {i:Nat} {v:Qc},(∃ x,(ns.map V.int)[i]?=some x/\zD x v)->∃ t,v=.int (ns.getD i 0) t/\ns[i]?=some (ns.getD i 0):=λ{i v} hx=>by
  have(x,ex,rx):=hx;rw[List.getElem?_map]at ex;cases eb:ns[i]? with
  | none=>rw[eb]at ex; cases ex
  | some b=>
   rw[eb]at ex;cases ex;have(t,rfl):=rx;have ew:ns.getD i 0=b:=by rw[qB,eb]; rfl
   exact⟨t,by rw[ew],by rw[ew]⟩
 have h0:0 < ns.length:=List.length_pos_of_mem z1;refine call_max_walk<|Eg I (I.ok.hd hc) (.inr hq) λit fp wr n P St s2 W st A7 hn hP hI=>⟨it,fp,wr,n,P,St,_,rfl,W,st,A7,by rw[hn,List.length_map]; exact h0,CmpOf.ints_gt (λi=>ns.getD i 0) (λi v hv=>let ⟨t,e,_⟩:=val (hP i v hv); ⟨t,e⟩),λv h' tk hv hk=>?_⟩;rw[List.length_map]at hn;have(t,rfl,ei):=val (hP _ v hv);have(b1,b2):=KA (λi=>ns.getD i 0) (n - 1);have e:m=ns.getD (argBest (λi j=>decide<|ns.getD i 0 > ns.getD j 0)<|n - 1) 0:=by
  have le1:=z2 _ (Ç ei);have(k,hk,ek):=List.getElem_of_mem z1;have Fo:=b2 k (by omega);have wN:ns.getD k 0=m:=by rw[qB,qm hk,ek]; rfl
  have Fn:ns.getD k 0<=ns.getD (argBest (λi j=>decide<|ns.getD i 0 > ns.getD j 0)<|n - 1) 0:=Fo;omega
 exact⟨.int m,H,hI h' tk hk,⟨t,by rw[e]⟩,q⟩
section
noncomputable def xM:U->Qb U
 | .d (.tuple [.int i,.int j])=>some<|.d<|.int (if j > i then j else i)
 | _=>none
theorem Ug:VC K (G1 K) (f1 xM):=nP λv a u H Q h e q=>by
 unfold xM at e;split at e
 .rename_i i j
  cases e;have(p,us,rfl,h1,h2):=DF.aB h;cases IV h2 (bs:=[i,j]) rfl;refine⟨p,[i,j],_,rfl,(aP.sq h1),?_,?_,q _ _ (cn.refl H) (DF.int _) Nw.data⟩
  .split<;>simp
  .intro x hx
   simp only[qv,List.not_mem_nil,or_false]at hx;split<;>rcases hx with rfl|rfl<;>omega
 .cases e
end
end L2
namespace L2
open PySem PySem.Calls PySem.Spec PyProof.Rows
section
end
section
end
end L2
namespace L2
open PySem PySem.Spec PyProof.Rows
section
variable{X:Cx}{CX:iU}{k:Nat}{f C:Qg}{dvs:Qa V}{ds:Qa Qc}{E:XK}{m:Str}{es:Qa Expr}{t:TA}
end
section
variable{X:Cx}{k:Nat}{es:Qa Expr}{t:TA}
end
section
end
section
end
section
variable{X:Cx}{k:Nat}
end
section
end
end L2
namespace L2
open PySem
section
variable{mA:MA}{ρ:En}{QI:Qa D×En->Prop}
end
end L2
namespace L2
open PySem PySem.Spec PyProof.Rows
section
variable{EX:e9}
end
section
variable{mg:MG}{mb:MS}{ρ:En}{Q:Fl->Prop}
end
section
variable{X:Cx}{xs:Qa Str}{ts:Qa Str}{fp:Qa Qg}
end
section
variable{ρ af aj:En}{H1:Hp}
noncomputable def wO(nt:Nat)(mg:MG)(mt:MT)(mk mv:ME):Qa D->En->Qa (Qa Key×D)->Qb (Qa (Qa Key×D)×En)
 | [],ρ,ys=>some (ys,ρ)
 | d::ds,ρ,ys=>if ys.length < sizeLine then(mg d ρ).bind λaj=>(mt aj).bind λb=>if b.1=true then(mk b.2).bind λp=>(mv p.2).bind λq=>(p.1.get q.2).bind λuk=>(q.1.get q.2).bind λuv=>uk.da.bind λdk=>uv.da.bind λdv=>(cJ dk).bind λk=>
   wO nt mg mt mk mv ds (reset nt q.2) (cf ys k dv)else wO nt mg mt mk mv ds (reset nt b.2) ys else none
end
section
end
section
variable{X:Cx}
end
section
variable{X:Cx}{C:Qg}{fs:Qa (Str×V)}
end
section
variable{X:Cx}
end
section
variable{X:Cx}{C:Qg}{fl:Qa Str}{k:Nat}{es:Qa Expr}{t:TA}
end
section
variable{n:Str}{C:Qg}{fl:Qa Str}
end
section
variable{X:Cx}
theorem JZ:∀ (ns:Qa Int),aK K H (ns.map V.int)<|ns.map PyData.int
 | []=>.nil
 | n::ns=>.cons (.int n)<|JZ ns
theorem HK{g:Qg}(gt:lV K g ns)(hn:ns≠[]:=by decide):VE K (tC<|.ref g) (mC<|.tuple<|ns.map PyData.int):=by
 intro ρ σ H a af Q rs e q;cases e;have(o,i,n,z1,z2,z3,z4,z5):=gt;refine q _ _ (Go.refl rs) ⟨DF.tup (.inr ⟨o,i,n,z1,z2,z3,z4,z5,?_⟩)<|JZ ns,Nw.data⟩;cases ns with
 | nil=>exact absurd rfl hn
 | cons a r=>exact⟨a,_,rfl⟩
end
section
variable{c:β->D}{mI:MI}{mg:MG}{mt:MT}{mk mv me ma:ME}{mA:MA}{ρ:En}{QE:Ar×En->Prop}{QT:Bool×En->Prop}
def zBo(nt:Nat)(mk mv:ME)(ys:Qa (Qa Key×D))(P:En->Qa (Qa Key×D)->Prop)(p:Bool×En):Prop :=
 if p.1=true then Wo (mk p.2) (Co (λp=>(mv p.2).bind λq=>(p.1.get q.2).bind λuk=>(q.1.get q.2).bind λuv=>uk.da.bind λdk=>uv.da.bind λdv=>(cJ dk).bind λk=>some (reset nt q.2,cf ys k dv)) ⟨0⟩ λz=>P z.1 z.2)else P (reset nt p.2) ys
noncomputable def dcP(l:Pq β):Pq β:=l.foldl (λys t=>dz ys t.1 t.2) []
theorem WG{g:α->D}{b:α->Bool}{k:α->Qa Int}{v:α->β}{Q:Qa (Qa Key×D)×En->Prop}(hz:as.length<=16777216)
  (st:∀ a∈as,∀ ys:Pq β,Wo (mg (g a) ρ)<|Co mt ⟨0⟩<|zBo nt mk mv (bf c ys) λaf zs=>af=ρ/\zs=bf c (if b a=true then dz ys (k a) (v a)else ys))
  (q:Q (bf c<|dcP<|(as.filter b).map λa=>(k a,v a),ρ)):Wo (wO nt mg mt mk mv (as.map g) ρ []) Q:=by
 have main:∀ (es:Qa α) (acc:Pq β),(∀ a∈es,a∈as)->acc.length+es.length<=16777216->Q (bf c<|((es.filter b).map λa=>(k a,v a)).foldl (λys t=>dz ys t.1 t.2) acc,ρ)->Wo (wO nt mg mt mk mv (es.map g) ρ<|bf c acc) Q:=by
  intro es
  induction es with
  | nil=>intro acc _ _ q; exact⟨_,rfl,q⟩
  | cons a es ih=>
   intro acc hm hl q;rw[qu]at hl;obtain⟨aj,e1,⟨bb,au⟩,e2,kk⟩:=st a (hm a qp) acc;rw[List.map_cons];unfold wO;rw[if_pos (by rw[HN]; show _ < 16777216; omega),zo];refine⟨aj,e1,?_⟩;rw[hJ,zo];refine⟨_,e2,?_⟩;rw[hJ];rw[List.filter_cons]at q;have pl:=I9 acc (k a) (v a);cases bb with
   | false=>
    have(e3,e4):=kk;rw[if_neg qf,e3,e4]
    by_cases hb:b a=true
    .rw[if_pos hb]
     rw[if_pos hb]at q;exact ih _ (λx hx=>hm x<|qo _ hx) (by omega) q
    .rw[if_neg hb]
     rw[if_neg hb]at q;exact ih _ (λx hx=>hm x<|qo _ hx) (by omega) q
   | true=>
    rw[if_pos rfl,zo];have(p,e3,kk):=kk;refine⟨p,e3,?_⟩;rw[hJ];have(z,e4,e5,e6):=kk;have(q1,f1,e4):=zb e4;have(uk,f2,e4):=zb e4;have(uv,f3,e4):=zb e4;have(dk,f4,e4):=zb e4;have(dv,f5,e4):=zb e4;have(kk,f6,e4):=zb e4;cases e4;rw[f1,bd,f2,bd,f3,bd,f4,bd,f5,bd,f6,bd];dsimp only at e5 e6;rw[e5,e6]
    by_cases hb:b a=true
    .rw[if_pos hb]
     rw[if_pos hb]at q;exact ih _ (λx hx=>hm x<|qo _ hx) (by omega) q
    .rw[if_neg hb]
     rw[if_neg hb]at q;exact ih _ (λx hx=>hm x<|qo _ hx) (by omega) q
 exact main as [] (λ_ h=>h) (by simpa using hz) q
end
section
variable{X:Cx}{i v f:Expr}{tx:TE}{k:Nat}(K:qc)(hK:X.K=K)
include hK
end
section
end
section
end
section
variable{g:Array GenState}{d:Drawn}{t:Nat}{os:OsState}{items:Array Qc}
end
section
variable{X:Cx}{D:Qg}{xs:Qa V}
end
section
variable{X:Cx}
end
section
end
end L2
namespace L2
open PySem PySem.Calls PySem.Spec PyProof.Rows
abbrev jk:=Qa (Qa Key×Qa Key)
noncomputable def oG(g:jk)(k:Qa Key):Qb (Qa Key):=(g.find? λq=>decide<|q.1=k).map (·.2)
noncomputable def iR(f g:jk):Bool:=(f.length==g.length) && f.all λp=>decide<|oG g p.1=some p.2
theorem Cz{F:α->β->Prop}{l:Qa α}{m:Qa β}(h:Paired F l m):∀ {i:Nat} {x:α},l[i]?=some x->∃ y,m[i]?=some y/\F x y:=by
 induction h with
 | nil=>intro i x e; cases e
 | cons hq t ih=>
  intro i x e;cases i with
  | zero=>cases(show some _=some x from e); exact⟨_,rfl,hq⟩
  | succ i=>exact ih e
theorem ye{F:α->β->Prop}{l:Qa α}{m:Qa β}(h:Paired F l m):l.length=m.length:=by
 induction h with
 | nil=>rfl
 | cons _ _ ih=>simp[ih]
theorem JY{g:jk}(hn:(g.map (·.1)).Nodup){k v:Qa Key}(e:g[j]?=some (k,v)):oG g k=some v:=by
 induction g generalizing j with
 | nil=>cases e
 | cons q r ih=>
  rw[List.map_cons,List.nodup_cons]at hn;cases j with
  | zero=>
   cases(show some q=some (k,v) from e);unfold oG;rw[List.find?_cons,decide_eq_true rfl];rfl
  | succ j=>
   have m:k∈r.map (·.1):=À.mpr ⟨_,Ç (show r[j]?=some (k,v) from e),rfl⟩;have ne:¬q.1=k:=λz=>hn.1<|z▸m;unfold oG;rw[List.find?_cons,decide_eq_false ne];exact ih hn.2 (show r[j]?=some (k,v) from e)
theorem WE{g:jk}{k:Qa Key}(h:∀ (j:Nat) (v:Qa Key),g[j]?≠some (k,v)):oG g k=none:=by
 unfold oG;rw[List.find?_eq_none.mpr]
 .rfl
 .intro q hq z
  have(j,hj):=List.mem_iff_getElem?.mp hq;exact h j q.2 (by rw[hj,<-of_decide_eq_true z])
section
abbrev TK(prog:Qe)(w:Qh):=tupleKind (zC prog w)
def tZ(prog:Qe)(w:Qh)(h:Heap)(xs:Qa (Qa Key×Qg×Qc))(f:jk):Prop:=Paired (λx p=>x.1=p.1/\∃ c,x.2.2=.ref c/\(TK prog w).is h p.2 c) xs f
theorem WD{xs:Qa (Qa Key×Qg×Qc)}{f:jk}(v:tZ prog w h xs f):f.map (·.1)=xs.map (·.1):=by
 induction v with
 | nil=>rfl
 | cons hq _ ih=>rw[List.map_cons,List.map_cons,ih,hq.1]
theorem JX{nm:String}{b:Qg}{oa ob:Obj}{fs:Array DictEntry}{gJ:Nat}{xs:Qa (Qa Key×Qg×Qc)}{f g:jk}{Q:Bool->Qd->Prop}(hu:(TK prog w).room A)(ha:(a==sysModules)=false)(hb:(b==sysModules)=false)
  (lP:s.heap.get? a=some oa) (nE:oa.data=.dict es ep) (nC:s.heap.get? b=some ob) (cK:ob.data=.dict fs gJ) (hx:es.toList=xs.map (entryOfKey<|TK prog w)) (hy:fs.toList=ys.map (entryOfKey<|TK prog w))
  (A0:∀ x∈xs,(TK prog w).is s.heap x.1 x.2.1) (AZ:∀ x∈ys,(TK prog w).is s.heap x.1 x.2.1) (ny:(ys.map (·.1)).Nodup) (vx:tZ prog w s.heap xs f) (vy:tZ prog w s.heap ys g) (h:Q (iR f g) s):
  wpAny (model prog w) A (Builtin.Dict.samePairs nm a b) Q E s:=by
 have sx:es.size=f.length:=(size_of_entries hx).trans (ye vx);have sy:fs.size=g.length:=(size_of_entries hy).trans (ye vy);have ng:(g.map (·.1)).Nodup:=by rw[WD vy]; exact ny
 unfold Builtin.Dict.samePairs Builtin.Dict.showsAll;rw[if_neg (show ¬(a==sysModules)=true by rw[ha]; exact qf),if_neg (show ¬(b==sysModules)=true by rw[hb]; exact qf)];refine qa<|qb<|qa<|qb ?_;refine qa<|wpAny_dictEntries lP nE ?_;dsimp only;refine qa<|wpAny_dictEntries nC cK ?_
 by_cases hsz:es.size=fs.size
 .rw[if_neg (by simpa using hsz)]
  refine qa<|wpAny_dictEpoch lP nE ?_;refine qa ?_;rw[Std.Legacy.Range.forIn_eq_forIn_range'];simp only[Std.Legacy.Range.size,Nat.sub_zero,Nat.add_sub_cancel,Nat.div_one];have hlen:(f.length==g.length)=true:=by rw[<-sx,<-sy,hsz]; exact beq_self_eq_true _
  refine wpAny_forIn_list _ (λrest r s'=>s'=s/\r=(none,())/\∃ i,i<=f.length/\rest=List.range' i (f.length - i)/\∀ j p,j < i->f[j]?=some p->oG g p.1=some p.2) _ ?_ ?_ _ _ ⟨rfl,rfl,0,Ì _,by rw[sx,Nat.sub_zero],λj p hj=>absurd hj<|Nat.not_lt_zero _⟩
  .rintro x rest r s' ⟨rfl,rfl,i,hi,hr,aw⟩
   have lQ:i < f.length:=by
    rcases ä i f.length with z|z
    .exact z
    .rw[Nat.sub_eq_zero_of_le z]at hr; cases hr
   obtain⟨n,hn⟩:∃ n,f.length - i=n+1:=⟨f.length - i - 1,by omega⟩;rw[hn,List.range'_succ]at hr;injection hr with hr1 hr2;subst hr1;obtain⟨⟨k,c,v⟩,tR⟩:∃ y,xs[x]?=some y:=⟨xs[x]'(by rw[ye vx]; exact lQ),qm _⟩;obtain⟨⟨k',kv⟩,hf,e1,cv,e2,hcv⟩:=Cz vx tR;cases(show k=k' from e1);cases(show v=.ref cv from e2);have hex:es[x]?=some ⟨(TK prog w).hash k,.ref c,.ref cv⟩:=by rw[entry_at hx x,tR]; rfl
   refine qa<|wpAny_dictEntries lP nE ?_;rw[hex];dsimp only;have bad:¬oG g k=some kv->Q false s':=λrg=>by
    have:iR f g=false:=by
     unfold iR;rw[hlen,Bool.true_and];exact List.all_eq_false.mpr ⟨_,Ç hf,by rw[decide_eq_false rg]; exact qf⟩
    rw[<-this];exact h
   refine qa<|wpAny_holding<|qa<|wpAny_dictFind_heap hu (A0 _<|Ç tR) nC cK hy AZ ny (λFY=>?_) λj p hj=>?_
   .refine qb ?_
    simp only[Bool.not_false,if_true];refine qb ?_;refine qb<|bad ?_;rw[WE λj v z=>?_]
    .intro z; cases z
    .obtain⟨y,A1,hy2⟩:∃ y,ys[j]?=some y/\y.1=k:=by
      obtain⟨y,A1⟩:∃ y,ys[j]?=some y:=⟨ys[j]'(by rw[ye vy]; exact(qk.mp z).1),qm _⟩;have(q,nA,oX,_):=Cz vy A1;rw[z]at nA;cases nA;exact⟨y,A1,oX⟩
     exact FY j y.2 (by rw[A1,<-hy2])
   .obtain⟨⟨k2,kb⟩,hg,e3,cb,e4,hcb⟩:=Cz vy hj
    have(pa,vb):=p;cases(show k=k2 from e3);cases(show vb=.ref cb from e4);have hfj:fs[j]?=some ⟨(TK prog w).hash k,.ref pa,.ref cb⟩:=by rw[entry_at hy j,hj]; rfl
    refine qa<|wpAny_dictEntries nC cK ?_;rw[hfj];dsimp only;refine wpAny_holding<|(TK prog w).eqBool hu hcv hcb ?_;have va:=JY ng hg
    by_cases q:kv=kb
    .rw[decide_eq_true q]
     simp only[Bool.not_true,Bool.false_eq_true,if_false];refine qa<|wpAny_dictEpoch lP nE ?_;rw[if_neg (by simp)];refine qb ⟨rfl,rfl,x+1,lQ,?_,λj p hj hp=>?_⟩
     .rw[hr2,show f.length - (x+1)=n by omega]
     .rcases ä j x with z|z
      .exact aw j p z hp
      .cases(show j=x by omega)
       rw[hf]at hp;cases hp;rw[q];exact va
    .rw[decide_eq_false q]
     simp only[Bool.not_false,if_true];refine qb ?_;refine qb<|bad ?_;rw[va];intro z;cases z;exact q rfl
  .rintro r s' ⟨rfl,rfl,i,hi,hr,aw⟩
   have hi2:f.length<=i:=by
    rcases ä i f.length with z|z
    .obtain⟨n,hn⟩:∃ n,f.length - i=n+1:=⟨f.length - i - 1,by omega⟩
     rw[hn,List.range'_succ]at hr;cases hr
    .exact z
   have:iR f g=true:=by
    unfold iR;rw[hlen,Bool.true_and];refine Þ.mpr λp hp=>?_;have(j,hj):=List.mem_iff_getElem?.mp hp;exact decide_eq_true<|aw j p (qi (qk.mp hj).1 hi2) hj
   rw[this]at h;exact qb h
 .rw[if_pos (by simpa using hsz)]
  have hbf:iR f g=false:=by
   unfold iR;rw[show(f.length==g.length)=false by rw[<-sx,<-sy]; simpa using hsz,Bool.false_and]
  rw[hbf]at h;exact qa<|wpAny_rule<|qb h
theorem zAw{wanted:Bool}{nm:String}{b:Qg}{xs:Qa (Qa Key×Qg×Qc)}{f g:jk}(FU:(op=.Eq/\wanted=true)\/(op=.NotEq/\wanted=false))(ha:(a==sysModules)=false)(hb:(b==sysModules)=false)
  (da:s.heap.DictOfH (TK prog w) a xs) (db:s.heap.DictOfH (TK prog w) b ys) (vx:tZ prog w s.heap xs f) (vy:tZ prog w s.heap ys g) (hu:A.units+8 < cLine) (h:Q (.bool<|iR f g==wanted) s):
  wpAny (model prog w) A (compareOp op (.ref a)<|.ref b) Q E s:=by
 have(oa,es,ep,lP,ca,nE,hx,A0,nx):=da;have(ob,fs,gJ,nC,cb,cK,hy,AZ,ny):=db;have ta:s.TypeIs (.ref a) "dict":=⟨_,lP,ca.1⟩;have tb:s.TypeIs (.ref b) "dict":=⟨_,nC,cb.1⟩;rcases FU with⟨rfl,rfl⟩|⟨rfl,rfl⟩
 .refine wpAny_richCompare_same_room (op:=.Eq) ta tb PySem.F.slot_dict_eq (wpAny_call_entry PySem.F.slot_dict_eq ta PySem.F.entry_dict_eq ?_<|PySem.F.args_dict_eq_2 _ _) (Ë (Nat.le_add_right _ 8) hu)
  show wpAny _ _ (Builtin.Dict.dictSlotArgs "__eq__" ⟨[.ref a,.ref b],[]⟩ >>= _) _ _ s;refine qa ?_;unfold Builtin.Dict.dictSlotArgs;refine qa<|wpAny_notOrdered_dict ta ?_;show wpAny _ _ (pure (Value.ref a,Value.ref b)) _ _ s;refine qb ?_;refine qa<|wpAny_isInstance (T := "dict") tb PySem.F.sub_dict_dict ?_;simp only[Bool.not_true,Bool.false_eq_true,if_false];refine qa<|qb<|qa<|qb ?_;refine qa<|JX (show _ < cLine from by dsimp only[Around.in1]; omega) ha hb lP nE nC cK hx hy A0 AZ ny vx vy ?_;refine qb ⟨_,rfl,?_,?_⟩
  .exact λx=>nomatch x
  .simpa using h
 .refine wpAny_richCompare_same_room (op:=.NotEq) ta tb PySem.F.slot_dict_ne (wpAny_call_entry PySem.F.slot_dict_ne ta PySem.F.entry_dict_ne ?_<|PySem.F.args_dict_ne_2 _ _) (Ë (Nat.le_add_right _ 8) hu)
  show wpAny _ _ (Builtin.Dict.dictSlotArgs "__ne__" ⟨[.ref a,.ref b],[]⟩ >>= _) _ _ s;refine qa ?_;unfold Builtin.Dict.dictSlotArgs;refine qa<|wpAny_notOrdered_dict ta ?_;show wpAny _ _ (pure (Value.ref a,Value.ref b)) _ _ s;refine qb ?_;refine qa<|wpAny_isInstance (T := "dict") tb PySem.F.sub_dict_dict ?_;simp only[Bool.not_true,Bool.false_eq_true,if_false];refine qa<|qb<|qa<|qb ?_;refine qa<|JX (show _ < cLine from by dsimp only[Around.in1]; omega) ha hb lP nE nC cK hx hy A0 AZ ny vx vy ?_;refine qb ⟨_,rfl,?_,?_⟩
  .exact λx=>nomatch x
  .simpa using h
end
def Bn(K:qc)(H:Hp)(kvs:Qa (Qa Key×V))(f:jk):Prop:=Paired (λp q=>p.1=q.1/\∃ c,p.2=.ref c/\aP K H c (q.2.map kV)) kvs f
theorem DA(cY:K.In h)(ok:bD P w K H h):∀ {kvs:Qa (Qa Key×V)} {xs:Qa (Qa Key×Qg×Qc)} {f:jk},KT K H kvs xs->Bn K H kvs f->tZ P w h xs f
 | _,_,_,.nil,.nil=>.nil
 | _,_,_,.cons hq t,.cons hp u=>by
  have(e1,_,rv):=hq;have(e2,c,e3,tp):=hp;rw[e3]at rv;exact .cons ⟨e1.symm.trans e2,c,rv,mO cY ok tp⟩<|DA cY ok t u
noncomputable def G0(K:qc)(wanted:Bool):R2:=λx y H Q=>∃ a b kvs AV f g,x=.ref a/\y=.ref b/\Rd H a (.dT kvs)/\Rd H b (.dT AV)/\Bn K H kvs f/\Bn K H AV g/\Q (.bl<|iR f g==wanted) H
theorem Ue{X:Cx}{k:Nat}{wanted:Bool}(FU:(op=.Eq/\wanted=true)\/(op=.NotEq/\wanted=false))(K:qc)(hK:X.K=K)(hr:aD k X.A):bu X (compareOp op) (G0 K wanted):=by
 subst hK;intro pins s σ H x y v u Q I rx ry h;have(a,b,kvs,AV,f,g,rfl,rfl,ea,eb,tf,tg,q):=h;cases rx;cases ry;have(_,ya,xs,ra,da):=lr I.aW I.aw ea;have(_,yb,ys,rb,db):=lr I.aW I.aw eb;exact zAw (nm := "") FU ya yb da db (DA I.aW I.aw ra tf) (DA I.aW I.aw rb tg) (by have:=hr.units; omega) ⟨.bl _,H,I,rfl,q⟩
section
noncomputable def rF:U->Qb (Qa<|Qa Key×D)
 | .t kvs=>some kvs
 | .d (.dict ds)=>if jF ds=true then pH ds else none
 | _=>none
noncomputable def oQ:Qa (Qa Key×D)->Qb jk
 | []=>some []
 | (k,d)::r=>(cJ d).bind λv=>(oQ r).bind λr=>some<|(k,v)::r
noncomputable def xK(wanted:Bool)(u v:U):Qb U:=(rF u).bind λa=>(rF v).bind λb=>(oQ a).bind λf=>(oQ b).bind λg=>some<|.d<|.bool<|iR f g==wanted
theorem HJ{u:U}{kvs:Qa (Qa Key×D)}(h:Rp K H v u)(e:rF u=some kvs):∃ a ws,v=.ref a/\Rd H a (.dT ws)/\dn K H ws kvs:=by
 unfold rF at e;split at e
 .cases e
  have(a,ws,rfl,h1,h2):=h;exact⟨a,ws,rfl,.inl h1,h2⟩
 .split at e
  .rename_i nx
   have(a,o,ws,rfl,h1,h2):=DF.cP h nx;exact⟨a,ws,rfl,.inr ⟨o,h1⟩,D8 h2 e⟩
  .cases e
 .cases e
theorem Dz:∀ {ws:Qa (Qa Key×V)} {kvs:Qa (Qa Key×D)} {f:jk},dn K H ws kvs->oQ kvs=some f->Bn K H ws f
 | _,_,f,.nil,e=>by cases e; exact .nil
 | _,(k,d)::r,f,.cons hq t,e=>by
  have(v,ev,e):=zb (show(cJ d).bind _=some f from e);have(r',er,e):=zb e;cases e;have(b,e2,tb):=tm hq.2 ev;exact .cons ⟨hq.1,b,e2,tb⟩<|Dz t er
theorem Ud{wanted:Bool}:VO K (G0 K wanted) (xK wanted):=by
 intro x y a b u H Q ha hb e q;have(k1,e1,e):=zb e;have(k2,e2,e):=zb e;have(f,e3,e):=zb e;have(g,e4,e):=zb e;cases e;have(c,ws,rfl,h1,h2):=HJ ha e1;have(c',ws',rfl,h3,h4):=HJ hb e2;exact⟨c,c',ws,ws',f,g,rfl,rfl,h1,h3,Dz h2 e3,Dz h4 e4,q _ _ (λ_ _ z=>z) (.bl _) Nw.data⟩
end
end L2
namespace L2
open PySem PySem.Spec PyProof.Rows
section
variable{X:Cx}
end
section
end
section
variable{X:Cx}{k:Nat}
end
section
variable{X:Cx}
end
section
end
section
variable{X:Cx}
end
section
end
theorem BJ:∀ {us:Qa α},us.length=1->∃ a,us=[a]
 | [a],_=>⟨a,rfl⟩
theorem MH:∀ {us:Qa α},us.length=2->∃ a b,us=[a,b]
 | [a,b],_=>⟨a,b,rfl⟩
theorem MF:∀ {us:Qa α},us.length=3->∃ a b c,us=[a,b,c]
 | [a,b,c],_=>⟨a,b,c,rfl⟩
theorem MD:∀ {us:Qa α},us.length=4->∃ a b c d,us=[a,b,c,d]
 | [a,b,c,d],_=>⟨a,b,c,d,rfl⟩
theorem zBp:∀ {us:Qa α},us.length=5->∃ a b c d e,us=[a,b,c,d,e]
 | [a,b,c,d,e],_=>⟨a,b,c,d,e,rfl⟩
structure Zs where
 P:Qe
 w:Qh
 K:qc
 mg:Str->Qb Qc
 base:Heap
def dq(K:qc)(x:Str)(st:Stmt):Prop:=∃ (f:Qg) (fd:FuncData),iA K x x st f fd/\PySem.W.nsIn K mainGlobals x=some (some<|.ref f)
theorem fnK{f:Qg}{oc:Qc}{od an:Qb Qg}{kV doc pm aV ct:Qc}(a:PySem.W.nsIn K mainGlobals x=some (some<|.ref f))(l:K.lookup f=some ⟨oc,od,.func<|PySem.W.fnOf x x (lD st) (hU st) (zJ st) .none kV doc pm an aV ct,lJ⟩)
  (c:PySem.W.codeIn K aV x=true) (k:PySem.W.keepIn K (.ref f)=true):dq K x st:=⟨f,_,Du l c k,a⟩
def dH(Z:Zs)(x:Str)(st:Stmt):Prop:=∃ (f:Qg) (fd:FuncData),iA Z.K x x st f fd/\Z.mg x=some (.ref f)
theorem dq.z{base:Heap}(a:dq K x st)(X:K.In h)(G:h.Ns mainGlobals mg):dH ⟨P,w,K,mg,base⟩ x st:=by
 have(f,fd,F,g):=a;exact⟨f,fd,F,PySem.W.mg_of X G g⟩
abbrev Zs.C(Z:Zs)(x:Str)(k:Nat)(ps:Qa Str)(n:Nat)(F:FD):Prop:=GF Z.P Z.w Z.K Z.mg Z.base x k ps (lI Z.K n F)
abbrev Zs.X(Z:Zs)(x:Str)(k:Nat)(ps:Qa Str)(n:Nat)(F:FX):Prop:=GD Z.P Z.w Z.K Z.mg Z.base x k ps (spX Z.K n F)
section
variable{Z:Zs}{k nn:Nat}{m:MS}{f:Qg}
abbrev Cy(Z:Zs)(x:Str)(st:Stmt)(k:Nat)(pn:Qa Nat)(m:MS)(N:Qa Str)(f:Qg):Prop:=∀ {aV:Qc} {A:Qf} {outer:Qa Env} {s:Qd} {H:Hp} {E:XK},N.Nodup->aD k (A.deeper<|envOfC x (zJ st) s.heap.objs.size f aV)->
 ∃ t,VS Z.K pn OD t m/\Wr (dG (lg gN Z.P Z.w Z.K Z.mg Z.base N x (zJ st) f aV A outer s H E).oM (hU st) t)
theorem Np(F:iA Z.K x x st f fd)(N:Qa Str)(bI:Cy Z x st k pn m N f)(S:bo N ps (zJ st):=by exact⟨rfl,rfl,rfl,by decide +kernel,rfl,by decide +kernel,by decide +kernel⟩)(tP:ps.length=n:=by rfl)(hN:N.length=nn:=by rfl)(tQ:n<=nn:=by decide):
  bP Z.P Z.w Z.K Z.mg Z.base gN (k+1) f fd ps (lI Z.K n<|cj nn pn m):=F.Nr S tP hN tQ λaV A outer s H E hr=>let ⟨t,a,b⟩:=bI S.nd hr; ⟨t,b,a⟩
theorem dR(A:dH Z x st)(N:Qa Str)(bI:∀ {f},Cy Z x st k pn m N f)(S:bo N ps (zJ st):=by exact⟨rfl,rfl,rfl,by decide +kernel,rfl,by decide +kernel,by decide +kernel⟩)(tP:ps.length=n:=by rfl)(hN:N.length=nn:=by rfl)(tQ:n<=nn:=by decide)
  (hb:∀ (kV doc pm:Qc) (an:Qb Qg) (aV ct:Qc) (us:Qa Qc),us.length=ps.length->bindArgs (PySem.W.fnOf x x (lD st) (hU st) (zJ st) .none kV doc pm an aV ct) ⟨us,[]⟩=pure (ps.zip us):=by
   intro _ _ _ _ _ _ us hl
   first
   | (have(_,rfl):=BJ hl; rfl)
   | (have(_,_,rfl):=MH hl; rfl)
   | (have(_,_,_,rfl):=MF hl; rfl)
   | (have(_,_,_,_,rfl):=MD hl; rfl)
   | (have(_,_,_,_,_,rfl):=zBp hl; rfl)
   | (cases(List.eq_nil_of_length_eq_zero hl); rfl)):Z.C x (k+1) ps n (cj nn pn m):=
 let ⟨f,fd,F,g⟩:=A; ⟨⟨f,fd,Np F N bI S tP hN tQ,F.binds hb,F.kp,g⟩⟩
end
section
variable{ρ:En}
end
end L2
namespace L2
open PySem
section
variable{a:α}{f:α->Qb β}{R:β->Prop}{t:Ph f}
theorem R4:Wo (some a) (Co f t R)=Wo (f a) R:=zX
theorem R3{x:Fl}{Q:Fl->Prop}{P:En->Prop}:Wo (some x) (nV Q P)=nV Q P x:=zX
end
end L2
namespace L2
open PySem PySem.Spec PyProof.Rows
section
variable{g:Array GenState}{d:Drawn}{t:Nat}{os:OsState}{items:Array Qc}
end
section
variable{X:Cx}{D:Qg}{xs:Qa V}
end
section
variable{X:Cx}
end
end L2
namespace L2
open PySem PySem.Spec
def Tt(b:Bool):Prop:=b=true
theorem R1{b:Bool}(h:b=true):Tt b:=h
noncomputable def tX(ρ:En)(i:Nat):Bool:=((ρ[i]?).join).isSome
noncomputable def gt(ρ:En)(i:Nat):U:=((ρ[i]?).join).getD (.d .none)
theorem zAA{ρ:En}:gt ρ i=((ρ[i]?).join).getD (.d .none):=rfl
theorem zAB{u v:U}:(some u:Qb U).getD v=u:=rfl
theorem IU{ρ:En}(h:tX ρ i=true):(ρ[i]?).join=some (gt ρ i):=by
 unfold tX at h;unfold gt;cases e:(ρ[i]?).join with
 | none=>rw[e]at h; cases h
 | some u=>rfl
noncomputable def rH(ρ:En):Ar->Bool
 | .s i=>tX ρ i
 | .u _=>true
noncomputable def ag(ρ:En):Ar->U
 | .s i=>gt ρ i
 | .u x=>x
theorem zAC{ρ:En}:ag ρ (.s i)=gt ρ i:=rfl
theorem zAD{ρ:En}{x:U}:ag ρ (.u x)=x:=rfl
theorem yG{ρ:En}{a:Ar}(h:rH ρ a=true):a.get ρ=some (ag ρ a):=by
 cases a with
 | s i=>exact IU h
 | u x=>rfl
noncomputable def gs(ρ:En)(as:Qa Ar):Qa U:=as.map (ag ρ)
theorem zAE{ρ:En}:gs ρ []=[]:=rfl
theorem zAF{ρ:En}{a:Ar}{as:Qa Ar}:gs ρ (a::as)=ag ρ a::gs ρ as:=rfl
theorem Dy{ρ:En}:∀ {as:Qa Ar},as.all (rH ρ)=true->bC ρ as=some (gs ρ as)
 | [],_=>rfl
 | a::as,h=>by
  rw[List.all_cons,Bool.and_eq_true_iff]at h;rw[Lu,yG h.1,bd,Dy h.2];rfl
noncomputable def Bo(m:En->Qb α)(ρ:En):Qb α:=m ρ
def Cu(ρ:En)(t:Ph ρ)(Q:Ar×En->Prop)(u:U):Prop:=Q (.u u,ρ)
def Cw(ρ:En)(as:Qa Ar)(t:Ph ρ)(Q:Ar×En->Prop)(o:U×Qa U):Prop:=Q (.u o.1,wb ρ as o.2)
noncomputable def Fq(f:U->Qb U)(p:Ar×En):Qb (Ar×En):=(p.1.get p.2).bind λx=>(f x).bind λu=>some (.u u,p.2)
noncomputable def GZ(mA:MA)(p:Ar×En):Qb (Qa Ar×En):=(mA p.2).bind λq=>some (p.1::q.1,q.2)
noncomputable def HI(a:Ar)(q:Qa Ar×En):Qb (Qa Ar×En):=some (a::q.1,q.2)
noncomputable def Fu(f:Qa U->Qb U)(p:Qa Ar×En):Qb (Ar×En):=(bC p.2 p.1).bind λus=>(f us).bind λu=>some (.u u,p.2)
noncomputable def xl(f:FD)(p:Qa Ar×En):Qb (Ar×En):=if fj p.2 p.1=true then(bC p.2 p.1).bind λus=>(f us).bind λo=>some (.u o.1,wb p.2 p.1 o.2)else none
noncomputable def BI(i:Nat)(p:Ar×En):Qb Fl:=(put p).bind λq=>some<|.nx<|q.2.set i<|some q.1
noncomputable def kB(p:Ar×En):Qb (Bool×En):=(p.1.get p.2).bind λu=>u.rG.bind λb=>some (b,p.2)
noncomputable def AW(m1 m2:MS)(p:Bool×En):Qb Fl:=if p.1=true then m1 p.2 else m2 p.2
noncomputable def Cv(p:Ar×En):Qb Fl:=some (.nx p.2)
section
variable{γ:Type}{ρ:En}{ma mb me:ME}{mA:MA}{mt:MT}{m1 m2:MS}{u x y:U}{d:D}{a b:Ar}{as:Qa Ar}{f:U->Qb U}{f2:U->U->Qb U}{fl:Qa U->Qb U}{F:FD}
variable{QE:Ar×En->Prop}{QA:Qa Ar×En->Prop}{QT:Bool×En->Prop}{QS:Fl->Prop}
theorem R0{m:En->Qb α}{Q:α->Prop}:Wo (Bo m ρ) Q=Wo (m ρ) Q:=rfl
theorem RZ{g:Ar×En->Qb β}{t:Ph ρ}{t2:Ph g}{R:β->Prop}:Cu ρ t (Co g t2 R) u=Wo (g (.u u,ρ)) R:=rfl
theorem WC{g:Ar×En->Qb β}{t:Ph g}{R:β->Prop}(h:Tt (tX ρ i)):Wo (zj i ρ) (Co g t R)=Wo (g (.s i,ρ)) R:=by
 rw[JM,IU h,zX,hJ,zX];rfl
theorem zAG{g:Ar×En->Qb β}{t:Ph g}{R:β->Prop}:Wo (mC d ρ) (Co g t R)=Wo (g (.u<|.d d,ρ)) R:=GQ
theorem Zd(h:Tt (rH ρ a && rH ρ b)):Wo (xa f2 a (b,ρ)) QE=Wo (f2 (ag ρ a)<|ag ρ b) (Cu ρ ⟨0⟩ QE):=by
 have(h1,h2):=ó.mp h;unfold xa;rw[yG h1,bd,yG h2,bd,zo];exact congrArg (Wo _)<|funext λ_=>zX
theorem RY:Wo (eJ f ma ρ) QE=Wo (ma ρ) (Co (Fq f) ⟨0⟩ QE):=zAp
theorem WB(h:Tt (rH ρ a)):Wo (Fq f (a,ρ)) QE=Wo (f<|ag ρ a) (Cu ρ ⟨0⟩ QE):=by
 unfold Fq;rw[yG h,bd,zo];exact congrArg (Wo _)<|funext λ_=>zX
theorem Zc:Wo (zf me mA ρ) QA=Wo (me ρ) (Co (GZ mA) ⟨0⟩ QA):=TJ
theorem zk0:Wo (GZ mA (a,ρ)) QA=Wo (mA ρ) (Co (HI a) ⟨0⟩ QA):=zo
theorem ziB{g:Qa Ar×En->Qb β}{t:Ph g}{R:β->Prop}:Wo (HI a (as,ρ)) (Co g t R)=Wo (g (a::as,ρ)) R:=zX
theorem WA{g:Qa Ar×En->Qb β}{t:Ph g}{R:β->Prop}:Wo (zq ρ) (Co g t R)=Wo (g ([],ρ)) R:=JL
theorem RW:Wo (bA fl mA ρ) QE=Wo (mA ρ) (Co (Fu fl) ⟨0⟩ QE):=zAq
theorem Wz(h:Tt (as.all<|rH ρ)):Wo (Fu fl (as,ρ)) QE=Wo (fl<|gs ρ as) (Cu ρ ⟨0⟩ QE):=by
 unfold Fu;rw[Dy h,bd,zo];exact congrArg (Wo _)<|funext λ_=>zX
theorem Wx:Wo (aS F mA ρ) QE=Wo (mA ρ) (Co (xl F) ⟨0⟩ QE):=Ql
theorem Zb(h:Tt (fj ρ as && as.all (rH ρ))):Wo (xl F (as,ρ)) QE=Wo (F<|gs ρ as) (Cw ρ as ⟨0⟩ QE):=by
 have(h1,h2):=ó.mp h;unfold xl;rw[if_pos h1,Dy h2,bd,zo];exact congrArg (Wo _)<|funext λ_=>zX
theorem RU{us:Qa U}{g:Ar×En->Qb β}{t:Ph ρ}{t2:Ph g}{R:β->Prop}:Cw ρ as t (Co g t2 R) (u,us)=Wo (g (.u u,wb ρ as us)) R:=rfl
theorem WY:Wo (aR i me ρ) QS=Wo (me ρ) (Co (BI i) ⟨0⟩ QS):=Qk
theorem Za{t:Ph (k6 m2)}:Wo (BI i (.u u,ρ)) (Co (k6 m2) t QS)=Wo (Bo m2<|ρ.set i<|some u) QS:=zX
theorem zAH:Wo (mB me ρ) QT=Wo (me ρ) (Co kB ⟨0⟩ QT):=zBn
theorem RT{c:Bool}{g:Bool×En->Qb β}{t:Ph g}{R:β->Prop}:Wo (kB (.u<|.d<|.bool c,ρ)) (Co g t R)=Wo (g (c,ρ)) R:=zX
theorem WX:Wo (bt mt m1 m2 ρ) QS=Wo (mt ρ) (Co (AW m1 m2) ⟨0⟩ QS):=Qj
theorem WV:Wo (AW m1 m2 (true,ρ)) QS=Wo (m1 ρ) QS:=rfl
theorem WU:Wo (AW m1 m2 (false,ρ)) QS=Wo (m2 ρ) QS:=rfl
theorem Y9:Wo (gq me ρ) QS=Wo (me ρ) (Co Cv ⟨0⟩ QS):=TH
theorem zk1{t:Ph (k6 m2)}:Wo (Cv (a,ρ)) (Co (k6 m2) t QS)=Wo (Bo m2 ρ) QS:=zX
theorem Y8{t:Ph (k6 m2)}:Wo (bF ρ) (Co (k6 m2) t QS)=Wo (Bo m2 ρ) QS:=Kk
theorem Y7{p:Qa Ar×En}:xl F p=if fj p.2 p.1=true then(bC p.2 p.1).bind λus=>(F us).bind λo=>some (.u o.1,wb p.2 p.1 o.2)else none:=rfl
theorem Y6{p:Ar×En}:BI i p=(put p).bind λq=>some (.nx<|q.2.set i<|some q.1):=rfl
theorem RS{p:Ar×En}:kB p=(p.1.get p.2).bind λu=>u.rG.bind λb=>some (b,p.2):=rfl
theorem WT{p:Bool×En}:AW m1 m2 p=if p.1=true then m1 p.2 else m2 p.2:=rfl
theorem zk2{p:Ar×En}:Cv p=some (.nx p.2):=rfl
end
end L2
namespace L2
open PySem PySem.Spec PyProof.Rows
section
end
theorem IT{X:Cx}{k v:Expr}(hk:Wr (PE X k tk))(hv:Wr (PE X v tv)):Wr (PE X (.Dict [some k] [v] pos)<|CP [(tk,tv)]):=⟨U9 (XS hk.run hv.run Va) rfl rfl (by simp) (by show 1<=15; decide)⟩
noncomputable def yc(mk mv:ME):ME:=λρ=>(mk ρ).bind λp=>(mv p.2).bind λq=>(p.1.get q.2).bind λk=>(q.1.get q.2).bind λv=>k.da.bind λk=>v.da.bind λv=>(jt k).bind λk=>some (.u<|.k [(k,v)],q.2)
section
theorem IS{mk mv:ME}(hk:VE K tk mk)(hv:VE K tv mv):VE K (CP [(tk,tv)]) (yc mk mv):=by
 intro ρ σ H a af Q r e q;obtain⟨⟨a1,aj⟩,e1,e⟩:=zb e;obtain⟨⟨b1,au⟩,e2,e⟩:=zb e;have(uk,ek,e):=zb e;have(uv,ev,e):=zb e;have(dk,Gr,e):=zb e;have(dv,Gq,e):=zb e;have(ks,Gn,e):=zb e;cases e;cases oz Gr;cases oz Gq;intro p hp;have sm:=zM hp (.dK []);have g0:=Go.grow r sm;have n0:¬Ow ρ σ p:=λz=>by
  have(c,hc,_):=r.ow z;rw[hp]at hc;cases hc
 refine hk ρ σ (upd H p<|.dK []) a1 aj _ g0.rs e1 λx H1 g1 k1=>hv aj σ H1 b1 _ _ g1.rs e2 λy H2 g2 k2=>?_;have n1:¬Ow aj σ p:=λz=>n0<|g1.shr.ow z;have n2:¬Ow au σ p:=λz=>n1<|g2.shr.ow z;have jd:H2 p=some (.dK []):=g2.fr p _ (g1.fr p _ zr n0) n1;have pk:=k1.later g0.rs g1 g2 ek;have pv:=k2.now g1.rs g2 ev;cases yw pk Gn;have kp:=i4 jd trivial (.dK [(ks,y)]);refine⟨jd,[(ks,y)],rfl,by show 1<=15; decide,q _ _ (((g0.trans g1).trans g2).free hp jd trivial n2) ⟨⟨p,[(ks,y)],rfl,zr,.cons ⟨rfl,DF.kp kp pv⟩ .nil⟩,λ_=>⟨p,rfl,hp⟩⟩⟩
end
section
variable{ρ:En}{mk mv:ME}{QE:Ar×En->Prop}
theorem Kg:Wo (yc mk mv ρ) QE=Wo (mk ρ) (Co (λp=>(mv p.2).bind λq=>(p.1.get q.2).bind λk=>(q.1.get q.2).bind λv=>k.da.bind λk=>v.da.bind λv=>(jt k).bind λk=>some (.u<|.k [(k,v)],q.2)) ⟨0⟩ QE):=by
 show Wo (Option.bind _ _) QE=_;rw[zo]
end
section
variable{K:Type}[DecidableEq K]{knd:HeapKind prog w K}
end
section
variable{X:Cx}{b:Qg}
end
section
variable{EX:e9}
end
section
variable{ρ:En}{my:ME}{QS:Fl->Prop}
end
section
theorem aP.obj{vs:Qa V}(cY:K.In h)(ok:bD P w K H h)(e:aP K H a vs):∃ o items n,h.get? a=some o/\o.cls=.type "tuple"/\o.data=.seq items n/\zF vs items.toList:=by
 rcases e with e|⟨o,ai,n,hk,hc,hs,_,r,_⟩
 case inr=>exact⟨o,ai,n,cY a o hk,hc,hs,r⟩
 obtain⟨_,ai,r,o,h1,h2,⟨n,h3⟩,_⟩:=(show zI P w K H h a (.tup vs) from ok a _ e);exact⟨o,ai.toArray,n,h1,h2,h3,by simpa using r⟩
theorem M3:∀ {ks:Qa Key} {us:Qa Qc},zF (ks.map kV) us->aO (FA P w) h ks us
 | [],_,r=>by rw[List.map_nil]at r; cases r; exact .nil
 | k::ks,_,r=>by
  rw[List.map_cons]at r;cases r with
  | cons h t=>exact .cons (mL h)<|M3 t
theorem N0.is(cY:K.In h)(ok:bD P w K H h)(e:N0 K H ks a):eC (FA P w) h ks a:=by
 have(o,ai,n,h1,h2,h3,r):=aP.obj cY ok e;exact⟨o,ai,n,h1,h2,h3,M3 r⟩
theorem M0[DecidableEq J]{I:IK P w J}{R:Qa J->Qg->Prop}(hR:∀ ks b,R ks b->eC I h ks b):∀ {xs:Qa (Key ⊕ Qa J)} {vs:Qa V} {us:Qa Qc},Paired (NI R) xs vs->zF vs us->aO (wd I) h xs us
 | [],_,_,p,r=>by cases p; cases r; exact .nil
 | x::xs,_,_,p,r=>by
  cases p with
  | @cons _ v _ vs' hx t=>
   cases r with
   | cons rv rt=>
    refine .cons ?_<|M0 hR t rt;cases x with
    | inl k=>cases(show v=kV k from hx); exact mL rv
    | inr ks=>
     have(b,rfl,hb):=(show ∃ b,v=.ref b/\R ks b from hx);cases rv;exact⟨b,rfl,hR ks b hb⟩
theorem iz.is[DecidableEq J]{I:IK P w J}{R:Qa J->Qg->Prop}{xs:Qa (Key ⊕ Qa J)}(cY:K.In h)(ok:bD P w K H h)(hR:∀ ks b,R ks b->eC I h ks b)(e:iz K H R xs a):eC (wd I) h xs a:=by
 have(vs,e1,e2):=e;have(o,ai,n,h1,h2,h3,r):=aP.obj cY ok e1;exact⟨o,ai,n,h1,h2,h3,M0 hR e2 r⟩
theorem N3.is{xs:Qa K3}(cY:K.In h)(ok:bD P w K H h)(e:N3 K H xs a):(uL P w).is h xs a :=
 iz.is cY ok (λ_ _ e=>iz.is cY ok (λ_ _ e=>iz.is cY ok (λ_ _ e=>N0.is cY ok e) e) e) e
end
abbrev KX(K:qc)(H:Hp):Qa (Qa K3×V)->Qa (Qa K3×Qg×Qc)->Prop:=Paired λp q=>p.1=q.1/\N3 K H p.1 q.2.1/\zD p.2 q.2.2
section
variable{kvs:Qa (Qa K3×V)}{xs:Qa (Qa K3×Qg×Qc)}
theorem KX.val(r:KX K H kvs xs)(k:Qa K3):ff (fm kvs k) ((atKey xs k).map (·.2)):=by
 induction r with
 | nil=>exact True.intro
 | @cons p q ps qs h t ih=>
  have(h1,_,h2):=h
  by_cases e:p.1=k
  .have e':q.1=k:=h1.symm.trans e
   have b:atKey (q::qs) k=some q.2:=by simp[atKey,List.find?_cons,e']
   rw[Aa e,b]; exact h2
  .have e':¬q.1=k:=λz=>e<|h1.trans z
   have b:atKey (q::qs) k=atKey qs k:=by simp[atKey,List.find?_cons,e']
   rw[y9 e,b]; exact ih
theorem KX.h9(r:KX K H kvs xs)(k:Qa K3)(ry:zD y u):
  KX K H (kvs.map λkv=>if kv.1=k then(kv.1,y)else kv) (xs.map<|putAt k u):=by
 induction r with
 | nil=>exact .nil
 | @cons p q ps qs h t ih=>
  rw[List.map_cons,List.map_cons];refine .cons ?_ ih;have(h1,h2,h3):=h;unfold putAt
  by_cases e:p.1=k
  .rw[if_pos e,if_pos<|h1.symm.trans e]; exact⟨h1,h2,ry⟩
  .rw[if_neg e,if_neg λz=>e<|h1.trans z]; exact⟨h1,h2,h3⟩
theorem KX.put(r:KX K H kvs xs)(k:Qa K3){b:Qg}(hb:N3 K H k b)(ry:zD y u):KX K H (dA kvs k y) (storedH xs k b u):=by
 have e:(kvs.any λkv=>decide<|kv.1=k)=(atKey xs k).isSome:=by
  rw[Ee,(r.val k).bH,Option.isSome_map]
 unfold dA storedH;rw[e]
 by_cases q:(atKey xs k).isSome=true
 .rw[if_pos q,if_pos q]; exact r.h9 k ry
 .rw[if_neg q,if_neg q]; exact Paired.snoc r ⟨rfl,hb,ry⟩
theorem KX.keeps(r:KX K H kvs xs)(ht:∀ b ys,H b=some (.tup ys)->H' b=some (.tup ys)):KX K H' kvs xs:=Paired.gF r λ_ _ z=>⟨z.1,z.2.1.keeps ht,z.2.2⟩
end
theorem xJ{kvs:Qa (Qa K3×V)}(cY:K.In h)(ok:bD P w K H h)(e:H a=some (.dX kvs)):kvs.length<=sizeLine/\(a==sysModules)=false/\
  ∃ xs,KX K H kvs xs/\h.DictOfH (uL P w) a xs:=by
 have(z,y,xs,r,o,es,ep,h1,h2,h3,h4,h5):=(show zI P w K H h a (.dX kvs) from ok a _ e);refine⟨z,y,xs,r,o,es,ep,h1,h2,h3,h4,λx hx=>?_,h5⟩;have all:∀ {l:Qa (Qa K3×V)} {m:Qa (Qa K3×Qg×Qc)},KX K H l m->∀ x∈m,(uL P w).is h x.1 x.2.1:=by
  intro l m q
  induction q with
  | nil=>intro x hx; exact nomatch hx
  | @cons p q ps qs hq t ih=>
   intro x hx;rcases qv.mp hx with e|hx
   .subst e
    exact N3.is cY ok (by rw[<-hq.1]; exact hq.2.1)
   .exact ih x hx
 exact all r x hx
theorem Dg(hu:A.units+5 < cLine):(uL P w).room A.in1:=by
 show A.units+1+(3+1) < cLine;omega
def Bw(K:qc)(H:Hp)(a:Qg)(y:V)(r:Qb V):Prop:=∃ kvs k b,H a=some (.dX kvs)/\y=.ref b/\N3 K H k b/\r=fm kvs k
def OE(K:qc)(H:Hp)(a:Qg)(y v:V)(H':Hp):Prop:=∃ kvs k b,H a=some (.dX kvs)/\y=.ref b/\N3 K H k b/\kvs.length < sizeLine/\H'=upd H a (.dX<|dA kvs k v)
section
variable{X:Cx}{o:Qb V}{r:Qc}
theorem YS(hu:A.units+5 < cLine)(I:Inv X pins σ H s)(g:Bw X.K H a y (some v))(ry:zD y u)(h:∀ w' s',Inv X pins σ H s'->zD v w'->Q w' s'):
  wpAny (model X.prog X.w) A (getItem (.ref a) u) Q E s:=by
 have(kvs,k,b,e,rfl,eb,l):=g;cases(show u=Value.ref b from ry);have(z,hd,xs,rel,dd):=xJ I.aW I.aw e;have(w',hw,fM):=ff.some_of (v:=v) (o:=(atKey xs k).map (·.2)) (by rw[l]; exact rel.val k);have(p,hp,jd):=qr.mp hw;refine wpAny_getItem_heap (Dg hu) (N3.is I.aW I.aw eb) dd hp ?_;rw[jd];exact h w' _ (I.tok _) fM
theorem Uc(hu:A.units+5 < cLine)(I:Inv X pins σ H s)(g:Bw X.K H a y o)(ry:zD y u)(h:∀ s',Inv X pins σ H s'->Q (.bool (!o.isSome)) s'):
  wpAny (model X.prog X.w) A (compareOp .NotIn u<|.ref a) Q E s:=by
 have(kvs,k,b,e,rfl,eb,l):=g;cases(show u=Value.ref b from ry);have(z,hd,xs,rel,dd):=xJ I.aW I.aw e;refine wpAny_notIn_heap (Dg hu) (N3.is I.aW I.aw eb) hd dd ?_;have q:=(rel.val k).bH;rw[Option.isSome_map]at q;rw[<-q,<-l];exact h _<|I.tok _
theorem YR{Q:Unit->Qd->Prop}(hu:A.units+5 < cLine)(I:Inv X pins σ H s)(g:OE X.K H a y v H')(ry:zD y u)(rv:zD v r)(h:∀ s',Inv X pins σ H' s'->Q () s'):
  wpAny (model X.prog X.w) A (setItem (.ref a) u r) Q E s:=by
 have(kvs,k,b,e,rfl,eb,l,rfl):=g;cases(show u=Value.ref b from ry);have(z,hd,xs,rel,dd):=xJ I.aW I.aw e;have hz:xs.length<=sizeLine:=by rw[<-Paired.length rel]; exact z
 have hl:(dA kvs k v).length<=sizeLine:=by have:=An kvs k v; omega
 refine wpAny_setItem_heap (hsz:=hz) (Dg hu) (N3.is I.aW I.aw eb) dd λh' kU hs=>h _ ?_;have(q,es,ep,hq,h2,h3,h4,_,h5):=kU;refine vh I (by rw[e]; exact True.intro) hs ⟨q,hq⟩ ⟨hl,hd,_,(rel.put k eb rv).keeps λc ys ec=>?_,q,es,ep,hq,h2,h3,h4,h5⟩;rw[zt (sA ec e (λz=>nomatch z))];exact ec
end
structure Re (K:qc) (H H':Hp):Prop where
 aw:∀ (P:Qe) (w:Qh) (h:Heap),bD P w K H h->bD P w K H' h
 aI:∀ b,H b=none->H' b=none
 tup:∀ b xs,H b=some (.tup xs)->H' b=some (.tup xs)
 bg:∀ b o u,H b=some (.bg o u)->H' b=some (.bg o u)
 jC:∀ b ps,H b=some (.jC ps)->H' b=some (.jC ps)
theorem Re.refl(K:qc)(H:Hp):Re K H H:=⟨λ_ _ _ h=>h,λ_ h=>h,λ_ _ h=>h,λ_ _ _ h=>h,λ_ _ h=>h⟩
theorem Inv.re{X:Cx}(I:Inv X pins σ H s)(r:Re X.K H H'):Inv X pins σ H' s :=
 I.un (h':=s.heap) (t':=s.toks) ⟨λ_ _ e _ _ _=>e,λ_ o e _ _ _=>⟨o.slots,e⟩,λb _ _ e _=>r.aI b e,λ_ o e _=>⟨o,e⟩,r.tup,r.bg,λb ps e=>⟨#[],by rw[r.jC b ps e]; simp⟩⟩ (r.aw _ _ _ I.aw)
noncomputable def ET(K:qc)(t:TE):TE:=λσ H Q=>∃ H1,Re K H H1/\t σ H1 λv H2=>∃ H3,Re K H2 H3/\Q v H3
noncomputable def xk(K:qc)(t:TT):TT:=λσ H Q=>∃ H1,Re K H H1/\t σ H1 λv H2=>∃ H3,Re K H2 H3/\Q v H3
theorem BH{X:Cx}{t:TE}(h:Wr (PE X e t)):Wr (PE X e<|ET X.K t):=⟨λpins s σ H Q I q=>by
 have(H1,r1,q):=q;refine aA (h.run pins s σ H1 _ (I.re r1) q) λu s1 z=>?_;have(v,H2,I2,rv,H3,r3,z):=z;exact⟨v,H3,I2.re r3,rv,z⟩⟩
theorem zAK{X:Cx}{t:TT}(h:Wr (PT X e t)):Wr (PT X e<|xk X.K t):=⟨λpins s σ H Q I q=>by
 have(H1,r1,q):=q;refine aA (h.run pins s σ H1 _ (I.re r1) q) λu s1 z=>?_;have(H2,I2,H3,r3,z):=z;exact⟨H3,I2.re r3,z⟩⟩
noncomputable def BG(ps:Qa (Qg×HO))(H:Hp):Hp:=λb=>((ps.find? λq=>decide<|q.1=b).map (·.2)).or<|H b
noncomputable def bQ(H:Hp)(a C dx:Qg)(vs:Qa (Str×V))(ps:Qa (Qg×HO)):Hp:=upd (BG ps H) a (.ins C dx vs)
noncomputable def BF(a:Qg)(ps:Qa (Qg×HO))(H:Hp):Hp:=λb=>if(ps.any λq=>decide<|q.1=b)=true then some (.own a)else H b
noncomputable def fL(H:Hp)(a C dx:Qg)(vs:Qa (Str×V))(ps:Qa (Qg×HO)):Hp:=upd (BF a ps H) a (dF C dx vs ps)
section
variable{C:Qg}{ps:Qa (Qg×HO)}
theorem HS:∀ {ps:Qa (Qg×HO)},zI P w K H h a (dF C dx vs ps)->zI P w K H h a (.ins C dx vs)/\∀ q∈ps,H q.1=some (.own a)/\q.1≠a/\q.2.flat=true/\zI P w K H h q.1 q.2
 | [],x=>⟨x,λq hq=>by cases hq⟩
 | (b,p)::ps,x=>by
  have(y,e,n,f,o):=(show zI P w K H h a (.sub b p<|dF C dx vs ps) from x);have(z,t):=HS y;refine⟨z,λq hq=>?_⟩;rcases qv.mp hq with rfl|hq
  .exact⟨e,n,f,o⟩
  .exact t q hq
theorem HR:∀ {ps:Qa (Qg×HO)},zI P w K H h a (.ins C dx vs)->(∀ q∈ps,H q.1=some (.own a)/\q.1≠a/\q.2.flat=true/\zI P w K H h q.1 q.2)->zI P w K H h a (dF C dx vs ps)
 | [],x,_=>x
 | (b,p)::ps,x,t=>by
  have(e,n,f,o):=t (b,p) qp;exact⟨HR x λq hq=>t q<|qo _ hq,e,n,f,o⟩
theorem Ub{b:Qg}{p:HO}(nd:(ps.map (·.1)).Nodup)(h:(b,p)∈ps):(ps.find? λq=>decide<|q.1=b)=some (b,p):=by
 induction ps with
 | nil=>cases h
 | cons q ps ih=>
  rw[List.map_cons,List.nodup_cons]at nd;rcases qv.mp h with rfl|h
  .rw[List.find?_cons_of_pos (by simp)]
  .rw[List.find?_cons_of_neg (by
    have:q.1≠b:=λe=>nd.1<|e▸List.mem_map.mpr ⟨(b,p),h,rfl⟩;simpa using this)]
   exact ih nd.2 h
theorem pQ{b:Qg}{p:HO}(nd:(ps.map (·.1)).Nodup)(h:(b,p)∈ps)(n:b≠a):bQ H a C dx vs ps b=some p:=by
 unfold bQ;rw[zt n];unfold BG;rw[Ub nd h];rfl
theorem mU:bQ H a C dx vs ps a=some (.ins C dx vs):=zr
theorem mT{b:Qg}(h:b∉ps.map (·.1))(n:b≠a):bQ H a C dx vs ps b=H b:=by
 unfold bQ;rw[zt n];unfold BG;rw[List.find?_eq_none.mpr λq hq=>by
  have:q.1≠b:=λe=>h<|e▸List.mem_map.mpr ⟨q,hq,rfl⟩;simpa using this]
 rfl
theorem sL{b:Qg}(h:b∈ps.map (·.1))(n:b≠a):fL H a C dx vs ps b=some (.own a):=by
 unfold fL;rw[zt n];unfold BF;have(q,hq,e):=À.mp h;rw[if_pos<|List.any_eq_true.mpr ⟨q,hq,decide_eq_true e⟩]
theorem vp:fL H a C dx vs ps a=some (dF C dx vs ps):=zr
theorem p9{b:Qg}(h:b∉ps.map (·.1))(n:b≠a):fL H a C dx vs ps b=H b:=by
 unfold fL;rw[zt n];unfold BF;rw[if_neg λz=>?_];have(q,hq,e):=å.mp z;exact h<|À.mpr ⟨q,hq,of_decide_eq_true e⟩
theorem YQ(w:∀ q∈ps,H q.1=some (.own a))(b:Qg):b=a\/(∃ p,(b,p)∈ps)\/(b∉ps.map (·.1)/\b≠a):=by
 by_cases h1:b=a
 .exact .inl h1
 .by_cases h2:b∈ps.map (·.1)
  .obtain⟨⟨c,p⟩,hq,e⟩:=À.mp h2
   cases(show c=b from e);exact .inr<|.inl ⟨p,hq⟩
  .exact .inr (.inr ⟨h2,h1⟩)
theorem IQ(n:ps≠[]):(∀ x,dF C dx vs ps≠.own x)/\(∀ x,dF C dx vs ps≠.tup x)/\(∀ o u,dF C dx vs ps≠.bg o u)/\∀ x,dF C dx vs ps≠.jC x:=by
 cases ps with
 | nil=>exact absurd rfl n
 | cons q r=>exact⟨(λx z=>by cases z),(λx z=>by cases z),(λx y z=>by cases z),(λx z=>by cases z)⟩
theorem QN(e:H a=some (dF C dx vs ps))(n:ps≠[])(nd:(ps.map (·.1)).Nodup)(d:dx∉ps.map (·.1))(w:∀ q∈ps,H q.1=some (.own a)):Re K H (bQ H a C dx vs ps):=by
 have(m1,m2,m3,m4):=IQ (C:=C) (dx:=dx) (vs:=vs) n;have pa:∀ q∈ps,q.1≠a:=λq hq z=>by
  have:=w q hq;rw[z,e]at this;exact m1 _<|qx this
 have keep:∀ b o,H b=some o->(∀ x,o≠.own x)->b≠a->bQ H a C dx vs ps b=some o:=λb o hb no nb=>by
  rw[mT (λz=>?_) nb]
  .exact hb
  .have(q,hq,eq):=À.mp z
   have:=w q hq;rw[eq,hb]at this;exact no _<|qx this
 have ow:∀ b c,c≠a->H b=some (.own c)->bQ H a C dx vs ps b=some (.own c):=λb c nc hb=>by
  rw[mT (λz=>?_) λz=>?_]
  .exact hb
  .have(q,hq,eq):=À.mp z
   have:=w q hq;rw[eq,hb]at this;cases this;exact nc rfl
  .rw[z,e]at hb
   exact m1 _<|qx hb
 have tp:∀ b xs,H b=some (.tup xs)->bQ H a C dx vs ps b=some (.tup xs):=λb xs hb=>keep b _ hb (λx z=>by cases z) λz=>by
  rw[z,e]at hb;exact m2 _<|qx hb
 refine⟨λP w' h ok b o hb=>?_,λb hb=>?_,tp,λb o u hb=>keep b _ hb (λx z=>by cases z) λz=>?_,λb iN hb=>keep b _ hb (λx z=>by cases z) λz=>?_⟩
 .have(x,t):=HS (ok a _ e)
  rcases YQ w b with rfl|⟨p,hp⟩|⟨h1,h2⟩
  .rw[mU]at hb
   cases hb;obtain⟨x1,x2,x3,x4,mA,⟨od,es,ep,x5,x6⟩,x7⟩:=(show zI P w' K H h b (.ins C dx vs) from x);refine⟨?_,x2,x3,x4,mA,⟨od,es,ep,x5,x6⟩,x7⟩;rw[mT d x3];exact x1
  .rw[pQ nd hp<|pa _ hp]at hb
   cases hb;have(_,_,f,y):=t (b,o) hp;exact y.kD f (λ_ z=>z) tp
  .rw[mT h1 h2]at hb
   exact(ok b o hb).cz (λ_ _ _ z=>z) (λc hc=>ow c b h2 hc) tp
 .rw[mT (λz=>?_) λz=>?_]
  .exact hb
  .have(q,hq,eq):=À.mp z
   have:=w q hq;rw[eq,hb]at this;cases this
  .rw[z,e]at hb
   cases hb
 .rw[z,e]at hb
  exact m3 _ _<|qx hb
 .rw[z,e]at hb
  exact m4 _<|qx hb
theorem Zr{b:Qg}{p:HO}(x:zI P w K H h b p)(f:p.flat=true):∃ o,h.get? b=some o:=by
 cases p with
 | lst xs=>have(_,_,_,_,e):=x; exact⟨_,e⟩
 | dK kvs=>have(_,_,_,_,o,_,_,e,_):=x; exact⟨o,e⟩
 | dT kvs=>have(_,_,_,_,o,_,_,e,_):=x; exact⟨o,e⟩
 | dX kvs=>have(_,_,_,_,o,_,_,e,_):=x; exact⟨o,e⟩
 | _=>cases f
theorem x9(e:H a=some (.ins C dx vs))(pa:∀ q∈ps,q.1≠a)(w:∀ q∈ps,H q.1=some q.2/\q.2.flat=true):Re K H (fL H a C dx vs ps):=by
 have part:∀ b o,H b=some o->b∈ps.map (·.1)->o.flat=true:=λb o hb hm=>by
  have(q,hq,eq):=À.mp hm;have(h1,h2):=w q hq;rw[eq,hb]at h1;cases h1;exact h2
 have keep:∀ b o,H b=some o->o.flat=false->b≠a->fL H a C dx vs ps b=some o:=λb o hb no nb=>by
  rw[p9 (λz=>?_) nb]
  .exact hb
  .rw[part b o hb z]at no
   cases no
 have ow:∀ b c,H b=some (.own c)->fL H a C dx vs ps b=some (.own c):=λb c hb=>keep b _ hb rfl λz=>by
  rw[z,e]at hb;cases hb
 have tp:∀ b xs,H b=some (.tup xs)->fL H a C dx vs ps b=some (.tup xs):=λb xs hb=>keep b _ hb rfl λz=>by
  rw[z,e]at hb;cases hb
 refine⟨λP w' h ok b o hb=>?_,λb hb=>?_,tp,λb o u hb=>keep b _ hb rfl λz=>?_,λb iN hb=>keep b _ hb rfl λz=>?_⟩
 .by_cases h1:b=a
  .subst h1
   rw[vp]at hb;cases hb;refine HR ?_ λq hq=>?_
   .exact(ok b _ e).cz (λ_ _ _ z=>z) (λc hc=>ow c b hc) tp
   .have(h2,h3):=w q hq
    exact⟨sL (À.mpr ⟨q,hq,rfl⟩)<|pa q hq,pa q hq,h3,(ok _ _ h2).kD h3 (λ_ z=>z) tp⟩
  .by_cases h2:b∈ps.map (·.1)
   .rw[sL h2 h1]at hb
    cases hb;have(q,hq,eq):=À.mp h2;have(h3,h4):=w q hq;rw[<-eq];exact Zr (ok _ _ h3) h4
   .rw[p9 h2 h1]at hb
    exact(ok b o hb).cz (λ_ _ _ z=>z) (λc hc=>ow c b hc) tp
 .rw[p9 (λz=>?_) λz=>?_]
  .exact hb
  .have(q,hq,eq):=À.mp z
   have:=(w q hq).1;rw[eq,hb]at this;cases this
  .rw[z,e]at hb
   cases hb
 .rw[z,e]at hb
  cases hb
 .rw[z,e]at hb
  cases hb
end
def MZ(K:qc)(r:V->Qa V->Hp->VK->Prop):V->Qa V->Hp->VK->Prop:=λx xs H Q=>∃ H1,Re K H H1/\r x xs H1 λv H2=>∃ H3,Re K H2 H3/\Q v H3
theorem GY{X:Cx}{id:String}{r:V->Qa V->Hp->VK->Prop}(h:t6 X id r):t6 X id (MZ X.K r):=λpins s σ H x xs v us Q I rx rs q=>by
 have(H1,r1,q):=q;refine aA (h pins s σ H1 x xs v us _ (I.re r1) rx rs q) λu s1 z=>?_;have(y,H2,I2,ry,H3,r3,z):=z;exact⟨y,H3,I2.re r3,ry,z⟩
noncomputable def MY(K:qc)(T:String)(r:V->Qa V->Hp->VK->Prop)(to:TE)(t:TA):TE:=λσ H Q=>to σ H λx H1=>(∃ GC,Re K H1 GC/\vJ K T x GC)/\t σ H1 λxs H2=>r x xs H2 Q
section
variable{X:Cx}{es:Qa Expr}{to:TE}{t:TA}{name:Str}{id:String}{r:V->Qa V->Hp->VK->Prop}
theorem GX(pa:PlainAttrs T)(slot:Slot T name id)(qX:typeOf (.builtin id)=pure (.type "method_descriptor"))(hm:t6 X id r)(ho:Wr (PE X o to))(ha:Wr (PA X (e::es) t))
  (gI:attributeBase o name X.env (eval o X.env)=eval o X.env:=by rfl)
  (kQ:((backTo aM<|starEach (e::es) X.env).all (λx=>!x.1) && (backToKw aM<|keywordEach [] X.env).all (λx=>x.1.isSome)
   && decide ((e::es).length+([]:Qa Keyword).length+(if([]:Qa Keyword).isEmpty then 0 else 1) < 30))=true:=by rfl)
  (gG:(apos.endLine==aM.line)=true:=by rfl) (hs:zQ e=true:=by rfl) (du:es.all zQ=true:=by rfl):
  Wr (PE X (.Call (.Attribute o name apos) (e::es) [] aM)<|MY X.K T r to t):=by
 refine⟨?_⟩;intro pins s σ H Q I h;refine wpAny_Call_method_late gI kQ gG rfl<|aA (ho.run pins s σ H _ I h) λv s1 hZ=>?_;obtain⟨x,H1,I1,r1,⟨GC,re,ty⟩,q1⟩:=hZ;have(h1,h2):=Ir (I1.re re) r1 ty;refine⟨T,id,pa,slot,qX,h1,h2,?_⟩;have hA:=ha.run aM pins s1 σ H1 _ I1 q1;have oV:=hG (env:=X.env) (es:=es) hs;have FT:=oE (env:=X.env) (pos:=aM) du;rw[oV]at hA ⊢;refine í (by show(false || (backTo aM<|starEach es X.env).any (·.1))=false; rw[FT]<;>rfl)<|ò ?_;exact aA hA λus s2 ⟨vs,H2,I2,r2,q2⟩=>hm pins s2 σ H2 x vs v us Q I2 r1 r2 q2
end
noncomputable def nU(K:qc)(ta:TE)(f:Str):TE:=ET K (uh K ta f)
noncomputable def iD:Qa (Str×PU)->Str->PU->Qa (Str×PU)
 | [],_,_=>[]
 | (n,x)::r,f,y=>if n=f then(n,y)::r else(n,x)::iD r f y
noncomputable def aQ(ps:Qa (Qg×HO))(b:Qg)(p:HO):Qa (Qg×HO):=ps.map λq=>if q.1=b then(b,p)else q
section
variable{C b:Qg}{ps:Qa (Qg×HO)}{fs:Qa (Str×PU)}{p:HO}
theorem mW:(aQ ps b p).map (·.1)=ps.map (·.1):=by
 unfold aQ;rw[List.map_map];refine Ö λq _=>?_;show(if q.1=b then(b,p)else q).1=q.1;split
 .rename_i e; exact e.symm
 .rfl
theorem Ua(h:b∉ps.map (·.1)):aQ ps b p=ps:=by
 unfold aQ
 conv=>rhs; rw[<-List.map_id ps]
 refine Ö λq hq=>?_;rw[if_neg (show ¬q.1=b from λe=>h<|e▸List.mem_map.mpr ⟨q,hq,rfl⟩)];rfl
theorem KW{q:Qg×HO}(e:q.1=b)(h:b∉ps.map (·.1)):aQ (q::ps) b p=(b,p)::ps:=by
 have:=Ua (p:=p) h;unfold aQ at this ⊢;rw[List.map_cons,if_pos e,this]
theorem yZ{q:Qg×HO}(e:q.1≠b):aQ (q::ps) b p=q::aQ ps b p:=by
 unfold aQ;rw[List.map_cons,if_neg e]
theorem FO.list{xs:Qa D}(h:FO K H vs ps fs)(e:fs.lookup f=some (.l xs)):∃ b us,vs.lookup f=some (.ref b)/\(b,HO.lst us)∈ps/\aK K H us xs:=by
 induction h with
 | nil=>cases e
 | @d n v x vs ps fs h t ih=>
  rw[List.lookup_cons]at e ⊢;split at e
  .cases e
  .rename_i q
   try rw[q]
   exact ih e
 | @l n b us f9 vs ps fs h t ih=>
  rw[List.lookup_cons]at e ⊢;split at e
  .rename_i q
   try rw[q]
   cases e;exact⟨b,us,rfl,qp,h⟩
  .rename_i q
   try rw[q]
   have(c,eG,h1,h2,h3):=ih e;exact⟨c,eG,h1,qo _ h2,h3⟩
 | @t n b us f9 vs ps fs h t ih=>
  rw[List.lookup_cons]at e ⊢;split at e
  .cases e
  .rename_i q
   try rw[q]
   have(c,eG,h1,h2,h3):=ih e;exact⟨c,eG,h1,qo _ h2,h3⟩
 | @x n b us f9 vs ps fs h t ih=>
  rw[List.lookup_cons]at e ⊢;split at e
  .cases e
  .rename_i q
   try rw[q]
   have(c,eG,h1,h2,h3):=ih e;exact⟨c,eG,h1,qo _ h2,h3⟩
theorem FO.putL{ys:Qa D}{us:Qa V}(h:FO K H vs ps fs)(nd:(ps.map (·.1)).Nodup)(e:vs.lookup f=some (.ref b))(hb:b∈ps.map (·.1))(xs:Qa D)(ef:fs.lookup f=some (.l xs))(hy:aK K H us ys):FO K H vs (aQ ps b<|.lst us) (iD fs f<|.l ys):=by
 induction h with
 | nil=>cases ef
 | @d n v x vs ps fs h t ih=>
  rw[List.lookup_cons]at e ef;unfold iD;split at ef
  .cases ef
  .rename_i q
   try rw[q]at e
   replace e:List.lookup f vs=some (V.ref b):=e;rw[if_neg (λz=>by rw[z]at q; simp at q)];exact .d h<|ih nd e hb ef
 | @l n c eG f9 vs ps fs h t ih=>
  rw[List.map_cons,List.nodup_cons]at nd;rw[List.lookup_cons]at e ef;unfold iD;split at ef
  .rename_i q
   try rw[q]at e
   cases e;rw[if_pos (eq_of_beq q).symm,KW rfl nd.1];exact .l hy t
  .rename_i q
   try rw[q]at e
   replace e:List.lookup f vs=some (V.ref b):=e;rw[if_neg (λz=>by rw[z]at q; simp at q)];have gf:b∈ps.map (·.1):=by
    have(b',EM,h1,h2,_):=t.list ef;rw[e]at h1;cases h1;exact À.mpr ⟨_,h2,rfl⟩
   rw[yZ (q:=(c,HO.lst eG)) (by intro z; have z:c=b:=z; exact nd.1 (by show c∈_; rw[z]; exact gf))];exact .l h<|ih nd.2 e gf ef
 | @t n c eG f9 vs ps fs h t ih=>
  rw[List.map_cons,List.nodup_cons]at nd;rw[List.lookup_cons]at e ef;unfold iD;split at ef
  .cases ef
  .rename_i q
   try rw[q]at e
   replace e:List.lookup f vs=some (V.ref b):=e;rw[if_neg (λz=>by rw[z]at q; simp at q)];have gf:b∈ps.map (·.1):=by
    have(b',EM,h1,h2,_):=t.list ef;rw[e]at h1;cases h1;exact À.mpr ⟨_,h2,rfl⟩
   rw[yZ (q:=(c,HO.dT eG)) (by intro z; have z:c=b:=z; exact nd.1 (by show c∈_; rw[z]; exact gf))];exact .t h<|ih nd.2 e gf ef
 | @x n c eG f9 vs ps fs h t ih=>
  rw[List.map_cons,List.nodup_cons]at nd;rw[List.lookup_cons]at e ef;unfold iD;split at ef
  .cases ef
  .rename_i q
   try rw[q]at e
   replace e:List.lookup f vs=some (V.ref b):=e;rw[if_neg (λz=>by rw[z]at q; simp at q)];have gf:b∈ps.map (·.1):=by
    have(b',EM,h1,h2,_):=t.list ef;rw[e]at h1;cases h1;exact À.mpr ⟨_,h2,rfl⟩
   rw[yZ (q:=(c,HO.dX eG)) (by intro z; have z:c=b:=z; exact nd.1 (by show c∈_; rw[z]; exact gf))];exact .x h<|ih nd.2 e gf ef
theorem T9(n:∀ q∈ps,q.1≠a)(w:∀ q∈ps,H q.1=some (.own a))(hb:b∈ps.map (·.1)):fL (upd (bQ H a C dx vs ps) b p) a C dx vs (aQ ps b p)=upd H a (dF C dx vs<|aQ ps b p):=by
 funext c
 by_cases h1:c=a
 .subst h1
  rw[vp,zr]
 .rw[zt h1]
  by_cases h2:c∈ps.map (·.1)
  .rw[sL (by rw[mW]; exact h2) h1]
   have(q,hq,e):=À.mp h2;rw[<-e,w q hq]
  .rw[p9 (by rw[mW]; exact h2) h1,zt (show c≠b from λz=>h2 (by rw[z]; exact hb)),mT h2 h1]
theorem WS(e:H a=some (dF C dx vs ps))(w:∀ q∈ps,H q.1=some (.own a)):fL (bQ H a C dx vs ps) a C dx vs ps=H:=by
 funext c
 by_cases h1:c=a
 .subst h1
  rw[vp,e]
 .by_cases h2:c∈ps.map (·.1)
  .rw[sL h2 h1]
   have(q,hq,e):=À.mp h2;rw[<-e,w q hq]
  .rw[p9 h2 h1,mT h2 h1]
end
section
variable{C b:Qg}{ps:Qa (Qg×HO)}{fs:Qa (Str×PU)}{p:HO}
def VQ(K:qc)(t:TE)(m:ME):Prop :=
 ∀ (ρ:En) (σ:St) (H:Hp) (a:Ar) (af:En) (Q:VK),Rs K ρ σ H->m ρ=some (a,af)->af=ρ/\((∀ v,jN K ρ σ H H v a->Q v H)->t σ H Q)
theorem x8:VQ K (dS i) (zj i):=by
 intro ρ σ H a af Q r e;unfold zj at e;split at e
 .rename_i u eu
  cases e;refine⟨rfl,λq=>?_⟩;have(v,ev,p):=r.rep i u eu;exact⟨v,ev,q v ⟨ev,u,eu⟩⟩
 .cases e
theorem MW{c:V}{x:D}(h:∀ H,DF K H c x):VQ K (tC c) (mC x):=by
 intro ρ σ H a af Q r e;cases e;exact⟨rfl,λq=>q _ ⟨h H,Nw.data⟩⟩
theorem FO.flat(h:FO K H vs ps fs):∀ q∈ps,q.2.flat=true:=by
 induction h with
 | nil=>exact λq hq=>by cases hq
 | d _ _ ih=>exact ih
 | l _ _ ih=>
  intro q hq;rcases qv.mp hq with rfl|hq
  .rfl
  .exact ih q hq
 | t _ _ ih=>
  intro q hq;rcases qv.mp hq with rfl|hq
  .rfl
  .exact ih q hq
 | x _ _ ih=>
  intro q hq;rcases qv.mp hq with rfl|hq
  .rfl
  .exact ih q hq
structure Op (K:qc) (H:Hp) (a C dx:Qg) (vs:Qa (Str×V)) (ps:Qa (Qg×HO)):Prop where
 at_:H a=some (dF C dx vs ps)
 ne:ps≠[]
 nd:(ps.map (·.1)).Nodup
 rE:dx∉ps.map (·.1)
 own:∀ q∈ps,H q.1=some (.own a)
 flat:∀ q∈ps,q.2.flat=true
theorem Op.pa(o:Op K H a C dx vs ps):∀ q∈ps,q.1≠a:=λq hq z=>by
 have:=o.own q hq;rw[z,o.at_]at this;exact(IQ (C:=C) (dx:=dx) (vs:=vs) o.ne).1 _<|qx this
theorem Op.bQ(o:Op K H a C dx vs ps):Re K H (bQ H a C dx vs ps):=QN o.at_ o.ne o.nd o.rE o.own
theorem Op.fL(o:Op K H a C dx vs ps):Re K (L2.bQ H a C dx vs ps) H:=by
 have:=x9 (K:=K) (H:=L2.bQ H a C dx vs ps) (a:=a) (C:=C) (dx:=dx) (vs:=vs) (ps:=ps) mU o.pa λq hq=>⟨pQ o.nd hq<|o.pa q hq,o.flat q hq⟩;rw[WS o.at_ o.own]at this;exact this
theorem Op.put(o:Op K H a C dx vs ps){p0:HO}(hb:(b,p0)∈ps)(f:p.flat=true):Re K (upd (L2.bQ H a C dx vs ps) b p) (upd H a<|dF C dx vs<|aQ ps b p):=by
 have ba:=o.pa _ hb;have hm:b∈ps.map (·.1):=À.mpr ⟨_,hb,rfl⟩;have:=x9 (K:=K) (H:=upd (L2.bQ H a C dx vs ps) b p) (a:=a) (C:=C) (dx:=dx) (vs:=vs) (ps:=aQ ps b p) (by rw[zt<|Ne.symm ba]; exact mU) (λq hq=>?_) λq hq=>?_
 .rw[T9 o.pa o.own hm]at this
  exact this
 .have hk:q.1∈ps.map (·.1):=by rw[<-mW (b:=b) (p:=p)]; exact À.mpr ⟨q,hq,rfl⟩
  have(z,hz,ez):=À.mp hk;rw[<-ez];exact o.pa z hz
 .have(z,hz,rfl):=À.mp hq
  by_cases c:z.1=b
  .rw[if_pos c]
   exact⟨zr,f⟩
  .rw[if_neg c,zt c]
   exact⟨pQ o.nd hz<|o.pa z hz,o.flat z hz⟩
end
noncomputable def U.fl(c f:Str):U->Qb (Qa D)
 | .o c' fs=>if c'=c then(match fs.lookup f with|some (.l xs)=>some xs|_=>none)else none
 | _=>none
noncomputable def U.aQ(f:Str)(y:PU):U->U
 | .o c fs=>.o c<|iD fs f y
 | u=>u
theorem QM{w:U}{xs:Qa D}(h:w.fl c f=some xs):∃ fs,w=.o c fs/\fs.lookup f=some (.l xs):=by
 unfold U.fl at h;split at h
 .rename_i c' fs
  split at h
  .rename_i e
   subst e;split at h
   .rename_i ys hy
    cases h;exact⟨fs,rfl,hy⟩
   .cases h
  .cases h
 .cases h
noncomputable def xO(c:Str)(i:Nat)(f:Str)(me:ME):ME:=λρ=>(ρ[i]?).join.bind λw=>(w.fl c f).bind λxs=>(me ρ).bind λp=>(p.1.get p.2).bind λu=>u.da.bind λx=>if xs.length < sizeLine then some (.u<|.d .none,p.2.set i<|some<|w.aQ f<|.l<|xs++[x])else none
section
theorem HQ{me:ME}(hc:∀ C,XN K c C->dQ K C/\eT K C f)(hq:VQ K te me):VE K (MY K "list" (MZ K DU) (nU K (dS i) f)<|iJ te iH) (xO c i f me):=by
 intro ρ σ H a af Q r e q;have(w,e0,e):=zb e;have(xs,ex,e):=zb e;obtain⟨⟨a1,aj⟩,e1,e⟩:=zb e;have(u,eu,e):=zb e;have(x,ed,e):=zb e;cases oz ed;dsimp only at e;split at e
 .rename_i hz
  cases e;have(fs,rfl,hf):=QM ex;have ei:=qF e0;have(v0,eZ,R):=r.rep i _ ei;have(l,C,dx,vs,ps,rfl,hl,ne,xn,nd,fo,tT,own):=R;have(b,us,h1,h2,h3):=fo.list hf;have o:Op K H l C dx vs ps:=⟨hl,ne,nd,tT,own,fo.flat⟩;have ba:=o.pa _ h2;have NW:bQ H l C dx vs ps b=some (.lst us):=pQ nd h2 ba;have(cl,na):=hc C xn;refine⟨_,o.bQ,_,eZ,l,C,dx,vs,_,rfl,mU,cl,na,h1,H,o.fL,⟨_,o.bQ,.inl ⟨rfl,us,bq.of NW⟩⟩,?_⟩;have(rfl,run):=hq ρ σ H a1 aj _ r e1;refine run λv k1=>?_;have pv:DF K H v x:=k1.now r (Go.refl r) eu;refine⟨_,o.bQ,b,us,v,rfl,rfl,NW,by rw[h3.len]; exact hz,_,o.put (p:=.lst (us++[v])) h2 rfl,?_⟩;have kp:=i4 hl (Mo.dF ne) (dF C dx vs<|aQ ps b<|.lst<|us++[v]);have hbm:b∈ps.map (·.1):=À.mpr ⟨_,h2,rfl⟩;refine q _ _ (Go.own (u':=.o c (iD fs f<|.l<|xs++[x])) r ei rfl eZ ⟨l,C,dx,vs,aQ ps b<|.lst<|us++[v],rfl,zr,?_,xn,by rw[mW]; exact nd,(fo.kp kp).putL nd h1 hbm xs hf<|(h3.kp kp).snoc<|DF.kp kp pv,by rw[mW]; exact tT,λz hz=>?_⟩) ⟨.aI,Nw.data⟩
  .intro z
   have:=congrArg List.length z;unfold aQ at this;rw[List.length_map]at this;exact ne<|é.mp this
  .have hk:z.1∈ps.map (·.1):=by rw[<-mW (b:=b) (p:=.lst (us++[v]))]; exact À.mpr ⟨z,hz,rfl⟩
   have(y,hy,ey):=À.mp hk;rw[<-ey,zt<|o.pa y hy];exact own y hy
 .cases e
end
def Gy(K:qc)(H:Hp)(a:Qg)(y:V)(o:Qb V)(Q:Hp->Prop):Prop:=∃ H' pj,Re K H H'/\Bw K H' a y o/\Re K H' pj/\Q pj
noncomputable def GV(K:qc)(td ty:TE):TE:=λσ H Q=>td σ H λx H1=>ty σ H1 λy H2=>∃ a v,x=.ref a/\Gy K H2 a y (some v) (Q v)
noncomputable def DS(K:qc)(ty td:TE):TE:=λσ H Q=>ty σ H λy H1=>td σ H1 λx H2=>∃ a o,x=.ref a/\Gy K H2 a y o (Q<|.bl (!o.isSome))
noncomputable def GU(K:qc)(td ty tv:TE):TS:=λD σ H=>tv σ H λv H1=>td σ H1 λx H2=>ty σ H2 λy H3=>∃ a GB H4 H5,x=.ref a/\Re K H3 GB/\OE K GB a y v H4/\Re K H4 H5/\D.nx σ H5
section
variable{X:Cx}{i:Expr}{k:Nat}
theorem FJ(hr:aD k X.A):X.A.units+5 < cLine:=by have:=hr.un; omega
theorem WR{o:Qb V}(I:Inv X pins σ H s)(g:Bw X.K H a y o):s.TypeIs (.ref a) "dict":=by
 have(kvs,k,b,e,_):=g;have(_,_,xs,_,dd):=xJ I.aW I.aw e;exact dd.typeIs
theorem QL(hr:aD k X.A)(ho:Wr (PE X o td))(hi:Wr (PE X i ty))(hs:xw i:=by intro _ _; rfl):Wr (PE X (.Subscript o i pos)<|GV X.K td ty):=by
 refine⟨?_⟩;intro pins s σ H Q I h;refine Jz PySem.F.slot_dict_getitem.lookup hs<|aA (ho.run pins s σ H _ I h) λu s1 hY=>?_;have(x,H1,I1,rx,q1):=hY;refine aA (hi.run pins s1 σ H1 _ I1 q1) λiv s2 hZ=>?_;have(y,H2,I2,ry,a,v,ex,H2',H3,re,g,E7,q2):=hZ;subst ex;obtain rfl:u=Value.ref a:=rx;exact⟨WR (I2.re re) g,YS (FJ hr) (I2.re re) g ry λw' s3 I3 fM=>⟨v,H3,I3.re E7,fM,q2⟩⟩
theorem YO(hr:aD k X.A)(hi:PE X i ty)(ho:PE X o td):PC X .NotIn i o (DS X.K ty td):=by
 intro pins s σ H Q I h;refine aA (hi pins s σ H _ I h) λiv s1 hY=>?_;have(y,H1,I1,ry,q1):=hY;refine aA (ho pins s1 σ H1 _ I1 q1) λu s2 hZ=>?_;have(x,H2,I2,rx,a,ov,ex,H2',H3,re,g,E7,q2):=hZ;subst ex;obtain rfl:u=Value.ref a:=rx;exact Uc (FJ hr) (I2.re re) g ry λs3 I3=>⟨.bl (!ov.isSome),H3,I3.re E7,rfl,q2⟩
theorem YN(hr:aD k X.A)(hi:Wr (PE X i ty))(ho:Wr (PE X o td))(h1:behindInMarks .NotIn o=false:=by rfl):Wr (PT X (.Compare i [.NotIn] [o] pos)<|tB<|DS X.K ty td):=⟨Io (YO hr hi.run ho.run) h1⟩
theorem QK(hr:aD k X.A)(ho:Wr (PE X o td))(hi:Wr (PE X i ty))(hv:Wr (PE X value tv))(hs:swapsWith value (some<|.Subscript o i pos') pos.line X.env=pure false:=by rfl):
  Wr (PS X (.Assign [.Subscript o i pos'] value pos)<|GU X.K td ty tv):=by
 refine⟨?_⟩;intro pins s σ H D I h;refine wpAny_Assign_Subscript (aA (hv.run pins s σ H _ I h) λr s1 hV=>?_) hs;have(v,H1,I1,rv,q1):=hV;refine aA (ho.run pins s1 σ H1 _ I1 q1) λu s2 hY=>?_;have(x,H2,I2,rx,q2):=hY;refine aA (hi.run pins s2 σ H2 _ I2 q2) λiv s3 hZ=>?_;have(y,H3,I3,ry,a,GB,H4,H5,ex,re,g,re5,q3):=hZ;subst ex;obtain rfl:u=Value.ref a:=rx;exact YR (FJ hr) (I3.re re) g ry rv λs4 I4=>⟨σ,H5,I4.re re5,q3⟩
end
noncomputable def NF(f:D->Qb (Qa J))(d:D):Qb (Key ⊕ Qa J):=match jt d with
 | some k=>some<|.inl k
 | none=>(f d).map .inr
noncomputable def vZ(f:D->Qb (Qa J)):D->Qb (Qa<|Key ⊕ Qa J)
 | .tuple ds=>ds.mapM<|NF f
 | _=>none
noncomputable def AQ:D->Qb (Qa K3):=vZ (vZ<|vZ cJ)
section
theorem Cf{f:D->Qb (Qa J)}{R:Qa J->Qg->Prop}(hf:∀ v d ks,DF K H v d->f d=some ks->∃ b,v=.ref b/\R ks b){d:D}{xs:Qa (Key ⊕ Qa J)}(h:DF K H v d)(e:vZ f d=some xs):∃ b,v=.ref b/\iz K H R xs b:=by
 unfold vZ at e;split at e
 .rename_i ds
  have(b,us,rfl,h1,h2):=DF.aB h;refine⟨b,rfl,us,h1,?_⟩;clear h h1
  induction ds generalizing us xs with
  | nil=>cases h2; rw[List.mapM_nil]at e; cases e; exact .nil
  | cons d ds ih=>
   cases h2;rename_i w vs hd t;rw[List.mapM_cons]at e;have(x,ex,e):=zb e;have(ys,ey,e):=zb e;cases e;refine .cons ?_<|ih ey _ t;unfold NF at ex;split at ex
   .rename_i k hk
    cases ex;exact yw hd hk
   .have(ks,ek,e2):=qr.mp ex
    cases e2;exact hf _ _ _ hd ek
 .cases e
theorem zAO{d:D}{xs:Qa K3}(h:DF K H v d)(e:AQ d=some xs):∃ b,v=.ref b/\N3 K H xs b :=
 Cf (λ_ _ _ h e=>Cf (λ_ _ _ h e=>Cf (λ_ _ _ h e=>tm h e) h e) h e) h e
end
noncomputable def PP(K:qc)(H:Hp):HO->PU->Prop
 | .lst us,.l xs=>aK K H us xs
 | .dT us,.t xs=>dn K H us xs
 | .dX us,.x xs=>dn K H us xs
 | _,_=>False
noncomputable def PU.part:PU->Bool
 | .d _=>false
 | _=>true
noncomputable def U.fp(c f:Str):U->Qb PU
 | .o c' fs=>if c'=c then fs.lookup f else none
 | _=>none
section
variable{C b:Qg}{ps:Qa (Qg×HO)}{fs:Qa (Str×PU)}{p:HO}{u:PU}{ρ:En}{w:U}
theorem PP.flat(h:PP K H p u):p.flat=true:=by
 unfold PP at h;split at h
 .rfl
 .rfl
 .rfl
 .cases h
theorem FO.ind{M:Qa (Str×V)->Qa (Qg×HO)->Qa (Str×PU)->Prop}(h:FO K H vs ps fs)(h0:M [] [] [])(hd:∀ n v x vs ps fs,DF K H v x->FO K H vs ps fs->M vs ps fs->M ((n,v)::vs) ps ((n,.d x)::fs))(hp:∀ n b p u vs ps fs,PP K H p u->FO K H vs ps fs->M vs ps fs->M ((n,.ref b)::vs) ((b,p)::ps) ((n,u)::fs)):M vs ps fs:=by
 induction h with
 | nil=>exact h0
 | d h t ih=>exact hd _ _ _ _ _ _ h t ih
 | l h t ih=>exact hp _ _ (.lst _) (.l _) _ _ _ h t ih
 | t h t ih=>exact hp _ _ (.dT _) (.t _) _ _ _ h t ih
 | x h t ih=>exact hp _ _ (.dX _) (.x _) _ _ _ h t ih
theorem FO.pp{n:Str}(h:PP K H p u)(t:FO K H vs ps fs):FO K H ((n,.ref b)::vs) ((b,p)::ps) ((n,u)::fs):=by
 unfold PP at h;split at h
 .exact .l h t
 .exact .t h t
 .exact .x h t
 .cases h
theorem FO.part(h:FO K H vs ps fs):fs.lookup f=some u->u.part=true->∃ b p,vs.lookup f=some (.ref b)/\(b,p)∈ps/\PP K H p u:=by
 refine FO.ind (M:=λvs ps fs=>fs.lookup f=some u->u.part=true->∃ b p,vs.lookup f=some (.ref b)/\(b,p)∈ps/\PP K H p u) h (λe=>nomatch e) (λn v x vs ps fs _ _ ih e o=>?_) λn b p u' vs ps fs hp _ ih e o=>?_
 .rw[List.lookup_cons]at e ⊢
  split at e
  .cases e; cases o
  .rename_i q
   try rw[q]
   exact ih e o
 .rw[List.lookup_cons]at e ⊢
  split at e
  .rename_i q
   try rw[q]
   cases e;exact⟨b,p,rfl,qp,hp⟩
  .rename_i q
   try rw[q]
   have(b,p,h1,h2,h3):=ih e o;exact⟨b,p,h1,qo _ h2,h3⟩
theorem FO.put{u':PU}{p':HO}(h:FO K H vs ps fs)(hy:PP K H p' u'):(ps.map (·.1)).Nodup->vs.lookup f=some (.ref b)->fs.lookup f=some u->u.part=true->FO K H vs (aQ ps b p') (iD fs f u'):=by
 refine FO.ind (M:=λvs ps fs=>(ps.map (·.1)).Nodup->vs.lookup f=some (.ref b)->fs.lookup f=some u->u.part=true->FO K H vs (aQ ps b p') (iD fs f u')) h (λ_ e=>nomatch e) (λn v x vs ps fs hx t ih nd e ef o=>?_) λn c p u0 vs ps fs hp t ih nd e ef o=>?_
 .rw[List.lookup_cons]at e ef
  unfold iD;split at ef
  .cases ef; cases o
  .rename_i q
   try rw[q]at e
   rw[if_neg (λz=>by rw[z]at q; simp at q)];exact .d hx<|ih nd e ef o
 .rw[List.map_cons,List.nodup_cons]at nd
  rw[List.lookup_cons]at e ef;unfold iD;split at ef
  .rename_i q
   try rw[q]at e
   cases e;rw[if_pos (eq_of_beq q).symm,KW rfl nd.1];exact .pp hy t
  .rename_i q
   try rw[q]at e
   replace e:List.lookup f vs=some (V.ref b):=e;rw[if_neg (λz=>by rw[z]at q; simp at q)];have gf:b∈ps.map (·.1):=by
    have(b',EM,h1,h2,_):=t.part ef o;rw[e]at h1;cases h1;exact À.mpr ⟨_,h2,rfl⟩
   rw[yZ (q:=(c,p)) (by intro z; have z:c=b:=z; exact nd.1 (by show c∈_; rw[z]; exact gf))];exact .pp hp<|ih nd.2 e ef o
theorem QH(h:w.fp c f=some u):∃ fs,w=.o c fs/\fs.lookup f=some u:=by
 unfold U.fp at h;split at h
 .rename_i c' fs
  split at h
  .rename_i e
   subst e;exact⟨fs,rfl,h⟩
  .cases h
 .cases h
structure Pt (K:qc) (σ:St) (H:Hp) (c:Str) (i:Nat) (f:Str) (u:PU) (fs:Qa (Str×PU)) (a C dx:Qg) (vs:Qa (Str×V)) (ps:Qa (Qg×HO)) (b:Qg) (p:HO):Prop where
 st:σ[i]?=some (some<|.ref a)
 op:Op K H a C dx vs ps
 xn:XN K c C
 vl:vs.lookup f=some (.ref b)
 mem:(b,p)∈ps
 pp:PP K H p u
 fo:FO K H vs ps fs
 fl:fs.lookup f=some u
theorem GS(r:Rs K ρ σ H)(e:(ρ[i]?).join=some w)(ef:w.fp c f=some u)(o:u.part=true):∃ fs a C dx vs ps b p,w=.o c fs/\Pt K σ H c i f u fs a C dx vs ps b p:=by
 have(fs,rfl,hf):=QH ef;have(v0,eZ,R):=r.rep i _ (qF e);have(l,C,dx,vs,ps,rfl,hl,ne,xn,nd,fo,tT,own):=R;have(b,p,h1,h2,h3):=fo.part hf o;exact⟨fs,l,C,dx,vs,ps,b,p,rfl,eZ,⟨hl,ne,nd,tT,own,fo.flat⟩,xn,h1,h2,h3,fo,hf⟩
theorem Pt.at(t:Pt K σ H c i f u fs a C dx vs ps b p):bQ H a C dx vs ps b=some p:=pQ t.op.nd t.mem (t.op.pa _ t.mem)
theorem Pt.fld{Q:VK}(t:Pt K σ H c i f u fs a C dx vs ps b p)(hc:∀ C,XN K c C->dQ K C/\eT K C f)(q:Q (.ref b) H):nU K (dS i) f σ H Q :=
 ⟨_,t.op.bQ,_,t.st,a,C,dx,vs,_,rfl,mU,(hc C t.xn).1,(hc C t.xn).2,t.vl,H,t.op.fL,q⟩
theorem Pt.put{u':PU}{p':HO}(t:Pt K σ H c i f u fs a C dx vs ps b p)(r:Rs K ρ σ H)(ei:ρ[i]?=some (some<|.o c fs))(o:u.part=true)(h:∀ H',Kp H H'->PP K H' p' u'):Re K (upd (bQ H a C dx vs ps) b p') (upd H a<|dF C dx vs<|aQ ps b p')/\Go K ρ σ H (ρ.set i<|some<|.o c<|iD fs f u') (upd H a<|dF C dx vs<|aQ ps b p'):=by
 have kp:=i4 t.op.at_ (Mo.dF t.op.ne) (dF C dx vs<|aQ ps b p');refine⟨t.op.put t.mem (h H<|Kp.refl H).flat,Go.own (u':=.o c (iD fs f u')) r ei rfl t.st ⟨a,C,dx,vs,aQ ps b p',rfl,zr,λz=>?_,t.xn,by rw[mW]; exact t.op.nd,(t.fo.kp kp).put (h _ kp) t.op.nd t.vl t.fl o,by rw[mW]; exact t.op.rE,λz hz=>?_⟩⟩
 .have:=congrArg List.length z
  unfold aQ at this;rw[List.length_map]at this;exact t.op.ne<|é.mp this
 .have hk:z.1∈ps.map (·.1):=by rw[<-mW (b:=b) (p:=p')]; exact À.mpr ⟨z,hz,rfl⟩
  have(y,hy,ey):=À.mp hk;rw[<-ey,zt<|t.op.pa y hy];exact t.op.own y hy
end
noncomputable def PU.xs:PU->Qb (Qa<|Qa K3×D)
 | .x kvs=>some kvs
 | _=>none
theorem QD{u:PU}{kvs:Qa (Qa K3×D)}(h:u.xs=some kvs):u=.x kvs:=by
 cases u<;>cases h;rfl
noncomputable def fX(c:Str)(i:Nat)(f:Str)(ρ:En):Qb (Qa<|Qa K3×D):=(ρ[i]?).join.bind λw=>(w.fp c f).bind (·.xs)
noncomputable def lY(p:Ar×En):Qb (Qa K3):=(p.1.get p.2).bind λu=>u.da.bind AQ
noncomputable def Ce(c:Str)(i:Nat)(f:Str)(mk:ME):ME:=λρ=>(fX c i f ρ).bind λkvs=>(mk ρ).bind λp=>(lY p).bind λk=>(bL kvs k).bind λy=>some (.u<|.d y,p.2)
noncomputable def BE(neg:Bool)(mk:ME)(c:Str)(i:Nat)(f:Str):ME:=λρ=>(mk ρ).bind λp=>(fX c i f p.2).bind λkvs=>(lY p).bind λk=>some (.u<|.d<|.bool (if neg=true then !(bL kvs k).isSome else(bL kvs k).isSome),p.2)
noncomputable def Cd(c:Str)(i:Nat)(f:Str)(mk mv:ME):MS:=λρ=>(mv ρ).bind λp=>(fX c i f p.2).bind λkvs=>(mk p.2).bind λq=>(lY q).bind λk=>(p.1.get q.2).bind λx=>x.da.bind λx=>(q.2[i]?).join.bind λw=>if kvs.length < sizeLine then some (.nx<|q.2.set i<|some<|w.aQ f<|.x<|cf kvs k x)else none
section
variable{ρ:En}{C b:Qg}{ps:Qa (Qg×HO)}{fs:Qa (Str×PU)}{p:HO}{mk mv:ME}{EX:e9}
theorem Cc{kvs:Qa (Qa K3×D)}(r:Rs K ρ σ H)(e:fX c i f ρ=some kvs):∃ fs a C dx vs ps b us,ρ[i]?=some (some<|.o c fs)/\Pt K σ H c i f (.x kvs) fs a C dx vs ps b (.dX us)/\dn K H us kvs:=by
 unfold fX at e;have(w,e0,e):=zb e;have(u,eu,e):=zb e;cases QD e;have(fs,a,C,dx,vs,ps,b,p,rfl,t):=GS r e0 eu rfl;have h:=t.pp;unfold PP at h;split at h
 .rename_i h'; cases h'
 .rename_i h'; cases h'
 .rename_i us xs h'
  cases h';exact⟨fs,a,C,dx,vs,ps,b,us,qF e0,t,h⟩
 .cases h
theorem DR{a:Ar}{k:Qa K3}(h:∀ u,a.get ρ=some u->Rp K H v u)(e:lY (a,ρ)=some k):∃ b,v=.ref b/\N3 K H k b:=by
 unfold lY at e;have(u,eu,e):=zb e;have(d,ed,e):=zb e;cases oz ed;exact zAO (h _ eu) e
theorem Pt.N8{u:PU}{us:Qa (Qa K3×V)}{k:Qa K3}{kb:Qg}{Q:Hp->Prop}(t:Pt K σ H c i f u fs a C dx vs ps b (.dX us))(hk:N3 K H k kb)(q:Q H):Gy K H b (.ref kb) (fm us k) Q :=
 ⟨_,H,t.op.bQ,⟨us,k,kb,t.at,rfl,hk.keeps t.op.bQ.tup,rfl⟩,t.op.fL,q⟩
theorem QC(hc:∀ C,XN K c C->dQ K C/\eT K C f)(hq:VQ K tk mk):VE K (GV K (nU K (dS i) f) tk) (Ce c i f mk):=by
 intro ρ σ H a af Q r e q;have(kvs,e0,e):=zb e;obtain⟨⟨a1,aj⟩,e1,e⟩:=zb e;have(k,ek,e):=zb e;have(y,ey,e):=zb e;cases e;have(fs,l,C,dx,vs,ps,b,us,_,t,kv):=Cc r e0;refine t.fld hc ?_;have(rfl,run):=hq ρ σ H a1 aj _ r e1;refine run λv k1=>?_;have(kb,rfl,hk):=DR (λu eu=>k1.now r (Go.refl r) eu) ek;rcases kv.val k with⟨v,d,h1,h2,h3⟩|⟨_,h2⟩
 .rw[ey]at h2
  cases h2;exact⟨b,v,rfl,h1▸t.N8 hk (q _ _ (Go.refl r) ⟨h3,Nw.data⟩)⟩
 .rw[ey]at h2
  cases h2
theorem VJ(hc:∀ C,XN K c C->dQ K C/\eT K C f)(hk:VE K tk mk):VE K (DS K tk<|nU K (dS i) f) (BE true mk c i f):=by
 intro ρ σ H a af Q r e q;obtain⟨⟨a1,aj⟩,e1,e⟩:=zb e;have(kvs,e0,e):=zb e;have(k,ek,e):=zb e;cases e;refine hk ρ σ H a1 aj _ r e1 λv H1 g1 k1=>?_;have(fs,l,C,dx,vs,ps,b,us,_,t,kv):=Cc g1.rs e0;refine t.fld hc ?_;have(kb,rfl,rh):=DR (λu eu=>k1.now r g1 eu) ek;refine⟨b,fm us k,rfl,t.N8 rh<|q _ _ g1 ⟨?_,Nw.data⟩⟩;rcases kv.val k with⟨v,d,h1,h2,h3⟩|⟨h1,h2⟩<;>rw[h1,h2]<;>exact .bl _
theorem QB(hc:∀ C,XN K c C->dQ K C/\eT K C f)(hq:VQ K tk mk)(hv:VE K tv mv):VS K pn EX (GU K (nU K (dS i) f) tk tv) (Cd c i f mk mv):=by
 intro ao A H₀ av ρ σ H fl D s e k;replace e:=zb e;obtain⟨⟨a1,aj⟩,e1,e⟩:=e;replace e:=zb e;have(kvs,e0,e):=e;replace e:=zb e;obtain⟨⟨a2,au⟩,e2,e⟩:=e;replace e:=zb e;have(ky,ek,e):=e;replace e:=zb e;have(u,eu,e):=e;replace e:=zb e;have(x,ed,e):=e;cases oz ed;replace e:=zb e;have(w,ew,e):=e;dsimp only at e ew eu;split at e
 .rename_i hz
  cases e;refine hv ρ σ H a1 aj _ s.rs e1 λv H1 g1 k1=>?_;have(fs,l,C,dx,vs,ps,b,us,ei,t,kv):=Cc g1.rs e0;refine t.fld hc ?_;have(rfl,run):=hq aj σ H1 a2 au _ g1.rs e2;refine run λy k2=>?_;have pv:DF K H1 v x:=k1.now s.rs g1 eu;have(kb,rfl,rh):=DR (λu eu=>k2.now g1.rs (Go.refl g1.rs) eu) ek;rw[ei]at ew;cases ew;have(re,go):=t.put (u':=.x (cf kvs ky x)) (p':=.dX (dA us ky v)) g1.rs ei rfl λH' kp=>(kv.kp kp).put ky<|DF.kp kp pv;exact⟨b,_,_,_,rfl,t.op.bQ,⟨us,ky,kb,t.at,rfl,rh.keeps t.op.bQ.tup,by rw[kv.len]; exact hz,rfl⟩,re,k _ _<|s.go<|g1.trans go⟩
 .cases e
end
def xj(K:qc)(r:Qa V->Hp->VK->Prop):Qa V->Hp->VK->Prop:=λxs H Q=>∃ H1,Re K H H1/\r xs H1 λv H2=>∃ H3,Re K H2 H3/\Q v H3
section
variable{X:Cx}
theorem Je{g:Qc}(h:eE X g r):eE X g (xj X.K r):=λpins s σ H xs us Q I rs q=>by
 have(H1,r1,q):=q;refine aA (h pins s σ H1 xs us _ (I.re r1) rs q) λu s1 z=>?_;have(y,H2,I2,ry,H3,r3,z):=z;exact⟨y,H3,I2.re r3,ry,z⟩
end
noncomputable def PU.ls:PU->Qb (Qa D)
 | .l xs=>some xs
 | _=>none
theorem Qz{u:PU}{xs:Qa D}(h:u.ls=some xs):u=.l xs:=by
 cases u<;>cases h;rfl
noncomputable def nH(c:Str)(i:Nat)(f:Str)(ρ:En):Qb (Qa D):=(ρ[i]?).join.bind λw=>(w.fp c f).bind (·.ls)
noncomputable def Cb(c:Str)(i:Nat)(f:Str):ME:=λρ=>(nH c i f ρ).bind λxs=>some (.u<|.d<|.int xs.length,ρ)
section
variable{ρ:En}{mk mv:ME}
theorem Df{xs:Qa D}(r:Rs K ρ σ H)(e:nH c i f ρ=some xs):∃ fs a C dx vs ps b us,ρ[i]?=some (some<|.o c fs)/\Pt K σ H c i f (.l xs) fs a C dx vs ps b (.lst us)/\aK K H us xs:=by
 unfold nH at e;have(w,e0,e):=zb e;have(u,eu,e):=zb e;cases Qz e;have(fs,a,C,dx,vs,ps,b,p,rfl,t):=GS r e0 eu rfl;have h:=t.pp;unfold PP at h;split at h
 .rename_i us xs h'
  cases h';exact⟨fs,a,C,dx,vs,ps,b,us,qF e0,t,h⟩
 .rename_i h'; cases h'
 .rename_i h'; cases h'
 .cases h
theorem Qy(hc:∀ C,XN K c C->dQ K C/\eT K C f):VE K (lG (xj K<|B0 K)<|iJ (nU K (dS i) f) iH) (Cb c i f):=by
 intro ρ σ H a af Q r e q;have(xs,e0,e):=zb e;cases e;have(fs,l,C,dx,vs,ps,b,us,_,t,kv):=Df r e0;refine t.fld hc ?_;refine⟨_,t.op.bQ,b,us,rfl,.inl<|bq.of t.at,H,t.op.fL,q _ _ (Go.refl r) ⟨?_,Nw.data⟩⟩;rw[kv.len];exact .int _
end
section
variable{C C':Qg}
theorem XN.one(h:XN K c C)(h':XN K c C'):C=C':=by
 have z:=(show PySem.W.nsIn K mainGlobals c=some (some<|.ref C) from h).symm.trans (show PySem.W.nsIn K mainGlobals c=some (some<|.ref C') from h');injection z with z;injection z with z;injection z
end
structure wZ (P:Qe) (w:Qh) (K:qc) (mg:Str->Qb Qc) (base:Heap) (c:Str) (m:Str) (k:Nat) (ps:Qa Str) (sp:Sp):Prop where
 ex:∃ (C f:Qg) (fd:FuncData),XN K c C/\dQ K C/\bP P w K mg base gN k f fd ps sp/\jS K fd ps []/\rK K C m f
noncomputable def GR(K:qc)(c:Str)(m:Str)(sp:Sp)(ta:TE)(t:TA):TE:=λσ H Q=>ta σ H λx H1=>(∃ C a dx fs H',XN K c C/\x=.ref a/\Re K H1 H'/\H' a=some (.ins C dx fs)/\fs.lookup m=none)/\t σ H1 λvs H2=>sp (x::vs) H2 Q E0
section
variable{X:Cx}{m:Str}{C:Qg}{k:Nat}{es:Qa Expr}{t:TA}
theorem sJ{pl:Sem Bool}(M:wZ X.prog X.w X.K X.mg X.base c m k ps sp)(he:Wr (PE X o ta))(ha:Wr (PA X (e::es) t))(hr:aD k X.A:=by exact aD.mono ‹aD _ _› (by decide))
  (hs:zQ e=true:=by rfl) (du:es.all zQ=true:=by rfl)
  (ht:eval (.Call (.Attribute o m apos) (e::es) [] pos) X.env=(do
   let ov <-eval o X.env
   standAt apos.atName
   let (f,first) <-holding [ov] (getMethod ov m pl)
   callWith pos f first (backTo pos<|starEach (e::es) X.env) (backToKw pos<|keywordEach [] X.env)):=by rfl):
  Wr (PE X (.Call (.Attribute o m apos) (e::es) [] pos)<|GR X.K c m sp ta t):=by
 refine⟨?_⟩;have(C,f,fd,xn,cl,F,hb,hm):=M.ex;intro pins s σ H Q I h;refine PySem.W.methodCall_KW (pl:=pl) (aA (he.run pins s σ H _ I h) λu s1 hZ=>?_) ht;obtain⟨x,H1,I1,rx,⟨C',a,dx,fs,H',EK,ex,re,ea,l⟩,q⟩:=hZ;cases xn.one EK;subst ex;obtain rfl:u=Value.ref a:=rx;refine ZK (I1.re re) ea cl hm l ?_;refine PySem.W.callWith_K (first:=[.ref a]) (h₀:=X.base) I.ok.mod.cY hm.kp (aA (ha.run pos pins s1 σ H1 _ I1 q) λus s2 ⟨vs,H2,I2,r,q2⟩=>⟨I2.aW,?_⟩) (hG hs)<|oE du;exact Iw (us:=.ref a::us) (vs:=.ref a::vs) (dvs:=[]) (E:=E0) F hr hb .nil CO I2 (.cons rfl r) (by rw[List.append_nil]; exact q2)
end
noncomputable def U.tJ(c m:Str):U->Bool
 | .o c' fs=>decide (c'=c) && (fs.lookup m).isNone
 | _=>false
theorem T8{m:Str}{w:U}(h:w.tJ c m=true):∃ fs,w=.o c fs/\fs.lookup m=none:=by
 unfold U.tJ at h;split at h
 .rename_i c' fs
  rw[Bool.and_eq_true,decide_eq_true_iff,Option.isNone_iff_eq_none]at h;have(rfl,h):=h;exact⟨fs,rfl,h⟩
 .cases h
noncomputable def jr(c:Str)(i:Nat)(m:Str)(F:FD)(ma:MA):ME:=λρ=>(ρ[i]?).join.bind λw=>if w.tJ c m=true then aS F (zf (zj i) ma) ρ else none
section
variable{ps:Qa (Qg×HO)}{fs:Qa (Str×PU)}{m:Str}{C C':Qg}{t:TA}{ma:MA}
theorem FO.aI(h:FO K H vs ps fs):fs.lookup m=none->vs.lookup m=none:=by
 refine FO.ind (M:=λvs ps fs=>fs.lookup m=none->vs.lookup m=none) h (λ_=>rfl) (λn v x vs ps fs _ _ ih e=>?_) λn b p u' vs ps fs _ _ ih e=>?_
 all_goals
  rw[List.lookup_cons]at e ⊢;split at e
  .cases e
  .rename_i q
   try rw[q]
   exact ih e
theorem sE{F:FD}(n:Nat)(h:jj K t ma)(hn:∀ ρ as af,zf (zj i) ma ρ=some (as,af)->as.length=n:=by repeat (first|exact Hb|refine HZ ?_)):VE K (GR K c m (lI K n F) (dS i) t) (jr c i m F ma):=by
 intro ρ σ H a af Q r e q;have(w,e0,e):=zb e;split at e
 .rename_i hw
  have(fs,rfl,hf):=T8 hw;have(v0,eZ,R):=r.rep i _ (qF e0);have(l,C',dx,vs,ps,rfl,hl,ne,EK,nd,fo,tT,own):=R;have op:Op K H l C' dx vs ps:=⟨hl,ne,nd,tT,own,fo.flat⟩;have(v,ev,z):=zK n (zd ze h) hn ρ σ H a af Q r e q;rw[eZ]at ev;cases ev;exact⟨_,eZ,⟨C',l,dx,vs,_,EK,rfl,op.bQ,mU,fo.aI hf⟩,z⟩
 .cases e
end
noncomputable def Hv:TE:=λ_ H Q=>∀ p,H p=none->Q (.ref p) (upd H p<|.dX [])
section
variable{b:Qg}
theorem T7(e:H b=some (.dT [])):Re K H (upd H b<|.dX []):=by
 have ne:∀ {c:Qg} {o:HO},H c=some o->o≠.dT []->c≠b:=λhc n z=>by
  rw[z,e]at hc;exact n (qx hc).symm
 have keep:∀ {c:Qg} {o:HO},H c=some o->o≠.dT []->upd H b (.dX []) c=some o:=λhc n=>by rw[zt<|ne hc n]; exact hc
 refine⟨λP w h ok c o hc=>?_,λc hc=>?_,λc xs hc=>keep hc (λz=>nomatch z),λc o u hc=>keep hc (λz=>nomatch z),λc ps hc=>keep hc (λz=>nomatch z)⟩
 .have st:∀ {c:Qg} {o:HO},zI P w K H h c o->zI P w K (upd H b<|.dX []) h c o:=λx=>x.cz (λ_ _ _ q=>q) (λb q=>keep q (λz=>nomatch z)) λb ys q=>keep q (λz=>nomatch z)
  by_cases z:c=b
  .subst z
   rw[zr]at hc;cases hc;refine st ?_;have(h1,h2,xs,hx,o,es,ep,h3,h4,h5,h6,h7):=(show zI P w K H h c (.dT []) from ok c _ e);cases hx;exact⟨h1,h2,[],.nil,o,es,ep,h3,h4,h5,h6,.nil⟩
  .rw[zt z]at hc
   exact st<|ok c o hc
 .rw[zt (λz=>by rw[z,e]at hc; cases hc)]
  exact hc
theorem Jd{X:Cx}:Wr (PE X (.Dict [] [] pos) Hv):=⟨λpins s σ H Q I q=>(BH pW).run pins s σ H Q I ⟨H,Re.refl _ _,λp hp=>⟨_,T7 zr,by rw[UX]; exact q p hp⟩⟩⟩
end
noncomputable def PU.new:PU->TE
 | .l _=>xx iH
 | .t _=>yt
 | _=>Hv
noncomputable def PU.ho:PU->HO
 | .l _=>.lst []
 | .t _=>.dT []
 | _=>.dX []
noncomputable def PU.nil:PU->Bool
 | .l []=>true
 | .t []=>true
 | .x []=>true
 | _=>false
theorem T6{p:PU}{Q:VK}(h:∀ b,H b=none->Q (.ref b) (upd H b p.ho)):p.new σ H Q:=by
 cases p with
 | l xs=>exact⟨Ì _,h⟩
 | _=>exact h
theorem Hu{p:PU}(h:p.nil=true):PP K H p.ho p:=by
 unfold PU.nil at h;split at h
 .exact aK.nil
 .exact Paired.nil
 .exact Paired.nil
 .cases h
noncomputable def Ca(K:qc):Qa (Str×PU)->TS
 | []=>λD σ H=>D.nx σ H
 | [(f,p)]=>uo K (dS 0) p.new f
 | (f,p)::r=>uj (uo K (dS 0) p.new f)<|Ca K r
noncomputable def AN(a C dx:Qg):Qa (Str×PU)->Qa (Str×V)->Hp->(Hp->Prop)->Prop
 | [],_,H,Q=>Q H
 | (f,p)::r,vs,H,Q=>∀ b,H b=none->AN a C dx r (vs++[(f,.ref b)]) (upd (upd H b p.ho) a<|.ins C dx<|vs++[(f,.ref b)]) Q
noncomputable def E1(C:Qg)(fl:Qa (Str×PU)):Sp:=λvs H Q _=>∃ a dx,vs=[.ref a]/\H a=some (.ins C dx [])/\AN a C dx fl [] H (Q .aI)
theorem UD{C:Qg}{fl:Qa (Str×PU)}{vs:Qa V}{Q:VK}{E:XK}(h:E1 C fl vs H Q E):vs.length=1:=by
 have(a,dx,rfl,_):=h;rfl
section
variable{C:Qg}
theorem Kf:∀ {fs:Qa (Str×V)},f∉fs.map (·.1)->fZ f y fs=fs++[(f,y)]
 | [],_=>rfl
 | (g,v)::r,h=>by
  rw[List.map_cons,qv,not_or]at h;unfold fZ;rw[if_neg (λz=>h.1 (by first|exact z|exact z.symm)),Kf h.2];rfl
theorem Ke(c:dQ K C){Q:Hp->Prop}{R:VK}:∀ {fl:Qa (Str×PU)} {vs:Qa (Str×V)} {H:Hp},fl≠[]->(∀ p∈fl,eT K C p.1)->(vs.map (·.1)++fl.map (·.1)).Nodup->vs.length+fl.length<=1000->H a=some (.ins C dx vs)->AN a C dx fl vs H Q->Ca K fl {nx:=λ_ H'=>Q H',rt:=R} (fq N [.ref a]) H
 | [],_,_,ne,_,_,_,_,_=>absurd rfl ne
 | (f,p)::r,vs,H,_,na,nd,hl,e,q=>by
  have hf:f∉vs.map (·.1):=λz=>(List.nodup_append.mp nd).2.2 _ z _ qp rfl;rw[qu]at hl;have go:∀ {D:Ends},(∀ b,H b=none->D.nx (fq N [.ref a]) (upd (upd H b p.ho) a<|.ins C dx<|vs++[(f,.ref b)]))->uo K (dS 0) p.new f D (fq N [.ref a]) H:=λh=>by
   refine T6 λb hb=>?_;refine⟨.ref a,rfl,a,C,dx,vs,rfl,?_,c,na _ qp,by omega,?_⟩
   .rw[zt (λz=>by rw[<-z,e]at hb; cases hb)]
    exact e
   .rw[Kf hf]
    exact h b hb
  cases r with
  | nil=>exact go q
  | cons x r=>
   refine go λb hb=>?_;refine Ke c (λz=>nomatch z) (λp hp=>na p<|qo _ hp) ?_ ?_ zr<|q b hb
   .rw[List.map_append,List.append_assoc]
    exact nd
   .rw[qt]
    simp only[qu,List.length_nil]at hl ⊢;omega
end
structure nK (P:Qe) (w:Qh) (K:qc) (mg:Str->Qb Qc) (base:Heap) (n:Str) (fl:Qa (Str×PU)):Prop where
 fn:∃ (C f:Qg) (fd:FuncData) (ps:Qa Str),XN K n C/\mg n=some (.ref C)/\Mk K C f/\jS K fd ps []/\bP P w K mg base gN 1 f fd ps (E1 C fl)
noncomputable def MV(K:qc)(c:Str)(fl:Qa (Str×PU)):TE:=λσ H Q=>∀ C,XN K c C->ET K (Hl C (E1 C fl) [] E0 iH) σ H Q
theorem zAQ{X:Cx}{fl:Qa (Str×PU)}(O:nK X.prog X.w X.K X.mg X.base x fl)(hr:aD 2 X.A:=by exact aD.mono ‹aD _ _› (by decide))(hg:Gl X x:=by exact rfl)(cK:(x==("__debug__":Str))=false:=by decide):
  Wr (PE X (.Call (.Name x p) [] [] pos)<|MV X.K x fl):=by
 have(C,f,fd,ps,xn,gm,M,hb,F):=O.fn;exact⟨λpins s σ H Q I h=>(BH ⟨X0 (dvs:=[]) (E:=E0) M F hr hg gm hb .nil CO cK⟩).run pins s σ H Q I<|h C xn⟩
structure wX (K:qc) (H₀:Hp) (x C dx:Qg) (vs:Qa (Str×V)) (ps:Qa (Qg×HO)) (fs:Qa (Str×PU)) (H:Hp):Prop where
 at_:H x=some (.ins C dx vs)
 pa:∀ q∈ps,H q.1=some q.2/\q.2.flat=true
 nd:(ps.map (·.1)).Nodup
 fo:∀ H,FO K H vs ps fs
 rE:H dx=some (.own x)
 sm:∀ b o,H₀ b=some o->b≠x->H b=some o
 nw:∀ q∈ps,H₀ q.1=none
 ln:ps.length=fs.length
section
variable{x C b:Qg}{ps:Qa (Qg×HO)}{fs fl:Qa (Str×PU)}{p:HO}{u:PU}
theorem FO.snoc{n:Str}(h:FO K H vs ps fs)(hp:PP K H p u):FO K H (vs++[(n,.ref b)]) (ps++[(b,p)]) (fs++[(n,u)]):=
 FO.ind (M:=λvs ps fs=>FO K H (vs++[(n,.ref b)]) (ps++[(b,p)])<|fs++[(n,u)]) h (FO.pp hp .nil) (λ_ _ _ _ _ _ h _ ih=>.d h ih) λ_ _ _ _ _ _ _ h _ ih=>.pp h ih
theorem wX.step(i:wX K H₀ x C dx vs ps fs H)(hx:H₀ x=none)(hb:H b=none)(hu:u.nil=true):wX K H₀ x C dx (vs++[(f,.ref b)]) (ps++[(b,u.ho)]) (fs++[(f,u)]) (upd (upd H b u.ho) x<|.ins C dx<|vs++[(f,.ref b)]):=by
 have bx:b≠x:=λz=>by rw[z,i.at_]at hb; cases hb
 have nb:∀ {c:Qg} {o:HO},H c=some o->c≠b:=λhc z=>by rw[z,hb]at hc; cases hc
 have b0:H₀ b=none:=by
  cases e:H₀ b with
  | none=>rfl
  | some o=>rw[i.sm b o e bx]at hb; cases hb
 refine⟨zr,λq hq=>?_,?_,λH=>(i.fo H).snoc<|Hu hu,?_,λc o hc n=>?_,λq hq=>?_,by rw[qt,qt,i.ln]; rfl⟩
 .rcases Á.mp hq with hq|hq
  .have(h1,h2):=i.pa q hq
   refine⟨?_,h2⟩;rw[zt (λz=>by rw[z,i.at_]at h1; rw[<-qx h1]at h2; cases h2),zt<|nb h1];exact h1
  .cases qq.mp hq
   refine⟨?_,(Hu (K:=K) (H:=H) hu).flat⟩;rw[zt bx];exact zr
 .rw[List.map_append,List.nodup_append]
  refine⟨i.nd,by simp,λc hc d hd z=>?_⟩;cases qq.mp hd;have(q,hq,eq):=À.mp hc;exact nb (i.pa q hq).1<|eq.trans z
 .rw[zt λz=>?_,zt<|nb i.rE]
  .exact i.rE
  .have:=i.rE
   rw[z,i.at_]at this;cases this
 .rw[zt n,zt<|nb<|i.sm c o hc n]
  exact i.sm c o hc n
 .rcases Á.mp hq with hq|hq
  .exact i.nw q hq
  .cases qq.mp hq
   exact b0
theorem Ht{Q:Hp->Prop}(hx:H₀ x=none):∀ {fl fs:Qa (Str×PU)} {vs:Qa (Str×V)} {ps:Qa (Qg×HO)} {H:Hp},wX K H₀ x C dx vs ps fs H->(∀ p∈fl,p.2.nil=true)->(∀ vs ps H,wX K H₀ x C dx vs ps (fs++fl) H->Q H)->AN x C dx fl vs H Q
 | [],fs,vs,ps,H,i,_,q=>q vs ps H (by rw[List.append_nil]; exact i)
 | (f,u)::r,fs,vs,ps,H,i,hn,q=>λb hb=>Ht hx (i.step hx hb<|hn _ qp) (λp hp=>hn p<|qo _ hp) λvs ps H j=>q vs ps H (by rw[List.append_assoc]at j; exact j)
noncomputable def BD(c:Str)(fl:Qa (Str×PU)):ME:=λρ=>some (.u<|.o c fl,ρ)
theorem zAR(ne:fl≠[])(hn:∀ p∈fl,p.2.nil=true):VE K (MV K c fl) (BD c fl):=by
 intro ρ σ H a af Q r e q;cases e;intro C xn;refine⟨H,Re.refl _ _,λx dx hx hd nx=>⟨x,dx,rfl,zr,?_⟩⟩;refine Ht (K:=K) (H₀:=H) (fs:=[]) (ps:=[]) hx ⟨zr,λq hq=>(nomatch hq),.nil,λ_=>.nil,?_,λb o hb n=>?_,λq hq=>(nomatch hq),rfl⟩ hn λvs ps H2 i=>⟨rfl,?_⟩
 .rw[zt nx]
  exact zr
 .rw[zt n,zt<|i6 hb hd]
  exact hb
 .have px:∀ q∈ps,q.1≠x:=λq hq z=>by
   have(h1,h2):=i.pa q hq;rw[z,i.at_]at h1;rw[<-qx h1]at h2;cases h2
  have dm:dx∉ps.map (·.1):=λz=>by
   have(q,hq,eq):=À.mp z;have(h1,h2):=i.pa q hq;rw[eq,i.rE]at h1;rw[<-qx h1]at h2;cases h2
  refine⟨_,x9 (ps:=ps) i.at_ px i.pa,?_⟩;have sm:cn H (fL H2 x C dx vs ps):=λb o hb=>by
   have bx:=i6 hb hx;rw[p9 (λz=>?_) bx]
   .exact i.sm b o hb bx
   .have(q,hq,eq):=À.mp z
    have:=i.nw q hq;rw[eq,hb]at this;cases this
  refine q _ _ (Go.grow r sm) ⟨⟨x,C,dx,vs,ps,rfl,vp,λz=>?_,xn,i.nd,i.fo _,dm,λq hq=>sL (À.mpr ⟨q,hq,rfl⟩)<|px q hq⟩,λ_=>⟨x,rfl,hx⟩⟩;have l:=i.ln;rw[z]at l;exact ne<|é.mp l.symm
end
section
variable{C b l:Qg}{ps:Qa (Qg×HO)}
theorem Op.new(o:Op K H a C dx vs ps)(hl:L2.bQ H a C dx vs ps l=none)(t:HO):H l=none/\Re K (upd (L2.bQ H a C dx vs ps) l t) (upd H l t):=by
 have la:l≠a:=λz=>by rw[z,mU]at hl; cases hl
 have lp:l∉ps.map (·.1):=λz=>by
  have(q,hq,eq):=À.mp z;rw[<-eq,pQ o.nd hq<|o.pa q hq]at hl;cases hl
 have h0:H l=none:=by rw[mT lp la]at hl; exact hl
 refine⟨h0,?_⟩;have ql:∀ q∈ps,q.1≠l:=λq hq z=>lp<|À.mpr ⟨q,hq,z⟩;have:=x9 (K:=K) (H:=upd (L2.bQ H a C dx vs ps) l t) (a:=a) (C:=C) (dx:=dx) (vs:=vs) (ps:=ps) (by rw[zt<|Ne.symm la]; exact mU) o.pa λq hq=>⟨by rw[zt<|ql q hq]; exact pQ o.nd hq<|o.pa q hq,o.flat q hq⟩;have e:L2.fL (upd (L2.bQ H a C dx vs ps) l t) a C dx vs ps=upd H l t:=by
  funext c
  by_cases h1:c=a
  .subst h1
   rw[vp,zt<|Ne.symm la,o.at_]
  .by_cases h2:c∈ps.map (·.1)
   .rw[sL h2 h1]
    have(q,hq,e):=À.mp h2;rw[<-e,zt<|ql q hq,o.own q hq]
   .rw[p9 h2 h1]
    by_cases h3:c=l
    .subst h3
     rw[zr,zr]
    .rw[zt h3,zt h3,mT h2 h1]
 rw[e]at this;exact this
end
noncomputable def zAS(c:Str)(i:Nat)(f:Str):MT:=λρ=>(nH c i f ρ).bind λxs=>some (!xs.isEmpty,ρ)
section
variable{mk mv:ME}{EX:e9}
theorem Qx(hc:∀ C,XN K c C->dQ K C/\eT K C f):VT K (xk K<|rX K<|uh K (dS i) f) (zAS c i f):=by
 intro ρ σ H a af Q r e q;have(xs,e0,e):=zb e;cases e;have(fs,l,C,dx,vs,ps,b,us,_,t,kv):=Df r e0;exact⟨_,t.op.bQ,_,t.st,l,C,dx,vs,_,rfl,mU,(hc C t.xn).1,(hc C t.xn).2,t.vl,_,.inl ⟨us,bq.of t.at,Am kv⟩,H,t.op.fL,q _<|Go.refl r⟩
end
section
variable{ρ:En}{mk mv me:ME}{ma:MA}{m:Str}{QE:Ar×En->Prop}{QS:Fl->Prop}{QT:Bool×En->Prop}{F:FD}{fl:Qa (Str×PU)}
theorem VH:Wo (jr c i m F ma ρ) QE=Wo (ρ[i]?).join (Co (λw=>if w.tJ c m=true then aS F (zf (zj i) ma) ρ else none) ⟨0⟩ QE):=by
 show Wo (Option.bind _ _) QE=_;rw[zo]
theorem VG:Wo (BD c fl ρ) QE=QE (.u<|.o c fl,ρ):=by
 show Wo (some _) QE=_;rw[zX]
theorem Sw{QX:Qa (Qa K3×D)->Prop}:Wo (fX c i f ρ) QX=Wo (ρ[i]?).join (Co (λw=>(w.fp c f).bind (·.xs)) ⟨0⟩ QX):=by
 show Wo (Option.bind _ _) QX=_;rw[zo]
theorem VF{QX:Qa D->Prop}:Wo (nH c i f ρ) QX=Wo (ρ[i]?).join (Co (λw=>(w.fp c f).bind (·.ls)) ⟨0⟩ QX):=by
 show Wo (Option.bind _ _) QX=_;rw[zo]
theorem Zk:Wo (Ce c i f mk ρ) QE=Wo (fX c i f ρ) (Co (λkvs=>(mk ρ).bind λp=>(lY p).bind λk=>(bL kvs k).bind λy=>some (.u<|.d y,p.2)) ⟨0⟩ QE):=by
 show Wo (Option.bind _ _) QE=_;rw[zo]
theorem VD{neg:Bool}:Wo (BE neg mk c i f ρ) QE=Wo (mk ρ) (Co (λp=>(fX c i f p.2).bind λkvs=>(lY p).bind λk=>some (.u<|.d<|.bool (if neg=true then !(bL kvs k).isSome else(bL kvs k).isSome),p.2)) ⟨0⟩ QE):=by
 show Wo (Option.bind _ _) QE=_;rw[zo]
theorem Zj:Wo (Cd c i f mk mv ρ) QS=Wo (mv ρ) (Co (λp=>(fX c i f p.2).bind λkvs=>(mk p.2).bind λq=>(lY q).bind λk=>(p.1.get q.2).bind λx=>x.da.bind λx=>(q.2[i]?).join.bind λw=>if kvs.length < sizeLine then some (.nx<|q.2.set i<|some<|w.aQ f<|.x<|cf kvs k x)else none) ⟨0⟩ QS):=by
 show Wo (Option.bind _ _) QS=_;rw[zo]
theorem Zi:Wo (Cb c i f ρ) QE=Wo (nH c i f ρ) (Co (λxs=>some (.u<|.d<|.int xs.length,ρ)) ⟨0⟩ QE):=by
 show Wo (Option.bind _ _) QE=_;rw[zo]
theorem Zh:Wo (xO c i f me ρ) QE=Wo (ρ[i]?).join (Co (λw=>(w.fl c f).bind λxs=>(me ρ).bind λp=>(p.1.get p.2).bind λu=>u.da.bind λx=>if xs.length < sizeLine then some (.u<|.d .none,p.2.set i<|some<|w.aQ f<|.l<|xs++[x])else none) ⟨0⟩ QE):=by
 show Wo (Option.bind _ _) QE=_;rw[zo]
end
theorem pP{X:Cx}(he:Wr (PE X e ta))(hb:attributeBase e f X.env (eval e X.env)=eval e X.env:=by rfl):Wr (PE X (.Attribute e f pos)<|nU X.K ta f):=BH ⟨Iy he.run hb⟩
theorem Qw{X:Cx}(he:Wr (PE X e ta))(hb:attributeBase e f X.env (eval e X.env)=eval e X.env:=by rfl)(hi:∀ whole,isTrue (.Attribute e f pos) X.env whole=(do let v <-whole; standAt (Expr.Attribute e f pos).pos; holding [v] (truthy v)):=by intro _; rfl):Wr (PT X (.Attribute e f pos)<|xk X.K<|rX X.K<|uh X.K ta f):=zAK (OK ⟨Iy he.run hb⟩ hi)
def OB(K:qc)(c:Str)(fl:Qa Str):Prop:=∀ C,XN K c C->dQ K C/\∀ f∈fl,eT K C f
theorem OB.of{C:Qg}{fl:Qa Str}(h:XN K c C)(k:dQ K C)(n:∀ f∈fl,eT K C f):OB K c fl:=λC' h'=>by
 cases h.one h';exact⟨k,n⟩
theorem OB.at{fl:Qa Str}(o:OB K c fl)(h:f∈fl:=by decide):∀ C,XN K c C->dQ K C/\eT K C f:=λC x=>⟨(o C x).1,(o C x).2 f h⟩
def t7(K:qc)(c x q:Str)(st:Stmt):Prop:=∃ (C f:Qg) (fd:FuncData),XN K c C/\dQ K C/\iA K x q st f fd/\rK K C x f
theorem mtK{q:Str}{C f:Qg}{oc:Qc}{od an:Qb Qg}{kV doc pm aV ct:Qc}(a:PySem.W.nsIn K mainGlobals c=some (some<|.ref C))(pg:PySem.W.plainGet K C Str.empty=true)(hd:PySem.W.hasDictIn K C=true)(po:PySem.W.plainOver K C=true)(sa:PySem.W.findIn K (.ref C) "__setattr__"=some (some<|.builtin "object.__setattr__"))
  (m:PySem.W.findIn K (.ref C) x=some (some<|.ref f)) (fn:PySem.W.isFn K (.ref f)=true) (l:K.lookup f=some ⟨oc,od,.func<|PySem.W.fnOf x q (lD st) (hU st) (zJ st) .none kV doc pm an aV ct,lJ⟩) (cd:PySem.W.codeIn K aV q=true) (k:PySem.W.keepIn K (.ref f)=true):t7 K c x q st :=
 ⟨C,f,_,a,⟨pg,hd,po,sa⟩,Du l cd k,⟨m,fn,k⟩⟩
abbrev Zs.M(Z:Zs)(c x:Str)(k:Nat)(ps:Qa Str)(n:Nat)(F:FD):Prop:=wZ Z.P Z.w Z.K Z.mg Z.base c x k ps (lI Z.K n F)
section
variable{Z:Zs}{q:Str}{k nn:Nat}{m:MS}
theorem MU(A:t7 Z.K c x q st)(N:Qa Str)(bI:∀ {f},Cy Z q st k pn m N f)(S:bo N ps (zJ st):=by exact⟨rfl,rfl,rfl,by decide +kernel,rfl,by decide +kernel,by decide +kernel⟩)(tP:ps.length=n:=by rfl)(hN:N.length=nn:=by rfl)(tQ:n<=nn:=by decide)
  (hb:∀ (kV doc pm:Qc) (an:Qb Qg) (aV ct:Qc) (us:Qa Qc),us.length=ps.length->bindArgs (PySem.W.fnOf x q (lD st) (hU st) (zJ st) .none kV doc pm an aV ct) ⟨us,[]⟩=pure (ps.zip us):=by
   intro _ _ _ _ _ _ us hl
   first
   | (have(_,rfl):=BJ hl; rfl)
   | (have(_,_,rfl):=MH hl; rfl)
   | (have(_,_,_,rfl):=MF hl; rfl)
   | (have(_,_,_,_,rfl):=MD hl; rfl)):Z.M c x (k+1) ps n (cj nn pn m):=
 let ⟨C,f,fd,xn,cl,F,mt⟩:=A; ⟨⟨C,f,fd,xn,cl,F.Nr S tP hN tQ λaV A outer s H E hr=>let ⟨t,a,b⟩:=bI S.nd hr; ⟨t,b,a⟩,F.binds hb,mt⟩⟩
theorem zBq{fl:Qa (Str×PU)}{C f:Qg}(xn:XN Z.K c C)(g:Z.mg c=some (.ref C))(M:Mk Z.K C f)(cl:dQ Z.K C)(na:∀ p∈fl,eT Z.K C p.1)(F:iA Z.K "__init__" q st f fd)(ne:fl≠[])(nd:(fl.map (·.1)).Nodup)(hl:fl.length<=1000)
  (S:bo ["self"] ["self"] (zJ st))
  (hb:∀ (kV doc pm:Qc) (an:Qb Qg) (aV ct:Qc) (us:Qa Qc),us.length=1->bindArgs (PySem.W.fnOf "__init__" q (lD st) (hU st) (zJ st) .none kV doc pm an aV ct) ⟨us,[]⟩=pure (([("self":Str)]:Qa Str).zip us))
  (hw:∀ {aV:Qc} {A:Qf} {outer:Qa Env} {s:Qd} {H:Hp} {E:XK},([("self":Str)]:Qa Str).Nodup->Wr (dG (lg gN Z.P Z.w Z.K Z.mg Z.base ["self"] q (zJ st) f aV A outer s H E).oM (hU st)<|Ca Z.K fl)):nK Z.P Z.w Z.K Z.mg Z.base c fl:=by
 refine⟨C,f,fd,["self"],xn,g,M,F.binds hb,F.Nq (k:=0) S (λvs H Q E h=>UD h) λaV A outer s H vs Q E hr h=>⟨_,hw S.nd,?_⟩⟩;have(a,dx,rfl,e,q):=h;exact Ke cl ne na (by rw[List.map_nil,List.nil_append]; exact nd) (by rw[List.length_nil,Nat.zero_add]; exact hl) e q
end
section
variable{K:Type}[DecidableEq K]{knd:HeapKind prog w K}
end
section
variable{X:Cx}
end
section
variable{EX:e9}{ρ af:En}
end
section
end
section
variable{kx vx t1 i1 t2 i2:Expr}{it:Qc}{D:Qg}
end
section
variable{v:Qg}
end
section
variable{X:Cx}{H0:Hp}{res:Qc}{S:Qg}{o:Obj}
end
section
variable{X:Cx}
end
section
end
section
variable{X:Cx}{kx vx t1 i1 t2 i2:Expr}{D:Qg}
end
section
variable{X:Cx}{xs:Qa Str}{ts:Qa Str}{fp:Qa Qg}
end
section
variable{ρ af cM ρb:En}{jo:St}{A:Qg->Prop}{D:Qg}
end
section
variable{ρ af aj:En}{H1:Hp}
end
section
variable{z TI TO i1 i2 t1 t2:Qg}{k:Nat}{xs ys:Array Qc}{x y a b:Qc}
end
section
end
section
variable{X:Cx}{k:Nat}
end
section
variable{X:Cx}{k:Nat}
end
noncomputable def lsN:U->Qb (Qa D)
 | .l xs=>some xs
 | .d (.list xs)=>some xs
 | _=>none
section
variable{ρ:En}
end
theorem YM(l:Qg)(items:Array Qc)(n:Nat)(sl:Array (Qb Qc))(b:Qg)(fS:Array Qc)(n2:Nat)(tH:Array (Qb Qc))(hc0:items.size+fS.size<=sizeLine):
  Meets (Builtin.«list.__add__» ⟨[.ref l,.ref b],[]⟩) (λ_ R s=>s.heap.get? l=some {cls:=.type "list",dict:=none,data:=.seq items n,slots:=sl}/\s.heap.get? b=some {cls:=.type "list",dict:=none,data:=.seq fS n2,slots:=tH}/\R (.ok<|.ret<|.ref s.heap.objs.size) {s with heap:=s.heap.push {cls:=.type "list",data:=.seq (items++fS)},toks:=s.toks}):=
 .of_wp λprog w A R s h=>by
  have(hp,g,d,tk,os):=s;have(hl,hb,h):=h;have f1:=PySem.AutoSeq1.idx_int;have f2:=PySem.AutoSeq1.sub_tuple_tuple;have f3:=PySem.AutoSeq1.sub_list_list;have f4:=PySem.AutoSeq1.sub_tuple_list;have f5:=PySem.AutoSeq1.sub_list_tuple
  wp_walk using PySem.AutoSeq1.wpAny_loadPart' hl,PySem.AutoSeq1.wpAny_loadPart' hb
  exact⟨_,rfl,h⟩
section
variable{X:Cx}
noncomputable def G9(K:qc):R2:=λx y H Q=>∃ l b xs zs,x=.ref l/\y=.ref b/\bq K H l xs/\bq K H b zs/\xs.length+zs.length<=sizeLine/\∀ p,H p=none->Q (.ref p) (upd H p<|.lst<|xs++zs)
theorem Jc(hK:X.K=K:=by rfl):bu X (binaryOp .Add) (G9 K):=by
 subst hK;intro pins s σ H x y v u Q I rx ry h;have(l,b,xs,zs,rfl,rfl,hH,hB,hz,q):=h;cases rx;cases ry;obtain⟨ai,r,⟨o,n,e,c1,d1,t1⟩,_⟩:=I.list hH;obtain⟨fQ,r2,⟨o2,n2,e2,c2,d2,t2⟩,_⟩:=I.list hB;have(cls,dd,data,sl):=o;have(Gw,Gu,data2,tH):=o2;simp only at c1 d1 t1 c2 d2 t2;subst c1 d1 t1 c2 d2 t2;have l1:=r.length;have l2:=r2.length;have ea:ai.toArray++fQ.toArray=(ai++fQ).toArray:=by simp
 refine concat_meets ⟨_,e,rfl⟩ ⟨_,e2,rfl⟩ noFill_list_add seq_list_add F.slot_list_add F.entry_list_add (F.args_list_add_2 _ _) (YM l ai.toArray n sl b fQ.toArray n2 tH (by rw[List.size_toArray,List.size_toArray]; omega)) ⟨e,e2,?_⟩;rw[ea];exact⟨.ref _,_,I.Fk (t':=s.toks) (r.append r2) (by rw[qt]; omega),rfl,q _ I.fresh⟩
end
noncomputable def xN(u w:U):Qb U:=(lsN u).bind λxs=>(lsN w).bind λys=>if xs.length+ys.length<=sizeLine then some (.l<|xs++ys)else none
theorem Hs{u:U}{xs:Qa D}(p:Rp K H v u)(h:lsN u=some xs):∃ a us,v=.ref a/\bq K H a us/\aK K H us xs:=by
 unfold lsN at h;split at h
 .cases h
  have(a,us,rfl,h1,h2):=p;exact⟨a,us,rfl,bq.of h1,h2⟩
 .cases h
  have(b,vy,rfl,h2,d2):=DF.lst_inv p;exact⟨b,vy,rfl,PL.sq h2,d2⟩
 .cases h
theorem Jb:VO K (G9 K) xN:=by
 intro x y a b u H Q ha hb e q;have(xs,ex,e):=zb e;have(ys,ey,e):=zb e;split at e
 .rename_i hz
  cases e;have(p,us,rfl,h1,h2):=Hs ha ex;have(p',eG,rfl,gU,jJ):=Hs hb ey;refine⟨p,p',us,eG,rfl,rfl,h1,gU,by rw[h2.len,jJ.len]; exact hz,λr hr=>?_⟩;have s:=zM hr (.lst<|us++eG);exact q _ _ s ⟨r,_,rfl,zr,(h2.app jJ).kp s.kp⟩ λ_=>⟨r,rfl,hr⟩
 .cases e
section
variable{ρ:En}{mi me mk mv:ME}{QE:Ar×En->Prop}{QS:Fl->Prop}{QI:Qa D×En->Prop}
end
noncomputable def eI(rs ps:Qa D)(pl ml:Qa (Qa K3×D)):U:=.o "NewRows" [("rows",.l rs),("paper",.l ps),("places",.x pl),("mark_places",.x ml)]
section
variable{rs ps xs:Qa D}{pl ml kv:Qa (Qa K3×D)}
theorem VB:U.o "NewRows" [("rows",.l rs),("paper",.l ps),("places",.x pl),("mark_places",.x ml)]=eI rs ps pl ml:=rfl
theorem VA:U.tJ "NewRows" "add_new" (eI rs ps pl ml)=true:=rfl
theorem Vz:U.tJ "NewRows" "shared" (eI rs ps pl ml)=true:=rfl
theorem Vy:U.fl "NewRows" "rows" (eI rs ps pl ml)=some rs:=rfl
theorem Vx:U.fl "NewRows" "paper" (eI rs ps pl ml)=some ps:=rfl
theorem Vw:U.fp "NewRows" "rows" (eI rs ps pl ml)=some (.l rs):=rfl
theorem Vv:U.fp "NewRows" "places" (eI rs ps pl ml)=some (.x pl):=rfl
theorem Vu:U.aQ "rows" (.l xs) (eI rs ps pl ml)=eI xs ps pl ml:=rfl
theorem Vt:U.aQ "paper" (.l xs) (eI rs ps pl ml)=eI rs xs pl ml:=rfl
theorem Vs:U.aQ "places" (.x kv) (eI rs ps pl ml)=eI rs ps kv ml:=rfl
theorem Vr:PU.ls (.l xs)=some xs:=rfl
theorem V3:PU.xs (.x kv)=some kv:=rfl
end
section
variable{ρ:En}{QI:Qa D×En->Prop}
end
end L2
namespace L2
open PySem PySem.Spec PyProof.Rows
open PySem.AutoSeq1 (wpAny_loadPart')
open MeetsSeq MeetsSeq2 MeetsSeq3 SeqRoads2
end L2
namespace L2
open PySem PySem.Spec PyProof.Rows
theorem K8(val:Nat->Int):∀ k,argBest (λi j=>decide<|val i < val j) k<=k/\∀ i,i<=k->val (argBest (λi j=>decide<|val i < val j) k)<=val i
 | 0=>⟨qe _,λi hi=>by cases Nat.le_zero.mp hi; exact Int.le_refl _⟩
 | k+1=>by
  have(h1,h2):=K8 val k;unfold argBest
  by_cases c:val (k+1) < val (argBest (λi j=>decide<|val i < val j) k)
  .rw[if_pos<|decide_eq_true c]
   refine⟨qe _,λi hi=>?_⟩;rcases ä i (k+1)with z|z
   .have:=h2 i (by omega)
    omega
   .have:i=k+1:=by omega
    subst this;exact Int.le_refl _
  .rw[if_neg (by rw[decide_eq_false c]; exact qf)]
   refine⟨by omega,λi hi=>?_⟩;rcases ä i (k+1)with z|z
   .exact h2 i (by omega)
   .have:i=k+1:=by omega
    subst this;omega
def G8(K:qc):Qa V->Hp->VK->Prop:=λxs H Q=>∃ (p:Qg) (ns:Qa Int) (m:Int),xs=[.ref p]/\(bq K H p (ns.map V.int)\/bj K H p (ns.map V.int))/\m∈ns/\(∀ x∈ns,m<=x)/\Q (.int m) H
theorem Qv{X:Cx}(K:qc)(hK:X.K=K)(hc:X.calm=true):eE X (.builtin "min") (G8 K):=by
 subst hK;intro pins s σ H xs us Q I r h;have(p,ns,m,rfl,hq,z1,z2,q):=h;have(u,rfl,ru):=jT r;cases ru;have val:∀ {i:Nat} {v:Qc},(∃ x,(ns.map V.int)[i]?=some x/\zD x v)->∃ t,v=.int (ns.getD i 0) t/\ns[i]?=some (ns.getD i 0):=λ{i v} hx=>by
  have(x,ex,rx):=hx;rw[List.getElem?_map]at ex;cases eb:ns[i]? with
  | none=>rw[eb]at ex; cases ex
  | some b=>
   rw[eb]at ex;cases ex;have(t,rfl):=rx;have ew:ns.getD i 0=b:=by rw[qB,eb]; rfl
   exact⟨t,by rw[ew],by rw[ew]⟩
 have h0:0 < ns.length:=List.length_pos_of_mem z1;refine call_min_walk<|Eg I (I.ok.hd hc) hq λit fp wr n P St s2 W st A7 hn hP hI=>⟨it,fp,wr,n,P,St,_,rfl,W,st,A7,by rw[hn,List.length_map]; exact h0,CmpOf.ints_lt (λi=>ns.getD i 0) (λi v hv=>let ⟨t,e,_⟩:=val (hP i v hv); ⟨t,e⟩),λv h' tk hv hk=>?_⟩;rw[List.length_map]at hn;have(t,rfl,ei):=val (hP _ v hv);have(b1,b2):=K8 (λi=>ns.getD i 0) (n - 1);have e:m=ns.getD (argBest (λi j=>decide<|ns.getD i 0 < ns.getD j 0)<|n - 1) 0:=by
  have le1:=z2 _ (Ç ei);have(k,hk,ek):=List.getElem_of_mem z1;have Fo:=b2 k (by omega);have wN:ns.getD k 0=m:=by rw[qB,qm hk,ek]; rfl
  have Fn:ns.getD (argBest (λi j=>decide<|ns.getD i 0 < ns.getD j 0)<|n - 1) 0<=ns.getD k 0:=Fo;omega
 exact⟨.int m,H,hI h' tk hk,⟨t,by rw[e]⟩,q⟩
noncomputable def sI(n:Int)(ns:Qa Int):Int:=ns.foldl (λa b=>if b < a then b else a) n
theorem KU:∀ (ns:Qa Int) (n:Int),sI n ns∈n::ns/\∀ x∈n::ns,sI n ns<=x
 | [],n=>⟨qp,λx hx=>by rw[qq.mp hx]; exact Int.le_refl _⟩
 | b::ns,n=>by
  have(h1,h2):=KU ns (if b < n then b else n);have e:sI n (b::ns)=sI (if b < n then b else n) ns:=rfl;rw[e];have le:(if b < n then b else n)<=n/\(if b < n then b else n)<=b:=by split<;>omega
  refine⟨?_,λx hx=>?_⟩
  .rcases qv.mp h1 with z|z
   .rw[z]
    split
    .exact qo _ qp
    .exact qp
   .exact qo _ (qo _ z)
  .have h0:=h2 _ qp
   rcases qv.mp hx with rfl|hx
   .omega
   .rcases qv.mp hx with rfl|hx
    .omega
    .exact h2 x (qo _ hx)
section
noncomputable def Cn(u:U):Qb U:=u.items.bind λxs=>(sf xs).bind λns=>match ns with|n::ns=>some (.d<|.int<|sI n ns) | []=>none
theorem UC:VC K (G8 K) (f1 Cn):=nP λv a u H Q h e q=>by
 have(xs,ex,e):=zb e;have(ns,en,e):=zb e;have(p,ys,rfl,s,d):=h.items ex;cases W1 d en;cases ns with
 | nil=>cases e
 | cons n ns=>
  cases e;have(h1,h2):=KU ns n;exact⟨p,n::ns,sI n ns,rfl,s,h1,h2,q _ _ (λ_ _ z=>z) (.int _) Nw.data⟩
end
section
variable{B:Qg}{ks:Qa (Qa Int)}
end
section
variable{ks:Qa (Qa Int)}
end
section
variable{X:Cx}
end
section
variable{X:Cx}
end
section
variable{X:Cx}{k:Nat}{f:Qg}{B p:Qg}{vs:Qa V}{val:Qa (Int×Qa Int)}{Iv:Hp->Prop}
end
section
variable{X:Cx}{gp Fp:Pos}{g:Str}{k:Nat}
end
section
end
section
end
section
end
section
end
section
variable{ρ:En}{my:ME}{QE:Ar×En->Prop}
end
end L2
namespace L2
open PySem PySem.Spec PySem.W PyProof.Rows
section
end
section
variable{X:Cx}
end
section
end
end L2
namespace L2
open PySem PySem.Spec PyProof.Rows
theorem KS:Manifest.owners.lookup (String.ofList ['d','e','s','r','e','v','e','r'].reverse)=some Manifest.sig_reversed:=by kernel_rfl
theorem vz:Slot "reversed" "__next__" "reversed.__next__" :=
 .of (owner := "reversed") (n := "__next__") (by rw[typeLookup_type,builtinLookup_eq_fast]; kernel_rfl) (by decide +kernel) (by decide +kernel) (by decide +kernel)
  (by first|exact .inl (by decide +kernel) | exact .inr (by decide +kernel)) (by rw[isSubtype_type]; kernel_rfl)
theorem L5:entryFor table "reversed.__next__"=some Builtin.«reversed.__next__»:=entryFor_of_tree (by kernel_rfl)
theorem LD(a:Qc):argsOk "reversed.__next__" ⟨[a],[]⟩:=by
 unfold argsOk; rw[signature?_of (id := "reversed.__next__") (n:=['_','_','t','x','e','n','_','_']) (o:=['d','e','s','r','e','v','e','r']) (by kernel_rfl) KS]; kernel_rfl
theorem zev:Slot "reversed" "__iter__" "reversed.__iter__" :=
 .of (owner := "reversed") (n := "__iter__") (by rw[typeLookup_type,builtinLookup_eq_fast]; kernel_rfl) (by decide +kernel) (by decide +kernel) (by decide +kernel)
  (by first|exact .inl (by decide +kernel) | exact .inr (by decide +kernel)) (by rw[isSubtype_type]; kernel_rfl)
theorem zhV(a:Qc):argsOk "reversed.__iter__" ⟨[a],[]⟩:=by
 unfold argsOk; rw[signature?_of (id := "reversed.__iter__") (n:=['_','_','r','e','t','i','_','_']) (o:=['d','e','s','r','e','v','e','r']) (by kernel_rfl) KS]; kernel_rfl
theorem zhD:entryFor table "reversed.__iter__"=some Builtin.«dict_keyiterator.__iter__» :=
 entryFor_alias (id' := "dict_keyiterator.__iter__") (by kernel_rfl) (by first|rfl|decide +kernel | (unfold String.splitOn; simp +decide [String.splitOnAux])) (by decide +kernel) (by kernel_rfl)
theorem zhW:Slot "reversed" "__init__" "object.__init__" :=
 .of (owner := "object") (n := "__init__") (by rw[typeLookup_type,builtinLookup_eq_fast]; kernel_rfl) (by decide +kernel) (by decide +kernel) (by decide +kernel)
  (by first|exact .inl (by decide +kernel) | exact .inr (by decide +kernel)) (by rw[isSubtype_type]; kernel_rfl)
theorem Zq:TypeCalled "reversed" "reversed.__new__" "object.__init__" :=
 ⟨by decide +kernel,by decide +kernel,⟨_,_,F.mro_reversed⟩,F.made_reversed,by decide +kernel,by rw[isSubtype_type]; kernel_rfl,zhW⟩
theorem Zp:typeLookup (.type "tuple") (Str.ofString "__reversed__")=pure none:=by rw[typeLookup_type,builtinLookup_eq_fast]; kernel_rfl
theorem zjD:isSubtype (.type "tuple") (.type "dict")=pure false:=by rw[isSubtype_type]; kernel_rfl
def om(h:Heap)(a l:Qg)(i:Int):Prop:=∃ o,h.get? a=some o/\o.cls=.type "reversed"/\o.data=.fields #[.ref l,rawInt i]
theorem om.typeIs{l:Qg}{i:Int}(x:om s.heap a l i):s.TypeIs (.ref a) "reversed":=let ⟨o,ho,hc,_⟩:=x; ⟨o,ho,hc⟩
theorem V2(t:Qg)(items:Array Qc)(n:Nat)(e8:Qb Qg)(sl:Array (Qb Qc)):
  Meets (Builtin.«reversed.__new__» ⟨[.type "reversed",.ref t],[]⟩) (λ_ R s=>s.heap.get? t=some {cls:=.type "tuple",dict:=e8,data:=.seq items n,slots:=sl}/\(items.size:Int) < 2^63/\
   R (.ok<|.ret<|.ref s.heap.objs.size) {s with heap:=s.heap.push {cls:=.type "reversed",data:=.fields #[.ref t,rawInt<|(items.size:Int) - 1]},toks:=s.toks+1+1}):=
 .of_wp λprog w A R s h=>by
  have(hl,hz,h):=h;have ht:IsTup s.heap t items:=⟨_,hl,rfl,n,rfl⟩;unfold Builtin.«reversed.__new__»;refine qa (wpAny_of_eq (newClass_reversed _) ?_)
  try dsimp only
  refine qa<|wpAny_of_eq (a:=()) (by first|rfl|kernel_rfl) ?_;refine qa (wpAny_of_eq (a:=()) (by first|rfl|kernel_rfl) ?_)
  try dsimp only
  refine qa (wpAny_specialOf ht.typeIs Zp ?_)
  try dsimp only
  refine qa (m:=_) ?_;show wpAny _ _ (isInstance (.ref t) (.type "dict") >>= _) _ _ _;refine qa<|wpAny_isInstance ht.typeIs zjD ?_;show wpAny _ _ (specialOf (.ref t) "__getitem__" >>= _) _ _ _;refine qa<|wpAny_specialOf ht.typeIs slot_tuple_getitem.lookup ?_;show wpAny _ _ (if(_:Qa String).contains "tuple.__getitem__"=true then _ else _) _ _ _;rw[if_pos (by decide)];refine qb ?_;show wpAny _ _ (call (.builtin "len") [.ref t] >>= _) _ _ _;refine qa<|len_tuple ht hz ?_;refine qa (wpAny_of_eq (a:=some (items.size:Int)) rfl ?_)
  try dsimp only
  refine qa ?_;show wpAny _ _ (newObj (.type "reversed")<|.fields #[.ref t,rawInt<|(items.size:Int) - 1]) _ _ _;exact qA (qb ⟨_,rfl,h⟩) (by size_fits)
section
theorem YL{t:Qg}{items:Array Qc}(hT:s.heap.IsTuple t items)(hz:(items.size:Int) < 2^63)
  (h:∀ h' tk,om h' s.heap.objs.size t ((items.size:Int) - 1)->(∀ b o,s.heap.get? b=some o->h'.get? b=some o)->Q (.ref s.heap.objs.size) {s with heap:=h',toks:=tk}):
  wpAny (model prog w) A (call (.type "reversed") [.ref t]) Q E s:=by
 obtain⟨⟨c,e8,dt,sl⟩,hl,hc,n,hd⟩:=hT;replace hc:c=.type "tuple":=hc;replace hd:dt=.seq items n:=hd;subst hc hd;refine callType_new Zq (by decide) (F.typeCall_reversed_1 _) (F.newCall_reversed_1 _) (λobj=>F.args_object_init_2 obj _) F.entry_reversed_new
  (V2 t items n e8 sl) ⟨hl,hz,?_⟩
 exact⟨⟨_,qg _ rfl,rfl⟩,h _ _ ⟨_,qg _ rfl,rfl,rfl⟩ λb o x=>qd _ x⟩
theorem Zo{l:Qg}{items:Array Qc}{x:Qc}{Q:Qb Qc->Qd->Prop}(hit:om s.heap it l (i:Int))(hl:IsTup s.heap l items)(hx:items[i]?=some x)(hb:(i:Int) < 2^63)
  (hQ:∀ h' tk,om h' it l ((i:Int) - 1)->Heap.SameBut it s.heap h'->Q (some x) {s with heap:=h',toks:=tk}):wpAny (model prog w) A (pyNext<|.ref it) Q E s:=by
 have(o,ho,hc,hd):=id hit;unfold pyNext;refine qa<|wpAny_attempt (wpAny_callSpecial?_slot (name:=Str.ofString "__next__") hit.typeIs vz
  (wpAny_call_entry vz hit.typeIs L5 ?_<|LD _))
 unfold Builtin.«reversed.__next__»;refine qa (wpAny_of_eq (a:=(Value.ref it,[])) rfl ?_)
 try dsimp only
 refine qa (wpAny_field ho hd (x:=.ref l) rfl ?_)
 try dsimp only
 refine qa<|wpAny_field ho hd (x:=rawInt (i:Int)) rfl ?_;show wpAny _ _ (if(i:Int) < 0 then _ else _) _ _ s;rw[if_neg (by omega)];show wpAny _ _ (specialOf (.ref l) "__getitem__" >>= _) _ _ _;refine qa<|wpAny_specialOf hl.typeIs slot_tuple_getitem.lookup ?_;show wpAny _ _ (mkInt (i:Int) >>= _) _ _ _;refine qa<|wpAny_mkInt ?_;have hj:i < items.size:=by
  have(z,_):=Array.getElem?_eq_some_iff.mp hx;exact z
 refine qa (wpAny_attempt<|getItem_tuple (j:=i) (x:=x) (show IsTup _ l items from hl) (by omega) hb (by unfold seqIndex?; simp; omega) hx ?_)
 try dsimp only
 refine qa<|wpAny_field ho hd (x:=rawInt (i:Int)) rfl ?_;refine qa<|wpAny_setField ho hd (by simp) ?_;refine qb ⟨x,rfl,qb<|hQ _ _ ?_<|Ï ..⟩;exact⟨_,Ú _ ho<|á<|à hd _,(Obj.cls_mapFields ..).trans hc,by
  rw[Obj.data_mapFields hd]; simp⟩
theorem YK{l:Qg}{Q:Qb Qc->Qd->Prop}(hh:A.handled=none)(hit:om s.heap it l (-1))
  (hQ:∀ h',Heap.ExtBut it s.heap h'->Q none {s with heap:=h'}):wpAny (model prog w) A (pyNext<|.ref it) Q E s:=by
 have(o,ho,hc,hd):=id hit;unfold pyNext;refine qa<|wpAny_attempt (wpAny_callSpecial?_slot (name:=Str.ofString "__next__") hit.typeIs vz
  (wpAny_call_entry vz hit.typeIs L5 ?_<|LD _))
 unfold Builtin.«reversed.__next__»;refine qa (wpAny_of_eq (a:=(Value.ref it,[])) rfl ?_)
 try dsimp only
 refine qa (wpAny_field ho hd (x:=.ref l) rfl ?_)
 try dsimp only
 refine qa<|wpAny_field ho hd (x:=rawInt (-1)) rfl ?_;show wpAny _ _ (if(-1:Int) < 0 then _ else _) _ _ s;rw[if_pos (by decide)];refine qa<|wpAny_rule ?_;refine qa ?_;show wpAny _ _ (setField (.ref it) 1 (rawInt (-1)) >>= _) _ _ _;refine qa<|wpAny_setField ho hd (by simp) ?_;have h1:=Ú (λo=>o.mapFields λvs=>vs.setIfInBounds 1<|rawInt (-1)) ho (á<|à hd _);refine wpAny_setField h1 (à hd _) (by simp) ?_;refine qa ?_;show wpAny _ _ (newExc (.type "StopIteration") [] >>= _) _ _ _;refine qa ?_;simp only[newExc,newTuple];refine qa<|qA ?_ (by size_fits);refine qa (m:=firstArgMember _ _)<|wpAny_of_eq (a:=Value.none) (by first|rfl | (simp only[firstArgMember]; rfl)) ?_;refine qA ?_ (by size_fits);simp only[raiseNew];refine qa (wpAny_handled ?_)
 first|rw[show A.in1.handled=none from hh] | rw[hh]
 refine qa<|qb<|wpAny_throw ?_;refine qa<|wpAny_isInstance (T := "StopIteration") (b:=true) ⟨_,qg _ rfl,rfl⟩ isSubtype_stop ?_;exact qb<|hQ _<|((((Ï ..).trans<|Ï ..).extBut).push _).push _
theorem K7{l:Qg}{i:Int}(hit:om s.heap it l i)(h:Q (.ref it) s):wpAny (model prog w) A (pyIter<|.ref it) Q E s:=by
 refine wpAny_pyIter_slot hit.typeIs zev<|wpAny_call_entry zev hit.typeIs zhD ?_<|zhV _;show wpAny _ _ (ret<|.ref it) _ _ s;exact qb ⟨_,rfl, "reversed",_,hit.typeIs,vz.lookup,h⟩
end
noncomputable def Ox(K:qc)(a:Qg)(n:Nat):It :=
 ⟨λi H=>∃ xs x,bj K H a xs/\xs.length=n/\xs.reverse[i]?=some x,λi H x H'=>H'=H/\∀ xs,bj K H a xs->xs.reverse[i]?=some x,λi H=>∃ xs,bj K H a xs/\xs.length=n/\i=n⟩
theorem HC{xs:Qa α}{x:α}(h:xs.reverse[i]?=some x):i < xs.length/\xs[xs.length - 1 - i]?=some x:=by
 have hl:=(qk.mp h).1;rw[List.length_reverse]at hl;rw[List.getElem?_reverse hl]at h;exact⟨hl,h⟩
theorem V1(a it:Qg)(n:Nat)(hn:n<=sizeLine):Turn P w K tg (Ox K a n) [it] it (λi h=>i<=n/\om h it a ((n:Int) - 1 - (i:Nat))) where
 mem:=by simp
 obj:=λi h st b hb=>by
  have e:b=it:=by simpa using hb
  subst e;have(_,o,e,c,d):=st;exact⟨o,e,λv z=>by rw[d]at z; cases z⟩
 keep:=λi h h' st k=>by
  have(z,o,e,c):=st;exact⟨z,o,k it (by simp) o e,c⟩
 item:=by
  intro X hP hw hK hc i pins s σ H E I hf st hg;subst hP hw hK;have(xs,x,hq,rfl,hx):=hg;have(ai,rv,p,hz):=I.tuple hq;have(hi,fA):=HC hx;have(u,hu,ru):=rv.get fA;have(f0,f1,f2,f3,f4,f5):=hf it (by simp);have e:(xs.length:Int) - 1 - (i:Nat)=((xs.length - 1 - i:Nat):Int):=by omega
  have hit:=st.2;rw[e]at hit;refine Zo hit (show IsTup s.heap a ai.toArray from p) (x:=u) (by simpa using hu) (by rw[sizeLine_eq]at hn; omega) λh' tk gT sb=>?_;have I1:Inv X pins σ H {s with heap:=h',toks:=tk}:=I.turned (t':=tk) (λb o hb e=>(sb.2 b hb).trans e) f0 f1 f3 f4 f5;have(o,e2,c,d):=id gT;have e3:((xs.length - 1 - i:Nat):Int) - 1=(xs.length:Int) - 1 - ((i+1:Nat):Int):=by omega
  rw[e3]at gT;exact⟨u,rfl,uJ (s:={s with heap:=h',toks:=tk}) e2 c d (by decide) ⟨x,H,I1,ru,⟨rfl,λys hy=>by rw[I.bG hy hq]; exact hx⟩,⟨hi,gT⟩,λb hb=>(hf b hb).1⟩⟩
 done:=by
  intro X hP hw hK hc i pins s σ H E I hf st hg;subst hP hw hK;have(xs,hq,rfl,rfl):=hg;have(f0,f1,f2,f3,f4,f5):=hf it (by simp);have e:(xs.length:Int) - 1 - (xs.length:Nat)=-1:=by omega
  have hit:=st.2;rw[e]at hit;exact YK (I.ok.hd hc) hit λh' eb=>⟨rfl,I.turned (t':=s.toks) (λb o hb e=>eb b o hb e) f0 f1 f3 f4 f5⟩
 self:=λ_ _ _ _ _ st h=>K7 st.2 h
section
variable{X:Cx}
noncomputable def MR(K:qc)(ta:TA):TI:=λσ H R=>ta σ H λvs H1=>∃ a xs,vs=[.ref a]/\bj K H1 a xs/\R (Ox K a xs.length) H1
theorem Qu{a:Expr}{ta:TA}(ha:Wr (PA X [a] ta))(hK:X.K=K:=by rfl)(hg:Gl X "reversed":=by exact rfl)(hm:X.mg "reversed"=none:=by exact nZ ‹Bl _ _› (by decide))(hs:zQ a=true:=by rfl):
  Wr (PI X tg (.Call (.Name "reversed" p) [a] [] pos)<|MR K ta):=by
 subst hK;refine⟨?_⟩;intro pins s σ H R I h;refine Call_<|og I hg hm boot_reversed<|Ñ (aA (ha.run pos pins s σ H _ I h) λus s1 hZ=>?_) (hG hs) rfl;have(vs,H1,I1,r1,q1):=hZ;have(t,xs,e,hq,q):=q1;subst e;have(u,rfl,ru):=jT r1;cases ru;have(ai,rv,ht,hz):=I1.tuple hq;have hl:ai.toArray.size=xs.length:=by rw[List.size_toArray,rv.length]
 have tN:xs.length<=sizeLine:=by have:=rv.length; omega
 refine YL (show s1.heap.IsTuple t ai.toArray from ht) (by rw[hl]; rw[sizeLine_eq]at tN; omega) λh' tk hr kk=>?_;rw[hl]at hr;have I2:Inv X pins σ H1 {s1 with heap:=h',toks:=tk}:=I1.kept (t':=tk) kk;refine K7 hr ?_;refine⟨s1.heap.objs.size,[s1.heap.objs.size],_,_,H1,rfl,I2,V1 t s1.heap.objs.size xs.length tN,⟨Ì _,by simpa using hr⟩,λb hb=>?_,q⟩;rw[qq.mp hb];exact I1.eY (qe _)<|I1.aw.fresh<|qe _
end
section
noncomputable def uG:U->Qb (Qa D)
 | .d (.tuple xs)=>some xs.reverse
 | _=>none
theorem Qt{me:ME}(h:VE K te me):VI K (MR K<|iJ te iH) (eK uG me):=by
 intro ρ σ H ds af R r e q;obtain⟨⟨a,aj⟩,e1,e⟩:=zb e;have(u,eu,e):=zb e;have(xs,ex,e):=zb e;cases e;refine h ρ σ H a _ _ r e1 λv H1 g1 k1=>?_;have p:=k1.now r g1 eu;unfold uG at ex;split at ex
 .cases ex
  rename_i xs;have(b,ys,rfl,h1,h2):=DF.aB p;refine⟨b,ys,rfl,aP.sq h1,q _ _ g1 λH2 k i=>⟨λd ed=>?_,λei=>?_⟩⟩
  .have(hi,ed'):=HC ed
   have(v,ev,dv):=(h2.kp k).get ed';have hl:=h2.len;have er:ys.reverse[i]?=some v:=by rw[List.getElem?_reverse (by omega),hl]; exact ev
   refine⟨⟨ys,v,(aP.kp k h1).sq,rfl,er⟩,λx H' y=>?_⟩;have(rfl,y):=y;have:=y ys ((aP.kp k h1).sq);rw[er]at this;cases this;exact⟨λ_ _ z=>z,dv⟩
  .exact⟨ys,(aP.kp k h1).sq,rfl,by rw[h2.len,ei,List.length_reverse]⟩
 .cases ex
end
theorem UB{X:Cx}{k:Nat}(hr:aD k X.A)(ho:Wr (PE X o td))(he:Wr (PE X e ty))(m:M1 X o "get" apos e aM):Wr (PE X (.Call (.Attribute o "get" apos) [e] [] aM)<|Dw X.K td ty):=⟨XR (sv hr) ho.run he.run m⟩
noncomputable def yp(md my:ME):ME:=λρ=>(md ρ).bind λp=>(p.1.get p.2).bind λu0=>if l9 u0=true then(my p.2).bind λq=>(p.1.get q.2).bind λu=>(q.1.get q.2).bind λy=>(gO u y).bind λo=>some (.u<|.d<|o.getD .none,q.2)else none
section
theorem UA{md my:ME}(hd:VE K td md)(hy:VE K ty my):VE K (Dw K td ty) (yp md my):=by
 intro ρ σ H a af Q r e q;obtain⟨⟨a1,aj⟩,e1,e⟩:=zb e;have(u0,e0,e):=zb e;split at e
 rotate_left
 .cases e
 rename_i FK;obtain⟨⟨b1,au⟩,e2,e⟩:=zb e;have(u,eu,e):=zb e;have(y,ey,e):=zb e;have(o,eo,e):=zb e;cases e;refine hd ρ σ H a1 aj _ r e1 λv1 H1 g1 k1=>?_;have(b,rfl,hb):=Kb (k1.now r g1 e0) FK;refine⟨b,rfl,hb,hy aj σ H1 b1 _ _ g1.rs e2 λv2 H2 g2 k2=>?_⟩;have(b',eb,h):=yM (k1.later r g1 g2 eu) (k2.now g1.rs g2 ey) eo;cases eb;rcases h with⟨w,d',rfl,g,p⟩|⟨rfl,g⟩
 .exact⟨_,g,q w H2 (g1.trans g2) ⟨p,Nw.data⟩⟩
 .exact⟨_,g,q .aI H2 (g1.trans g2) ⟨.aI,Nw.data⟩⟩
theorem Qs{ma mb:ME}(ha:VQ K ta ma)(hb:VQ K tb mb):VQ K (kC (um K) ta tb) (aq aT ma mb):=by
 intro ρ σ H a af Q r e;obtain⟨⟨a1,aj⟩,e1,e⟩:=zb e;obtain⟨⟨b1,au⟩,e2,e⟩:=zb e;have(x,ex,e):=zb e;have(y,ey,e):=zb e;have(u,eu,e):=zb e;cases e;have(rfl,q1):=ha ρ σ H a1 aj (λv H1=>tb σ H1 λw H2=>um K v w H2 Q) r e1;have(rfl,_):=hb aj σ H b1 au (λ_ _=>True) r e2;refine⟨rfl,λq=>q1 λv1 k1=>(hb au σ H b1 au _ r e2).2 λv2 k2=>?_⟩;have ha:=k1.now r (Go.refl r) ex;have hb:=k2.now r (Go.refl r) ey;have key:∃ ds i,x=.d (.tuple ds)/\y=.d (.int i)/\(bp ds i).map U.d=some u:=by
  unfold aT at eu;split at eu
  .exact⟨_,_,rfl,rfl,eu⟩
  .cases eu
 have(ds,i,rfl,rfl,eu):=key;have(d,ed,rfl):=qr.mp eu;have(p,us,rfl,h1,h2):=DF.aB ha;have(v,ev,k):=h2.bp ed;exact⟨p,us,i,v,rfl,DF.int_inv hb,(aP.sq h1),ev,q _ ⟨k,Nw.data⟩⟩
theorem YJ:VC K (xj K<|yW K) (f1 mR):=λvs us u H Q r e q=>
 ⟨H,Re.refl K H,vm vs us u H _ r e λv H' s p n=>⟨H',Re.refl K H',q v H' s p n⟩⟩
section
variable{EX:e9}{A:Qg->Prop}{jl:Hp}{ρ af:En}
theorem Sn.qH(s:Sn K pn ao A H₀ av ρ σ H)(hi:i∉pn):Sn K pn ao A H₀ av (ρ.set i none) (σ.set i<|some v) H:=by
 have inv:∀ (j:Nat) (w:U),(ρ.set i none)[j]?=some (some w)->j≠i/\ρ[j]?=some (some w):=λj w e=>by
  by_cases hj:i=j
  .subst hj
   have hl:=(qk.mp e).1;rw[List.length_set]at hl;rw[List.getElem?_set_self hl]at e;cases e
  .rw[qC hj]at e
   exact⟨Ne.symm hj,e⟩
 have sat:∀ j,j≠i->(σ.set i<|some v)[j]?=σ[j]?:=λj h=>qC<|Ne.symm h;refine⟨⟨by rw[List.length_set,List.length_set]; exact s.rs.len,λj w e=>?_,λj k x y ej ek ox oy es=>?_⟩,s.fr,λj w a e o es=>?_,λj hj=>?_,s.dm,s.kp⟩
 .rw[sat j (inv j w e).1]
  exact s.rs.rep j w (inv j w e).2
 .rw[sat j (inv j x ej).1,sat k (inv k y ek).1]at es
  exact s.rs.apart j k x y (inv j x ej).2 (inv k y ek).2 ox oy es
 .rw[sat j (inv j w e).1]at es
  exact s.ow j w a (inv j w e).2 o es
 .rw[sat j λz=>hi<|z▸hj]
  exact s.pin j hj
end
noncomputable def xE(c:Str)(i:Nat)(f:Str)(j:Nat)(mw me:ME):MS:=λρ=>(nH c i f ρ).bind λxs=>if xs.isEmpty=true then(zz (aR j me)<|bh<|bw<|zf mw<|zf (bA (f1 mR)<|zf (zj j) zq) zq) ρ
 else if j < ρ.length then(mw<|ρ.set j none).bind λp=>(p.1.get p.2).bind λu=>u.da.bind λw=>some (.rt (.d<|.tuple [w,.tuple xs]) p.2)else none
theorem VQ.ve{t:TE}{m:ME}(h:VQ K t m):VE K t m:=λρ σ H a af Q r e q=>by
 have(rfl,k):=h ρ σ H a af Q r e;exact k λv o=>q v H (Go.refl r) o
theorem Qr{EX:e9}{tw:TE}{mw me:ME}(hc:∀ C,XN K c C->dQ K C/\eT K C f)(hw:VQ K tw mw)(he:VE K te me)(hj:j∉pn:=by decide):
  VS K pn EX (uj (l0 (AH (xk K<|rX K<|uh K (dS i) f) (nU K (dS i) f) te)<|i3 j)<|ui<|xA<|iJ tw<|iJ (lG (xj K<|yW K)<|iJ (dS j) iH) iH) (xE c i f j mw me):=by
 intro ao A H₀ av ρ σ H fl D s e k;have(xs,e0,e):=zb e;refine Qx hc ρ σ H (!xs.isEmpty) ρ _ s.rs (by show(nH c i f ρ).bind _=_; rw[e0]; rfl) λH1 g1=>?_;have s1:=s.go g1;split at e
 .rename_i hx
  rw[if_neg (by rw[hx]; decide)];exact zu (zL he hj) (bE<|cp<|zd hw.ve<|zd (bN YJ<|zd ze zn) zn) ao A H₀ av ρ σ H1 fl D s1 e k
 rename_i hx;rw[if_pos (by simpa using hx)];split at e
 rotate_left
 .cases e
 rename_i hl;have(fs,l,C,dx,vs,ps,b,us,ei,t,kv):=Df s1.rs e0;refine t.fld hc ?_;have s2:=s1.qH (v:=.ref b) hj;obtain⟨⟨a1,aj⟩,e1,e⟩:=zb e;have(u,eu,e):=zb e;have(w,ew,e):=zb e;cases oz ew;cases e;have(rfl,run):=hw (ρ.set j none) (σ.set j<|some<|.ref b) H1 a1 aj _ s2.rs e1;refine run λv k1=>?_;have pv:DF K H1 v w:=k1.now s2.rs (Go.refl s2.rs) eu;refine⟨.ref b,ß (by rw[<-s.rs.len]; exact hl),_,t.op.bQ,b,us,rfl,.inl ⟨bq.of t.at,λp hp=>?_⟩⟩;have(h0,re):=t.op.new hp (.tup us);have sm:=zM h0 (.tup us);refine⟨_,re,by rw[sizeLine_eq]; show 2<=16777216; decide,λp2 jd=>?_⟩;have E2:=zM jd (.tup [v,.ref p]);have g2:=Go.grow s2.rs sm;refine k _ _ _ (s2.go<|g2.trans<|Go.grow g2.rs E2) (DF.tup (.inl zr)<|.cons ?_<|.cons ?_ .nil) Nw.data
 .exact DF.kp E2.kp (DF.kp sm.kp pv)
 .exact DF.kp E2.kp (DF.tup (.inl zr)<|kv.kp sm.kp)
theorem zk7{md my:ME}{ρ:En}{QE:Ar×En->Prop}:Wo (yp md my ρ) QE=Wo (md ρ) (Co (λp=>(p.1.get p.2).bind λu0=>if l9 u0=true then(my p.2).bind λq=>(p.1.get q.2).bind λu=>(q.1.get q.2).bind λy=>(gO u y).bind λo=>some (.u<|.d<|o.getD .none,q.2)else none) ⟨0⟩ QE):=by
 unfold yp;rw[zo]
theorem Ys{mw me:ME}{ρ:En}{QS:Fl->Prop}:Wo (xE c i f j mw me ρ) QS=Wo (nH c i f ρ) (Co (λxs=>if xs.isEmpty=true then(zz (aR j me)<|bh<|bw<|zf mw<|zf (bA (f1 mR)<|zf (zj j) zq) zq) ρ
  else if j < ρ.length then(mw<|ρ.set j none).bind λp=>(p.1.get p.2).bind λu=>u.da.bind λw=>some (.rt (.d<|.tuple [w,.tuple xs]) p.2)else none) ⟨0⟩ QS):=by
 unfold xE;rw[zo]
end
end L2
namespace K47
open PySem L2
noncomputable def top(i:Nat):Stmt:=PySem.Challenge.pw_undivide_k47_whole_back_from_webs.main.body.getD i (.Pass ⟨0,0,0,0⟩)
noncomputable def Cm(j:Nat):Stmt->Stmt
 | .ClassDef _ _ _ b _ _ _ _ _ _ _=>b.getD j default
 | s=>s
abbrev Mh:Stmt:=Cm 1 (top 4)
abbrev Mm:Stmt:=Cm 2 (top 4)
abbrev LC:Stmt:=top 6
abbrev KR:Stmt:=top 8
abbrev Mc:Stmt:=top 9
abbrev Li:Stmt:=top 11
abbrev Ls:Stmt:=top 12
abbrev LB:Stmt:=top 13
abbrev Ml:Stmt:=top 14
abbrev Lr:Stmt:=top 15
abbrev LA:Stmt:=top 16
abbrev Mj:Stmt:=top 17
abbrev Mg:Stmt:=top 18
abbrev MC:Stmt:=top 19
abbrev MB:Stmt:=top 20
abbrev L3:Stmt:=top 21
abbrev Lz:Stmt:=top 22
abbrev Lh:Stmt:=top 23
abbrev Mb:Stmt:=top 24
abbrev L1:Stmt:=top 25
abbrev Mz:Stmt:=top 26
abbrev L0:Stmt:=top 27
abbrev Mt:Stmt:=top 28
abbrev Ms:Stmt:=top 29
abbrev Ma:Stmt:=top 30
abbrev G7:Stmt:=top 31
noncomputable def MQ:Qa (Str×Qa Str):=[]
abbrev M6:Qa Str:=[]
abbrev Ah:Stmt:=Cm 0 (top 4)
section
variable{base:Heap}{f:Qg}
end
section
def Bs(Z:Zs):Prop:=Bl Z.mg ["len", "reversed", "tuple", "int", "range", "abs", "dict", "zip", "isinstance", "bool", "all", "str", "min", "max", "enumerate"]/\XT Z.K MQ M6/\(∃ G,Z.mg "NOUGHT"=some (.ref G)/\lV Z.K G [0,1])/\(∃ G,Z.mg "ONE"=some (.ref G)/\lV Z.K G [1,1])/\OB Z.K "NewRows" ["rows", "paper", "places", "mark_places"]/\nK Z.P Z.w Z.K Z.mg Z.base "NewRows" [("rows",.l []),("paper",.l []),("places",.x []),("mark_places",.x [])]
variable{Z:Zs}
noncomputable def Mf:MS:=(zz (gq<|xO "NewRows" 0 "rows"<|zj 1)
  (zz (gq<|xO "NewRows" 0 "paper"<|mC .none)
  (bh<|aq iY (Cb "NewRows" 0 "rows")<|mC<|.int 1)))
noncomputable def zY:FD:=cj 2 [0,1] Mf
abbrev AB(Z:Zs):Prop:=Z.M "NewRows" "add_new" 1 ["self", "row"] 2 zY
theorem zfw(B:Bs Z)(A:t7 Z.K "NewRows" "add_new" "NewRows.add_new" Mh):AB Z :=
 by have(hB,_,_,_,aF,_):=B; exact MU A ["self", "row"] λnd hr=>⟨_,(zu (jX<|HQ aF.at x8)
 (zu (jX<|HQ aF.at<|MW λ_=>.aI)
 (bE<|zp jZ (Qy aF.at) zm))),
 (aE (j7<|GX È Å Æ (GY kr) (pP aa)<|ae aa zi)
 (aE (j7<|GX È Å Æ (GY kr) (pP aa)<|ae xZ zi)
 (zG<|bz<|zN ki (bO (Je eR) Ã<|ae (pP aa) zi) zk)))⟩
noncomputable def LO:MS:=(zz (k7 (zj 0)<|gk 3<|zW (zA 1)<|zW (zA 2)<|zW (zA 3) g9)
  (zz (aR 4<|yc (mC<|.int 0)<|mC<|.bool true)
  (zz (eO (eK l7<|zj 3) (gk 3<|zW (zA 5)<|zW (zA 6)<|zW (zA 7) g9)<|bt (mB<|nO false (zj 5)<|zj 4) (jw 4 (zj 6)<|mC<|.bool true) bF)
  (zz (aR 8<|yc (aq iY (zj 2)<|mC<|.int 1)<|mC<|.bool true)
  (zz (eO (eK uG<|zj 3) (gk 3<|zW (zA 5)<|zW (zA 6)<|zW (zA 7) g9)<|bt (mB<|nO false (zj 6)<|zj 8) (jw 8 (zj 5)<|mC<|.bool true) bF)
  (bh<|kG (eK l7<|zj 3) 1 [4,8] (zA 0) (rS (mB<|nO false (aq aT (zj 0)<|mC<|.int 0)<|zj 1)<|mB<|nO false (aq aT (zj 0)<|mC<|.int 1)<|zj 2)<|zj 0))))))
noncomputable def Au:FD:=cj 9 [0] LO
abbrev LN(Z:Zs):Prop:=Z.C "walked_ways" 1 ["web"] 1 Au
theorem zhX(B:Bs Z)(A:dH Z "walked_ways" LC):LN Z :=
 have hB:=B.1; dR A ["web", "letters", "dots", "ways", "reached", "start", "end", "entry", "leading"] λnd hr=>⟨_,(zu (uB ze<|jV<|zR zy<|zR zy<|zR zy jW)
 (zu (zL<|IS zm iE)
 (zu (gj (sS ze) (jV<|zR zy<|zR zy<|zR zy jW)<|bR (fG<|uA ze ze) (pS ze iE) cw)
 (zu (zL<|IS (zp jZ ze zm) iE)
 (zu (gj (Qt ze) (jV<|zR zy<|zR zy<|zR zy jW)<|bR (fG<|uA ze ze) (pS ze iE) cw)
 (bE<|pE (sS ze) zy (H9 (fG<|uA (zp zE ze zm) ze)<|fG<|uA (zp zE ze zm) ze) ze)))))),
 (aE (mF aa<|j8<|cU zx<|cU zx<|cU zx j9)
 (aE (zP<|IT zk iG)
 (aE (gr (sU aa) (j8<|cU zx<|cU zx<|cU zx j9)<|zG<|bT (u5 hr aa aa) (zG<|pU hr aa aa iG) cx)
 (aE (zP<|IT (zN ki aa zk) iG)
 (aE (gr (Qu<|ae aa zi) (j8<|cU zx<|cU zx<|cU zx j9)<|zG<|bT (u5 hr aa aa) (zG<|pU hr aa aa iG) cx)
 (zG<|bz<|rW (sU aa) zx (RF<|lZ<|Ih (u5 hr (zT zV aa zk) aa)<|Jv<|u5 hr (zT zV aa zk) aa) aa))))))⟩
noncomputable def Lg:MS:=(zz (aR 2<|aq dM (aq gR (mC<|.int 7919)<|zj 1)<|mC<|.int 11)
  (zz (bt (mB<|aq nG (zj 1)<|bA (f1 dJ)<|zf (zj 0) zq) (aR 2<|aq cT (zj 0)<|zj 1)<|bt (mB<|aq wK (bA (f1 dJ)<|zf (zj 0) zq)<|mC<|.int 0) (aR 2<|aq dM (zj 2)<|aq gR (aq iX (aq cT (zj 0)<|aq iX (zj 1)<|bA (f1 dJ)<|zf (zj 0) zq)<|mC<|.int 2147483629)<|mC<|.int 69623) bF)
  (zz (aR 3<|aq dM (aq iX (aq dM (aq gR (aq iX (zj 2)<|mC<|.int 2147483629)<|mC<|.int 48271)<|aq gR (mC<|.int 40692)<|zj 1)<|mC<|.int 2147483629)<|mC<|.int 1)
  (bh<|eP<|zf (aq gR (zj 2)<|bA (f1 pJ)<|zf (aq Gk (zj 2)<|aq xu (mC<|.int 10)<|mC<|.int 18) zq)<|zf (zj 3) zq))))
noncomputable def Ak:FD:=cj 4 [0,1] Lg
abbrev Lf(Z:Zs):Prop:=Z.C "_law_box" 1 ["_law_script", "_law_k"] 2 Ak
theorem zk8(B:Bs Z)(A:dH Z "_law_box" Li):Lf Z :=
 have hB:=B.1; dR A ["_law_script", "_law_k", "_law_cell", "_law_seed"] λnd hr=>⟨_,(zu (zL<|zp eS (zp jy zm ze) zm)
 (zu (n8<|bR (zH<|zp pK ze<|bN ft<|zd ze zn) (zL<|zp eF ze ze)<|bR (zH<|zp CA (bN ft<|zd ze zn) zm) (zL<|zp eS ze<|zp jy (zp ly (zp eF ze<|zp ly ze<|bN ft<|zd ze zn) zm) zm) cw)
 (zu (zL<|zp eS (zp ly (zp eS (zp jy (zp ly ze zm) zm)<|zp jy zm ze) zm) zm)
 (bE<|hE<|zd (zp jy ze<|bN yR<|zd (zp Pr ze<|zp RE zm zm) zn)<|zd ze zn)))),
 (aE (zP<|zN eU (zN jz zk aa) zk)
 (aE (n9<|bT (zZ pM aa<|bO eR Ã<|ae aa zi) (zG<|zP<|zT eD aa aa)<|zG<|bT (zZ CG (bO eR Ã<|ae aa zi) zk) (zG<|zP<|zN eU aa<|zN jz (zN lB (zT eD aa<|zN lB aa<|bO eR Ã<|ae aa zi) zk) zk) cx)
 (aE (zP<|zN eU (zN lB (zN eU (zN jz (zN lB aa zk) zk)<|zN jz zk aa) zk) zk)
 (zG<|bz<|gu<|ae (zN jz aa<|k8 Ai Û<|ae (jx OS aa<|zN Rg zk zk) zi)<|ae aa zi))))⟩
noncomputable def Lq:MS:=(zz (bt (mB<|aq wK (aq cT (zj 0)<|mC<|.int 0)<|mC<|.int 0) (zz (aR 2<|aq iX (aq cT (zj 0)<|mC<|.int 0)<|zj 1)
  (zz (n6 0 (aq uC (aq cT (zj 0)<|mC<|.int 0)<|zj 1)<|mC<|.int 0)
  (bh<|zj 2))) bF)
  (zz (aR 3<|aq iX (aq gR (aq cT (zj 0)<|mC<|.int 1)<|mC<|.int 69623)<|mC<|.int 2147483647)
  (zz (n6 0 (aq dM (aq iX (aq dM (aq gR (zj 3)<|mC<|.int 48271)<|mC<|.int 30103)<|mC<|.int 2147483629)<|mC<|.int 1)<|mC<|.int 1)
  (bh<|aq iX (aq uC (aq dM (aq gR (zj 3)<|mC<|.int 2147483647)<|aq cT (zj 0)<|mC<|.int 1)<|mC<|.int 8191)<|zj 1))))
noncomputable def zw:FD:=cj 4 [0,1] Lq
abbrev tF(Z:Zs):Prop:=Z.C "_law_take" 1 ["_law_box_here", "_law_wide"] 2 zw
theorem zjF(B:Bs Z)(A:dH Z "_law_take" Ls):tF Z :=
 have hB:=B.1; dR A ["_law_box_here", "_law_wide", "_law_digit", "_law_one"] λnd hr=>⟨_,(zu (bR (zH<|zp CA (zp eF ze zm) zm) (zu (zL<|zp ly (zp eF ze zm) ze)
 (zu (yN (zp Js (zp eF ze zm) ze) zm)
 (bE ze))) cw)
 (zu (zL<|zp ly (zp jy (zp eF ze zm) zm) zm)
 (zu (yN (zp eS (zp ly (zp eS (zp jy ze zm) zm) zm) zm) zm)
 (bE<|zp ly (zp Js (zp eS (zp jy ze zm)<|zp eF ze zm) zm) ze)))),
 (aE (bT (zZ CG (zT eD aa zk) zk) (aE (zP<|zN lB (zT eD aa zk) aa)
 (aE (mF (zN Kq (zT eD aa zk) aa)<|yq aa zk Ab)
 (zG<|bz aa))) cx)
 (aE (zP<|zN lB (zN jz (zT eD aa zk) zk) zk)
 (aE (mF (zN eU (zN lB (zN eU (zN jz aa zk) zk) zk) zk)<|yq aa zk Ab)
 (zG<|bz<|zN lB (zN Kq (zN eU (zN jz aa zk)<|zT eD aa zk) zk) aa))))⟩
noncomputable def LZ:MS:=(zz (aR 2<|bA (f1 uc)<|zf (zj 0) zq)
  (zz (aR 3<|bA (f1 uc)<|zf (zj 1) zq)
  (zz (sR (mB<|aq (bS true) (zj 3)<|mC<|.int 0)<|xC 2 3<|zf (zj 3)<|zf (aq iX (zj 2)<|zj 3) zq)
  (zz (bt (mB<|aq nG (zj 1)<|mC<|.int 0) (aR 2<|aq iY (mC<|.int 0)<|zj 2) bF)
  (bh<|bw<|zf (aq xX (zj 0)<|zj 2)<|zf (aq xX (zj 1)<|zj 2) zq)))))
noncomputable def oF:FD:=cj 4 [0,1] LZ
abbrev vF(Z:Zs):Prop:=Z.C "_law_fraction" 1 ["_law_n", "_law_d"] 2 oF
theorem zf0(B:Bs Z)(A:dH Z "_law_fraction" Ml):vF Z :=
 have hB:=B.1; dR A ["_law_n", "_law_d", "_law_one", "_law_two"] λnd hr=>⟨_,(zu (zL<|bN Ia<|zd ze zn)
 (zu (zL<|bN Ia<|zd ze zn)
 (zu (Vn (zH<|zp uQ ze zm)<|Pn<|zd ze<|zd (zp ly ze ze) zn)
 (zu (n8<|bR (zH<|zp pK ze zm) (zL<|zp jZ zm ze) cw)
 (bE<|cp<|zd (zp Jr ze ze)<|zd (zp Jr ze ze) zn))))),
 (aE (zP<|bO Kw PyProof.Rows.boot_abs<|ae aa zi)
 (aE (zP<|bO Kw PyProof.Rows.boot_abs<|ae aa zi)
 (aE (U3 (zZ uI aa zk)<|zG<|Pw<|ae aa<|ae (zN lB aa aa) zi)
 (aE (n9<|bT (zZ pM aa zk) (zG<|zP<|zN ki zk aa) cx)
 (zG<|bz<|cq<|ae (zN JW aa aa)<|ae (zN JW aa aa) zi)))))⟩
noncomputable def My:MS:=(zz (bt (mB<|aq (bS false) (aq aT (zj 1)<|mC<|.int 0)<|mC<|.int 0) (bh mP) bF)
  (bh<|uV (aq pL (bw<|zf (mC<|.int 0) zq)<|zj 0)<|zj 1))
noncomputable def vC:FD:=cj 2 [0,1] My
abbrev EA(Z:Zs):Prop:=Z.C "_law_poly_number" 1 ["_law_many", "_law_f"] 2 vC
theorem zen(B:Bs Z)(A:dH Z "_law_poly_number" MC):EA Z :=
 have hB:=B.1; dR A ["_law_many", "_law_f"] λnd hr=>⟨_,(zu (bR (zH<|zp gA (zp zE ze zm) zm) (bE tj) cw)
 (bE<|DE (zp DH (cp<|zd zm zn) ze) ze)),
 (aE (bT (zZ gv (zT zV aa zk) zk) (zG<|bz pW) cx)
 (zG<|bz<|DG hr (zN (DI _ rfl) (cq<|ae zk zi) aa) aa))⟩
noncomputable def Mx:MS:=(bh<|uV (aq sP (aq sP (aq pL (bw<|zf (mC<|.int 0) zq)<|zj 1)<|bw<|zf (mC<|.int 1) zq)<|aq pL (bw<|zf (mC<|.int 0) zq)<|aq iY (aq iY (zj 0)<|zj 1)<|mC<|.int 1)<|bw<|zf (mC<|.int 1)<|zf (mC<|.int 1) zq)
noncomputable def Ax:FD:=cj 2 [0,1] Mx
abbrev Mw(Z:Zs):Prop:=Z.C "_law_poly_letter" 1 ["_law_many", "_law_k"] 2 Ax
theorem zeo(B:Bs Z)(A:dH Z "_law_poly_letter" MB):Mw Z :=
 have hB:=B.1; dR A ["_law_many", "_law_k"] λnd hr=>⟨_,(bE<|DE (zp JP (zp JP (zp DH (cp<|zd zm zn) ze)<|cp<|zd zm zn)<|zp DH (cp<|zd zm zn)<|zp jZ (zp jZ ze ze) zm)<|cp<|zd zm<|zd zm zn),
 (zG<|bz<|DG hr (zN JQ (zN JQ (zN (DI _ rfl) (cq<|ae zk zi) aa)<|cq<|ae zk zi)<|zN (DI _ rfl) (cq<|ae zk zi)<|zN ki (zN ki aa aa) zk)<|cq<|ae zk<|ae zk zi)⟩
noncomputable def Ez:MS:=(zz (k7 (zj 0)<|gk 2<|zW (zA 2)<|zW (zA 3) g9)
  (zz (bt (mB<|aq (bS false) (aq aT (zj 2)<|mC<|.int 0)<|mC<|.int 0) (bh mP) bF)
  (bh<|uV (bA (f1 mR)<|zf (kG (mD<|zf (zj 1) zq) 1 [3] (zA 0) l6<|bA (f1 pJ)<|zf (aq (bS false) (zj 0)<|zj 1) zq) zq)<|zj 2)))
noncomputable def vB:FD:=cj 4 [0,1] Ez
abbrev L9(Z:Zs):Prop:=Z.C "_law_entry_poly" 1 ["_law_entry_here", "_law_many"] 2 vB
theorem zeX(B:Bs Z)(A:dH Z "_law_entry_poly" Mb):L9 Z :=
 have hB:=B.1; dR A ["_law_entry_here", "_law_many", "_law_f", "_law_letter"] λnd hr=>⟨_,(zu (uB ze<|jV<|zR zy<|zR zy jW)
 (zu (bR (zH<|zp gA (zp zE ze zm) zm) (bE tj) cw)
 (bE<|DE (bN vm<|zd (pE (tu<|zd ze zn) zy sQ<|bN yR<|zd (zp gA ze ze) zn) zn) ze))),
 (aE (mF aa<|j8<|cU zx<|cU zx j9)
 (aE (bT (zZ gv (zT zV aa zk) zk) (zG<|bz pW) cx)
 (zG<|bz<|DG hr (k8 vq Í<|ae (rW (tD<|ae aa zi) zx sW<|k8 Ai Û<|ae (jx gv aa aa) zi) zi) aa)))⟩
noncomputable def LY:MS:=(bh<|lj (eJ (gZ "int")<|zj 0)<|xU<|eJ (gZ "bool")<|zj 0)
noncomputable def AA:FD:=cj 1 [0] LY
abbrev LX(Z:Zs):Prop:=Z.C "_law_is_whole" 1 ["_law_thing"] 1 AA
theorem zf1(B:Bs Z)(A:dH Z "_law_is_whole" L0):LX Z :=
 have hB:=B.1; dR A ["_law_thing"] λnd hr=>⟨_,(bE<|pT (mf (T := "int") ze)<|RB<|mf (T := "bool") ze),
 (zG<|bz<|pN (bO mG É<|ae aa<|ae (mN (v:=.ty "int") Û rfl) zi)<|uD<|w_not<|bO mG É<|ae aa<|ae (mN (v:=.ty "bool") PyProof.Rows.boot_bool rfl) zi)⟩
noncomputable def LW:MS:=(zz (bt (mB<|BE true (zj 1) "NewRows" 0 "places") (Cd "NewRows" 0 "places" (zj 1)<|jr "NewRows" 0 "add_new" zY<|zf (zj 1) zq) bF)
  (bh<|Ce "NewRows" 0 "places"<|zj 1))
noncomputable def zU:FD:=cj 2 [0,1] LW
abbrev LV(Z:Zs):Prop:=Z.M "NewRows" "shared" 2 ["self", "row"] 2 zU
theorem zf2(B:Bs Z)(A:t7 Z.K "NewRows" "shared" "NewRows.shared" Mm)(c0:AB Z):LV Z :=
 by have(hB,_,_,_,aF,_):=B; exact MU A ["self", "row"] λnd hr=>⟨_,(zu (n8<|bR (fG<|VJ aF.at ze) (QB aF.at x8<|sE 2<|zd ze zn) cw)
 (bE<|QC aF.at x8)),
 (aE (n9<|bT (YN hr aa<|pP aa) (zG<|QK hr (pP aa) aa<|sJ c0 aa<|ae aa zi) cx)
 (zG<|bz<|QL hr (pP aa) aa))⟩
noncomputable def LM:MS:=(zz (aR 2<|mC<|.str "abcdefghijklmnopqrstuvwxyz")
  (zz (aR 3<|kG (mD<|zf (aq dM (mC<|.int 1)<|aS zw<|zf (zj 0)<|zf (mC<|.int 4) zq) zq) 1 [0,2] (zA 0) l6<|aq pC (zj 2)<|aS zw<|zf (zj 1)<|zf (mC<|.int 26) zq)
  (zz (aR 4<|aS zw<|zf (zj 0)<|zf (bA (f1 dJ)<|zf (zj 3) zq) zq)
  (zz (aR 5<|aS zw<|zf (zj 0)<|zf (mC<|.int 26) zq)
  (zz (aR 6<|eP zq)
  (zz (eO (mD<|zf (zj 1) zq) (zA 7) (zz (aR 8<|aq pC (zj 2)<|aq iX (aq dM (zj 5)<|aq gR (mC<|.int 7)<|zj 7)<|mC<|.int 26)
  (zz (aR 9<|aq mq (aq mq (AU vK rZ (mC<|.str "")<|kF nM (zj 3) ko<|jU<|zj 4)<|zj 8)<|AU vK rZ (mC<|.str "")<|kF nM (zj 3) (jU<|aq dM (zj 4)<|mC<|.int 1) ko)
  (zz (aR 9<|aq mq (zj 9)<|aq uy (mC<|.str "q")<|aS zw<|zf (zj 0)<|zf (mC<|.int 2) zq)
  (zz (bt (jG (mB<|aq (lR false) (zj 9)<|zj 6)<|mB<|aq (lR false) (zj 9)<|bw<|zf (mC<|.str "part")<|zf (mC<|.str "end")<|zf (mC<|.str "give")<|zf (mC<|.str "rounds")<|zf (mC<|.str "letters") zq) (aR 9<|aq mq (mC<|.str "zz")<|aq pC (zj 2)<|zj 7) bF)
  (gq<|gP 6<|zj 9))))))
  (zz (bt (mB<|aq (bS false) (aS zw<|zf (zj 0)<|zf (mC<|.int 5) zq)<|mC<|.int 0) (zz (aR 10<|aq cT (eP<|zf (mC<|.str "ends")<|zf (mC<|.str "pa")<|zf (mC<|.str "gives")<|zf (mC<|.str "giv")<|zf (mC<|.str "x")<|zf (mC<|.str "y")<|zf (mC<|.str "r")<|zf (mC<|.str "rk") zq)<|aS zw<|zf (zj 0)<|zf (mC<|.int 8) zq)
  (bt (mB<|aq (lR true) (zj 10)<|zj 6) (n6 6 (zj 10)<|aS zw<|zf (zj 0)<|zf (zj 1) zq) bF)) bF)
  (bh<|bA (f1 mR)<|zf (zj 6) zq))))))))
noncomputable def As:FD:=cj 11 [0,1] LM
abbrev LL(Z:Zs):Prop:=Z.C "_law_names" 2 ["_law_box_here", "_law_many"] 2 As
theorem zhY(B:Bs Z)(A:dH Z "_law_names" LB)(c0:tF Z):LL Z :=
 have hB:=B.1; dR A ["_law_box_here", "_law_many", "_law_alphabet", "_law_signs", "_law_spot", "_law_first", "_law_found", "_law_k", "_law_one", "_law_name", "_law_odd"] λnd hr=>⟨_,(zu (zL b8)
 (zu (zL<|pE (tu<|zd (zp eS zm<|zK 2<|zd ze<|zd zm zn) zn) zy sQ<|zp Dl ze<|zK 2<|zd ze<|zd zm zn)
 (zu (zL<|zK 2<|zd ze<|zd (bN ft<|zd ze zn) zn)
 (zu (zL<|zK 2<|zd ze<|zd zm zn)
 (zu (zL<|hE zn)
 (zu (gj (tu<|zd ze zn) zy (zu (zL<|zp Dl ze<|zp ly (zp eS ze<|zp jy zm ze) zm)
 (zu (zL<|zp yK (zp yK (MM Ik JD b8<|pD yL ze p8<|p7 ze) ze)<|MM Ik JD b8<|pD yL ze (p7<|zp eS ze zm) p8)
 (zu (zL<|zp yK ze<|zp TM b8<|zK 2<|zd ze<|zd zm zn)
 (zu (n8<|bR (mE (zH<|zp (xI false) ze ze)<|zH<|zp (xI false) ze<|cp<|zd b8<|zd b8<|zd b8<|zd b8<|zd b8 zn) (zL<|zp yK b8<|zp Dl ze ze) cw)
 (jX<|mr ze))))))
 (zu (n8<|bR (zH<|zp gA (zK 2<|zd ze<|zd zm zn) zm) (zu (zL<|zp eF (hE<|zd b8<|zd b8<|zd b8<|zd b8<|zd b8<|zd b8<|zd b8<|zd b8 zn)<|zK 2<|zd ze<|zd zm zn)
 (bR (zH<|zp (xI true) ze ze) (yN ze<|zK 2<|zd ze<|zd ze zn) cw)) cw)
 (bE<|bN vm<|zd ze zn)))))))),
 (aE (zP b9)
 (aE (Pu (tD<|ae (zN eU zk<|zO<|ae aa<|ae zk zi) zi) zx sW<|zT Di aa<|zO<|ae aa<|ae zk zi)
 (aE (zP<|zO<|ae aa<|ae (bO eR Ã<|ae aa zi) zi)
 (aE (zP<|zO<|ae aa<|ae zk zi)
 (aE (zP<|gu zi)
 (aE (gr (tD<|ae aa zi) zx (aE (zP<|zT Di aa<|zN lB (zN eU aa<|zN jz zk aa) zk)
 (aE (zP<|zN Af (zN Af (jP _ rfl PySem.F.plainAttrs_str PySem.F.slot_str_join PySem.F.type_str_join (Jt _ rfl) b9<|ae (pX xY aa pZ<|pY aa) zi) aa)<|jP _ rfl PySem.F.plainAttrs_str PySem.F.slot_str_join PySem.F.type_str_join (Jt _ rfl) b9<|ae (pX xY aa (pY<|zN eU aa zk) pZ) zi)
 (aE (zP<|zN Af aa<|zN ZV b9<|zO<|ae aa<|ae zk zi)
 (aE (n9<|bT (lZ<|mH (zZ BZ aa aa rfl)<|pV<|zZ BZ aa (cq<|ae b9<|ae b9<|ae b9<|ae b9<|ae b9 zi) rfl) (zG<|zP<|zN Af b9<|zT Di aa aa) cx)
 (zG<|j7<|jP _ rfl È Å Æ kr aa<|ae aa zi))))))
 (aE (n9<|bT (zZ gv (zO<|ae aa<|ae zk zi) zk) (aE (zP<|zT eD (gu<|ae b9<|ae b9<|ae b9<|ae b9<|ae b9<|ae b9<|ae b9<|ae b9 zi)<|zO<|ae aa<|ae zk zi)
 (zG<|bT (zZ U4 aa aa rfl) (zG<|mF aa<|yq aa (zO<|ae aa<|ae aa zi) Ab) cx)) cx)
 (zG<|bz<|k8 vq Í<|ae aa zi))))))))⟩
noncomputable def Lp:MS:=(bh<|aS oF<|zf (aq dM (aq pG (aq aT (zj 0)<|mC<|.int 0)<|aq aT (zj 1)<|mC<|.int 1)<|aq pG (aq aT (zj 1)<|mC<|.int 0)<|aq aT (zj 0)<|mC<|.int 1)<|zf (aq pG (aq aT (zj 0)<|mC<|.int 1)<|aq aT (zj 1)<|mC<|.int 1) zq)
noncomputable def vw:FD:=cj 2 [0,1] Lp
abbrev Ew(Z:Zs):Prop:=Z.C "_law_plus" 2 ["_law_one", "_law_other"] 2 vw
theorem zjG(B:Bs Z)(A:dH Z "_law_plus" Lr)(c0:vF Z):Ew Z :=
 have hB:=B.1; dR A ["_law_one", "_law_other"] λnd hr=>⟨_,(bE<|zK 2<|zd (zp eS (zp u7 (zp zE ze zm)<|zp zE ze zm)<|zp u7 (zp zE ze zm)<|zp zE ze zm)<|zd (zp u7 (zp zE ze zm)<|zp zE ze zm) zn),
 (zG<|bz<|zO<|ae (zN eU (zN u9 (zT zV aa zk)<|zT zV aa zk)<|zN u9 (zT zV aa zk)<|zT zV aa zk)<|ae (zN u9 (zT zV aa zk)<|zT zV aa zk) zi)⟩
noncomputable def LK:MS:=(bh<|aS oF<|zf (aq pG (aq aT (zj 0)<|mC<|.int 0)<|aq aT (zj 1)<|mC<|.int 0)<|zf (aq pG (aq aT (zj 0)<|mC<|.int 1)<|aq aT (zj 1)<|mC<|.int 1) zq)
noncomputable def Aq:FD:=cj 2 [0,1] LK
abbrev LJ(Z:Zs):Prop:=Z.C "_law_times" 2 ["_law_one", "_law_other"] 2 Aq
theorem zhZ(B:Bs Z)(A:dH Z "_law_times" LA)(c0:vF Z):LJ Z :=
 have hB:=B.1; dR A ["_law_one", "_law_other"] λnd hr=>⟨_,(bE<|zK 2<|zd (zp u7 (zp zE ze zm)<|zp zE ze zm)<|zd (zp u7 (zp zE ze zm)<|zp zE ze zm) zn),
 (zG<|bz<|zO<|ae (zN u9 (zT zV aa zk)<|zT zV aa zk)<|ae (zN u9 (zT zV aa zk)<|zT zV aa zk) zi)⟩
noncomputable def LU:MS:=(zz (aR 1<|aS zw<|zf (zj 0)<|zf (mC<|.int 12) zq)
  (zz (bt (mB<|aq nG (zj 1)<|mC<|.int 7) (bh<|aq cT (eP<|zf (bw<|zf (mC<|.int 0)<|zf (mC<|.int 1) zq)<|zf (bw<|zf (mC<|.int 1)<|zf (mC<|.int 1) zq)<|zf (bw<|zf (mC<|.int 1)<|zf (mC<|.int 1) zq)<|zf (bw<|zf (eJ nQ<|mC<|.int 1)<|zf (mC<|.int 1) zq)<|zf (bw<|zf (mC<|.int 2)<|zf (mC<|.int 1) zq)<|zf (bw<|zf (mC<|.int 1)<|zf (mC<|.int 2) zq)<|zf (bw<|zf (eJ nQ<|mC<|.int 2)<|zf (mC<|.int 3) zq) zq)<|zj 1) bF)
  (zz (bt (mB<|aq nG (zj 1)<|mC<|.int 11) (bh<|aS oF<|zf (aq iY (aS zw<|zf (zj 0)<|zf (mC<|.int 19) zq)<|mC<|.int 9)<|zf (aq dM (mC<|.int 1)<|aS zw<|zf (zj 0)<|zf (mC<|.int 4) zq) zq) bF)
  (bh<|aS oF<|zf (aq iY (aS zw<|zf (zj 0)<|zf (mC<|.int 1999999) zq)<|mC<|.int 999999)<|zf (aq dM (mC<|.int 1)<|aS zw<|zf (zj 0)<|zf (mC<|.int 4) zq) zq))))
noncomputable def vE:FD:=cj 2 [0] LU
abbrev LS(Z:Zs):Prop:=Z.C "_law_multiple" 2 ["_law_box_here"] 1 vE
theorem zf3(B:Bs Z)(A:dH Z "_law_multiple" L3)(c0:tF Z)(c1:vF Z):LS Z :=
 have hB:=B.1; dR A ["_law_box_here", "_law_kind"] λnd hr=>⟨_,(zu (zL<|zK 2<|zd ze<|zd zm zn)
 (zu (bR (zH<|zp pK ze zm) (bE<|zp eF (hE<|zd (cp<|zd zm<|zd zm zn)<|zd (cp<|zd zm<|zd zm zn)<|zd (cp<|zd zm<|zd zm zn)<|zd (cp<|zd (ud uS zm)<|zd zm zn)<|zd (cp<|zd zm<|zd zm zn)<|zd (cp<|zd zm<|zd zm zn)<|zd (cp<|zd (ud uS zm)<|zd zm zn) zn) ze) cw)
 (zu (bR (zH<|zp pK ze zm) (bE<|zK 2<|zd (zp jZ (zK 2<|zd ze<|zd zm zn) zm)<|zd (zp eS zm<|zK 2<|zd ze<|zd zm zn) zn) cw)
 (bE<|zK 2<|zd (zp jZ (zK 2<|zd ze<|zd zm zn) zm)<|zd (zp eS zm<|zK 2<|zd ze<|zd zm zn) zn)))),
 (aE (zP<|zO<|ae aa<|ae zk zi)
 (aE (bT (zZ pM aa zk) (zG<|bz<|zT eD (gu<|ae (cq<|ae zk<|ae zk zi)<|ae (cq<|ae zk<|ae zk zi)<|ae (cq<|ae zk<|ae zk zi)<|ae (cq<|ae (uq uZ zk)<|ae zk zi)<|ae (cq<|ae zk<|ae zk zi)<|ae (cq<|ae zk<|ae zk zi)<|ae (cq<|ae (uq uZ zk)<|ae zk zi) zi) aa) cx)
 (aE (bT (zZ pM aa zk) (zG<|bz<|zO<|ae (zN ki (zO<|ae aa<|ae zk zi) zk)<|ae (zN eU zk<|zO<|ae aa<|ae zk zi) zi) cx)
 (zG<|bz<|zO<|ae (zN ki (zO<|ae aa<|ae zk zi) zk)<|ae (zN eU zk<|zO<|ae aa<|ae zk zi) zi))))⟩
noncomputable def Mv:MS:=(zz (bt (jG (gQ<|mB<|eJ (gZ "tuple")<|zj 0)<|mB<|aq (bS true) (bA (f1 dJ)<|zf (zj 0) zq)<|mC<|.int 2) (bh<|mC<|.bool false) bF)
  (zz (eO (eK l7<|zj 0) (zA 1)<|bt (jG (gQ<|mB<|eJ (gZ "int")<|zj 1)<|mB<|eJ (gZ "bool")<|zj 1) (bh<|mC<|.bool false) bF)
  (bh<|lj (aq wK (aq aT (zj 0)<|mC<|.int 1)<|mC<|.int 0)<|aq (l8 false) (aS oF<|zf (aq aT (zj 0)<|mC<|.int 0)<|zf (aq aT (zj 0)<|mC<|.int 1) zq)<|zj 0)))
noncomputable def Aw:FD:=cj 2 [0] Mv
abbrev Mu(Z:Zs):Prop:=Z.C "_law_is_fraction" 2 ["_law_thing"] 1 Aw
theorem zep(B:Bs Z)(A:dH Z "_law_is_fraction" Mz)(c0:vF Z):Mu Z :=
 have hB:=B.1; dR A ["_law_thing", "_law_one"] λnd hr=>⟨_,(zu (bR (mE (jY<|fG<|mf (T := "tuple") ze)<|zH<|zp uQ (bN ft<|zd ze zn) zm) (bE iE) cw)
 (zu (gj (sS ze) zy<|bR (mE (jY<|fG<|mf (T := "int") ze)<|fG<|mf (T := "bool") ze) (bE iE) cw)
 (bE<|pT (zp CA (zp zE ze zm) zm)<|zp (Dr false) (zK 2<|zd (zp zE ze zm)<|zd (zp zE ze zm) zn) ze))),
 (aE (bT (lZ<|mH (kf<|lz<|bO mG É<|ae aa<|ae (mN (v:=.ty "tuple") Í rfl) zi)<|pV<|zZ uI (bO eR Ã<|ae aa zi) zk) (zG<|bz iG) cx)
 (aE (gr (sU aa) zx<|zG<|bT (lZ<|mH (kf<|lz<|bO mG É<|ae aa<|ae (mN (v:=.ty "int") Û rfl) zi)<|pV<|lz<|bO mG É<|ae aa<|ae (mN (v:=.ty "bool") PyProof.Rows.boot_bool rfl) zi) (zG<|bz iG) cx)
 (zG<|bz<|pN (jx CG (zT zV aa zk) zk)<|uD<|jx (Ie _ rfl hr) (zO<|ae (zT zV aa zk)<|ae (zT zV aa zk) zi) aa)))⟩
noncomputable def KQ:MS:=(zz (k7 (zj 1)<|gk 2<|zW (zA 3)<|zW (zA 4) g9)
  (zz (aR 5<|tK (mB<|eJ (xb false [1,1])<|zj 3) (eP zq)<|eP<|zf (jr "NewRows" 0 "shared" zU<|zf (bw<|zf (mC<|.str "number")<|zf (zj 3) zq) zq) zq)
  (zz (bt (mB<|aq (nL true) (zj 4)<|mC .none) (gq<|gP 5<|jr "NewRows" 0 "shared" zU<|zf (bw<|zf (mC<|.str "letter")<|zf (zj 4) zq) zq) bF)
  (zz (bt (mB<|aq (nL true) (zj 2)<|mC .none) (gq<|gP 5<|zj 2) bF)
  (zz (bt (gQ<|ub<|zj 5) (bh<|jr "NewRows" 0 "shared" zU<|zf (bw<|zf (mC<|.str "number")<|zf (mC<|.tuple [.int 1,.int 1]) zq) zq) bF)
  (zz (aR 6<|aq cT (zj 5)<|mC<|.int 0)
  (zz (eO (eK pF<|fu<|kF nM (zj 5) (jU<|mC<|.int 1) ko) (zA 7)<|aR 6<|jr "NewRows" 0 "add_new" zY<|zf (bw<|zf (mC<|.str "times")<|zf (zj 6)<|zf (zj 7) zq) zq)
  (bh<|zj 6))))))))
noncomputable def jB:FD:=cj 8 [0,1,2] KQ
abbrev KP(Z:Zs):Prop:=Z.C "way_row" 3 ["made", "entry", "ahead"] 3 jB
theorem YI(B:Bs Z)(A:dH Z "way_row" KR)(c0:AB Z)(c1:LV Z):KP Z :=
 by obtain⟨hB,_,_,⟨jm,iQ,fV⟩,_⟩:=B; exact dR A ["made", "entry", "ahead", "f", "letter", "factors", "told", "factor"] λnd hr=>⟨_,(zu (uB ze<|jV<|zR zy<|zR zy jW)
 (zu (zL<|GO (zH<|zAo (neg:=false) fV ze) (hE zn)<|hE<|zd (sE 2<|zd (cp<|zd b8<|zd ze zn) zn) zn)
 (zu (n8<|bR (zH<|zp Jn ze CB) (jX<|mr<|sE 2<|zd (cp<|zd b8<|zd ze zn) zn) cw)
 (zu (n8<|bR (zH<|zp Jn ze CB) (jX<|mr ze) cw)
 (zu (bR (jY<|RA ze) (bE<|sE 2<|zd (cp<|zd b8<|zd (HK fV) zn) zn) cw)
 (zu (zL<|zp eF ze zm)
 (zu (gj (D1<|g5<|pD yL ze (p7 zm) p8) zy<|zL<|sE 2<|zd (cp<|zd b8<|zd ze<|zd ze zn) zn)
 (bE ze)))))))),
 (aE (mF aa<|j8<|cU zx<|cU zx j9)
 (aE (zP<|CC (zZ (Ie _ rfl hr) aa<|Ds (v:=.ref jm) rfl iQ rfl) (gu zi)<|gu<|ae (sJ c1 aa<|ae (cq<|ae b9<|ae aa zi) zi) zi)
 (aE (n9<|bT (zZ Jh aa xZ) (zG<|j7<|jP _ rfl È Å Æ kr aa<|ae (sJ c1 aa<|ae (cq<|ae b9<|ae aa zi) zi) zi) cx)
 (aE (n9<|bT (zZ Jh aa xZ) (zG<|j7<|jP _ rfl È Å Æ kr aa<|ae aa zi) cx)
 (aE (bT (kf<|Px aa) (zG<|bz<|sJ c1 aa<|ae (cq<|ae b9<|ae (Ds (v:=.ref jm) rfl iQ rfl) zi) zi) cx)
 (aE (zP<|zT eD aa zk)
 (aE (gr (D3<|g6<|pX xY aa (pY zk) pZ) zx<|zG<|zP<|sJ c0 aa<|ae (cq<|ae b9<|ae aa<|ae aa zi) zi)
 (zG<|bz aa))))))))⟩
noncomputable def LR:MS:=(zz (aR 3<|bA (f1 sZ)<|zf (zj 0) zq)
  (zz (eO (eK nY<|fu<|zj 1) (zA 4) (zz (aR 5<|bw<|zf (aq gR (zj 2)<|aq aT (iI (zj 1)<|zj 4)<|mC<|.int 0)<|zf (aq aT (iI (zj 1)<|zj 4)<|mC<|.int 1) zq)
  (jw 3 (zj 4)<|aS vw<|zf (sO (zj 3) (zj 4)<|bw<|zf (mC<|.int 0)<|zf (mC<|.int 1) zq)<|zf (zj 5) zq)))
  (zz (aR 6 mP)
  (zz (eO (eK nY<|fu<|zj 3) (zA 4)<|bt (mB<|aq (bS true) (aq aT (iI (zj 3)<|zj 4)<|mC<|.int 0)<|mC<|.int 0) (jw 6 (zj 4)<|iI (zj 3)<|zj 4) bF)
  (pI [0,1,2] 6)))))
noncomputable def tE:FD:=cj 7 [0,1,2] LR
abbrev EB(Z:Zs):Prop:=Z.C "_law_poly_add" 3 ["_law_one", "_law_other", "_law_sign"] 3 tE
theorem zf4(B:Bs Z)(A:dH Z "_law_poly_add" Mj)(c0:Ew Z):EB Z :=
 have hB:=B.1; dR A ["_law_one", "_law_other", "_law_sign", "_law_found", "_law_powers", "_law_more", "_law_kept"] λnd hr=>⟨_,(zu (zL<|bN Yw<|zd ze zn)
 (zu (gj (vf<|g5 ze) zy (zu (zL<|cp<|zd (zp jy ze<|zp zE (mQ ze ze) zm)<|zd (zp zE (mQ ze ze) zm) zn)
 (pS ze<|zK 2<|zd (IF ze ze<|cp<|zd zm<|zd zm zn)<|zd ze zn)))
 (zu (zL tj)
 (zu (gj (vf<|g5 ze) zy<|bR (zH<|zp uQ (zp zE (mQ ze ze) zm) zm) (pS ze<|mQ ze ze) cw)
 HX)))),
 (aE (zP<|k8 ZR PyProof.Rows.boot_dict<|ae aa zi)
 (aE (gr (vn<|g6 aa) zx (aE (zP<|cq<|ae (zN jz aa<|zT zV (mM hr aa aa) zk)<|ae (zT zV (mM hr aa aa) zk) zi)
 (zG<|pU hr aa aa<|zO<|ae (IG hr aa aa (cq<|ae zk<|ae zk zi) ⟨rfl,rfl,rfl,rfl⟩)<|ae aa zi)))
 (aE (zP pW)
 (aE (gr (vn<|g6 aa) zx<|zG<|bT (zZ uI (zT zV (mM hr aa aa) zk) zk) (zG<|pU hr aa aa<|mM hr aa aa) cx)
 (zG<|bz aa)))))⟩
noncomputable def Me:MS:=(zz (aR 2 mP)
  (zz (eO (eK nY<|fu<|zj 0) (zA 3)<|eO (eK nY<|fu<|zj 1) (zA 4) (zz (aR 5<|bA (f1 mR)<|zf (kG (Bz<|zf (zj 3)<|zf (zj 4) zq) 2 [] (gk 2<|zW (zA 0)<|zW (zA 1) g9) l6<|aq dM (zj 0)<|zj 1) zq)
  (zz (aR 6<|aS Aq<|zf (iI (zj 0)<|zj 3)<|zf (iI (zj 1)<|zj 4) zq)
  (jw 2 (zj 5)<|aS vw<|zf (sO (zj 2) (zj 5)<|bw<|zf (mC<|.int 0)<|zf (mC<|.int 1) zq)<|zf (zj 6) zq))))
  (zz (aR 7 mP)
  (zz (eO (eK nY<|fu<|zj 2) (zA 5)<|bt (mB<|aq (bS true) (aq aT (iI (zj 2)<|zj 5)<|mC<|.int 0)<|mC<|.int 0) (jw 7 (zj 5)<|iI (zj 2)<|zj 5) bF)
  (pI [0,1] 7)))))
noncomputable def qG:FD:=cj 8 [0,1] Me
abbrev Ey(Z:Zs):Prop:=Z.C "_law_poly_mult" 3 ["_law_one", "_law_other"] 2 qG
theorem zfz(B:Bs Z)(A:dH Z "_law_poly_mult" Mg)(c0:Ew Z)(c1:LJ Z):Ey Z :=
 have hB:=B.1; dR A ["_law_one", "_law_other", "_law_found", "_law_left", "_law_right", "_law_powers", "_law_more", "_law_kept"] λnd hr=>⟨_,(zu (zL tj)
 (zu (gj (vf<|g5 ze) zy<|gj (vf<|g5 ze) zy (zu (zL<|bN vm<|zd (pE (P7<|zd ze<|zd ze zn) (jV<|zR zy<|zR zy jW) sQ<|zp eS ze ze) zn)
 (zu (zL<|zK 2<|zd (mQ ze ze)<|zd (mQ ze ze) zn)
 (pS ze<|zK 2<|zd (IF ze ze<|cp<|zd zm<|zd zm zn)<|zd ze zn))))
 (zu (zL tj)
 (zu (gj (vf<|g5 ze) zy<|bR (zH<|zp uQ (zp zE (mQ ze ze) zm) zm) (pS ze<|mQ ze ze) cw)
 HX)))),
 (aE (zP pW)
 (aE (gr (vn<|g6 aa) zx<|zG<|gr (vn<|g6 aa) zx (aE (zP<|k8 vq Í<|ae (rW (P8<|ae aa<|ae aa zi) (j8<|cU zx<|cU zx j9) sW<|zN eU aa aa) zi)
 (aE (zP<|zO<|ae (mM hr aa aa)<|ae (mM hr aa aa) zi)
 (zG<|pU hr aa aa<|zO<|ae (IG hr aa aa (cq<|ae zk<|ae zk zi) ⟨rfl,rfl,rfl,rfl⟩)<|ae aa zi))))
 (aE (zP pW)
 (aE (gr (vn<|g6 aa) zx<|zG<|bT (zZ uI (zT zV (mM hr aa aa) zk) zk) (zG<|pU hr aa aa<|mM hr aa aa) cx)
 (zG<|bz aa)))))⟩
noncomputable def LH:MS:=(zz (aR 3<|aS vE<|zf (zj 0) zq)
  (zz (bt (rS (mB<|aq (bS false) (aq aT (zj 3)<|mC<|.int 0)<|mC<|.int 0)<|gQ<|mB<|zj 2) (aR 3<|bw<|zf (mC<|.int 1)<|zf (mC<|.int 1) zq) bF)
  (zz (aR 4<|aS zw<|zf (zj 0)<|zf (aq dM (zj 1)<|mC<|.int 1) zq)
  (zz (bt (mB<|aq (bS false) (zj 4)<|zj 1) (bh<|bw<|zf (zj 3)<|zf (mC .none) zq) bF)
  (bh<|bw<|zf (aq cT (eP<|zf (zj 3)<|zf (bw<|zf (mC<|.int 1)<|zf (mC<|.int 1) zq) zq)<|aS zw<|zf (zj 0)<|zf (mC<|.int 2) zq)<|zf (zj 4) zq)))))
noncomputable def Ap:FD:=cj 5 [0,1,2] LH
abbrev LG(Z:Zs):Prop:=Z.C "_law_entry" 3 ["_law_box_here", "_law_many", "_law_may_be_nought"] 3 Ap
theorem zh0(B:Bs Z)(A:dH Z "_law_entry" Lz)(c0:tF Z)(c1:LS Z):LG Z :=
 have hB:=B.1; dR A ["_law_box_here", "_law_many", "_law_may_be_nought", "_law_f", "_law_k"] λnd hr=>⟨_,(zu (zL<|zK 1<|zd ze zn)
 (zu (n8<|bR (H9 (zH<|zp gA (zp zE ze zm) zm)<|jY<|fG ze) (zL<|cp<|zd zm<|zd zm zn) cw)
 (zu (zL<|zK 2<|zd ze<|zd (zp eS ze zm) zn)
 (zu (bR (zH<|zp gA ze ze) (bE<|cp<|zd ze<|zd CB zn) cw)
 (bE<|cp<|zd (zp eF (hE<|zd ze<|zd (cp<|zd zm<|zd zm zn) zn)<|zK 2<|zd ze<|zd zm zn)<|zd ze zn))))),
 (aE (zP<|zO<|ae aa zi)
 (aE (n9<|bT (lZ<|Ih (zZ gv (zT zV aa zk) zk)<|Jv<|kf<|lz aa) (zG<|zP<|cq<|ae zk<|ae zk zi) cx)
 (aE (zP<|zO<|ae aa<|ae (zN eU aa zk) zi)
 (aE (bT (zZ gv aa aa) (zG<|bz<|cq<|ae aa<|ae xZ zi) cx)
 (zG<|bz<|cq<|ae (zT eD (gu<|ae aa<|ae (cq<|ae zk<|ae zk zi) zi)<|zO<|ae aa<|ae zk zi)<|ae aa zi)))))⟩
noncomputable def Az:MS:=(zz (bt (jG (gQ<|mB<|eJ (gZ "tuple")<|zj 0)<|jG (mB<|aq (bS false) (bA (f1 dJ)<|zf (zj 0) zq)<|mC<|.int 0)<|gQ<|mB<|eJ (gZ "str")<|aq aT (zj 0)<|mC<|.int 0) (bh<|mC<|.bool false) bF)
  (zz (bt (mB<|aq (bS false) (aq aT (zj 0)<|mC<|.int 0)<|mC<|.str "number") (bh<|lj (aq (bS false) (bA (f1 dJ)<|zf (zj 0) zq)<|mC<|.int 2)<|aS Aw<|zf (aq aT (zj 0)<|mC<|.int 1) zq) bF)
  (zz (bt (gQ<|mB<|bA (f1 rO)<|zf (kG (eK l7<|kF rQ (zj 0) (jU<|mC<|.int 1) ko) 1 [] (zA 0) l6<|aS AA<|zf (zj 0) zq) zq) (bh<|mC<|.bool false) bF)
  (zz (bt (mB<|aq (bS false) (aq aT (zj 0)<|mC<|.int 0)<|mC<|.str "letter") (bh<|lj (aq (bS false) (bA (f1 dJ)<|zf (zj 0) zq)<|mC<|.int 2)<|uP tV nG (mC<|.int 0) (aq aT (zj 0)<|mC<|.int 1)<|zj 1) bF)
  (bh<|lj (aq (lR false) (aq aT (zj 0)<|mC<|.int 0)<|bw<|zf (mC<|.str "plus")<|zf (mC<|.str "less")<|zf (mC<|.str "times") zq)<|lj (aq (bS false) (bA (f1 dJ)<|zf (zj 0) zq)<|mC<|.int 3)<|lj (aq tV (mC<|.int 0)<|bA (f1 Cn)<|zf (kF rQ (zj 0) (jU<|mC<|.int 1) ko) zq)<|aq nG (bA (f1 xM)<|zf (kF rQ (zj 0) (jU<|mC<|.int 1) ko) zq)<|zj 2)))))
noncomputable def zS:FD:=cj 3 [0,1,2] Az
abbrev Mr(Z:Zs):Prop:=Z.C "_law_is_whole_row" 3 ["_law_row", "_law_many", "_law_at"] 3 zS
theorem zd4(B:Bs Z)(A:dH Z "_law_is_whole_row" Mt)(c0:Mu Z)(c1:LX Z):Mr Z :=
 have hB:=B.1; dR A ["_law_row", "_law_many", "_law_at"] λnd hr=>⟨_,(zu (bR (mE (jY<|fG<|mf (T := "tuple") ze)<|mE (zH<|zp gA (bN ft<|zd ze zn) zm)<|jY<|fG<|mf (T := "str")<|zp zE ze zm) (bE iE) cw)
 (zu (bR (zH<|zp gA (zp zE ze zm) b8) (bE<|pT (zp gA (bN ft<|zd ze zn) zm)<|zK 1<|zd (zp zE ze zm) zn) cw)
 (zu (bR (jY<|fG<|bN Ij<|zd (pE (sS<|pD Dn ze (p7 zm) p8) zy sQ<|zK 1<|zd ze zn) zn) (bE iE) cw)
 (zu (bR (zH<|zp gA (zp zE ze zm) b8) (bE<|pT (zp gA (bN ft<|zd ze zn) zm)<|IJ xW pK zm (zp zE ze zm) ze) cw)
 (bE<|pT (zp (xI false) (zp zE ze zm)<|cp<|zd b8<|zd b8<|zd b8 zn)<|pT (zp gA (bN ft<|zd ze zn) zm)<|pT (zp xW zm<|bN UC<|zd (pD Dn ze (p7 zm) p8) zn)<|zp pK (bN Ug<|zd (pD Dn ze (p7 zm) p8) zn) ze))))),
 (aE (bT (lZ<|mH (kf<|lz<|bO mG É<|ae aa<|ae (mN (v:=.ty "tuple") Í rfl) zi)<|mH (zZ gv (bO eR Ã<|ae aa zi) zk)<|pV<|kf<|lz<|bO mG É<|ae (zT zV aa zk)<|ae (mN (v:=.ty "str") PyProof.Rows.boot_str rfl) zi) (zG<|bz iG) cx)
 (aE (bT (zZ gv (zT zV aa zk) b9) (zG<|bz<|pN (jx gv (bO eR Ã<|ae aa zi) zk)<|uD<|zO<|ae (zT zV aa zk) zi) cx)
 (aE (bT (kf<|lz<|bO (He _ rfl rfl) PyProof.Rows.boot_all<|ae (rW (sU<|pX BX aa (pY zk) pZ) zx sW<|zO<|ae aa zi) zi) (zG<|bz iG) cx)
 (aE (bT (zZ gv (zT zV aa zk) b9) (zG<|bz<|pN (jx gv (bO eR Ã<|ae aa zi) zk)<|uD<|U5 xQ pM zk (zT zV aa zk) aa) cx)
 (zG<|bz<|pN (jx BZ (zT zV aa zk) (cq<|ae b9<|ae b9<|ae b9 zi) rfl)<|pN (jx gv (bO eR Ã<|ae aa zi) zk)<|pN (jx xQ zk<|bO (Qv _ rfl rfl) PyProof.Rows.boot_min<|ae (pX BX aa (pY zk) pZ) zi)<|uD<|jx pM (bO (PR _ rfl rfl) PyProof.Rows.boot_max<|ae (pX BX aa (pY zk) pZ) zi) aa)))))⟩
noncomputable def L8:MS:=(zz (aR 1<|BD "NewRows" [("rows",.l []),("paper",.l []),("places",.x []),("mark_places",.x [])])
  (zz (aR 2 Dp)
  (zz (eO (eK pF<|fu<|aS Au<|zf (zj 0) zq) (gk 3<|zW (zA 3)<|zW (zA 4)<|zW (zA 5) g9) (zz (aR 6<|aS jB<|zf (zj 1)<|zf (zj 5)<|zf (yp (zj 2)<|zj 3) zq)
  (jw 2 (zj 4)<|tK (mB<|nO false (zj 4)<|zj 2) (jr "NewRows" 1 "add_new" zY<|zf (bw<|zf (mC<|.str "plus")<|zf (iI (zj 2)<|zj 4)<|zf (zj 6) zq) zq)<|zj 6)))
  (xE "NewRows" 1 "rows" 7 (aq aT (zj 0)<|mC<|.int 0)<|eP<|zf (bw<|zf (mC<|.str "number")<|zf (mC<|.tuple [.int 0,.int 1]) zq) zq))))
noncomputable def vA:FD:=cj 8 [0] L8
abbrev L7(Z:Zs):Prop:=Z.C "reckoning_of_web" 4 ["web"] 1 vA
theorem zeY(B:Bs Z)(A:dH Z "reckoning_of_web" Mc)(c0:LN Z)(c1:KP Z)(c2:AB Z):L7 Z :=
 by obtain⟨hB,_,⟨cR,d9,de⟩,_,aF,cE⟩:=B; exact dR A ["web", "made", "sums", "start", "end", "entry", "row", "rows"] λnd hr=>⟨_,(zu (zL (zAR (λz=>nomatch z) (by decide)))
 (zu (zL Vl)
 (zu (gj (D1<|g5<|zK 1<|zd ze zn) (jV<|zR zy<|zR zy<|zR zy jW) (zu (zL<|zK 3<|zd ze<|zd ze<|zd (UA ze ze) zn)
 (pS ze<|GO (fG<|uA ze ze) (sE 2<|zd (cp<|zd b8<|zd (mQ ze ze)<|zd ze zn) zn) ze)))
 (Qr aF.at (Qs x8<|MW λ_=>.int _)<|hE<|zd (cp<|zd b8<|zd (HK de) zn) zn)))),
 (aE (zP<|zAQ cE)
 (aE (zP U1)
 (aE (gr (D3<|g6<|zO<|ae aa zi) (j8<|cU zx<|cU zx<|cU zx j9) (aE (zP<|zO<|ae aa<|ae aa<|ae (UB hr aa aa ⟨rfl,rfl,rfl,rfl⟩) zi)
 (zG<|pU hr aa aa<|CC (u5 hr aa aa) (sJ c2 aa<|ae (cq<|ae b9<|ae (mM hr aa aa)<|ae aa zi) zi) aa)))
 (aE (zP<|CC (Qw aa) (pP aa)<|gu<|ae (cq<|ae b9<|ae (Ds (v:=.ref cR) rfl d9 rfl) zi) zi)<|zG<|bz<|cq<|ae (zT zV aa zk)<|ae (k8 (Je vq) Í<|ae aa zi) zi))))⟩
noncomputable def Le:MS:=(zz (aR 3<|aq dM (mC<|.int 2)<|aS zw<|zf (zj 0)<|zf (aq iY (zj 2)<|mC<|.int 1) zq)
  (zz (aR 4<|aS zw<|zf (zj 0)<|zf (mC<|.int 4) zq)
  (zz (aR 5<|eP zq)
  (zz (eO (mD<|zf (aq iY (zj 3)<|mC<|.int 1) zq) (zA 6)<|eO (xS<|zf (aq dM (zj 6)<|mC<|.int 1)<|zf (zj 3) zq) (zA 7) (zz (aR 8<|aq cT (eP<|zf (mC<|.int 4)<|zf (mC<|.int 2)<|zf (mC<|.int 1)<|zf (aq dM (mC<|.int 1)<|aq gR (mC<|.int 3)<|bA (f1 pJ)<|zf (aq (bS false) (zj 7)<|aq dM (zj 6)<|mC<|.int 1) zq) zq)<|zj 4)
  (bt (mB<|aq nG (aS zw<|zf (zj 0)<|zf (mC<|.int 4) zq)<|zj 8) (gq<|gP 5<|bw<|zf (zj 6)<|zf (zj 7)<|zf (aS Ap<|zf (zj 0)<|zf (bA (f1 dJ)<|zf (zj 1) zq)<|zf (mC<|.bool false) zq) zq) bF)))
  (bh<|bw<|zf (zj 1)<|zf (zj 3)<|zf (bA (f1 mR)<|zf (zj 5) zq) zq)))))
noncomputable def Aj:FD:=cj 9 [0,1,2] Le
abbrev Ld(Z:Zs):Prop:=Z.C "_law_web" 4 ["_law_box_here", "_law_letters", "_law_most"] 3 Aj
theorem zk9(B:Bs Z)(A:dH Z "_law_web" Lh)(c0:tF Z)(c1:LG Z):Ld Z :=
 have hB:=B.1; dR A ["_law_box_here", "_law_letters", "_law_most", "_law_dots", "_law_kind", "_law_ways", "_law_begin", "_law_end", "_law_chance"] λnd hr=>⟨_,(zu (zL<|zp eS zm<|zK 2<|zd ze<|zd (zp jZ ze zm) zn)
 (zu (zL<|zK 2<|zd ze<|zd zm zn)
 (zu (zL<|hE zn)
 (zu (gj (tu<|zd (zp jZ ze zm) zn) zy<|gj (Vp<|zd (zp eS ze zm)<|zd ze zn) zy (zu (zL<|zp eF (hE<|zd zm<|zd zm<|zd zm<|zd (zp eS zm<|zp jy zm<|bN yR<|zd (zp gA ze<|zp eS ze zm) zn) zn) ze)
 (bR (zH<|zp pK (zK 2<|zd ze<|zd zm zn) ze) (jX<|mr<|cp<|zd ze<|zd ze<|zd (zK 3<|zd ze<|zd (bN ft<|zd ze zn)<|zd iE zn) zn) cw)))
 (bE<|cp<|zd ze<|zd ze<|zd (bN vm<|zd ze zn) zn))))),
 (aE (zP<|zN eU zk<|zO<|ae aa<|ae (zN ki aa zk) zi)
 (aE (zP<|zO<|ae aa<|ae zk zi)
 (aE (zP<|gu zi)
 (aE (gr (tD<|ae (zN ki aa zk) zi) zx<|zG<|gr (W4<|ae (zN eU aa zk)<|ae aa zi) zx (aE (zP<|zT eD (gu<|ae zk<|ae zk<|ae zk<|ae (zN eU zk<|zN jz zk<|k8 Ai Û<|ae (jx gv aa<|zN eU aa zk) zi) zi) aa)
 (zG<|bT (zZ pM (zO<|ae aa<|ae zk zi) aa) (zG<|j7<|jP _ rfl È Å Æ kr aa<|ae (cq<|ae aa<|ae aa<|ae (zO<|ae aa<|ae (bO eR Ã<|ae aa zi)<|ae iG zi) zi) zi) cx)))
 (zG<|bz<|cq<|ae aa<|ae aa<|ae (k8 vq Í<|ae aa zi) zi)))))⟩
noncomputable def LQ:MS:=(zz (k7 (zj 0)<|gk 3<|zW (zA 1)<|zW (zA 2)<|zW (zA 3) g9)
  (zz (aR 4<|aq xN (eP<|zf (fu<|aS vC<|zf (bA (f1 dJ)<|zf (zj 1) zq)<|zf (bw<|zf (mC<|.int 1)<|zf (mC<|.int 1) zq) zq) zq)<|kG (mD<|zf (aq iY (zj 2)<|mC<|.int 1) zq) 1 [] (zA 0) l6<|fu mP)
  (zz (eO (eK l7<|zj 3) (gk 3<|zW (zA 5)<|zW (zA 6)<|zW (zA 7) g9) (zz (aR 8<|aS qG<|zf (aq cT (zj 4)<|zj 5)<|zf (aS vB<|zf (zj 7)<|zf (bA (f1 dJ)<|zf (zj 1) zq) zq) zq)
  (n6 4 (fu<|aS tE<|zf (aq cT (zj 4)<|zj 6)<|zf (zj 8)<|zf (mC<|.int 1) zq)<|zj 6)))
  (bh<|aq cT (zj 4)<|eJ nQ<|mC<|.int 1))))
noncomputable def Ao:FD:=cj 9 [0] LQ
abbrev LP(Z:Zs):Prop:=Z.C "_law_web_poly" 4 ["_law_web_here"] 1 Ao
theorem zf5(B:Bs Z)(A:dH Z "_law_web_poly" L1)(c0:EB Z)(c1:Ey Z)(c2:EA Z)(c3:L9 Z):LP Z :=
 have hB:=B.1; dR A ["_law_web_here", "_law_letters", "_law_dots", "_law_ways", "_law_found", "_law_begin", "_law_end", "_law_entry_here", "_law_part"] λnd hr=>⟨_,(zu (uB ze<|jV<|zR zy<|zR zy<|zR zy jW)
 (zu (zL<|zp Jb (hE<|zd (g5<|zK 2<|zd (bN ft<|zd ze zn)<|zd (cp<|zd zm<|zd zm zn) zn) zn)<|pE (tu<|zd (zp jZ ze zm) zn) zy sQ<|g5 tj)
 (zu (gj (sS ze) (jV<|zR zy<|zR zy<|zR zy jW) (zu (zL<|zK 2<|zd (zp eF ze ze)<|zd (zK 2<|zd ze<|zd (bN ft<|zd ze zn) zn) zn)
 (yN (g5<|zK 3<|zd (zp eF ze ze)<|zd ze<|zd zm zn) ze)))
 (bE<|zp eF ze<|ud uS zm)))),
 (aE (mF aa<|j8<|cU zx<|cU zx<|cU zx j9)
 (aE (zP<|zN Jc (gu<|ae (g6<|zO<|ae (bO eR Ã<|ae aa zi)<|ae (cq<|ae zk<|ae zk zi) zi) zi)<|rW (tD<|ae (zN ki aa zk) zi) zx sW<|g6 pW)
 (aE (gr (sU aa) (j8<|cU zx<|cU zx<|cU zx j9) (aE (zP<|zO<|ae (zT eD aa aa)<|ae (zO<|ae aa<|ae (bO eR Ã<|ae aa zi) zi) zi)
 (zG<|mF (g6<|zO<|ae (zT eD aa aa)<|ae aa<|ae zk zi)<|yq aa aa Ab)))
 (zG<|bz<|zT eD aa<|uq uZ zk))))⟩
noncomputable def Mq:MS:=(zz (bt (jG (gQ<|mB<|eJ (gZ "tuple")<|zj 0)<|jG (mB<|aq (bS true) (bA (f1 dJ)<|zf (zj 0) zq)<|mC<|.int 2)<|mB<|aq (l8 true) (aq aT (zj 0)<|mC<|.int 0)<|zj 1) (bh<|mC<|.bool false) bF)
  (zz (bt (jG (gQ<|mB<|eJ (gZ "tuple")<|aq aT (zj 0)<|mC<|.int 1)<|gQ<|mB<|uP tV tV (mC<|.int 1) (bA (f1 dJ)<|zf (aq aT (zj 0)<|mC<|.int 1) zq)<|zj 2) (bh<|mC<|.bool false) bF)
  (bh<|bA (f1 rO)<|zf (kG (xR<|zf (aq aT (zj 0)<|mC<|.int 1) zq) 2 [1] (gk 2<|zW (zA 0)<|zW (zA 1) g9) l6<|aS zS<|zf (zj 1)<|zf (bA (f1 dJ)<|zf (zj 2) zq)<|zf (zj 0) zq) zq)))
noncomputable def Ay:FD:=cj 3 [0,1,2] Mq
abbrev Mp(Z:Zs):Prop:=Z.C "_law_is_reckoning" 4 ["_law_reckoning", "_law_letters", "_law_most"] 3 Ay
theorem zd5(B:Bs Z)(A:dH Z "_law_is_reckoning" Ms)(c0:Mr Z):Mp Z :=
 have hB:=B.1; dR A ["_law_reckoning", "_law_letters", "_law_most"] λnd hr=>⟨_,(zu (bR (mE (jY<|fG<|mf (T := "tuple") ze)<|mE (zH<|zp uQ (bN ft<|zd ze zn) zm)<|zH<|zp (Dr true) (zp zE ze zm) ze) (bE iE) cw)
 (zu (bR (mE (jY<|fG<|mf (T := "tuple")<|zp zE ze zm)<|jY<|zH<|IJ xW xW zm (bN ft<|zd (zp zE ze zm) zn) ze) (bE iE) cw)
 (bE<|bN Ij<|zd (pE (Vo<|zd (zp zE ze zm) zn) (jV<|zR zy<|zR zy jW) sQ<|zK 3<|zd ze<|zd (bN ft<|zd ze zn)<|zd ze zn) zn))),
 (aE (bT (lZ<|mH (kf<|lz<|bO mG É<|ae aa<|ae (mN (v:=.ty "tuple") Í rfl) zi)<|mH (zZ uI (bO eR Ã<|ae aa zi) zk)<|pV<|zZ (Ic _ rfl hr) (zT zV aa zk) aa) (zG<|bz iG) cx)
 (aE (bT (lZ<|mH (kf<|lz<|bO mG É<|ae (zT zV aa zk)<|ae (mN (v:=.ty "tuple") Í rfl) zi)<|pV<|kf<|W9 xQ xQ zk (bO eR Ã<|ae (zT zV aa zk) zi) aa) (zG<|bz iG) cx)
 (zG<|bz<|bO (He _ rfl rfl) PyProof.Rows.boot_all<|ae (rW (U2<|ae (zT zV aa zk) zi) (j8<|cU zx<|cU zx j9) sW<|zO<|ae aa<|ae (bO eR Ã<|ae aa zi)<|ae aa zi) zi)))⟩
noncomputable def L6:MS:=(zz (k7 (zj 0)<|gk 2<|zW (zA 1)<|zW (zA 2) g9)
  (zz (aR 3<|eP zq)
  (zz (eO (eK l7<|zj 2) (zA 4)<|bt (mB<|aq (bS false) (aq aT (zj 4)<|mC<|.int 0)<|mC<|.str "number") (gq<|gP 3<|fu<|aS vC<|zf (bA (f1 dJ)<|zf (zj 1) zq)<|zf (aq aT (zj 4)<|mC<|.int 1) zq)<|bt (mB<|aq (bS false) (aq aT (zj 4)<|mC<|.int 0)<|mC<|.str "letter") (gq<|gP 3<|fu<|aS Ax<|zf (bA (f1 dJ)<|zf (zj 1) zq)<|zf (aq aT (zj 4)<|mC<|.int 1) zq)<|bt (mB<|aq (bS false) (aq aT (zj 4)<|mC<|.int 0)<|mC<|.str "times") (gq<|gP 3<|fu<|aS qG<|zf (aq cT (zj 3)<|aq aT (zj 4)<|mC<|.int 1)<|zf (aq cT (zj 3)<|aq aT (zj 4)<|mC<|.int 2) zq) (zz (aR 5<|aq cT (eP<|zf (mC<|.int 1)<|zf (eJ nQ<|mC<|.int 1) zq)<|bA (f1 pJ)<|zf (aq (bS false) (aq aT (zj 4)<|mC<|.int 0)<|mC<|.str "less") zq)
  (gq<|gP 3<|fu<|aS tE<|zf (aq cT (zj 3)<|aq aT (zj 4)<|mC<|.int 1)<|zf (aq cT (zj 3)<|aq aT (zj 4)<|mC<|.int 2)<|zf (zj 5) zq)))
  (bh<|aq cT (zj 3)<|eJ nQ<|mC<|.int 1))))
noncomputable def Av:FD:=cj 6 [0] L6
abbrev Mi(Z:Zs):Prop:=Z.C "_law_whole_poly" 4 ["_law_reckoning"] 1 Av
theorem zeZ(B:Bs Z)(A:dH Z "_law_whole_poly" Ma)(c0:EB Z)(c1:Ey Z)(c2:EA Z)(c3:Mw Z):Mi Z :=
 have hB:=B.1; dR A ["_law_reckoning", "_law_letters", "_law_rows", "_law_found", "_law_row", "_law_sign"] λnd hr=>⟨_,(zu (uB ze<|jV<|zR zy<|zR zy jW)
 (zu (zL<|hE zn)
 (zu (gj (sS ze) zy<|bR (zH<|zp gA (zp zE ze zm) b8) (jX<|mr<|g5<|zK 2<|zd (bN ft<|zd ze zn)<|zd (zp zE ze zm) zn)<|bR (zH<|zp gA (zp zE ze zm) b8) (jX<|mr<|g5<|zK 2<|zd (bN ft<|zd ze zn)<|zd (zp zE ze zm) zn)<|bR (zH<|zp gA (zp zE ze zm) b8) (jX<|mr<|g5<|zK 2<|zd (zp eF ze<|zp zE ze zm)<|zd (zp eF ze<|zp zE ze zm) zn) (zu (zL<|zp eF (hE<|zd zm<|zd (ud uS zm) zn)<|bN yR<|zd (zp gA (zp zE ze zm) b8) zn)
 (jX<|mr<|g5<|zK 3<|zd (zp eF ze<|zp zE ze zm)<|zd (zp eF ze<|zp zE ze zm)<|zd ze zn)))
 (bE<|zp eF ze<|ud uS zm)))),
 (aE (mF aa<|j8<|cU zx<|cU zx j9)
 (aE (zP<|gu zi)
 (aE (gr (sU aa) zx<|zG<|bT (zZ gv (zT zV aa zk) b9) (zG<|j7<|jP _ rfl È Å Æ kr aa<|ae (g6<|zO<|ae (bO eR Ã<|ae aa zi)<|ae (zT zV aa zk) zi) zi)<|zG<|bT (zZ gv (zT zV aa zk) b9) (zG<|j7<|jP _ rfl È Å Æ kr aa<|ae (g6<|zO<|ae (bO eR Ã<|ae aa zi)<|ae (zT zV aa zk) zi) zi)<|zG<|bT (zZ gv (zT zV aa zk) b9) (zG<|j7<|jP _ rfl È Å Æ kr aa<|ae (g6<|zO<|ae (zT eD aa<|zT zV aa zk)<|ae (zT eD aa<|zT zV aa zk) zi) zi) (aE (zP<|zT eD (gu<|ae zk<|ae (uq uZ zk) zi)<|k8 Ai Û<|ae (jx gv (zT zV aa zk) b9) zi)
 (zG<|j7<|jP _ rfl È Å Æ kr aa<|ae (g6<|zO<|ae (zT eD aa<|zT zV aa zk)<|ae (zT eD aa<|zT zV aa zk)<|ae aa zi) zi)))
 (zG<|bz<|zT eD aa<|uq uZ zk))))⟩
noncomputable def G6:MS:=(zz (aR 1<|eP zq)
  (zz (eO (mD<|zf (bA xV<|zf (mC<|.int 2)<|zf (bA xF<|zf (bA (f1 dJ)<|zf (zj 0) zq)<|zf (mC<|.int 3) zq) zq) zq) (zA 2) (zz (aR 3<|aS Ak<|zf (zj 0)<|zf (zj 2) zq)
  (zz (aR 4<|aS As<|zf (zj 3)<|zf (aq dM (mC<|.int 1)<|aS zw<|zf (zj 3)<|zf (mC<|.int 3) zq) zq)
  (gq<|gP 1<|aS Aj<|zf (zj 3)<|zf (zj 4)<|zf (aq cT (eP<|zf (mC<|.int 8)<|zf (mC<|.int 6)<|zf (mC<|.int 5) zq)<|aq iY (bA (f1 dJ)<|zf (zj 4) zq)<|mC<|.int 1) zq))))
  (zz (eO (eK pF<|fu<|aq xN (zj 1)<|kF nM (zj 1) ko<|jU<|mC<|.int 1) (zA 5) (zz (aR 6<|aS vA<|zf (zj 5) zq)
  (zz (bt (jG (gQ<|mB<|aS Ay<|zf (zj 6)<|zf (aq aT (zj 5)<|mC<|.int 0)<|zf (aq dM (aq gR (mC<|.int 4)<|bA (f1 dJ)<|zf (aq aT (zj 5)<|mC<|.int 2) zq)<|mC<|.int 4) zq)<|mB<|aq (l8 true) (aS vA<|zf (zj 5) zq)<|zj 6) (bh<|mC<|.bool false) bF)
  (bt (mB<|aq (xK false) (aS Av<|zf (zj 6) zq)<|aS Ao<|zf (zj 5) zq) (bh<|mC<|.bool false) bF))))
  (bh<|mC<|.bool true))))
noncomputable def sD:FD:=cj 7 [0] G6
theorem Qq{f:Qg}(B:Bs Z)(F:iA Z.K "law" "law" G7 f fd)(c0:L7 Z)(c1:Lf Z)(c2:tF Z)(c3:LL Z)(c4:Ld Z)(c5:LP Z)(c6:Mp Z)(c7:Mi Z):bP Z.P Z.w Z.K Z.mg Z.base gN 5 f fd ["_law_script"] (lI Z.K 1 sD):=
 have hB:=B.1; Np F ["_law_script", "_law_webs", "_law_k", "_law_box_here", "_law_letters", "_law_web_here", "_law_heard"] λnd hr=>⟨_,(zu (zL<|hE zn)
 (zu (gj (tu<|zd (bN Vq<|zd zm<|zd (bN Uo<|zd (bN ft<|zd ze zn)<|zd zm zn) zn) zn) zy (zu (zL<|zK 2<|zd ze<|zd ze zn)
 (zu (zL<|zK 2<|zd ze<|zd (zp eS zm<|zK 2<|zd ze<|zd zm zn) zn)
 (jX<|mr<|zK 3<|zd ze<|zd ze<|zd (zp eF (hE<|zd zm<|zd zm<|zd zm zn)<|zp jZ (bN ft<|zd ze zn) zm) zn))))
 (zu (gj (D1<|g5<|zp Jb ze<|pD yL ze p8<|p7 zm) zy (zu (zL<|zK 1<|zd ze zn)
 (zu (bR (mE (jY<|fG<|zK 3<|zd ze<|zd (zp zE ze zm)<|zd (zp eS (zp jy zm<|bN ft<|zd (zp zE ze zm) zn) zm) zn)<|zH<|zp (Dr true) (zK 1<|zd ze zn) ze) (bE iE) cw)
 (bR (zH<|zp Ud (zK 1<|zd ze zn)<|zK 1<|zd ze zn) (bE iE) cw))))
 (bE iE)))),
 (aE (zP<|gu zi)
 (aE (gr (tD<|ae (bO (Yk rfl) PyProof.Rows.boot_max<|ae zk<|ae (bO (Yj rfl) PyProof.Rows.boot_min<|ae (bO eR Ã<|ae aa zi)<|ae zk zi) zi) zi) zx (aE (zP<|zO<|ae aa<|ae aa zi)
 (aE (zP<|zO<|ae aa<|ae (zN eU zk<|zO<|ae aa<|ae zk zi) zi)
 (zG<|j7<|jP _ rfl È Å Æ kr aa<|ae (zO<|ae aa<|ae aa<|ae (zT eD (gu<|ae zk<|ae zk<|ae zk zi)<|zN ki (bO eR Ã<|ae aa zi) zk) zi) zi))))
 (aE (gr (D3<|g6<|zN Jc aa<|pX xY aa pZ<|pY zk) zx (aE (zP<|zO<|ae aa zi)
 (aE (bT (lZ<|mH (kf<|lz<|zO<|ae aa<|ae (zT zV aa zk)<|ae (zN eU (zN jz zk<|bO eR Ã<|ae (zT zV aa zk) zi) zk) zi)<|pV<|zZ (Ic _ rfl hr) (zO<|ae aa zi) aa) (zG<|bz iG) cx)
 (zG<|bT (zZ (Ue (.inr ⟨rfl,rfl⟩) _ rfl hr) (zO<|ae aa zi)<|zO<|ae aa zi) (zG<|bz iG) cx))))
 (zG<|bz iG))))⟩
end
end K47
set_option exponentiation.threshold 10000
open PySem L2
open Lean in
local macro_rules|`(tactic|simp![$ls,*])=>do
 let u<-("↓WC ↓zAG ↓Zd ↓RY ↓WB ↓Zc ↓zk0 ↓ziB ↓WA ↓RW ↓Wz ↓Wx ↓Zb ↓WY ↓Za ↓zAH ↓RT ↓WX ↓WV ↓WU ↓Y9 ↓zk1 ↓Y8 ↓RZ ↓RU ~R0 ~Y7 ~Y6 ~RS ~WT ~zk2 zAA zAB zAC zAD zAE zAF ↓R4 ↓R3 zX ↓zo ↓hJ JM GQ ↓SX ↓W8 JL ↓W7 ↓W6 ↓W5 ↓Xx ↓Y5 Kk ↓Xw ↓Xv ↓SW ↓Xu ↓Y4 ↓Y3 ↓Xt ↓Xs ↓Xr ↓Z2 ↓Y2 ↓Y1 ↓Xq ↓Z1 ↓Z0 ↓Tz ↓Tx ↓Y0 ↓YZ ↓YX ↓Xp ↓Ww ↓Tu ↓zix ↓YW ↓Wu ↓Wt ↓zkA ↓YV ↓zkB ↓YU ↓Ts ↓zkC ↓Wq ↓Z8 ↓Wg ↓Z6 ↓WG ↓VH ↓VG ↓Sw ↓VF ↓Zk ↓VD ↓Zj ↓Zi ↓Zh ↓zk7 ↓Ys bd SK Xo Zu Z5 Lu zit zhl Z4 Xn Pe Pd Xm ~Zt ~ZD SJ SH SG SF Pa O9 To Tn Tj O7 O6 Xj Xi ZC Xh Ti Th PH PF PD Pz Tg Tf Xe Xd Py Te Td Tc ZA Tb Ta S9 S8 S7 S6 S5 ~Zz Z3 ziv S4 S3 Xc Zy zAa zAb zAc zAd zAe zAf zAg zAh zAi zAj S1 Zw S0 SY Zv Xb Xa Tw Tv YY Tr ~zkD ~HH ~Tq ur Wn Wm Kj Tp R9 R8 R7 Wl YT Zg Wf JN Ef Zf Ze WM WL Z7 R6 R5 Ki KZ DJ WK Kh VB VA Vz Vy Vx Vw Vv Vu Vt Vs Vr V3 !List.getElem?_cons_zero !List.getElem?_cons_succ !List.set_cons_zero !List.set_cons_succ !List.cons_append !List.nil_append !List.length_cons !List.length_nil !List.replicate !Option.map_some !decide_eq_true_eq !List.mem_cons !List.not_mem_nil !true_or !or_true !or_false !false_or !if_true !if_false !ite_true !ite_false !true_and !and_true !and_false !false_and !Bool.not_true !Bool.not_false !Bool.false_eq_true !not_true !not_false_iff !Nat.zero_add !Nat.reduceAdd !Nat.reduceLeDiff !Nat.reduceEqDiff !Nat.reduceSub !Nat.reduceLT !List.map_cons !List.map_nil !List.getD_cons_zero !List.getD_cons_succ !List.drop_succ_cons !List.drop_zero !decide_true !decide_false !Bool.true_and !Bool.and_true !Bool.true_or !Bool.or_true !Bool.false_or !Bool.or_false !Bool.false_and !Bool.and_false !reduceCtorEq !List.length_map !List.length_append S2 Zx !String.reduceEq ↓!reduceIte !Int.reduceEq !Int.reduceNe !Int.reduceLT !Int.reduceLE !Int.reduceAdd !Int.reduceSub !Int.reduceNeg !Int.reduceToNat !Int.cast_ofNat_Int !implies_true !forall_const !Option.map_none".splitOn " ").toArray.mapM λx=>do
  let n:=(((x.replace "↓" "").replace "~" "").replace "!" "").toName
  let y:=mkIdent (if x.contains '!' then n else `L2++n)
  if x.startsWith "↓" then `(Parser.Tactic.simpLemma|↓$y:term) else if x.startsWith "~" then `(Parser.Tactic.simpLemma|nr $y) else `(Parser.Tactic.simpLemma|$y:term)
 `(tactic|simp (disch:=first|with_unfolding_all exact R1 rfl|omega | (simp only[List.length_cons,List.length_nil,List.length_map,List.length_append,List.length_take,List.length_drop,Nat.zero_add,Nat.reduceAdd]<;>omega) | fail) only[$ls,*,$u,*])
local macro_rules | `(tactic| simp!)=>`(tactic| simp![Option.map_none])
namespace K47
open PySem L2
abbrev bx(x y:Int):U:=.l [.int x,.int y]
theorem fJ{x y w:Int}{Q:U×Qa U->Prop}(hw:0 < w)(hw2:w<=18446744073709551616)(k:∀ r x' y',0<=r->r < w->Q (.d<|.int r,[bx x' y',.d<|.int w])):Wo (zw [bx x y,.d<|.int w]) Q:=by
 simp![zw,Lq];refine nW (λhx=>?_) λhx=>?_
 .simp![hx]
  exact k _ _ _ (ê _ (by omega))<|ë _ hw
 .simp![hx]
  exact k _ _ _ (ê _ (by omega))<|ë _ hw
theorem HB{k:Int}(h0:0<=k)(h:k < (ns.length:Int)):∃ v:Int,bp (ns.map PyData.int) k=some (.int v):=by
 have hk:k.toNat < ns.length:=by omega
 refine⟨ns[k.toNat],?_⟩;unfold bp dD;rw[if_pos h0,if_pos (by rw[List.length_map]; exact h),bd,List.getElem?_map,qm hk];rfl
theorem zAW{k:Int}{Q:U×Qa U->Prop}(h0:0<=k)(q:∀ x y,Q (bx x y,[.d<|.list<|ns.map .int,.d<|.int k])):Wo (Ak [.d<|.list<|ns.map .int,.d<|.int k]) Q:=by
 simp![Ak,Lg,List.length_map];refine nW (λh1=>?_) λh1=>?_
 .have(v,hv):=HB h0 h1
  simp![hv];exact q _ _
 .simp![List.length_map]
  refine nW (λh2=>?_) λh2=>?_
  .have hm:=ë k h2
   have hm0:=ê k (show(ns.length:Int)≠0 by omega);have(v,hv):=HB hm0 hm;simp![hv];exact q _ _
  .simp!
   exact q _ _
theorem Qp{a b:Nat}(h:a<=b)(hb:b.log2 < 9000):a.log2 < 9000:=by
 by_cases z:a=0
 .rw[z]; decide
 .exact Ë ((Nat.le_log2 (by omega)).mpr<|qy (Nat.log2_self_le z) h) hb
theorem vD{n d:Int}(hd:d≠0)(hb:d.natAbs.log2 < 9000):oF [.d<|.int n,.d<|.int d]=some (.d<|fR<|Rat.divInt n d,[.d<|.int n,.d<|.int d]):=by
 have gl:Int.gcd n d<=d.natAbs:=Int.gcd_le_natAbs_right n hd;have gp:0 < Int.gcd n d:=Int.gcd_pos_of_ne_zero_right n hd;have wH:=Qp gl hb;refine i8 ?_;rw[<-P5 hd];unfold lW kZ;rw[<-J7 n d (show(0:Int) < (Int.gcd n d:Nat) by omega),<-J7 d d (show(0:Int) < (Int.gcd n d:Nat) by omega)];simp![oF,LZ];refine Wp (λk ρ=>∃ a b:Int,ρ=[some<|.d<|.int n,some<|.d<|.int d,some<|.d<|.int a,some<|.d<|.int b]/\0<=a/\0<=b/\b.toNat=k/\Int.gcd a b=Int.gcd n d) _ ⟨_,_,rfl,by split<;>omega,by split<;>omega,rfl,Wd n d⟩ ?_;rintro k _ ⟨a,b,rfl,ha,hb0,hk,hg⟩;simp!
 by_cases hz:b=0
 .subst hz
  have e:a=((Int.gcd n d:Nat):Int):=by rw[<-hg,Int.gcd_zero_right]; omega
  subst e;have c1:su n ((Int.gcd n d:Nat):Int):=⟨by omega,by rw[Int.natAbs_natCast]; exact wH⟩;have c2:su n (0 - ((Int.gcd n d:Nat):Int)):=⟨by omega,by rw[Int.zero_sub,Int.natAbs_neg,Int.natAbs_natCast]; exact wH⟩;simp!;refine nW (λh=>?_) λh=>?_
  .simp![h,yk (a:=n) c2,yk (a:=d) c2]
  .simp![h,yk (a:=n) c1,yk (a:=d) c1]
 .simp![hz]
  refine⟨(a % b).toNat,?_,_,_,rfl,by omega,ê _ hz,rfl,?_⟩
  .have:=ë a (show 0 < b by omega)
   have:=ê a hz;omega
  .rw[X3 a b ha (by omega)]
   exact hg
structure Sz (r:Rat):Prop where
 n:r.num.natAbs < 2^4000
 d:r.den < 2^4000
theorem Sz.di{r:Rat}(h:Sz r):(r.den:Int).natAbs < 2^4000:=by rw[Int.natAbs_natCast]; exact h.d
theorem lgd(h:n < 2^4000):n.log2 < 4000:=Ae (by decide) h
theorem lL(h:n < 2^4000):n.log2 < 1000000:=ø (lgd h) (by decide)
theorem HA{a b:Nat}(h:a < 2^4000)(h':b < 2^4000):(a * b).log2 < 9000:=by
 refine ø (Ae (k:=4000+4000) (by decide) ?_) (by decide);rw[Nat.pow_add];exact Nat.mul_lt_mul'' h h'
section
variable{a b:Rat}
theorem Lc(ha:Sz a)(hb:Sz b):vw [.d<|fR a,.d<|fR b]=some (.d<|fR<|a+b,[.d<|fR a,.d<|fR b]):=by
 refine i8 ?_;have da:=t9 a;have db:=t9 b;have Gv:((a.den:Int) * (b.den:Int))≠0:=Int.mul_ne_zero (by omega) (by omega);have lf:=vD (n:=a.num * (b.den:Int)+b.num * (a.den:Int)) Gv (by rw[Int.natAbs_mul,Int.natAbs_natCast,Int.natAbs_natCast]; exact HA ha.d hb.d);rw[Ul]at lf;simp![vw,Lp,uN (lL ha.n)<|lL hb.di,uN (lL hb.n)<|lL ha.di,uN (lL ha.di)<|lL hb.di,lf]
theorem zjH(ha:Sz a)(hb:Sz b):Aq [.d<|fR a,.d<|fR b]=some (.d<|fR<|a * b,[.d<|fR a,.d<|fR b]):=by
 refine i8 ?_;have da:=t9 a;have db:=t9 b;have Gv:((a.den:Int) * (b.den:Int))≠0:=Int.mul_ne_zero (by omega) (by omega);have lf:=vD (n:=a.num * b.num) Gv (by rw[Int.natAbs_mul,Int.natAbs_natCast,Int.natAbs_natCast]; exact HA ha.d hb.d);rw[Uk]at lf;simp![Aq,LK,uN (lL ha.n)<|lL hb.n,uN (lL ha.di)<|lL hb.di,lf]
end
abbrev tY:Str := "abcdefghijklmnopqrstuvwxyz"
theorem yF:∀ c∈tY.cps.toList,c < 128:=by decide
theorem yE:tY.length=26:=by decide
theorem Uz{z:Str}{n:Int}(h0:0<=n)(h1:n<=1):uy (.d<|.str z) (.d<|.int n)=some (.d<|.str<|rV z n):=by
 unfold uy;dsimp only;rw[if_pos ⟨h0,h1⟩]
theorem Uy{k:Nat}{z:Str}{n:Int}(hz:aY k z)(h0:0<=n)(h1:n<=1):aY k (rV z n):=by
 rcases(by omega:n=0\/n=1)with rfl|rfl
 .exact⟨Ì _,λc hc=>by cases hc⟩
 .exact hz
theorem MP{zs:Qa Str}{lo hi:Qb Int}:∃ ws:Qa Str,fF (zs.map PyData.str) lo hi=ws.map PyData.str/\ws.length<=zs.length/\∀ z∈ws,z∈zs:=by
 refine⟨(zs.drop<|HT.aN zs.length 0 lo).take<|HT.aN zs.length zs.length hi - HT.aN zs.length 0 lo,?_,?_,λz hz=>List.mem_of_mem_drop<|List.mem_of_mem_take hz⟩
 .unfold fF
  rw[List.length_map,<-List.map_drop,<-List.map_take]
 .rw[List.length_take,List.length_drop]
  omega
theorem G5{neg:Bool}{zs:Qa Str}{Q:U->Prop}(k:∀ b,Q<|.d<|.bool b):Wo (lR neg (.d<|.str x)<|.l<|zs.map PyData.str) Q:=by
 unfold lR;show Wo ((uf (.str x)<|zs.map PyData.str).bind _) Q;unfold uf;rw[D9];exact⟨_,rfl,k _⟩
theorem zAY{neg:Bool}{zs:Qa Str}{Q:U->Prop}(k:∀ b,Q<|.d<|.bool b):Wo (lR neg (.d<|.str x)<|.d<|.tuple<|zs.map PyData.str) Q:=by
 unfold lR;show Wo ((uf (.str x)<|zs.map PyData.str).bind _) Q;unfold uf;rw[D9];exact⟨_,rfl,k _⟩
theorem Ux{x y m:Int}{Q:U×Qa U->Prop}(h1:1<=m)(h3:m<=3)(k:∀ (ns:Qa Str) x' y',ns.length=m.toNat->(∀ z∈ns,aY 10 z)->Q (.d<|.tuple<|ns.map .str,[bx x' y',.d<|.int m])):Wo (As [bx x y,.d<|.int m]) Q:=by
 simp![As,LM];refine fJ (by decide) (by decide) λr1 x1 y1 a1 b1=>?_;simp!;refine Ut (λi ρ ys=>∃ (x y:Int) (zs:Qa Str),ρ=[none,some<|bx x y,some<|.d<|.str tY]/\ys=zs.map PyData.str/\zs.length=i/\∀ z∈zs,aY 1 z) ?_ ⟨_,_,[],rfl,rfl,rfl,λz hz=>by cases hz⟩ ?_ ?_ ?_
 .rw[zl]; omega
 .rintro i ρ ys ⟨x,y,zs,rfl,rfl,hl,_⟩
  simp[hl]
 .rintro i _ _ hi ⟨x,y,zs,rfl,rfl,hl,hz⟩
  simp![HH];refine fJ (by decide) (by decide) λr2 x2 y2 a2 b2=>?_;simp!;refine yJ a2 (by rw[yE]; omega) (by decide) λc hc=>?_;simp!;exact⟨x2,y2,zs++[⟨#[c]⟩],rfl,by rw[List.map_append]; rfl,by rw[qt,hl]; rfl,λz tN=>by
   rcases Á.mp tN with h|h
   .exact hz z h
   .cases qq.mp h
    exact aY.one<|yF c hc⟩
 rintro _ _ ⟨x2,y2,sg,rfl,rfl,hl,hs⟩;simp!;refine fJ (by omega) (by omega) λr3 x3 y3 a3 b3=>?_;simp!;refine fJ (by decide) (by decide) λr4 x4 y4 a4 b4=>?_;simp!;refine Ho (λi ρ=>∃ (x y:Int) (v7 v8 v9:Qb U) (zs:Qa Str),ρ=[some<|bx x y,some<|.d<|.int m,some<|.d<|.str tY,some<|.l<|sg.map .str,some<|.d<|.int r3,some<|.d<|.int r4,some<|.l<|zs.map PyData.str,v7,v8,v9,none]/\zs.length=i/\∀ z∈zs,aY 10 z) ⟨x4,y4,none,none,none,[],rfl,rfl,λz hz=>by cases hz⟩ ?_ ?_
 .rintro i _ hi ⟨x,y,v7,v8,v9,zs,rfl,wq,hz⟩
  simp!;refine yJ (ê _ (by decide)) (by rw[yE]; exact ë _ (by decide)) (by decide) λc hc=>?_;simp!;have(w1,e1,l1,m1):=MP (zs:=sg) (lo:=none) (hi:=some r3);rw[e1];refine II (n:=1) (m:=4) (λz hz=>hs z<|m1 z hz) (by omega) (by decide) λj1=>?_;simp!;refine uO j1 (aY.one<|yF c hc) (by decide) λj2=>?_;simp!;have(w2,e2,l2,m2):=MP (zs:=sg) (lo:=some (r3+1)) (hi:=none);rw[e2];refine II (n:=1) (m:=4) (λz hz=>hs z<|m2 z hz) (by omega) (by decide) λj3=>?_;simp!;refine uO j2 j3 (by decide) λj4=>?_;simp!;refine fJ (by decide) (by decide) λr5 x5 y5 a5 b5=>?_;simp![Uz];refine uO j4 (Uy (show aY 1 "q" by unfold aY; decide) a5 (by omega)) (by decide) λj5=>?_;simp!;refine G5 λb=>?_;generalize Txt.join "" w1++{cps:=#[c]}++Txt.join "" w2++rV "q" r5=nm at *;have fin:∀ (nm:Str),aY 10 nm->∃ (x y:Int) (v7 v8 v9:Qb U) (ws:Qa Str),[some<|bx x5 y5,some<|.d<|.int m,some<|.d<|.str tY,some<|.l<|sg.map .str,some<|.d<|.int r3,some<|.d<|.int r4,some<|.l<|zs.map PyData.str++[.str nm],some<|.d<|.int<|0+(i:Nat),some<|.d<|.str ⟨#[c]⟩,some<|.d<|.str nm,none]=[some<|bx x y,some<|U.d<|.int m,some<|.d<|.str tY,some<|.l<|sg.map .str,some<|.d<|.int r3,some<|.d<|.int r4,some<|.l<|ws.map PyData.str,v7,v8,v9,none]/\ws.length=i+1/\∀ z∈ws,aY 10 z:=λnm hn=>
   ⟨x5,y5,_,_,_,zs++[nm],by rw[List.map_append]; rfl,by rw[qt,wq]; rfl,λz tN=>by
    rcases Á.mp tN with h|h
    .exact hz z h
    .cases qq.mp h
     exact hn⟩
  cases b with
  | true=>
   simp!;refine yJ (by omega) (by rw[yE]; omega) (by decide) λd hd=>?_;simp!;refine uO (show aY 2 "zz" by unfold aY; decide) (aY.one<|yF d hd) (by decide) λj6=>?_;simp!;exact fin _<|j6.mono (by decide)
  | false=>
   simp!;refine zAY (zs:=["part", "end", "give", "rounds", "letters"]) λb=>?_;cases b with
   | true=>
    simp!;refine yJ (by omega) (by rw[yE]; omega) (by decide) λd hd=>?_;simp!;refine uO (show aY 2 "zz" by unfold aY; decide) (aY.one<|yF d hd) (by decide) λj6=>?_;simp!;exact fin _<|j6.mono (by decide)
   | false=>
    simp!;exact fin _ j5
 .rintro _ ⟨x,y,v7,v8,v9,zs,rfl,wq,hz⟩
  simp!;refine fJ (by decide) (by decide) λr5 x5 y5 a5 b5=>?_;simp!;refine nW (λh5=>?_) λh5=>?_
  .simp!
   refine fJ (by decide) (by decide) λr6 x6 y6 a6 b6=>?_;simp!;refine Qi (f:=PyData.str) (xs:=["ends", "pa", "gives", "giv", "x", "y", "r", "rk"]) a6 b6 λz mz _=>?_;have az:aY 10 z:=by
    have:∀ z∈(["ends", "pa", "gives", "giv", "x", "y", "r", "rk"]:Qa Str),aY 10 z:=by unfold aY; decide
    exact this z mz
   simp!;refine G5 λb=>?_;cases b with
   | false=>
    simp!;exact k zs _ _ wq hz
   | true=>
    simp!;refine fJ (by omega) (by omega) λr7 x7 y7 a7 b7=>?_;have e7:dD zs.length r7=some r7.toNat:=by
     unfold dD;rw[if_pos a7,if_pos (by omega)]
    simp![e7];have es:(zs.map PyData.str).set r7.toNat (.str z)=(zs.set r7.toNat z).map PyData.str:=by rw[List.map_set]
    rw[es];refine k _ _ _ (by rw[List.length_set]; exact wq) λw hw=>?_;rcases List.mem_or_eq_of_mem_set hw with h|h
    .exact hz w h
    .exact h▸az
  .simp!
   exact k zs _ _ wq hz
theorem BL{d:Int}(h:1<=d)(h2:d<=1000000):d.natAbs.log2 < 9000:=ø (Ae (k:=30) (by decide) (by omega)) (by decide)
theorem jO{n d:Int}(hn:n.natAbs<=1000000)(h1:1<=d)(h4:d<=4):Bd 12 12000000 (Rat.divInt n d):=by
 have:d∣((12:Nat):Int):=by
  rcases(by omega:d=1\/d=2\/d=3\/d=4)with rfl|rfl|rfl|rfl<;>decide
 exact(PX (M:=12) (by omega) this (by decide)).le (by omega)
theorem V0{x y:Int}{Q:U×Qa U->Prop}(k:∀ r x' y',Bd 12 12000000 r->Q (.d<|fR r,[bx x' y'])):Wo (vE [bx x y]) Q:=by
 simp![vE,LU];refine fJ (by decide) (by decide) λr x1 y1 h0 h1=>?_;simp!;refine nW (λh7=>?_) λh7=>?_
 .simp!
  refine Dk h0 (by show r < 7; omega) λa ha=>?_;have hq:∃ q:Rat,a=fR q/\Bd 12 12000000 q:=by
   simp only[qv,List.not_mem_nil,or_false]at ha;rcases ha with rfl|rfl|rfl|rfl|rfl|rfl|rfl
   .exact⟨Rat.divInt 0 1,rfl,jO (by decide) (by decide) (by decide)⟩
   .exact⟨Rat.divInt 1 1,rfl,jO (by decide) (by decide) (by decide)⟩
   .exact⟨Rat.divInt 1 1,rfl,jO (by decide) (by decide) (by decide)⟩
   .exact⟨Rat.divInt (-1) 1,rfl,jO (by decide) (by decide) (by decide)⟩
   .exact⟨Rat.divInt 2 1,rfl,jO (by decide) (by decide) (by decide)⟩
   .exact⟨Rat.divInt 1 2,rfl,jO (by decide) (by decide) (by decide)⟩
   .exact⟨Rat.divInt (-2) 3,rfl,jO (by decide) (by decide) (by decide)⟩
  have(q,rfl,hq):=hq;simp!;exact k q _ _ hq
 .simp!
  refine nW (λwF=>?_) λwF=>?_
  .simp!
   refine fJ (by decide) (by decide) λr2 x2 y2 h2 h3=>?_;simp!;refine fJ (by decide) (by decide) λr3 x3 y3 h4 h5=>?_;simp![vD (n:=r2 - 9) (d:=1+r3) (by omega)<|BL (by omega) (by omega)];exact k _ _ _<|jO (by omega) (by omega) (by omega)
  .simp!
   refine fJ (by decide) (by decide) λr2 x2 y2 h2 h3=>?_;simp!;refine fJ (by decide) (by decide) λr3 x3 y3 h4 h5=>?_;simp![vD (n:=r2 - 999999) (d:=1+r3) (by omega)<|BL (by omega) (by omega)];exact k _ _ _<|jO (by omega) (by omega) (by omega)
abbrev Et:=Rat×Qb Nat
noncomputable def eL:Qb Nat->D
 | none=>.none
 | some k=>.int (k:Int)
noncomputable def fW(e:Et):D:=.tuple [fR e.1,eL e.2]
structure EO (n:Nat) (e:Et):Prop where
 bd:Bd 12 12000000 e.1
 lt:∀ k,e.2=some k->k < n
theorem wW:Bd 12 12000000 1:=jO (n:=1) (d:=1) (by decide) (by decide) (by decide)
theorem fR1:PyData.tuple [.int 1,.int 1]=fR 1:=rfl
noncomputable def Ck:MS:=(zz (aR 4<|aS zw<|zf (zj 0)<|zf (aq dM (zj 1)<|mC<|.int 1) zq)
  (zz (bt (mB<|aq (bS false) (zj 4)<|zj 1) (bh<|bw<|zf (zj 3)<|zf (mC .none) zq) bF)
  (bh<|bw<|zf (aq cT (eP<|zf (zj 3)<|zf (bw<|zf (mC<|.int 1)<|zf (mC<|.int 1) zq) zq)<|aS zw<|zf (zj 0)<|zf (mC<|.int 2) zq)<|zf (zj 4) zq)))
theorem VZ:LH=(zz (aR 3<|aS vE<|zf (zj 0) zq)
  (zz (bt (rS (mB<|aq (bS false) (aq aT (zj 3)<|mC<|.int 0)<|mC<|.int 0)<|gQ<|mB<|zj 2) (aR 3<|bw<|zf (mC<|.int 1)<|zf (mC<|.int 1) zq) bF)
  Ck)):=rfl
theorem K6{x y:Int}{p:Rat}{Q:Fl->Prop}(n1:1<=n)(n3:n<=3)(sm:Bd 12 12000000 p)(p0:p≠0)(k:∀ e x' y' o3 o4,EO n e->e.1≠0->Q (.rt (.d<|fW e) [some<|bx x' y',some<|.d<|.int (n:Int),some<|.d<|.bool false,o3,o4])):
  Wo (Ck [some<|bx x y,some<|.d<|.int (n:Int),some<|.d<|.bool false,some<|.d<|fR p,none]) Q:=by
 simp![Ck];refine fJ (by omega) (by omega) λr x2 y2 a2 b2=>?_;simp!
 by_cases c:r=(n:Int)
 .simp![c]
  exact k (p,none) _ _ _ _ ⟨sm,λk hk=>by cases hk⟩ p0
 .simp![c]
  refine fJ (by decide) (by decide) λr3 x3 y3 a3 b3=>?_;simp!;refine Dk a3 b3 λz hz=>?_;have e:(r.toNat:Int)=r:=by omega
  have hq:∃ q:Rat,z=fR q/\Bd 12 12000000 q/\q≠0:=by
   simp only[qv,List.not_mem_nil,or_false]at hz;rcases hz with rfl|rfl
   .exact⟨p,rfl,sm,p0⟩
   .exact⟨1,rfl,wW,by decide⟩
  have(q,rfl,hq,q0):=hq;simp!;have:=k (q,some r.toNat) x3 y3 (some<|.d<|fR p) (some<|.d<|.int r) ⟨hq,λk hk=>by cases hk; omega⟩ q0;simp only[fW,eL,e]at this;exact this
theorem Uw{x y:Int}{Q:U×Qa U->Prop}(n1:1<=n)(n3:n<=3)(k:∀ e x' y',EO n e->e.1≠0->Q (.d<|fW e,[bx x' y',.d<|.int (n:Int),.d<|.bool false])):Wo (Ap [bx x y,.d<|.int (n:Int),.d<|.bool false]) Q:=by
 simp![Ap,VZ];refine V0 λp x1 y1 sm=>?_;have pn:p.num=0↔p=0:=Rat.num_eq_zero
 by_cases c:p=0
 .subst c
  simp![show((0:Rat).num=0)=True from eq_true rfl,if_true,fR1];refine K6 n1 n3 wW (by decide) λe x' y' o3 o4 he h0=>?_;simp!;exact k e x' y' he h0
 .simp![pn,c]
  refine K6 n1 n3 sm c λe x' y' o3 o4 he h0=>?_;simp!;exact k e x' y' he h0
end K47
open PySem L2
namespace K47
open PySem L2
theorem sC{M:Nat}{r:Rat}(h:Bd M B r)(hM:0 < M)(h1:M < 2^4000)(h2:B < 2^4000):Sz r:=by
 have(a,b):=h.size hM;exact⟨Ë b h2,Ë a h1⟩
abbrev dT(p:Pq Rat):U:=.d (.dict<|bM fR p)
theorem Hz{u:U}{a b:Qb α}:(if u.own=true/\u.own=false then a else b)=b:=if_neg λ⟨h,h'⟩=>by rw[h]at h'; cases h'
def Ln(n:Nat)(p:Pq α):Prop:=∀ t∈p,t.1.length=n
theorem ZQ{M:Nat}{p q:Pq Rat}{u1 u2:U}{s:Int}(nj:sZ u1=some (.t<|bf fR p))(lN:u2.fz=some (.dict<|bM fR q))(hs:s=1\/s=-1)(np:bW p)(nq:bW q)(hp:PB M B p)(hq:PB M B q)(hM:0 < M)(h1:M < 2^4000)(h2:B+q.length * B < 2^4000)(l1:p.length < 64)(l2:q.length < 64):
  tE [u1,u2,.d<|.int s]=some (.t<|bf fR<|nz<|cH p<|dO s q,[u1,dT q,.d<|.int s]):=by
 refine i8 ?_;have sp:dO s q=q.map λt=>(t.1,(s:Rat) * t.2):=rfl;simp![tE,LR,nj,lN];refine mV (λbs cs ρ=>∃ o4 o5,ρ=[some u1,some<|dT q,some<|.d<|.int s,some<|.t<|bf fR<|cH p<|dO s bs,o4,o5,none]) ⟨_,_,rfl⟩ ?_ ?_
 .rintro bs t cs _ e ⟨o4,o5,rfl⟩
  have tq:t∈q:=by rw[e]; simp
  have lb:bs.length+1<=q.length:=by rw[e,qt,qu]; omega
  have gl:=yH (dO s bs) p;rw[show(dO s bs).length=bs.length from List.length_map ..]at gl;have gb:PB M (B+q.length * B) (cH p<|dO s bs):=λv hv=>(yh (dO s bs) hp (DC hs λw hw=>hq w (by rw[e]; exact Â _ hw)) v hv).le (by
   rw[show(dO s bs).length=bs.length from List.length_map ..];have:=Ê B (show bs.length<=q.length by omega);omega)
  have s1:=sC (DL gb t.1) hM h1 h2;have s2:Sz ((s:Rat) * t.2):=sC (DC hs hq (t.1,(s:Rat) * t.2)<|À.mpr ⟨t,tq,rfl⟩) hM h1 (by omega);simp![p4 nq tq,PY hs,Lc s1 s2];rw[xm (by omega)];simp!;rw[show dO s (bs++[t])=dO s bs++[(t.1,(s:Rat) * t.2)] by unfold dO; rw[List.map_append]; rfl,J6];exact⟨_,_,rfl⟩
 .rintro _ ⟨o4,o5,rfl⟩
  have gn:bW (cH p<|dO s q):=yi _ np;have gl:=yH (dO s q) p;rw[show(dO s q).length=q.length from List.length_map ..]at gl;generalize cH p (dO s q)=r at gn gl;simp!;refine mV (λbs cs ρ=>∃ o4,ρ=[some u1,some<|dT q,some<|.d<|.int s,some<|dT r,o4,o5,some<|.t<|bf fR<|nz bs]) ⟨_,rfl⟩ ?_ ?_
  .rintro bs t cs _ e ⟨o4,rfl⟩
   have tr:t∈r:=by rw[e]; simp
   have ln:(nz bs).length<=bs.length:=ï _ _;have lb:bs.length+1<=r.length:=by rw[e,qt,qu]; omega
   simp![p4 gn tr,HM];rw[IX]
   by_cases z:t.2=0
   .simp![z,ne_eq]
    exact⟨_,rfl⟩
   .simp![z,ne_eq,p4 gn tr,xm (c:=fR) (p:=nz bs) (k:=t.1) (x:=t.2) (by omega)]
    rw[HL (cs:=cs) (by rw[<-e]; exact gn)];exact⟨_,rfl⟩
  .rintro _ ⟨o4,rfl⟩
   simp![Hz]
theorem Lb{M N C:Nat}{p q:Pq Rat}{u1 u2:U}{Q:U×Qa U->Prop}(nj:u1.fz=some (.dict<|bM fR p))(lN:u2.fz=some (.dict<|bM fR q))(np:bW p)(nq:bW q)(hp:PB M B p)(hq:PB N C q)(lp:Ln n p)(lq:Ln n q)(ln:n < 64)(hM:0 < M)(hN:0 < N)(h1:M * N < 2^4000)(h2:M < 2^4000)(h3:N < 2^4000)(h4:B < 2^4000)(h5:C < 2^4000)(h6:p.length * q.length * (B * C) < 2^4000)(hBC:0 < B * C)
  (l1:p.length * q.length < 64) (lp6:p.length < 64) (lq6:q.length < 64) (kq:∀ lF,lF.fz=some (.dict<|bM fR q)->Q (.t<|bf fR<|nz<|cH []<|cS p q,[dT p,lF])):Wo (qG [u1,u2]) Q:=by
 have fin:∀ (o1 o3 o4 o5 o6:Qb U) (r:Pq Rat),bW r->r.length < 64->∀ (Q:Fl->Prop),(∀ o5,Q<|.nx [some<|dT p,o1,some<|dT r,o3,o4,o5,o6,some<|.t<|bf fR<|nz r])->Wo (eQ (zA 5) (bt (mB<|aq (bS true) (aq aT (iI (zj 2)<|zj 5)<|mC<|.int 0)<|mC<|.int 0) (jw 7 (zj 5)<|iI (zj 2)<|zj 5) bF) (r.map λt=>cB t.1) [some<|dT p,o1,some<|dT r,o3,o4,o5,o6,some<|.t []]) Q:=by
  intro o1 o3 o4 o5 o6 r gn gl Q hQ;refine mV (λbs cs ρ=>∃ o5,ρ=[some<|dT p,o1,some<|dT r,o3,o4,o5,o6,some<|.t<|bf fR<|nz bs]) ⟨_,rfl⟩ ?_ ?_
  .rintro bs t cs _ e ⟨o5,rfl⟩
   have tr:t∈r:=by rw[e]; simp
   have ln:(nz bs).length<=bs.length:=ï _ _;have lb:bs.length+1<=r.length:=by rw[e,qt,qu]; omega
   simp![p4 gn tr,HM];rw[IX]
   by_cases z:t.2=0
   .simp![z,ne_eq]
    exact⟨_,rfl⟩
   .simp![z,ne_eq,p4 gn tr,xm (c:=fR) (p:=nz bs) (k:=t.1) (x:=t.2) (by omega)]
    rw[HL (cs:=cs) (by rw[<-e]; exact gn)];exact⟨_,rfl⟩
  .rintro _ ⟨o5,rfl⟩
   exact hQ o5
 simp![qG,Me,nj];refine mV (λbs cs ρ=>∃ (x:U) (o3 o4 o5 o6:Qb U),ρ=[some<|dT p,some x,some<|.t<|bf fR<|cH []<|cS bs q,o3,o4,o5,o6,none]/\(x=u2\/x=dT q)) ⟨u2,_,_,_,_,rfl,.inl rfl⟩ ?_ ?_
 .rintro bs s cs _ e ⟨x,o3,o4,o5,o6,rfl,fA⟩
  have hx:x.fz=some (.dict<|bM fR q):=by
   rcases fA with rfl|rfl
   .exact lN
   .rfl
  have sp:s∈p:=by rw[e]; simp
  have lbs:bs.length+1<=p.length:=by rw[e,qt,qu]; omega
  have lpm:(cS bs q).length+q.length<=p.length * q.length:=by
   rw[D5];have:=Ê q.length lbs;rw[Nat.add_mul,Nat.one_mul]at this;exact this
  simp![hx];refine mV (λds fs ρ=>∃ (o4 o5 o6:Qb U),ρ=[some<|dT p,some<|dT q,some<|.t<|bf fR<|cH []<|cS bs q++ds.map λt=>(bZ s.1 t.1,s.2 * t.2),some<|.d<|cB s.1,o4,o5,o6,none]) ⟨_,_,_,by rw[List.map_nil,List.append_nil]⟩ ?_ ?_
  .rintro ds t fs _ e2 ⟨o4,o5,o6,rfl⟩
   have tq:t∈q:=by rw[e2]; simp
   have lds:ds.length+1<=q.length:=by rw[e2,qt,qu]; omega
   have hle:s.1.length=t.1.length:=by rw[lp s sp,lq t tq]
   have s1:=sC (hp s sp) hM h2 h4;have s2:=sC (hq t tq) hN h3 h5;have hb:PB (M * N) (B * C) (cS bs q++ds.map λt=>(bZ s.1 t.1,s.2 * t.2)):=λv hv=>by
    rcases Á.mp hv with z|z
    .have(a,ha,b,hb,rfl):=DK z
     exact(hp a (by rw[e]; exact Â _ ha)).mul<|hq b hb
    .have(b,hb,rfl):=À.mp z
     exact(hp s sp).mul<|hq b (by rw[e2]; exact Â _ hb)
   have ll:(cS bs q++ds.map λt=>(bZ s.1 t.1,s.2 * t.2)).length<=p.length * q.length:=by
    rw[qt,List.length_map];omega
   have gl:=yH (cS bs q++ds.map λt=>(bZ s.1 t.1,s.2 * t.2)) [];rw[List.length_nil,Nat.zero_add]at gl;have gb:PB (M * N) (p.length * q.length * (B * C)) (cH []<|cS bs q++ds.map λt=>(bZ s.1 t.1,s.2 * t.2)):=λv hv=>(yh _ (C:=0) Nn hb v hv).le (by
    have:=Ê (B * C) ll;omega)
   have s3:=sC (DL gb<|bZ s.1 t.1) (Nat.mul_pos hM hN) h1 h6;have s4:Sz (s.2 * t.2):=sC ((hp s sp).mul<|hq t tq) (Nat.mul_pos hM hN) h1 (by
    have h7:1 * (B * C)<=p.length * q.length * (B * C):=Ê _ (by
     have:1 * 1<=p.length * q.length:=ð (by omega) (by omega);omega)
    omega)
   simp![KZ hle];refine sM (e:=λt=>.int<|t.1+t.2) (by rw[List.length_zip,lp s sp]; omega) (λt ht ys=>?_) ?_
   .simp!
   .rw[show((s.1.zip t.1).map λt=>PyData.int<|t.1+t.2)=(bZ s.1 t.1).map PyData.int by unfold bZ; rw[List.map_zipWith,List.zip,List.map_zipWith]]
    simp![show PyData.tuple ((bZ s.1 t.1).map PyData.int)=cB (bZ s.1 t.1) from rfl,p4 np sp,p4 nq tq,zjH s1 s2,Lc s3 s4];rw[xm (by omega)];simp!;rw[List.map_append,<-List.append_assoc,List.map_cons,List.map_nil,J6];exact⟨_,_,_,rfl⟩
  .rintro _ ⟨o4,o5,o6,rfl⟩
   simp!;rw[Yu];exact⟨dT q,_,_,_,_,rfl,.inr rfl⟩
 .rintro _ ⟨x,o3,o4,o5,o6,rfl,hx⟩
  have gl:=yH (cS p q) [];rw[List.length_nil,D5]at gl;simp!;refine fin _ _ _ _ _ _ (yi _ AS) (by omega) _ λo5=>?_;rcases hx with rfl|rfl
  .simp![Hz]
   exact kq x lN
  .simp!
   exact kq (dT q) rfl
noncomputable def cc(n:Nat):Nat:=if n=1 then 7 else if n=2 then 5 else 4
theorem pf:4<=cc n/\cc n<=7:=by unfold cc; split<;>(try split)<;>omega
noncomputable def lX:Nat->Nat->Qa (Qa Int)
 | 0,_=>[[]]
 | n+1,w=>(List.range<|w+1).flatMap λ(j:Nat)=>(lX n<|w - j).map λl=>(j:Int)::l
structure Ks (n w:Nat) (a:Qa Int):Prop where
 ln:a.length=n
 pos:∀ k∈a,0<=k
 sm:a.sum<=(w:Int)
theorem ID:∀ {a:Qa Int},(∀ k∈a,0<=k)->0<=a.sum
 | [],_=>by decide
 | k::a,h=>by
  rw[List.sum_cons];have:=h k qp;have:=ID λj hj=>h j<|qo k hj;omega
theorem Cj:∀ {n w:Nat} {a:Qa Int},Ks n w a->a∈lX n w
 | 0,_,[],_=>qq.mpr rfl
 | 0,_,_::_,h=>by have:=h.ln; simp at this
 | n+1,_,[],h=>by have:=h.ln; simp at this
 | n+1,w,k::a,h=>by
  have h1:=h.pos k qp;have h2:=ID λj hj=>h.pos j<|qo k hj;have h3:=h.sm;rw[List.sum_cons]at h3;refine List.mem_flatMap.mpr ⟨k.toNat,Ý.mpr (by omega),À.mpr ⟨a,Cj ⟨Nat.succ.inj h.ln,λj hj=>h.pos j<|qo k hj,by omega⟩,?_⟩⟩;rw[Int.toNat_of_nonneg h1]
theorem Ks.up{w w':Nat}{a:Qa Int}(h:Ks n w a)(c:w<=w'):Ks n w' a:=⟨h.ln,h.pos,by have:=h.sm; omega⟩
theorem JK:∀ {a b:Qa Int},a.length=b.length->(bZ a b).sum=a.sum+b.sum
 | [],[],_=>rfl
 | [],_::_,h=>by simp at h
 | _::_,[],h=>by simp at h
 | x::a,y::b,h=>by
  show((x+y)::bZ a b).sum=_;rw[List.sum_cons,List.sum_cons,List.sum_cons,JK<|Nat.succ.inj h];omega
theorem JJ:∀ {a b:Qa Int},(∀ k∈a,0<=k)->(∀ k∈b,0<=k)->∀ k∈bZ a b,0<=k
 | [],_,_,_,k,hk=>by simp[bZ]at hk
 | _::_,[],_,_,k,hk=>by simp[bZ]at hk
 | x::a,y::b,h,h',k,hk=>by
  rcases qv.mp (show k∈(x+y)::bZ a b from hk)with rfl|hk
  .have:=h x qp
   have:=h' y qp;omega
  .exact JJ (λj hj=>h j<|qo _ hj) (λj hj=>h' j<|qo _ hj) k hk
theorem Ks.add{w w':Nat}{a b:Qa Int}(h:Ks n w a)(h':Ks n w' b):Ks n (w+w') (bZ a b):=by
 refine⟨?_,JJ h.pos h'.pos,?_⟩
 .unfold bZ
  rw[List.length_zipWith,h.ln,h'.ln,Nat.min_self]
 .rw[JK<|h.ln.trans h'.ln.symm]
  have:=h.sm;have:=h'.sm;omega
theorem Q0:((lX 1 7).map λa=>hT<|kL a).Nodup:=by decide +kernel
theorem QZ:((lX 2 5).map λa=>hT<|kL a).Nodup:=by decide +kernel
theorem QY:((lX 3 4).map λa=>hT<|kL a).Nodup:=by decide +kernel
theorem QW{p:Pq Rat}(h1:1<=n)(h3:n<=3)(nd:bW p)(ky:∀ t∈p,Ks n (cc n) t.1):uE p:=by
 have inj:∀ a∈lX n (cc n),∀ b∈lX n (cc n),hT (kL a)=hT (kL b)->a=b:=by
  rcases(by omega:n=1\/n=2\/n=3)with rfl|rfl|rfl
  .exact yf Q0
  .exact yf QZ
  .exact yf QY
 unfold uE pR;rw[Bool.and_eq_true_iff];constructor
 .rw[List.all_eq_true]
  intro ks hk;have(a,_,rfl):=À.mp hk;rw[By,List.all_eq_true];intro k hk;have(i,_,rfl):=À.mp hk;rfl
 .rw[decide_eq_true_iff,List.map_map]
  have mem:∀ a∈p.map (·.1),a∈lX n (cc n):=λa ha=>by
   have(t,ht,rfl):=À.mp ha;exact Cj<|ky t ht
  refine List.pairwise_map.mpr<|List.Pairwise.imp_of_mem (λ{a b} ha hb (rg:a≠b)=>?_) nd;exact λe=>rg<|inj a (mem a ha) b (mem b hb) e
structure PG (n e a:Nat) (p:Pq Rat):Prop where
 nd:bW p
 ky:∀ t∈p,Ks n a t.1
 bd:PB (12^a) (2^(24 * a+e)) p
section
variable{e e' a c:Nat}{p q:Pq Rat}
theorem PG.len(h:PG n e a p)(n1:1<=n)(n3:n<=3)(a4:a<=cc n):p.length<=35:=by
 have:=List.Nodup.length_le_of_subset h.nd (l₂:=lX n (cc n)) λx hx=>by
  have(t,ht,rfl):=À.mp hx;exact Cj<|(h.ky t ht).up a4
 rw[List.length_map]at this;refine qy this ?_;rcases(by omega:n=1\/n=2\/n=3)with rfl|rfl|rfl<;>decide
theorem PG.up(h:PG n e a p)(hc:a<=c)(he:e<=e'):PG n e' c p:=by
 refine⟨h.nd,λt ht=>(h.ky t ht).up hc,λt ht=>?_⟩;have(d,rfl):=Nat.exists_eq_add_of_le hc;rw[Nat.pow_add];refine((h.bd t ht).wide<|12^d).le ?_;have h1:12^d<=2^(24 * d):=by rw[Nat.pow_mul]; exact Nat.pow_le_pow_left (by decide) d
 refine qy (Nat.mul_le_mul_left _ h1) ?_;rw[<-Nat.pow_add];exact â (by decide) (by omega)
theorem PG.hash(h:PG n e a p)(n1:1<=n)(n3:n<=3)(a4:a<=cc n):uE p:=QW n1 n3 h.nd λt ht=>(h.ky t ht).up a4
theorem PG.mul(h:PG n e a p)(h':PG n e' c q)(n1:1<=n)(n3:n<=3)(hac:a+c<=cc n):PG n (e+e'+11) (a+c) (nz<|cH []<|cS p q):=by
 refine⟨G3<|yi _ AS,λt ht=>?_,λt ht=>?_⟩
 .refine J5 (Pk:=λk=>Ks n (a+c) k) (cS p q) (λt h=>by cases h) (λt ht=>?_) t (Õ.mp ht).1
  have(u,hu,v,hv,rfl):=DK ht;exact(h.ky u hu).add<|h'.ky v hv
 .have:=yh (cS p q) (C:=0) Nn (Ui h.bd h'.bd) t (Õ.mp ht).1
  rw[<-Nat.pow_add]at this;refine this.le ?_;rw[D5,Nat.zero_add];have l1:=h.len n1 n3 (by omega);have l2:=h'.len n1 n3 (by omega);have l3:p.length * q.length<=2^11:=qy (ð l1 l2) (by decide);refine qy (Ê _ l3) ?_;rw[<-Nat.pow_add,<-Nat.pow_add];exact â (by decide) (by omega)
theorem PG.add(h:PG n e a p)(h':PG n e a q)(n1:1<=n)(n3:n<=3)(a4:a<=cc n){s:Int}(hs:s=1\/s=-1):PG n (e+6) a (nz<|cH p<|dO s q):=by
 have pk:∀ t∈dO s q,Ks n a t.1:=λt ht=>by
  have(u,hu,rfl):=À.mp ht;exact h'.ky u hu
 refine⟨G3<|yi _ h.nd,λt ht=>J5 (Pk:=λk=>Ks n a k) (dO s q) h.ky pk t (Õ.mp ht).1,λt ht=>?_⟩;refine(yh (dO s q) h.bd (DC hs h'.bd) t (Õ.mp ht).1).le ?_;rw[show(dO s q).length=q.length from List.length_map ..];have l2:=h'.len n1 n3 a4;have:=Ê (2^(24 * a+e)) l2;rw[<-Nat.add_assoc,Nat.pow_add _ _ 6];omega
end
noncomputable def zs(n:Nat):Qa Int:=List.replicate n 0
noncomputable def g8(n k:Nat):Qa Int:=List.replicate k 0++[1]++List.replicate (n - k - 1) 0
noncomputable def eN(n:Nat)(f:Rat):Pq Rat:=if f=0 then []else [(zs n,f)]
theorem De(k:Nat):PyData.tuple (List.replicate k [PyData.int 0]).flatten=cB (List.replicate k 0):=by
 unfold cB;congr 1
 induction k with
 | zero=>rfl
 | succ k ih=>rw[List.replicate_succ,List.flatten_cons,List.replicate_succ,List.map_cons,<-ih]; rfl
theorem VY(r:Rat):decide (r.num=0)=decide (r=0):=decide_eq_decide.mpr Rat.num_eq_zero
theorem L4{f:Rat}(hn:n<=3):vC [.d<|.int (n:Int),.d<|fR f]=some (.t<|bf fR<|eN n f,[.d<|.int (n:Int),.d<|fR f]):=by
 refine i8 ?_;simp![vC,My,VY];unfold eN
 by_cases z:f=0
 .simp![z]
  rfl
 .simp![z,De,Int.toNat_natCast]
  rfl
theorem MN{k:Int}(h:k < 1000)(h2:-1000 < k):pL (.d<|cB [0]) (.d<|.int k)=some (.d<|cB<|List.replicate k.toNat 0):=by
 rw[<-De];exact Kh (xs:=[.int 0]) (by decide) h h2 (by decide)
theorem JI{k:Nat}(hk:k < n):(g8 n k).length=n:=by
 unfold g8;rw[qt,qt,List.length_replicate,List.length_replicate,List.length_singleton];omega
theorem Dd(n:Nat):(zs n).length=n:=List.length_replicate
theorem VX{k:Nat}:∀ j∈g8 n k,0<=j/\j<=1:=λj hj=>by
 unfold g8 at hj;rcases Á.mp hj with z|z
 .rcases Á.mp z with z|z
  .rw[List.eq_of_mem_replicate z]; omega
  .rw[qq.mp z]; omega
 .rw[List.eq_of_mem_replicate z]; omega
theorem Hy:∀ j∈zs n,j=0:=λj hj=>List.eq_of_mem_replicate hj
theorem Nx{t:Qa Int×Rat}:bW [t]:=by unfold bW; simp
theorem zhH{k:Nat}(hk:k < n)(hn:n<=3):Ax [.d<|.int (n:Int),.d<|.int (k:Int)]=some (.t<|bf fR [(g8 n k,1)],[.d<|.int (n:Int),.d<|.int (k:Int)]):=by
 refine i8 ?_;have e:((n:Int) - (k:Int) - 1).toNat=n - k - 1:=by omega
 simp![Ax,Mx,De,Int.toNat_natCast,e,PV,P1,MK (a:=List.replicate k 0) (b:=[1]) (by rw[List.length_replicate]; show k+1<=1000; omega),MK (a:=List.replicate k 0++[1]) (b:=List.replicate (n - k - 1) 0) (by rw[qt,List.length_replicate,List.length_replicate]; show k+1+_<=1000; omega),MN (k:=(k:Int)) (by omega) (by omega),MN (k:=(n:Int) - (k:Int) - 1) (by omega) (by omega)];rfl
theorem pA{x y:Nat}(h:x < y):2^x < 2^y:=Nat.pow_lt_pow_right (by decide) h
theorem VW(f:Rat)(p:Pq Rat)(h:Qa Int->Rat):aJ (p.map λt=>(t.1,f * t.2)) h=f * aJ p h:=by
 induction p with
 | nil=>rw[List.map_nil,gz,Rat.mul_zero]
 | cons t p ih=>
  rw[List.map_cons,zB,zB,ih];grind
noncomputable def sh(n:Nat):Qb Nat->Qa Int->Qa Int
 | none,k=>k
 | some j,k=>bZ k<|g8 n j
theorem VR:(g8 n j).sum=1:=by
 unfold g8;simp
theorem Uv(hj:j < n):Ks n 1 (g8 n j):=⟨JI hj,λk hk=>(VX k hk).1,by rw[VR]; decide⟩
theorem iK(xs ys:Qa Rat):(xs++ys).sum=xs.sum+ys.sum:=by
 induction xs with
 | nil=>rw[List.nil_append,List.sum_nil,Rat.zero_add]
 | cons x xs ih=>rw[List.cons_append,List.sum_cons,List.sum_cons,ih,Rat.add_assoc]
end K47
open PySem L2
namespace K47
open PySem L2
abbrev Wy:=(Nat×Nat)×Et
noncomputable def eV(w:Wy):D:=.tuple [.int (w.1.1:Int),.int (w.1.2:Int),fW w.2]
noncomputable def gc(ns:Qa Str)(m:Nat)(A:Qa Wy):D:=.tuple [.tuple<|ns.map .str,.int ((m+1:Nat):Int),.tuple<|A.map eV]
def Lx(u v:Wy):Prop:=u.1.1 < v.1.1\/(u.1.1=v.1.1/\u.1.2 < v.1.2)
structure Wv (n m c b e:Nat) (A:Qa Wy):Prop where
 en:∀ w∈A,EO n w.2/\w.2.1≠0
 lt:∀ w∈A,w.1.1 < w.1.2/\w.1.2<=m
 up:A.Pairwise Lx
 la:∀ w∈A,w.1.1 < b\/(w.1.1=b/\w.1.2 < e)
 ln:A.length<=c
theorem Wv.le{c b e c' b' e':Nat}{A:Qa Wy}(h:Wv n m c b e A)(hc:c<=c')(hb:b < b'\/(b=b'/\e<=e')):Wv n m c' b' e' A :=
 ⟨h.en,h.lt,h.up,λw hw=>by have:=h.la w hw; omega,by have:=h.ln; omega⟩
theorem Wv.add{c b e:Nat}{A:Qa Wy}{x:Et}(h:Wv n m c b e A)(hb:b < e)(he:e<=m)(hx:EO n x)(h0:x.1≠0):Wv n m (c+1) b (e+1) (A++[((b,e),x)]):=by
 have ln:=h.ln;refine⟨λw hw=>?_,λw hw=>?_,Ô.mpr ⟨h.up,List.pairwise_singleton _ _,λu hu v hv=>?_⟩,λw hw=>?_,by rw[qt,List.length_singleton]; omega⟩
 .rcases Á.mp hw with hw|hw
  .exact h.en w hw
  .cases qq.mp hw
   exact⟨hx,h0⟩
 .rcases Á.mp hw with hw|hw
  .exact h.lt w hw
  .cases qq.mp hw
   exact⟨hb,he⟩
 .cases qq.mp hv
  exact h.la u hu
 .rcases Á.mp hw with hw|hw
  .have:=h.la w hw
   omega
  .cases qq.mp hw
   exact .inr ⟨rfl,Ø _⟩
theorem zA0{x y:Int}{ns:Qa Str}{most:Nat}{Q:U×Qa U->Prop}(n1:1<=ns.length)(n3:ns.length<=3)(m2:5<=most)(mm:most<=cc ns.length+1)
  (k:∀ (m:Nat) (A:Qa Wy) x' y',1<=m->m<=cc ns.length->Wv ns.length m 50 m 0 A->Q (.d<|gc ns m A,[bx x' y',.d<|.tuple<|ns.map .str,.d<|.int (most:Int)])):Wo (Aj [bx x y,.d<|.tuple<|ns.map .str,.d<|.int (most:Int)]) Q:=by
 have(d4,d6):=pf (n:=ns.length);simp![Aj,Le];refine fJ (by omega) (by omega) λr1 x1 y1 a1 b1=>?_;simp!;refine fJ (by decide) (by decide) λr2 x2 y2 a2 b2=>?_;obtain⟨m,rfl⟩:∃ m:Nat,r1=(m:Int):=⟨r1.toNat,by omega⟩;simp!;refine Ho (λi ρ=>∃ (x y:Int) (v6 v7 v8:Qb U) (A:Qa Wy),ρ=[some<|bx x y,some<|.d<|.tuple<|ns.map .str,some<|.d<|.int (most:Int),some<|.d<|.int<|2+(m:Int),some<|.d<|.int r2,some<|.l<|A.map eV,v6,v7,v8]/\Wv ns.length (m+1) (7 * i) i 0 A) ⟨_,_,_,_,_,[],rfl,(λw hw=>by cases hw),(λw hw=>by cases hw),.nil,(λw hw=>by cases hw),Ì _⟩ ?_ ?_
 .rintro i _ hi ⟨x,y,v6,v7,v8,A,rfl,hv⟩
  have ec:(0:Int)+(i:Nat)=(i:Int):=by omega
  rw[ec];simp!;refine s9 (λj ρ=>∃ (x y:Int) (v7 v8:Qb U) (A:Qa Wy),ρ=[some<|bx x y,some<|.d<|.tuple<|ns.map .str,some<|.d<|.int (most:Int),some<|.d<|.int<|2+(m:Int),some<|.d<|.int r2,some<|.l<|A.map eV,some<|.d<|.int (i:Int),v7,v8]/\Wv ns.length (m+1) (7 * i+j) i (i+1+j) A) ?_ ?_ ?_
  .exact⟨_,_,_,_,_,rfl,hv.le (by omega)<|.inr ⟨rfl,by omega⟩⟩
  .rintro j d _ hd ⟨x,y,v7,v8,A,rfl,hv⟩
   have(hj,rfl):=Cs hd;have wG:∀ {x' y':Int} {A':Qa Wy} {v8:Qb U},Wv ns.length (m+1) (7 * i+(j+1)) i (i+1+(j+1)) A'->∃ (x y:Int) (v7 v8':Qb U) (A:Qa Wy),[some<|bx x' y',some<|.d<|.tuple<|ns.map .str,some<|.d<|.int (most:Int),some<|.d<|.int<|2+(m:Int),some<|.d<|.int r2,some<|.l<|A'.map eV,some<|.d<|.int (i:Int),some<|U.d<|.int<|(i:Int)+1+(j:Nat),v8]=[some<|bx x y,some<|.d<|.tuple<|ns.map .str,some<|.d<|.int (most:Int),some<|.d<|.int<|2+(m:Int),some<|.d<|.int r2,some<|.l<|A.map eV,some<|.d<|.int (i:Int),v7,v8']/\Wv ns.length (m+1) (7 * i+(j+1)) i (i+1+(j+1)) A:=λh=>⟨_,_,_,_,_,rfl,h⟩;simp!;refine Dk a2 b2 λch je=>?_;have eh:∃ i:Int,ch=.int i:=by
    simp only[qv,List.not_mem_nil,or_false]at je;rcases je with rfl|rfl|rfl|rfl<;>exact⟨_,rfl⟩
   have(ci,rfl):=eh;simp!;refine fJ (by decide) (by decide) λr3 x3 y3 a3 b3=>?_;simp!;refine nW (λc=>?_) λc=>?_
   .simp!
    refine Uw n1 n3 λe x4 y4 he h0=>?_;have wl:A.length < 16777216:=by have:=hv.ln; omega
    simp![wl];have:=wG (x':=x4) (y':=y4) (v8:=some (.d<|.int ci)) (hv.add (by omega) (by omega) he h0);rw[List.map_append,List.map_cons,List.map_nil,show eV ((i,i+1+j),e)=.tuple [.int (i:Int),.int<|(i:Int)+1+(j:Int),fW e] from rfl]at this;exact this
   .simp!
    exact wG<|hv.le (by omega)<|.inr ⟨rfl,by omega⟩
  .rintro _ ⟨x,y,v7,v8,A,rfl,hv⟩
   simp!;rw[yj]at hv;exact⟨_,_,_,_,_,_,rfl,hv.le (by omega)<|.inl (by omega)⟩
 .rintro _ ⟨x,y,v6,v7,v8,A,rfl,hv⟩
  simp!;have:=k (m+1) A x y (by omega) (by omega) (hv.le (by omega) (by omega));unfold gc at this;rw[show((m+1+1:Nat):Int)=2+(m:Int) by omega]at this;exact this
end K47
open PySem L2
namespace K47
open PySem L2
noncomputable def uk(n:Nat):Qb Nat->Qa Int
 | none=>zs n
 | some j=>g8 n j
noncomputable def cu(n:Nat)(e:Et):Pq Rat:=if e.1=0 then []else [(uk n e.2,e.1)]
noncomputable def Ev(n:Nat)(e:Et)(g:Qa Int->Rat):Qa Int->Rat:=λk=>e.1 * g (sh n e.2 k)
theorem yD:∀ {n:Nat} {k:Qa Int},k.length=n->bZ k (zs n)=k
 | 0,[],_=>rfl
 | n+1,x::k,h=>by
  show(x+0)::bZ k (zs n)=_;rw[yD<|Nat.succ.inj h,Int.add_zero]
 | 0,_::_,h=>by cases h
 | _+1,[],h=>by cases h
theorem DQ{l:Qb Nat}{k:Qa Int}(h:k.length=n):bZ k (uk n l)=sh n l k:=by
 cases l with
 | none=>exact yD h
 | some j=>rfl
theorem units:∀ n∈[1,2,3],(∀ j∈List.range n,((List.range n).map λk:Nat=>(if(k:Int)=(j:Int)then(1:Int)else 0))=g8 n j)/\((List.range n).map λk:Nat=>(0:Int))=zs n:=by decide
theorem zh6{e:Et}(n1:1<=n)(n3:n<=3)(he:∀ k,e.2=some k->k < n):vB [.d<|fW e,.d<|.int (n:Int)]=some (.t<|bf fR<|cu n e,[.d<|fW e,.d<|.int (n:Int)]):=by
 refine i8 ?_;have(f,l):=e;have un:=units n (by rcases(by omega:n=1\/n=2\/n=3)with rfl|rfl|rfl<;>decide);have ed:fW (f,l)=.tuple [fR f,eL l]:=rfl;unfold cu;dsimp only
 by_cases z:f=0
 .subst z
  simp![vB,Ez,ed,show((0:Rat).num=0)=True from eq_true rfl,if_true];rfl
 .simp![vB,Ez,ed,Rat.num_eq_zero,z,Int.toNat_natCast]
  cases l with
  | none=>
   refine sM (g:=λk:Nat=>PyData.int<|0+(k:Int)) (as:=List.range n) (e:=λk:Nat=>.int (0:Int)) (by rw[List.length_range]; omega) (λk hk ys=>?_) ?_
   .have q:bS false (.d<|.int<|0+(k:Int)) (.d .none)=some (.d<|.bool false):=rfl
    simp![eL,q]
   .rw[show((List.range n).map λk:Nat=>PyData.int 0)=((List.range n).map λk:Nat=>(0:Int)).map PyData.int by rw[List.map_map]; rfl,un.2]
    simp![eL,show PyData.tuple ((zs n).map PyData.int)=cB (zs n) from rfl];rfl
  | some j=>
   have hj:=he j rfl;refine sM (g:=λk:Nat=>PyData.int<|0+(k:Int)) (as:=List.range n) (e:=λk:Nat=>.int (if(k:Int)=(j:Int)then(1:Int)else 0)) (by rw[List.length_range]; omega) (λk hk ys=>?_) ?_
   .rw[Int.zero_add]
    by_cases c:(k:Int)=(j:Int)
    .simp![eL,c]
    .simp![eL,c]
   .rw[show((List.range n).map λk:Nat=>PyData.int (if(k:Int)=(j:Int)then(1:Int)else 0))=((List.range n).map λk:Nat=>if(k:Int)=(j:Int)then(1:Int)else 0).map PyData.int by rw[List.map_map]; rfl,un.1 j<|Ý.mpr hj]
    simp![eL,show PyData.tuple ((g8 n j).map PyData.int)=cB (g8 n j) from rfl];rfl
structure PZ (n e a:Nat) (p:Pq Rat):Prop where
 pg:PG n e a p
 nz:∀ t∈p,t.2≠0
theorem BK(q:Pq Rat):∀ t∈L2.nz q,t.2≠0:=λt ht=>of_decide_eq_true (Õ.mp ht).2
theorem PZ.up{e a e' a':Nat}{p:Pq Rat}(h:PZ n e a p)(ha:a<=a')(he:e<=e'):PZ n e' a' p:=⟨h.pg.up ha he,h.nz⟩
theorem PZ.nil{e a:Nat}:PZ n e a []:=⟨⟨List.nodup_nil,λt h=>(by cases h),λt h=>(by cases h)⟩,λt h=>(by cases h)⟩
theorem G4{l:Qb Nat}(h:∀ k,l=some k->k < n):Ks n 1 (uk n l):=by
 cases l with
 | none=>
  refine⟨Dd n,λk hk=>by rw[Hy k hk]; decide,?_⟩;unfold uk zs;simp
 | some j=>exact Uv<|h j rfl
theorem jA{e:Et}(he:EO n e):PZ n 0 1 (cu n e):=by
 unfold cu;split
 .exact PZ.nil
 .rename_i z
  refine⟨⟨Nx,λt ht=>?_,λt ht=>?_⟩,λt ht=>?_⟩
  all_goals cases qq.mp ht
  .exact G4 he.lt
  .exact he.bd.le (by decide)
  .exact z
theorem Uu{e:Et}:(cu n e).length<=1:=by
 unfold cu;split
 .exact Ì _
 .exact qe _
theorem SV:PZ n 0 0 (eN n 1):=by
 have e:eN n 1=[(zs n,1)]:=if_neg (by decide);rw[e];refine⟨⟨Nx,λt ht=>?_,λt ht=>?_⟩,λt ht=>?_⟩
 all_goals cases qq.mp ht
 .refine⟨Dd n,λk hk=>by rw[Hy k hk]; decide,?_⟩
  unfold zs;simp
 .exact Bd.one
 .exact(by decide:(1:Rat)≠0)
theorem VP(g:Qa Int->Rat):aJ (eN n 1) g=g (zs n):=by
 have e:eN n 1=[(zs n,1)]:=if_neg (by decide);rw[e,zB,gz];grind
noncomputable def lh(n:Nat)(p:Pq Rat)(e:Et):Pq Rat:=L2.nz (cH []<|cS p<|cu n e)
noncomputable def jq(s:Int)(p q:Pq Rat):Pq Rat:=L2.nz (cH p<|dO s q)
theorem DP{e:Et}(g:Qa Int->Rat):aJ (cu n e) g=e.1 * g (uk n e.2):=by
 unfold cu;split
 .rename_i z
  rw[z,gz,Rat.zero_mul]
 .rw[zB,gz,Rat.add_zero]
theorem SU{d a:Nat}{p:Pq Rat}{e:Et}(h:PG n d a p)(g:Qa Int->Rat):aJ (lh n p e) g=aJ p (Ev n e g):=by
 unfold lh;rw[show L2.nz (cH []<|cS p<|cu n e)=(cH []<|cS p<|cu n e).filter (λt=>decide<|t.2≠0) from rfl,DD,DN _ _ AS,gz,Rat.zero_add,IY];refine Kx λt ht=>?_;rw[DP,DQ (h.ky t ht).ln];rfl
theorem JH{s:Int}{p q:Pq Rat}(h:bW p)(g:Qa Int->Rat):aJ (jq s p q) g=aJ p g+s * aJ q g:=by
 unfold jq;rw[show L2.nz (cH p<|dO s q)=(cH p<|dO s q).filter (λt=>decide<|t.2≠0) from rfl,DD,DN _ _ h];congr 1;exact VW _ _ _
section
variable{d a:Nat}{p q:Pq Rat}{e:Et}{u1 u2:U}
theorem PZ.Nd(h:PZ n d a p)(n1:1<=n)(n3:n<=3)(ha:a+1<=cc n)(he:EO n e):PZ n (d+11) (a+1) (lh n p e):=⟨h.pg.mul (jA he).pg n1 n3 ha,BK _⟩
theorem PZ.add(h:PZ n d a p)(h':PZ n d a q)(n1:1<=n)(n3:n<=3)(ha:a<=cc n){s:Int}(hs:s=1\/s=-1):PZ n (d+6) a (jq s p q):=⟨h.pg.add h'.pg n1 n3 ha hs,BK _⟩
theorem ux{k:Nat}:0 < 12^k:=Nat.pow_pos (by decide)
theorem pw{k:Nat}(h:k<=8):12^k < 2^4000:=Ë (â (by decide) h) (qi (by decide:12^8 < 2^30)<|â (by decide) (by decide))
theorem QV{Q:U×Qa U->Prop}(n1:1<=n)(n3:n<=3)(nj:u1.fz=some (.dict<|bM fR p))(lN:u2.fz=some (.dict<|bM fR<|cu n e))(hp:PZ n d a p)(ha:a+1<=cc n)(hd:d<=3000)(he:EO n e)(kq:∀ lF,Q (.t<|bf fR<|lh n p e,[dT p,lF])):Wo (qG [u1,u2]) Q:=by
 have(_,d6):=pf (n:=n);have lp:=hp.pg.len n1 n3 (by omega);have le:=Uu (n:=n) (e:=e);have hq:=jA he;have lm:p.length * (cu n e).length<=35 * 1:=ð lp le;refine Lb nj lN hp.pg.nd hq.pg.nd hp.pg.bd hq.pg.bd (λt ht=>(hp.pg.ky t ht).ln) (λt ht=>(hq.pg.ky t ht).ln) (by omega) ux ux (by rw[<-Nat.pow_add]; exact pw (by omega)) (pw (by omega)) (pw (by omega)) (pA (by omega)) (pA (by omega)) ?_ (Nat.mul_pos (Nat.pow_pos (by decide))<|Nat.pow_pos (by decide)) (by omega) (by omega) (by omega) λlF _=>kq lF;refine Ë (Ê _<|qy lm (by decide:35 * 1<=2^6)) ?_;rw[<-Nat.pow_add,<-Nat.pow_add];exact pA (by omega)
theorem Hx{s:Int}(n1:1<=n)(n3:n<=3)(nj:u1=.d (.dict<|bM fR p)\/u1=.t (bf fR p))(lN:u2.fz=some (.dict<|bM fR q))(hs:s=1\/s=-1)(hp:PZ n d a p)(hq:PZ n d a q)(ha:a<=cc n)(hd:d<=3000):
  tE [u1,u2,.d<|.int s]=some (.t<|bf fR<|jq s p q,[u1,dT q,.d<|.int s]):=by
 have(_,d6):=pf (n:=n);have lp:=hp.pg.len n1 n3 ha;have lq:=hq.pg.len n1 n3 ha;have hh:=hp.pg.hash n1 n3 ha;refine ZQ (by rcases nj with rfl|rfl; exact zAt hh; exact zAu hh) lN hs hp.pg.nd hq.pg.nd hp.pg.bd hq.pg.bd ux (pw (by omega)) ?_ (by omega) (by omega);have h1:q.length * 2^(24 * a+d)<=35 * 2^(24 * a+d):=Ê _ lq;have h2:2^(24 * a+d+6)=2^(24 * a+d) * 64:=Nat.pow_add _ _ _;have h3:2^(24 * a+d+6) < 2^4000:=pA (by omega);omega
end
end K47
open PySem L2
namespace K47
open PySem L2
theorem M4{xs ys:Qa D}(h:xs.length+ys.length<=16777216):xN (.l xs) (.l ys)=some (.l<|xs++ys):=by
 show(if xs.length+ys.length<=sizeLine then _ else _)=_;rw[if_pos (by rw[sizeLine_eq]; exact h)]
noncomputable def pd(p:Pq Rat):D:=.dict (bM fR p)
structure WI (n m:Nat) (bs:Qa Wy) (ps:Qa (Pq Rat)):Prop where
 ln:ps.length=m+1
 pz:∀ j p,ps[j]?=some p->PZ n (17 * bs.length) j p
 eq:∀ j p,ps[j]?=some p->∀ g,aJ p g=(if j=0 then g (zs n)else 0)+((bs.filter λw=>decide<|w.1.2=j).map λw=>aJ (ps.getD w.1.1 [])<|Ev n w.2 g).sum
theorem Ci{ps:Qa (Pq Rat)}{p:Pq Rat}(h:ps[j]?=some p):bp (ps.map pd) (j:Int)=some (pd p):=by
 have hl:=(qk.mp h).1;unfold bp dD;rw[if_pos (by omega),if_pos (by rw[List.length_map]; omega),bd,List.getElem?_map,Int.toNat_natCast,h];rfl
theorem WI.step{c b e:Nat}{A bs cs:Qa Wy}{w:Wy}{ps:Qa (Pq Rat)}{p q:Pq Rat}(n1:1<=n)(n3:n<=3)(m6:m<=cc n)(h:Wv n m c b e A)(ea:A=bs++w::cs)(I:WI n m bs ps)(hp:ps[w.1.1]?=some p)(hq:ps[w.1.2]?=some q):
  WI n m (bs++[w]) (ps.set w.1.2<|jq 1 q<|lh n p w.2):=by
 have hw:w∈A:=by rw[ea]; simp
 have(l1,l2):=h.lt w hw;have he:=(h.en w hw).1;have ln:=I.ln;have pp:=I.pz _ _ hp;have pq:=I.pz _ _ hq;have hl:w.1.2 < ps.length:=by omega
 have pr:=pp.Nd n1 n3 (by omega) he;have nw:=(pq.up (qe _) (by omega:17 * bs.length<=17 * bs.length+11)).add (pr.up (a':=w.1.2) (by omega)<|qe _) n1 n3 (by omega) (.inl rfl:(1:Int)=1\/(1:Int)=-1);have bef:∀ v∈bs++[w],v.1.1≠w.1.2:=λv hv z=>by
  have up:=h.up;rw[ea]at up;rcases Á.mp hv with hv|hv
  .have:=(Ô.mp up).2.2 v hv w qp
   unfold Lx at this;omega
  .cases qq.mp hv
   omega
 have gd:∀ v∈bs++[w],(ps.set w.1.2<|jq 1 q<|lh n p w.2).getD v.1.1 []=ps.getD v.1.1 []:=λv hv=>by
  rw[qB,qB,qC<|Ne.symm<|bef v hv]
 have sm:∀ (j:Nat) (g:Qa Int->Rat),(((bs++[w]).filter λw=>decide<|w.1.2=j).map λv=>aJ ((ps.set w.1.2<|jq 1 q<|lh n p w.2).getD v.1.1 [])<|Ev n v.2 g).sum=((bs.filter λw=>decide<|w.1.2=j).map λw=>aJ (ps.getD w.1.1 [])<|Ev n w.2 g).sum+(if w.1.2=j then aJ p (Ev n w.2 g)else 0):=λj g=>by
  rw[List.map_congr_left (g:=λv=>aJ (ps.getD v.1.1 [])<|Ev n v.2 g) λv hv=>by rw[gd v (List.mem_filter.mp hv).1],List.filter_append,List.map_append,K47.iK];congr 1
  by_cases c:w.1.2=j
  .rw[List.filter_cons_of_pos (by simpa using c),if_pos c,List.filter_nil,List.map_cons,List.map_nil,List.sum_cons,List.sum_nil,Rat.add_zero,qB,hp,Option.getD_some]
  .rw[List.filter_cons_of_neg (by simpa using c),if_neg c,List.filter_nil,List.map_nil,List.sum_nil]
 refine⟨by rw[List.length_set]; exact ln,λj r hr=>?_,λj r hr g=>?_⟩
 .rw[qt,List.length_singleton]
  by_cases c:w.1.2=j
  .subst c
   rw[List.getElem?_set_self hl]at hr;cases hr;exact nw.up (qe _) (by omega)
  .rw[qC c]at hr
   exact(I.pz j r hr).up (qe _) (by omega)
 .rw[sm]
  by_cases c:w.1.2=j
  .subst c
   rw[List.getElem?_set_self hl]at hr;cases hr;rw[JH pq.pg.nd,SU pp.pg,I.eq _ _ hq,if_pos rfl];rw[show((1:Int):Rat)=1 from rfl];grind
  .rw[qC c]at hr
   rw[if_neg c,Rat.add_zero];exact I.eq j r hr g
theorem Zn{ns:Qa Str}{A:Qa Wy}{Q:U×Qa U->Prop}(n1:1<=ns.length)(n3:ns.length<=3)(m1:1<=m)(m6:m<=cc ns.length)(h:Wv ns.length m 50 m 0 A)
   (k:∀ ps p,WI ns.length m A ps->ps[m]?=some p->Q (.d<|pd p,[.d<|gc ns m A])):Wo (Ao [.d<|gc ns m A]) Q:=by
 have(_,d6):=pf (n:=ns.length);have Gm:((m+1:Nat):Int) - 1=(m:Int):=by omega
 have pn:=L4 (n:=ns.length) (f:=1) n3;have ln:=h.ln;rw[show fR 1=.tuple [.int 1,.int 1] from rfl]at pn;unfold gc at k ⊢;simp![Ao,LQ,pn,Gm,Int.toNat_natCast];refine sM (g:=λc:Nat=>PyData.int<|0+(c:Int)) (as:=List.range m) (e:=λ_=>pd []) (by rw[List.length_range]; omega) (λc hc ys=>?_) ?_
 .simp!
  rfl
 .have ct:=M4 (xs:=[PyData.dict<|bM fR<|eN ns.length 1]) (ys:=(List.range m).map λ_=>pd []) (by rw[List.length_map,List.length_range]; show 1+m<=_; omega)
  rw[show [PyData.dict<|bM fR<|eN ns.length 1]++((List.range m).map λ_=>pd [])=(eN ns.length 1::(List.range m).map λ_=>[]).map pd by rw[List.map_cons,List.map_map]; rfl]at ct;simp![ct];refine mV (λbs cs ρ=>∃ (ps:Qa (Pq Rat)) (v5 v6 v7 v8:Qb U),ρ=[some<|U.d<|.tuple [.tuple<|ns.map .str,.int ((m+1:Nat):Int),.tuple<|A.map eV],some<|.d<|.tuple<|ns.map .str,some<|.d<|.int ((m+1:Nat):Int),some<|.d<|.tuple<|A.map eV,some<|.l<|ps.map pd,v5,v6,v7,v8]/\WI ns.length m bs ps) ⟨eN ns.length 1::(List.range m).map λ_=>[],_,_,_,_,rfl,?_⟩ ?_ ?_
  .refine⟨by simp,λj p hp=>?_,λj p hp g=>?_⟩
   .cases j with
    | zero=>
     cases(show some _=some p from hp);exact SV
    | succ j=>
     rw[List.getElem?_cons_succ,List.getElem?_map]at hp;have(_,_,rfl):=qr.mp hp;exact PZ.nil
   .cases j with
    | zero=>
     cases(show some _=some p from hp);rw[VP,if_pos rfl];exact(Rat.add_zero _).symm
    | succ j=>
     rw[List.getElem?_cons_succ,List.getElem?_map]at hp;have(_,_,rfl):=qr.mp hp;rw[if_neg (by omega),gz,List.filter_nil,List.map_nil,List.sum_nil,Rat.add_zero]
  .rintro bs w cs _ ea ⟨ps,v5,v6,v7,v8,rfl,I⟩
   have hw:w∈A:=by rw[ea]; simp
   have(l1,l2):=h.lt w hw;have he:=(h.en w hw).1;have pl:=I.ln;have lb:bs.length<=50:=by have:=congrArg List.length ea; rw[qt]at this; omega
   have hp:ps[w.1.1]?=some ps[w.1.1]:=qm (by omega);have hq:ps[w.1.2]?=some ps[w.1.2]:=qm (by omega);generalize ps[w.1.1]=p at hp;generalize ps[w.1.2]=q at hq;have st:=I.step n1 n3 m6 h ea hp hq;have pp:=I.pz _ _ hp;have pq:=I.pz _ _ hq;have ew:eV w=.tuple [.int (w.1.1:Int),.int (w.1.2:Int),fW w.2]:=rfl;have epo:=zh6 n1 n3 he.lt;have N6:∀ r:Pq Rat,pd r=.dict (bM fR r):=λ_=>rfl;simp![ew,Ci hp,epo];refine QV n1 n3 rfl Ef pp (by omega) (by omega) he λu2=>?_;have ad:=Hx (s:=1) (u1:=.d (pd q)) (u2:=.t (bf fR<|lh ns.length p w.2)) n1 n3 (.inl rfl) Ef (.inl rfl) (pq.up (qe _) (by omega:_<=17 * bs.length+11)) ((pp.Nd n1 n3 (by omega) he).up (by omega)<|qe _) (by omega) (by omega);have ix:dD ps.length (w.1.2:Int)=some w.1.2:=by
    unfold dD;rw[if_pos (by omega),if_pos (by omega),Int.toNat_natCast]
   have ms:(ps.map pd).set w.1.2 (.dict<|bM fR<|jq 1 q<|lh ns.length p w.2)=(ps.set w.1.2<|jq 1 q<|lh ns.length p w.2).map pd:=List.map_set.symm;simp![Ci hq,ad,ix,ms];exact⟨_,_,_,_,_,rfl,st⟩
  .rintro _ ⟨ps,v5,v6,v7,v8,rfl,I⟩
   have pl:=I.ln;have hp:ps[m]?=some ps[m]:=qm (by omega);generalize ps[m]=p at hp;have la:bp (ps.map pd) (-1)=some (pd p):=by
    unfold bp dD;rw[if_neg (by decide),if_pos (by rw[List.length_map]; omega),bd,List.length_map,show -1+((ps.length:Nat):Int)=(m:Int) by omega,List.getElem?_map,Int.toNat_natCast,hp];rfl
   simp![la];exact k ps p I hp
end K47
open PySem L2
namespace K47
open PySem L2
noncomputable def qR(f:Rat):D:=.tuple [.str "number",fR f]
noncomputable def vY(j:Nat):D:=.tuple [.str "letter",.int (j:Int)]
noncomputable def r3(w:Str)(a b:Nat):D:=.tuple [.str w,.int (a:Int),.int (b:Int)]
noncomputable def iF(p q:Pq Rat):Pq Rat:=L2.nz (cH []<|cS p q)
noncomputable def rM(n j:Nat):Pq Rat:=[(g8 n j,1)]
inductive Rw (n:Nat) (vs:Qa (Pq Rat)) (i:Nat):D->Pq Rat->Prop
 | num {f:Rat} (hf:Bd 12 12000000 f):Rw n vs i (qR f) (eN n f)
 | cW {j:Nat} (hj:j < n):Rw n vs i (vY j) (rM n j)
 | plus {a b d k:Nat} {p q:Pq Rat} (ha:a < i) (hb:b < i) (ea:vs[a]?=some p) (eb:vs[b]?=some q) (hp:PZ n d k p) (hq:PZ n d k q) (hk:k<=cc n) (hd:d<=3000):Rw n vs i (r3 "plus" a b) (jq 1 p q)
 | times {a b d k:Nat} {p q:Pq Rat} (ha:a < i) (hb:b < i) (ea:vs[a]?=some p) (eb:vs[b]?=some q) (l1:p.length<=1) (hp:PZ n 0 1 p) (hq:PZ n d k q) (hk:k+1<=cc n) (hd:d<=3000):Rw n vs i (r3 "times" a b) (iF p q)
theorem gy{vs ws:Qa α}{a:Nat}{v:α}(h:vs[a]?=some v):(vs++ws)[a]?=some v:=by
 rw[List.getElem?_append_left (qk.mp h).1];exact h
theorem Rw.app{vs ws:Qa (Pq Rat)}{r:D}{v:Pq Rat}(h:Rw n vs i r v):Rw n (vs++ws) i r v:=by
 cases h with
 | num h=>exact .num h
 | cW h=>exact .cW h
 | plus ha hb ea eb h1 h2 h3 h4=>exact .plus ha hb (gy ea) (gy eb) h1 h2 h3 h4
 | times ha hb ea eb h1 h2 h3 h4 h5=>exact .times ha hb (gy ea) (gy eb) h1 h2 h3 h4 h5
def RV(n:Nat)(rs:Qa D)(vs:Qa (Pq Rat)):Prop:=rs.length=vs.length/\∀ (i:Nat) (r:D) (v:Pq Rat),rs[i]?=some r->vs[i]?=some v->Rw n vs i r v
theorem RV.snoc{rs:Qa D}{vs:Qa (Pq Rat)}{r:D}{v:Pq Rat}(h:RV n rs vs)(hr:Rw n vs vs.length r v):RV n (rs++[r]) (vs++[v]):=by
 have(h1,h3):=h;refine⟨by simp[h1],λi r' v' e1 e2=>?_⟩
 by_cases hi:i < rs.length
 .rw[List.getElem?_append_left hi]at e1
  rw[List.getElem?_append_left (by omega)]at e2;exact(h3 i r' v' e1 e2).app
 .have ip:=(qk.mp e1).1
  rw[qt,List.length_singleton]at ip;have ei:i=rs.length:=by omega
  subst ei;rw[List.getElem?_append_right<|qe _,Nat.sub_self]at e1;rw[h1,List.getElem?_append_right<|qe _,Nat.sub_self]at e2;cases e1;cases e2;rw[h1];exact hr.app
noncomputable def kN(f:Rat):Qa K3:=[.inl<|.inr "number",.inr [.inl<|.inl f.num,.inl<|.inl (f.den:Int)]]
noncomputable def kX(j:Nat):Qa K3:=[.inl<|.inr "letter",.inl<|.inl (j:Int)]
inductive Sh (n:Nat):D->Qa K3->Pq Rat->Prop
 | nu {f:Rat} (hf:Bd 12 12000000 f):Sh n (qR f) (kN f) (eN n f)
 | le {j:Nat} (hj:j < n):Sh n (vY j) (kX j) (rM n j)
theorem Sh.nk{r:D}{k:Qa K3}{v:Pq Rat}(h:Sh n r k v):AQ r=some k:=by cases h<;>rfl
theorem Sh.rw{r:D}{k:Qa K3}{v:Pq Rat}{vs:Qa (Pq Rat)}(h:Sh n r k v):Rw n vs i r v:=by
 cases h with
 | nu h=>exact .num h
 | le h=>exact .cW h
theorem QU{f g:Rat}(h:kN f=kN g):f=g:=by
 unfold kN at h;simp only[List.cons.injEq,Sum.inr.injEq,Sum.inl.injEq,and_true,true_and]at h;exact Rat.ext h.1 (by omega)
theorem Hw(h:kX i=kX j):i=j:=by
 unfold kX at h;simp only[List.cons.injEq,Sum.inl.injEq,and_true,true_and]at h;omega
theorem Ft{f:Rat}:kN f≠kX j:=λh=>by
 unfold kN kX at h;simp at h
theorem Sh.one{r r':D}{k:Qa K3}{v v':Pq Rat}(h:Sh n r k v)(h':Sh n r' k v'):v=v':=by
 generalize e:k=k' at h';cases h<;>cases h'<;>first|exact absurd e Ft|exact absurd e.symm Ft | (cases QU e; rfl) | (cases Hw e; rfl)
def Bq(n:Nat)(pl:Qa (Qa K3×D))(vs:Qa (Pq Rat)):Prop:=∀ e∈pl,∃ (i:Nat) (r:D) (v:Pq Rat),e.2=.int (i:Int)/\vs[i]?=some v/\Sh n r e.1 v
noncomputable def cL(n:Nat)(pl:Qa (Qa K3×D)):Nat:=((List.range n).filter λj=>(bL pl<|kX j).isSome).length
theorem Cg{pl:Qa (Qa K3×D)}:cL n pl<=n:=qy (ï _ _) (Ü List.length_range)
theorem IC{P R:Nat->Bool}(h0:P j=false)(h:∀ k,R k=(P k || decide (k=j))):∀ {n:Nat},j < n->((List.range n).filter R).length=((List.range n).filter P).length+1
 | 0,hj=>absurd hj<|Nat.not_lt_zero _
 | n+1,hj=>by
  rw[List.range_succ,List.filter_append,List.filter_append,qt,qt]
  by_cases c:j=n
  .subst c
   have e:(List.range j).filter R=(List.range j).filter P:=List.filter_congr λk hk=>by
    have:=Ý.mp hk;rw[h,decide_eq_false (by omega),Bool.or_false]
   rw[e,List.filter_cons_of_pos (by rw[h]; simp),List.filter_cons_of_neg (by rw[h0]; decide),List.filter_nil];rfl
  .have e:List.filter R [n]=List.filter P [n]:=List.filter_congr λk hk=>by
    rw[qq.mp hk,h,decide_eq_false<|Ne.symm c,Bool.or_false]
   rw[e,IC h0 h (by omega)];omega
structure Md (n W:Nat) (vs:Qa (Pq Rat)) (u:U):Prop where
 ex:∃ rs ps pl,u=eI rs ps pl []/\ps.length=rs.length/\pl.length<=rs.length/\rs.length<=W+cL n pl/\RV n rs vs/\Bq n pl vs
theorem Md.up{W X:Nat}{vs:Qa (Pq Rat)}{u:U}(h:Md n W vs u)(l:W<=X):Md n X vs u:=by
 have(rs,ps,pl,e,h1,h2,h3,h4):=h.ex;exact⟨rs,ps,pl,e,h1,h2,by omega,h4⟩
theorem uw{rs ps jD iN:Qa D}{pl ml jE ml':Qa (Qa K3×D)}{x y:α}:(if(eI rs ps pl ml).own=true/\(eI jD iN jE ml').own=false then x else y)=y:=if_neg λz=>by cases z.2
theorem E6{u:U}{row:D}{r:En}:lY (Ar.s 1,some u::some (.d row)::r)=AQ row:=rfl
theorem K5{rs ps:Qa D}{pl:Qa (Qa K3×D)}{row:D}(h1:rs.length < 1000)(h2:ps.length < 1000):zY [eI rs ps pl [],.d row]=some (.d<|.int (rs.length:Int),[eI (rs++[row]) (ps++[.none]) pl [],.d row]):=by
 refine i8 ?_;simp![zY,Mf,uw];have e:(((rs.length+1:Nat):Int) - 1)=(rs.length:Int):=by omega
 rw[e]
theorem Bq.app{pl:Qa (Qa K3×D)}{vs ws:Qa (Pq Rat)}(h:Bq n pl vs):Bq n pl (vs++ws):=λe he=>by
 have(i,r,v,e1,e2,e3):=h e he;exact⟨i,r,v,e1,gy e2,e3⟩
theorem vj{W:Nat}{vs:Qa (Pq Rat)}{u:U}{row:D}{v:Pq Rat}{Q:U×Qa U->Prop}(h:Md n W vs u)(n3:n<=3)(hn:W<=900)(hr:Rw n vs vs.length row v)(k:∀ u',Md n (W+1) (vs++[v]) u'->Q (.d<|.int (vs.length:Int),[u',.d row])):Wo (zY [u,.d row]) Q:=by
 have(rs,ps,pl,rfl,h1,h2,h3,h4,h7):=h.ex;have:=Cg (n:=n) (pl:=pl);rw[K5 (by omega) (by omega),h4.1];exact⟨_,rfl,k _ ⟨_,_,_,rfl,by simp; omega,by simp; omega,by simp; omega,h4.snoc hr,h7.app⟩⟩
theorem oB[DecidableEq κ]{pl:Qa (κ×D)}{key:κ}{x:D}:bL (cf pl key x) key=some x:=by
 unfold bL cf;split
 .rename_i h
  induction pl with
  | nil=>simp at h
  | cons t pl ih=>
   rw[List.map_cons,List.find?_cons]
   by_cases c:t.1=key
   .rw[if_pos c,decide_eq_true c]
    rfl
   .rw[if_neg c,decide_eq_false c]
    refine ih ?_;rw[List.any_cons,decide_eq_false c,Bool.false_or]at h;exact h
 .rename_i h
  rw[List.find?_append];have e:pl.find? (λkv=>decide<|kv.1=key)=none:=by
   rw[List.find?_eq_none];intro t ht z;exact h<|å.mpr ⟨t,ht,z⟩
  rw[e];simp
theorem yX[DecidableEq κ]{pl:Qa (κ×D)}{key:κ}{x:D}:(cf pl key x).length<=pl.length+1:=by
 unfold cf;split
 .rw[List.length_map]; omega
 .simp
theorem VN[DecidableEq κ]{pl:Qa (κ×D)}{key:κ}{x:D}{e:κ×D}(h:e∈cf pl key x):e∈pl\/e=(key,x):=by
 unfold cf at h;split at h
 .have(t,ht,rfl):=À.mp h
  by_cases c:t.1=key
  .rw[if_pos c,c]
   exact .inr rfl
  .rw[if_neg c]
   exact .inl ht
 .rcases Á.mp h with h|h
  .exact .inl h
  .exact .inr (qq.mp h)
theorem VM[DecidableEq κ]{pl:Qa (κ×D)}{key:κ}{x:D}(h:bL pl key=some x):(key,x)∈pl:=by
 unfold bL at h;have(t,ht,rfl):=qr.mp h;have h1:=List.mem_of_find?_eq_some ht;have h2:t.1=key:=by simpa using List.find?_some ht
 rw[<-h2];exact h1
theorem Ec[DecidableEq κ]{key fP:κ}{x:D}(h:fP≠key):∀ pl:Qa (κ×D),((pl.map λkv=>if kv.1=key then(kv.1,x)else kv).find? λkv=>decide<|kv.1=fP).map (λkv=>kv.2)=(pl.find? λkv=>decide<|kv.1=fP).map λkv=>kv.2
 | []=>rfl
 | t::pl=>by
  rw[List.map_cons,List.find?_cons,List.find?_cons]
  by_cases c:t.1=key
  .rw[if_pos c]
   dsimp only;rw[decide_eq_false (show ¬t.1=fP from λz=>h<|z▸c)];exact Ec h pl
  .rw[if_neg c]
   cases decide (t.1=fP)
   .exact Ec h pl
   .rfl
theorem uU[DecidableEq κ]{pl:Qa (κ×D)}{key fP:κ}{x:D}(h:fP≠key):bL (cf pl key x) fP=bL pl fP:=by
 unfold bL cf;split
 .exact Ec h pl
 .rw[List.find?_append,List.find?_cons,decide_eq_false<|Ne.symm h]
  simp
theorem QQ{f:Rat}{pl:Qa (Qa K3×D)}{x:D}:cL n (cf pl (kN f) x)=cL n pl:=by
 unfold cL;congr 1;exact List.filter_congr λk _=>by rw[uU<|Ne.symm Ft]
theorem QP{pl:Qa (Qa K3×D)}{x:D}(hj:j < n)(h:bL pl (kX j)=none):cL n (cf pl (kX j) x)=cL n pl+1:=by
 refine IC (by rw[h]; rfl) (λk=>?_) hj
 by_cases c:k=j
 .subst c
  rw[oB];simp
 .rw[uU λe=>c<|Hw e,decide_eq_false c,Bool.or_false]
noncomputable def nN:D->Nat
 | .tuple (.str w::_)=>if w = "number" then 1 else 0
 | _=>0
theorem mS{W:Nat}{vs:Qa (Pq Rat)}{u:U}{row:D}{key:Qa K3}{v:Pq Rat}{Q:U×Qa U->Prop}(hs:Sh n row key v)(h:Md n W vs u)(n3:n<=3)(hn:W<=900)
  (k:∀ u' (i:Nat) ws,Md n (W+nN row) (vs++ws) u'->(vs++ws)[i]?=some v->(ws=[]\/(ws=[v]/\i=vs.length))->Q (.d<|.int (i:Int),[u',.d row])):Wo (zU [u,.d row]) Q:=by
 have(rs,ps,pl,rfl,h1,h2,h3,h4,h7):=id h.ex;have hk:=hs.nk;have:=Cg (n:=n) (pl:=pl);simp![zU,LW,E6,hk];cases e:bL pl key with
 | some d=>
  have(i,r,v',e1,e2,e3):=h7 _ (VM e);cases e3.one hs;dsimp only at e1;subst e1;simp![Option.isSome_some,Bool.not_true,Bool.false_eq_true,E6,hk,e,uw];exact k _ i [] (by rw[List.append_nil]; exact h.up (by omega)) (by rw[List.append_nil]; exact e2)<|.inl rfl
 | none=>
  simp![Option.isSome_none,Bool.not_false,K5 (show rs.length < 1000 by omega) (show ps.length < 1000 by omega),E6,hk,oB,uw];have:=yX (pl:=pl) (key:=key) (x:=.int (rs.length:Int));have kk:=k (eI (rs++[row]) (ps++[.none]) (cf pl key<|.int (rs.length:Int)) []) vs.length [v] ⟨_,_,_,rfl,by simp; omega,by simp; omega,?_,h4.snoc hs.rw,λe he=>?_⟩ (by simp) (.inr ⟨rfl,rfl⟩)
  .rw[h4.1]at kk ⊢
   exact kk
  .rw[qt,List.length_singleton]
   cases hs with
   | nu hf=>
    rw[QQ];show _<=W+1+_;omega
   | le hj=>
    rw[QP hj e];omega
  .rcases VN he with he|rfl
   .exact h7.app e he
   .exact⟨vs.length,row,v,by rw[h4.1],by simp,hs⟩
end K47
open PySem L2
namespace K47
open PySem L2
theorem yY:∀ a b:Qa Int,bZ a b=bZ b a
 | [],[]=>rfl
 | [],_::_=>rfl
 | _::_,[]=>rfl
 | x::a,y::b=>by
  show(x+y)::bZ a b=(y+x)::bZ b a;rw[Int.add_comm,yY a b]
theorem O5(c:Rat)(p:Pq Rat)(h:Qa Int->Rat):c * aJ p h=aJ p λk=>c * h k:=by
 induction p with
 | nil=>rw[gz,gz,Rat.mul_zero]
 | cons t p ih=>
  rw[zB,zB,<-ih];grind
theorem VL{d a:Nat}{p:Pq Rat}{e:Et}(h:PG n d a p)(g:Qa Int->Rat):aJ (iF (cu n e) p) g=aJ p (Ev n e g):=by
 unfold iF;rw[show L2.nz (cH []<|cS (cu n e) p)=(cH []<|cS (cu n e) p).filter (λt=>decide<|t.2≠0) from rfl,DD,DN _ _ AS,gz,Rat.zero_add,IY,DP,O5];refine Kx λt ht=>?_;rw[yY,DQ (h.ky t ht).ln];rfl
theorem PZ.Fh{d a:Nat}{p:Pq Rat}{e:Et}(h:PZ n d a p)(n1:1<=n)(n3:n<=3)(ha:a+1<=cc n)(he:EO n e):PZ n (d+11) (a+1) (iF (cu n e) p):=by
 have:=(jA he).pg.mul h.pg n1 n3 (by omega);exact⟨this.up (by omega) (by omega),BK _⟩
theorem yC:rM n j=cu n (1,some j):=(if_neg (by decide:¬(1:Rat)=0)).symm
theorem IB{f:Rat}(hf:f≠0)(hj:j < n):iF (eN n f) (rM n j)=cu n (f,some j):=by
 unfold eN cu;rw[if_neg hf,if_neg hf];show L2.nz [(bZ (zs n)<|g8 n j,0+f * 1)]=_;rw[yY,yD<|JI hj,Rat.zero_add,Rat.mul_one];unfold L2.nz;rw[List.filter_cons_of_pos (by simpa using hf)];rfl
theorem O4(g:Qa Int->Rat):Ev n (1,none) g=g:=by
 funext k
 unfold Ev;rw[Rat.one_mul];rfl
noncomputable def mJ:MS:=(zz (bt (gQ<|ub<|zj 5) (bh<|jr "NewRows" 0 "shared" zU<|zf (bw<|zf (mC<|.str "number")<|zf (mC<|.tuple [.int 1,.int 1]) zq) zq) bF)
  (zz (aR 6<|aq cT (zj 5)<|mC<|.int 0)
  (zz (eO (eK pF<|fu<|kF nM (zj 5) (jU<|mC<|.int 1) ko) (zA 7)<|aR 6<|jr "NewRows" 0 "add_new" zY<|zf (bw<|zf (mC<|.str "times")<|zf (zj 6)<|zf (zj 7) zq) zq)
  (bh<|zj 6))))
theorem oh:KQ=(zz (k7 (zj 1)<|gk 2<|zW (zA 3)<|zW (zA 4) g9)
  (zz (aR 5<|tK (mB<|eJ (xb false [1,1])<|zj 3) (eP zq)<|eP<|zf (jr "NewRows" 0 "shared" zU<|zf (bw<|zf (mC<|.str "number")<|zf (zj 3) zq) zq) zq)
  (zz (bt (mB<|aq (nL true) (zj 4)<|mC .none) (gq<|gP 5<|jr "NewRows" 0 "shared" zU<|zf (bw<|zf (mC<|.str "letter")<|zf (zj 4) zq) zq) bF)
  (zz (bt (mB<|aq (nL true) (zj 2)<|mC .none) (gq<|gP 5<|zj 2) bF)
  mJ)))):=rfl
theorem Dc{mg:MG}{m1:MS}{d:D}{ds:Qa D}{ρ:En}{Q:Fl->Prop}(h:Wo (mg d ρ) (Co m1 ⟨0⟩<|nV Q λau=>Wo (eQ mg m1 ds au) Q)):Wo (eQ mg m1 (d::ds) ρ) Q:=by
 have(aj,e1,f,e2,k):=h;unfold eQ;rw[zo];refine⟨aj,e1,?_⟩;rw[hJ,zo];refine⟨f,e2,?_⟩;rw[hJ];cases f with
 | nx au=>exact k
 | ct au=>exact k
 | bk au=>exact⟨_,rfl,k⟩
 | rt u au=>exact⟨_,rfl,k⟩
 | ex x au=>exact⟨_,rfl,k⟩
theorem CZ{mg:MG}{m1:MS}{ρ:En}{Q:Fl->Prop}(h:Q (.nx ρ)):Wo (eQ mg m1 [] ρ) Q:=⟨_,rfl,h⟩
section
variable{W:Nat}{vs:Qa (Pq Rat)}{u:U}{en ah:D}{x3 x4:Qb U}{Q:Fl->Prop}
theorem zA2(h:Md n W vs u)(n3:n<=3)(hW:W<=900)(k:∀ u' (t:Nat) ws ρ,Md n (W+1) (vs++ws) u'->(vs++ws)[t]?=some (eN n 1)->(ws=[]\/(ws=[eN n 1]/\t=vs.length))->Q (.rt (.d<|.int (t:Int))<|some u'::some (.d en)::some (.d ah)::ρ)):Wo (mJ [some u,some<|.d en,some<|.d ah,x3,x4,some<|.l [],none,none]) Q:=by
 have ht:(U.l ([]:Qa D)).oH=some false:=rfl;have(rs,ps,pl,rfl,_):=id h.ex;simp![mJ,ht];have es:PyData.tuple [.str "number",.tuple [.int 1,.int 1]]=qR 1:=rfl;rw[es];refine mS (.nu wW) h n3 hW λu' t ws h' ht' hw=>?_;simp!;exact k u' t ws _ h' ht' hw
theorem Cr(h:Md n W vs u)(k:∀ ρ,Q<|.rt (.d<|.int (i:Int))<|some u::some (.d en)::some (.d ah)::ρ):Wo (mJ [some u,some<|.d en,some<|.d ah,x3,x4,some<|.l [.int (i:Int)],none,none]) Q:=by
 have ht:(U.l [PyData.int (i:Int)]).oH=some true:=rfl;have ea:bp [PyData.int (i:Int)] 0=some (.int (i:Int)):=rfl;have ec:fF [PyData.int (i:Int)] (some 1) none=[]:=rfl;have(rs,ps,pl,rfl,_):=id h.ex;simp![mJ,ht,ea];rw[ec];refine CZ ?_;simp!;exact k _
theorem Cq{d a:Nat}{p q:Pq Rat}(h:Md n W vs u)(n3:n<=3)(hW:W<=900)(ei:vs[i]?=some p)(ej:vs[j]?=some q)(l1:p.length<=1)(hp:PZ n 0 1 p)(hq:PZ n d a q)(ha:a+1<=cc n)(hd:d<=3000)(k:∀ u' ρ,Md n (W+1) (vs++[iF p q]) u'->Q (.rt (.d<|.int (vs.length:Int))<|some u'::some (.d en)::some (.d ah)::ρ)):Wo (mJ [some u,some<|.d en,some<|.d ah,x3,x4,some<|.l [.int (i:Int),.int (j:Int)],none,none]) Q:=by
 have ht:(U.l [PyData.int (i:Int),.int (j:Int)]).oH=some true:=rfl;have ea:bp [PyData.int (i:Int),.int (j:Int)] 0=some (.int (i:Int)):=rfl;have ec:fF [PyData.int (i:Int),.int (j:Int)] (some 1) none=[.int (j:Int)]:=rfl;have er:PyData.tuple [.str "times",.int (i:Int),.int (j:Int)]=r3 "times" i j:=rfl;have hi:=(qk.mp ei).1;have hj:=(qk.mp ej).1;have(rs,ps,pl,rfl,_):=id h.ex;simp![mJ,ht,ea];rw[ec];refine Dc ?_;simp![er];refine vj h n3 hW (.times hi hj ei ej l1 hp hq ha hd) λu' h'=>?_;simp!;refine CZ ?_;simp!;exact k u' _ h'
theorem zA3{l d a:Nat}{p q r:Pq Rat}(h:Md n W vs u)(n3:n<=3)(hW:W<=800)(ei:vs[i]?=some p)(ej:vs[j]?=some q)(el:vs[l]?=some r)(l1:p.length<=1)(hp:PZ n 0 1 p)(hq:PZ n 0 1 q)(l2:(iF p q).length<=1)(hm:PZ n 0 1 (iF p q))(hr:PZ n d a r)(hd4:4<=cc n)(ha:a+1<=cc n)(hd:d<=3000)(k:∀ u' ρ,Md n (W+2) (vs++[iF p q]++[iF (iF p q) r]) u'->Q (.rt (.d<|.int ((vs.length+1:Nat):Int))<|some u'::some (.d en)::some (.d ah)::ρ)):Wo (mJ [some u,some<|.d en,some<|.d ah,x3,x4,some<|.l [.int (i:Int),.int (j:Int),.int (l:Int)],none,none]) Q:=by
 have ht:(U.l [PyData.int (i:Int),.int (j:Int),.int (l:Int)]).oH=some true:=rfl;have ea:bp [PyData.int (i:Int),.int (j:Int),.int (l:Int)] 0=some (.int (i:Int)):=rfl;have ec:fF [PyData.int (i:Int),.int (j:Int),.int (l:Int)] (some 1) none=[.int (j:Int),.int (l:Int)]:=rfl;have er:PyData.tuple [.str "times",.int (i:Int),.int (j:Int)]=r3 "times" i j:=rfl;have hi:=(qk.mp ei).1;have hj:=(qk.mp ej).1;have hl:=(qk.mp el).1;have(rs,ps,pl,rfl,_):=id h.ex;simp![mJ,ht,ea];rw[ec];refine Dc ?_;simp![er];refine vj h n3 (by omega) (.times hi hj ei ej l1 hp hq (by omega) (by omega)) λu' h'=>?_;have(jD,iN,jE,rfl,_):=id h'.ex;simp!;refine Dc ?_;have er2:PyData.tuple [.str "times",.int (vs.length:Int),.int (l:Int)]=r3 "times" vs.length l:=rfl;simp![er2];have ll:(vs++[iF p q]).length=vs.length+1:=by simp
 refine vj h' n3 (by omega) (.times (by omega) (by omega) (by simp) (gy el) l2 hm hr ha hd) λu2 h2=>?_;simp!;refine CZ ?_;simp!;exact k u2 _ h2
end
theorem oq(f:Rat):xb false [1,1] (.d<|fR f)=some (.d<|.bool<|decide<|f=1):=DJ (a:=f) (b:=1) (neg:=false)
theorem km:nL true (.d .none) (.d .none)=some (.d<|.bool false):=id rfl
theorem kj{j:Int}:nL true (.d<|.int j) (.d .none)=some (.d<|.bool true):=id rfl
theorem yo{f:Rat}:PyData.tuple [.str "number",fR f]=qR f:=rfl
theorem yn:PyData.tuple [.str "letter",.int (j:Int)]=vY j:=rfl
theorem uT{e:Et}(h:e.1≠0):(cu n e).length=1:=by
 unfold cu;rw[if_neg h];rfl
section
variable{W:Nat}{vs:Qa (Pq Rat)}{u:U}{Q:U×Qa U->Prop}{e:Et}
theorem V7(n1:1<=n)(n3:n<=3)(h:Md n W vs u)(hW:W<=700)(he:EO n e)(h0:e.1≠0)
  (k:∀ u' (t:Nat) ws,Md n (W+3) (vs++ws) u'->(vs++ws)[t]?=some (cu n e)->(t+1=(vs++ws).length\/ws=[])->Q (.d<|.int (t:Int),[u',.d<|fW e,.d .none])):Wo (jB [u,.d<|fW e,.d .none]) Q:=by
 have(rs,ps,pl,rfl,_):=id h.ex;have(f,l):=e;have d4:=(pf (n:=n)).1;unfold fW at k ⊢;dsimp only at k ⊢ h0;have fin:∀ {u':U} {t:Nat} {ws:Qa (Pq Rat)} {ρ:En},Md n (W+3) (vs++ws) u'->(vs++ws)[t]?=some (cu n (f,l))->(t+1=(vs++ws).length\/ws=[])->Wo (rP [0,1,2] [eI rs ps pl [],.d<|.tuple [fR f,eL l],.d .none]<|.rt (.d<|.int (t:Int))<|some u'::some (.d<|.tuple [fR f,eL l])::some (.d .none)::ρ) Q:=λh1 h2 h3=>by
  have(jD,iN,jE,rfl,_):=id h1.ex;simp![uw];exact k _ _ _ h1 h2 h3
 have sh:∀ {ws:Qa (Pq Rat)} {t:Nat} {v:Pq Rat},(ws=[]\/(ws=[v]/\t=vs.length))->(t+1=(vs++ws).length\/ws=[]):=λz=>by
  rcases z with z|⟨rfl,rfl⟩
  .exact .inr z
  .exact .inl (by simp)
 by_cases c:f=1
 .subst c
  cases l with
  | none=>
   simp![jB,oh,oq,eL,km];refine zA2 h n3 (by omega) λu' t ws ρ h1 h2 h3=>?_;exact fin (h1.up (by omega)) h2<|sh h3
  | some j=>
   have hj:=he.lt j rfl;simp![jB,oh,oq,eL,kj,km,yn];refine mS (.le hj) h n3 (by omega) λu' t ws h1 h2 h3=>?_;have(jD,iN,jE,rfl,_):=id h1.ex;simp![km];refine Cr h1 λρ=>?_;exact fin (h1.up (by show W+0<=_; omega)) (by rw[h2,yC])<|sh h3
 .cases l with
  | none=>
   simp![jB,oh,oq,c,eL,km,yo];refine mS (.nu he.bd) h n3 (by omega) λu' t ws h1 h2 h3=>?_;have(jD,iN,jE,rfl,_):=id h1.ex;simp![km];refine Cr h1 λρ=>?_;exact fin (h1.up (by show W+1<=_; omega)) h2<|sh h3
  | some j=>
   have hj:=he.lt j rfl;simp![jB,oh,oq,c,eL,km,kj,yo];refine mS (.nu he.bd) h n3 (by omega) λu' t ws h1 h2 h3=>?_;have(jD,iN,jE,rfl,_):=id h1.ex;have gU:Md n (W+1) (vs++ws) _:=h1;simp![km,kj,yn];refine mS (.le hj) gU n3 (by omega) λu2 t2 lE g1 g2 g3=>?_;have(rs2,ps2,pl2,rfl,_):=id g1.ex;have Gg:Md n (W+1) (vs++ws++lE) _:=g1;simp![km];have p1:PZ n 0 1 (eN n f):=jA (e:=(f,none)) ⟨he.bd,λk hk=>by cases hk⟩;have p2:PZ n 0 1 (rM n j):=by rw[yC]; exact jA ⟨wW,λk hk=>by cases hk; exact hj⟩
   refine Cq (a:=1) (d:=0) Gg n3 (by omega) (gy h2) g2 (Ü<|uT (e:=(f,none)) h0) p1 p2 (by omega) (by omega) λu3 ρ q1=>?_;rw[IB h0 hj,List.append_assoc,List.append_assoc]at q1;have ll:(vs++ws++lE).length+1=(vs++(ws++(lE++[cu n (f,some j)]))).length:=by simp; omega
   have gt:(vs++(ws++(lE++[cu n (f,some j)])))[(vs++ws++lE).length]?=some (cu n (f,some j)):=by
    rw[<-List.append_assoc,<-List.append_assoc];simp
   exact fin (q1.up (by omega)) gt<|.inl ll
theorem V6{a d b:Nat}{p:Pq Rat}(n1:1<=n)(n3:n<=3)(h:Md n W vs u)(hW:W<=700)(he:EO n e)(h0:e.1≠0)(ha:vs[a]?=some p)(hp:PZ n d b p)(hb:b+1<=cc n)(hd:d<=3000)
  (k:∀ u' (t:Nat) ws r,Md n (W+3) (vs++ws) u'->(vs++ws)[t]?=some r->PZ n (d+11) (b+1) r->(∀ g,aJ r g=aJ p (Ev n e g))->(t+1=(vs++ws).length\/(ws=[]/\t=a))->Q (.d<|.int (t:Int),[u',.d<|fW e,.d<|.int (a:Int)])):Wo (jB [u,.d<|fW e,.d<|.int (a:Int)]) Q:=by
 have(rs,ps,pl,rfl,_):=id h.ex;have(f,l):=e;have d4:=(pf (n:=n)).1;unfold fW at k ⊢;dsimp only at k ⊢ h0;have fin:∀ {u':U} {t:Nat} {ws:Qa (Pq Rat)} {r:Pq Rat} {ρ:En},Md n (W+3) (vs++ws) u'->(vs++ws)[t]?=some r->PZ n (d+11) (b+1) r->(∀ g,aJ r g=aJ p (Ev n (f,l) g))->(t+1=(vs++ws).length\/(ws=[]/\t=a))->Wo (rP [0,1,2] [eI rs ps pl [],.d<|.tuple [fR f,eL l],.d<|.int (a:Int)]<|.rt (.d<|.int (t:Int))<|some u'::some (.d<|.tuple [fR f,eL l])::some (.d<|.int (a:Int))::ρ) Q:=λh1 h2 h3 h4 h5=>by
  have(jD,iN,jE,rfl,_):=id h1.ex;simp![uw];exact k _ _ _ _ h1 h2 h3 h4 h5
 have rB:∀ {u':U} {ws:Qa (Pq Rat)} {ρ:En},Md n (W+3) (vs++(ws++[iF (cu n (f,l)) p])) u'->Wo (rP [0,1,2] [eI rs ps pl [],.d<|.tuple [fR f,eL l],.d<|.int (a:Int)]<|.rt (.d<|.int ((vs++ws).length:Int))<|some u'::some (.d<|.tuple [fR f,eL l])::some (.d<|.int (a:Int))::ρ) Q:=λ{u' ws ρ} h1=>by
  refine fin h1 ?_ (hp.Fh n1 n3 hb he) (VL hp.pg)<|.inl (by simp; omega);rw[<-List.append_assoc];simp
 by_cases c:f=1
 .subst c
  cases l with
  | none=>
   simp![jB,oh,oq,eL,km,kj];refine Cr h λρ=>?_;exact fin (ws:=[]) (by rw[List.append_nil]; exact h.up (by omega)) (by rw[List.append_nil]; exact ha) (hp.up (by omega) (by omega)) (λg=>by rw[O4])<|.inr ⟨rfl,rfl⟩
  | some j=>
   have hj:=he.lt j rfl;simp![jB,oh,oq,eL,kj,yn];refine mS (.le hj) h n3 (by omega) λu' t ws h1 h2 h3=>?_;have(jD,iN,jE,rfl,_):=id h1.ex;have gU:Md n W (vs++ws) _:=h1;simp![kj];rw[yC]at h2;refine Cq gU n3 (by omega) h2 (gy ha) (Ü<|uT (e:=(1,some j)) h0) (jA he) hp hb hd λu3 ρ q1=>?_;rw[List.append_assoc]at q1;exact rB<|q1.up (by omega)
 .cases l with
  | none=>
   simp![jB,oh,oq,c,eL,km,kj,yo];refine mS (.nu he.bd) h n3 (by omega) λu' t ws h1 h2 h3=>?_;have(jD,iN,jE,rfl,_):=id h1.ex;have gU:Md n (W+1) (vs++ws) _:=h1;simp![km,kj];refine Cq gU n3 (by omega) h2 (gy ha) (Ü<|uT (e:=(f,none)) h0) (jA (e:=(f,none)) he) hp hb hd λu3 ρ q1=>?_;rw[List.append_assoc]at q1;exact rB<|q1.up (by omega)
  | some j=>
   have hj:=he.lt j rfl;simp![jB,oh,oq,c,eL,kj,yo];refine mS (.nu he.bd) h n3 (by omega) λu' t ws h1 h2 h3=>?_;have(jD,iN,jE,rfl,_):=id h1.ex;have gU:Md n (W+1) (vs++ws) _:=h1;simp![kj,yn];refine mS (.le hj) gU n3 (by omega) λu2 t2 lE g1 g2 g3=>?_;have(rs2,ps2,pl2,rfl,_):=id g1.ex;have Gg:Md n (W+1) (vs++ws++lE) _:=g1;simp![kj];have p1:PZ n 0 1 (eN n f):=jA (e:=(f,none)) ⟨he.bd,λk hk=>by cases hk⟩;have p2:PZ n 0 1 (rM n j):=by rw[yC]; exact jA ⟨wW,λk hk=>by cases hk; exact hj⟩
   have em:=IB (n:=n) h0 hj;refine zA3 Gg n3 (by omega) (gy h2) g2 (gy<|gy ha) (Ü<|uT (e:=(f,none)) h0) p1 p2 (by rw[em]; exact Ü<|uT (e:=(f,some j)) h0) (by rw[em]; exact jA he) hp d4 hb hd λu3 ρ q1=>?_;rw[em,List.append_assoc,List.append_assoc,List.append_assoc]at q1;have q2:=q1.up (show W+1+2<=W+3 by omega);have:=rB (ws:=ws++(lE++[cu n (f,some j)])) (u':=u3) (ρ:=ρ) (by simpa using q2);rw[show(vs++(ws++(lE++[cu n (f,some j)]))).length=(vs++ws++lE).length+1 by simp; omega]at this;exact this
end
end K47
open PySem L2
namespace K47
open PySem L2
noncomputable def ins(R:Qa Nat)(j:Nat):Qa Nat:=if j∈R then R else R++[j]
theorem gx{R:Qa Nat}:i∈ins R j↔i∈R\/i=j:=by
 unfold ins;split
 .rename_i h
  constructor
  .exact .inl
  .rintro(z|rfl)
   .exact z
   .exact h
 .rw[List.mem_append,qq]
structure RI (bs:Qa Wy) (R:Qa Nat):Prop where
 z:0∈R
 c:∀ w∈bs,w.1.1∈R->w.1.2∈R
 b:∀ j∈R,j=0\/∃ w∈bs,w.1.2=j/\w.1.1∈R
noncomputable def EY(R:Qa Nat)(w:Wy):Qa Nat:=if w.1.1∈R then ins R w.1.2 else R
theorem RI.step{bs:Qa Wy}{R:Qa Nat}{w:Wy}(h:RI bs R)(lt:w.1.1 < w.1.2)(up:∀ v∈bs,v.1.1<=w.1.1):RI (bs++[w]) (EY R w):=by
 unfold EY;split
 .rename_i hw
  refine⟨gx.mpr<|.inl h.z,λv hv hr=>?_,λj hj=>?_⟩
  .rcases Á.mp hv with hv|hv
   .rcases gx.mp hr with hr|hr
    .exact gx.mpr (.inl<|h.c v hv hr)
    .have:=up v hv
     omega
   .cases qq.mp hv
    exact gx.mpr<|.inr rfl
  .rcases gx.mp hj with hj|rfl
   .rcases h.b j hj with z|⟨v,hv,e,hr⟩
    .exact .inl z
    .exact .inr ⟨v,Â _ hv,e,gx.mpr<|.inl hr⟩
   .exact .inr ⟨w,by simp,rfl,gx.mpr<|.inl hw⟩
 .rename_i hw
  refine⟨h.z,λv hv hr=>?_,λj hj=>?_⟩
  .rcases Á.mp hv with hv|hv
   .exact h.c v hv hr
   .cases qq.mp hv
    exact absurd hr hw
  .rcases h.b j hj with z|⟨v,hv,e,hr⟩
   .exact .inl z
   .exact .inr ⟨v,Â _ hv,e,hr⟩
structure LI (m:Nat) (bs:Qa Wy) (L:Qa Nat):Prop where
 z:m∈L
 c:∀ w∈bs,w.1.2∈L->w.1.1∈L
 b:∀ j∈L,j=m\/∃ w∈bs,w.1.1=j/\w.1.2∈L
noncomputable def EZ(L:Qa Nat)(w:Wy):Qa Nat:=if w.1.2∈L then ins L w.1.1 else L
theorem LI.step{bs:Qa Wy}{L:Qa Nat}{w:Wy}(h:LI m bs L)(lt:∀ v∈bs,v.1.1 < v.1.2/\w.1.1<=v.1.1):LI m (bs++[w]) (EZ L w):=by
 unfold EZ;split
 .rename_i hw
  refine⟨gx.mpr<|.inl h.z,λv hv hr=>?_,λj hj=>?_⟩
  .rcases Á.mp hv with hv|hv
   .rcases gx.mp hr with hr|hr
    .exact gx.mpr (.inl<|h.c v hv hr)
    .have:=lt v hv
     omega
   .cases qq.mp hv
    exact gx.mpr<|.inr rfl
  .rcases gx.mp hj with hj|rfl
   .rcases h.b j hj with z|⟨v,hv,e,hr⟩
    .exact .inl z
    .exact .inr ⟨v,Â _ hv,e,gx.mpr<|.inl hr⟩
   .exact .inr ⟨w,by simp,rfl,gx.mpr<|.inl hw⟩
 .rename_i hw
  refine⟨h.z,λv hv hr=>?_,λj hj=>?_⟩
  .rcases Á.mp hv with hv|hv
   .exact h.c v hv hr
   .cases qq.mp hv
    exact absurd hr hw
  .rcases h.b j hj with z|⟨v,hv,e,hr⟩
   .exact .inl z
   .exact .inr ⟨v,Â _ hv,e,hr⟩
noncomputable def wk(R L:Qa Nat)(w:Wy):Bool:=decide (w.1.1∈R) && decide (w.1.2∈L)
structure WW (m:Nat) (A W:Qa Wy) (R L:Qa Nat):Prop where
 r:RI A R
 l:LI m A L
 e:W=A.filter (wk R L)
section
variable{c b e:Nat}{A W:Qa Wy}{R L:Qa Nat}
theorem WW.mem(h:WW m A W R L){w:Wy}:w∈W↔w∈A/\w.1.1∈R/\w.1.2∈L:=by
 rw[h.e,List.mem_filter];unfold wk;rw[Bool.and_eq_true,decide_eq_true_iff,decide_eq_true_iff]
theorem WW.ahead(h:WW m A W R L){w:Wy}(hw:w∈W)(h0:w.1.1≠0):∃ v∈W,v.1.2=w.1.1:=by
 have(ha,hr,hl):=h.mem.mp hw;rcases h.r.b _ hr with z|⟨v,hv,ev,we⟩
 .exact absurd z h0
 .exact⟨v,h.mem.mpr ⟨hv,we,by rw[ev]; exact h.l.c w ha hl⟩,ev⟩
theorem WW.behind(h:WW m A W R L){w:Wy}(hw:w∈W)(h0:w.1.2≠m):∃ v∈W,v.1.1=w.1.2:=by
 have(ha,hr,hl):=h.mem.mp hw;rcases h.l.b _ hl with z|⟨v,hv,ev,we⟩
 .exact absurd z h0
 .exact⟨v,h.mem.mpr ⟨hv,by rw[ev]; exact h.r.c w ha hr,we⟩,ev⟩
theorem WW.none(h:WW m A W R L)(m1:1<=m)(hW:W=[]):m∉R:=λhm=>by
 rcases h.r.b _ hm with z|⟨v,hv,ev,we⟩
 .omega
 .have:=h.mem.mpr ⟨hv,we,by rw[ev]; exact h.l.z⟩
  rw[hW]at this;cases this
theorem JG{f:α->Rat}:∀ {l:Qa α},(∀ x∈l,f x=0)->(l.map f).sum=0
 | [],_=>rfl
 | x::l,h=>by
  rw[List.map_cons,List.sum_cons,h x qp,JG λy hy=>h y<|qo _ hy,Rat.add_zero]
theorem IA{f:α->Rat}{p q:α->Bool}:∀ {l:Qa α},(∀ x∈l,q x=true->p x=true)->(∀ x∈l,p x=true->q x=false->f x=0)->((l.filter p).map f).sum=((l.filter q).map f).sum
 | [],_,_=>rfl
 | x::l,h,h'=>by
  have ih:=IA (f:=f) (p:=p) (q:=q) (l:=l) (λy hy=>h y<|qo _ hy) λy hy=>h' y<|qo _ hy;have hx:=h x qp;have fA:=h' x qp;rw[List.filter_cons,List.filter_cons];cases hp:p x
  .cases hq:q x
   .exact ih
   .rw[hx hq]at hp
    cases hp
  .cases hq:q x
   .rw[if_pos rfl,if_neg (by decide),List.map_cons,List.sum_cons,fA hp hq,Rat.zero_add]
    exact ih
   .rw[if_pos rfl,if_pos rfl,List.map_cons,List.map_cons,List.sum_cons,List.sum_cons,ih]
variable{ps:Qa (Pq Rat)}
abbrev vl(ps:Qa (Pq Rat))(j:Nat):Pq Rat:=ps.getD j []
theorem WI.at(I:WI n m A ps)(hj:j<=m)(g:Qa Int->Rat):aJ (vl ps j) g=(if j=0 then g (zs n)else 0)+((A.filter λw=>decide<|w.1.2=j).map λw=>aJ (vl ps w.1.1)<|Ev n w.2 g).sum:=by
 have hl:j < ps.length:=by have:=I.ln; omega
 have e:vl ps j=ps[j]:=by
  unfold vl;rw[qB,qm hl];rfl
 rw[e];exact I.eq j _ (qm hl) g
theorem La(h:Wv n m c b e A)(I:WI n m A ps)(hr:RI A R):∀ j,j<=m->j∉R->∀ g,aJ (vl ps j) g=0:=by
 intro j
 induction j using Nat.strongRecOn with
 | _ j ih=>
  intro hj hn g;have j0:j≠0:=λz=>hn<|z▸hr.z;rw[I.at hj,if_neg j0,Rat.zero_add];refine JG λw hw=>?_;have(ha,hd):=Õ.mp hw;have e2:w.1.2=j:=of_decide_eq_true hd;have(l1,l2):=h.lt w ha;exact ih w.1.1 (by omega) (by omega) (λz=>hn<|e2▸hr.c w ha z) _
theorem JF(h:Wv n m c b e A)(I:WI n m A ps)(k:WW m A W R L)(hj:j<=m)(hL:j∈L)(g:Qa Int->Rat):aJ (vl ps j) g=(if j=0 then g (zs n)else 0)+((W.filter λw=>decide<|w.1.2=j).map λw=>aJ (vl ps w.1.1)<|Ev n w.2 g).sum:=by
 rw[I.at hj];congr 1;rw[k.e,List.filter_filter];refine IA (λx hx hq=>?_) λx hx hp hq=>?_
 .exact(ó.mp hq).1
 .have e2:x.1.2=j:=of_decide_eq_true hp
  rw[hp,Bool.true_and]at hq;unfold wk at hq;rw[e2,decide_eq_true hL,Bool.and_true]at hq;have(l1,l2):=h.lt x hx;exact La h I k.r x.1.1 (by omega) (of_decide_eq_false hq) _
theorem SS(h:Wv n m c b e A)(I:WI n m A ps)(g:Qa Int->Rat):aJ (vl ps 0) g=g (zs n):=by
 rw[I.at<|Nat.zero_le _,if_pos rfl,List.filter_eq_nil_iff.mpr λw hw=>?_,List.map_nil,List.sum_nil,Rat.add_zero];have:=h.lt w hw;simp;omega
theorem Wv.sub(h:Wv n m c b e A)(s:W.Sublist A):Wv n m c b e W :=
 ⟨λw hw=>h.en w<|s.subset hw,λw hw=>h.lt w<|s.subset hw,h.up.sublist s,λw hw=>h.la w<|s.subset hw,qy s.length_le h.ln⟩
def w9(bs:Qa Wy)(e:Nat):Prop:=∀ w∈bs,w.1.2<=e/\(w.1.2 < e->∃ v∈bs,v.1.1=w.1.2)
theorem uu{bs cs:Qa Wy}{w:Wy}(up:(bs++w::cs).Pairwise Lx):(∀ v∈bs,Lx v w)/\∀ v∈bs,v.1.1<=w.1.1:=by
 have:=(Ô.mp up).2.2;have h1:∀ v∈bs,Lx v w:=λv hv=>this v hv w qp;refine⟨h1,λv hv=>?_⟩;have:=h1 v hv;unfold Lx at this;omega
theorem WW.last(h:Wv n m c b e A)(k:WW m A W R L){bs:Qa Wy}{w:Wy}(ew:W=bs++[w]):w.1.2=m/\w9 W m:=by
 have hs:W.Sublist A:=by rw[k.e]; exact List.filter_sublist
 have up:=(h.sub hs).up;rw[ew]at up;have lt:=(h.sub hs).lt;refine⟨?_,λv hv=>⟨(lt v hv).2,λz=>k.behind hv (by omega)⟩⟩;have hw:w∈W:=by rw[ew]; simp
 by_cases c:w.1.2=m
 .exact c
 .have(v,hv,ev):=k.behind hw c
  have jc:=hv;rw[ew]at hv;have:=lt w hw;rcases Á.mp hv with hv|hv
  .have:=(uu up).2 v hv
   omega
  .cases qq.mp hv
   omega
theorem XM{bs:Qa Wy}{w:Wy}(up:(bs++[w]).Pairwise Lx)(lt:∀ v∈bs++[w],v.1.1 < v.1.2)(hC:w9 (bs++[w]) w.1.2)(h0:w.1.1=0):bs=[]:=by
 rcases bs with _|⟨v,bs⟩
 .rfl
 .exfalso
  have(h1,h2):=uu up;have hv:v∈v::bs:=qp;have:=h1 v hv;have l1:=lt v (Â _ hv);unfold Lx at this;have(c1,c2):=hC v (Â _ hv);have(x,hx,ex):=c2 (by omega);rcases Á.mp hx with hx|hx
  .have:=h2 x hx
   omega
  .cases qq.mp hx
   omega
theorem SR{bs:Qa Wy}{w:Wy}(up:(bs++[w]).Pairwise Lx)(lt:∀ v∈bs++[w],v.1.1 < v.1.2)(hC:w9 (bs++[w]) w.1.2)(no:∀ v∈bs,v.1.2≠w.1.2)(hs:∃ v∈bs,v.1.2=w.1.1):∃ cs v,bs=cs++[v]/\v.1.2=w.1.1/\w9 bs v.1.2:=by
 have(h1,h2):=uu up;have ends:∀ v∈bs,v.1.2<=w.1.1/\(v.1.2 < w.1.1->∃ x∈bs,x.1.1=v.1.2):=λv hv=>by
  have(c1,c2):=hC v (Â _ hv);have:=no v hv;have(x,hx,ex):=c2 (by omega);rcases Á.mp hx with hx|hx
  .have:=h2 x hx
   exact⟨by omega,λ_=>⟨x,hx,ex⟩⟩
  .cases qq.mp hx
   exact⟨by omega,λz=>by omega⟩
 have(y,hy,ey):=hs;have ne:bs≠[]:=λz=>by rw[z]at hy; cases hy
 refine⟨bs.dropLast,bs.getLast ne,(List.dropLast_concat_getLast ne).symm,?_⟩;have hl:bs.getLast ne∈bs:=List.getLast_mem ne;have(e1,e2):=ends _ hl;have el:(bs.getLast ne).1.2=w.1.1:=by
  by_cases c:(bs.getLast ne).1.2=w.1.1
  .exact c
  .exfalso
   have(x,hx,ex):=e2 (by omega);have vI:bs.Pairwise Lx:=(Ô.mp up).1;have e3:bs=bs.dropLast++[bs.getLast ne]:=(List.dropLast_concat_getLast ne).symm;have l1:=lt _ (Â [w] hl);have fA:x∈bs.dropLast++[bs.getLast ne]:=e3▸hx;rw[e3]at vI;rcases Á.mp fA with fA|fA
   .have:=(uu vI).2 x fA
    omega
   .rw[qq.mp fA]at ex
    omega
 exact⟨el,λv hv=>by rw[el]; exact ends v hv⟩
end
end K47
open PySem L2
namespace K47
open PySem L2
structure Kd (kvs:Qa (Key×D)) (R:Qa Nat) (l:Nat):Prop where
 eq:∀ j:Nat,(bL kvs<|Sum.inl (j:Int)).isSome=decide (j∈R)
 ln:kvs.length<=l
theorem Kd.up{kvs:Qa (Key×D)}{R:Qa Nat}{l l':Nat}(h:Kd kvs R l)(hl:l<=l'):Kd kvs R l':=⟨h.eq,by have:=h.ln; omega⟩
theorem CY(h:i≠j):(Sum.inl (i:Int):Key)≠Sum.inl (j:Int):=λe=>by
 rw[Sum.inl.injEq]at e;omega
theorem Kd.put{kvs:Qa (Key×D)}{R:Qa Nat}{l:Nat}(h:Kd kvs R l)(j:Nat){x:D}:Kd (cf kvs (Sum.inl (j:Int)) x) (ins R j) (l+1):=by
 refine⟨λk=>?_,qy yX<|Nat.succ_le_succ h.ln⟩
 by_cases c:k=j
 .subst c
  rw[oB,decide_eq_true<|gx.mpr<|.inr rfl];rfl
 .rw[uU<|CY c,h.eq]
  exact decide_eq_decide.mpr ⟨λz=>gx.mpr<|.inl z,λz=>(gx.mp z).resolve_right c⟩
theorem i5{kvs:Qa (Key×D)}{j:Int}:gO (.k kvs) (.d<|.int j)=some (bL kvs<|Sum.inl j):=rfl
theorem sY{kvs:Qa (Key×D)}{j:Int}{x:D}(h:kvs.length < 1000):xH (.k kvs) (.int j) x=some (.k<|cf kvs (Sum.inl j) x):=by
 show(if kvs.length < sizeLine then _ else none)=_;rw[if_pos (by rw[sizeLine_eq]; omega)]
theorem HF{x:D}:Kd [(Sum.inl (j:Int),x)] [j] 1:=by
 refine⟨λk=>?_,qe _⟩
 by_cases c:k=j
 .subst c
  simp[bL]
 .simp[bL,c]
  omega
theorem zh8{ns:Qa Str}{A:Qa Wy}{Q:U×Qa U->Prop}(h:Wv ns.length m 50 m 0 A)(k:∀ W R L,WW m A W R L->Q (.l<|W.map eV,[.d<|gc ns m A])):Wo (Au [.d<|gc ns m A]) Q:=by
 have ln:=h.ln;have Gm:((m+1:Nat):Int) - 1=(m:Int):=by omega
 unfold gc at k ⊢;simp![Au,LO,Kg,jt,uG];refine mV (λbs cs ρ=>∃ (kvs:Qa (Key×D)) (R:Qa Nat) (v5 v6 v7:Qb U),ρ=[some<|U.d<|.tuple [.tuple<|ns.map .str,.int ((m+1:Nat):Int),.tuple<|A.map eV],some<|.d<|.tuple<|ns.map .str,some<|.d<|.int ((m+1:Nat):Int),some<|.d<|.tuple<|A.map eV,some<|.k kvs,v5,v6,v7,none]/\Kd kvs R (bs.length+1)/\RI bs R) ⟨_,[0],_,_,_,rfl,HF,by simp,(λw hw=>by cases hw),λj hj=>.inl<|qq.mp hj⟩ ?_ ?_
 .rintro bs w cs _ ea ⟨kvs,R,v5,v6,v7,rfl,hk,hr⟩
  have hw:w∈A:=by rw[ea]; simp
  have lb:bs.length<=50:=by have:=congrArg List.length ea; rw[qt]at this; omega
  have up:=h.up;rw[ea]at up;have st:=hr.step (h.lt w hw).1 (uu up).2;have kl:=hk.ln;have ew:eV w=.tuple [.int (w.1.1:Int),.int (w.1.2:Int),fW w.2]:=rfl;have hi:=hk.eq w.1.1;unfold EY at st
  by_cases c:w.1.1∈R
  .rw[decide_eq_true c]at hi
   rw[if_pos c]at st;simp![ew,i5,hi,sY (show kvs.length < 1000 by omega)];exact⟨_,_,_,_,_,rfl,hk.put _,st⟩
  .rw[decide_eq_false c]at hi
   rw[if_neg c]at st;simp![ew,i5,hi];exact⟨_,_,_,_,_,rfl,hk.up (by simp),st⟩
 .rintro _ ⟨kvs,R,v5,v6,v7,rfl,hk,hr⟩
  simp![Gm,Kg,jt,uG];rw[<-List.map_reverse];refine mV (λbs cs ρ=>∃ (kK:Qa (Key×D)) (L:Qa Nat) (v5 v6 v7:Qb U),ρ=[some<|U.d<|.tuple [.tuple<|ns.map .str,.int ((m+1:Nat):Int),.tuple<|A.map eV],some<|.d<|.tuple<|ns.map .str,some<|.d<|.int ((m+1:Nat):Int),some<|.d<|.tuple<|A.map eV,some<|.k kvs,v5,v6,v7,some<|.k kK]/\Kd kK L (bs.length+1)/\LI m bs L) ⟨_,[m],_,_,_,rfl,HF,by simp,(λw hw=>by cases hw),λj hj=>.inl<|qq.mp hj⟩ ?_ ?_
  .rintro bs w cs _ ea ⟨kK,L,v5,v6,v7,rfl,fB,hl⟩
   have gW:A=cs.reverse++w::bs.reverse:=by
    have:=congrArg List.reverse ea;rw[List.reverse_reverse,List.reverse_append,List.reverse_cons,List.append_assoc]at this;exact this
   have lb:bs.length<=50:=by have:=congrArg List.length ea; rw[qt,List.length_reverse]at this; omega
   have up:=h.up;rw[gW]at up;have st:=hl.step (w:=w) λv hv=>by
    have jc:v∈bs.reverse:=List.mem_reverse.mpr hv;have va:v∈A:=by rw[gW]; exact qw _<|qo _ jc
    have:=(Ò.mp (Ô.mp up).2.1).1 v jc;unfold Lx at this;exact⟨(h.lt v va).1,by omega⟩
   have kl:=fB.ln;have ew:eV w=.tuple [.int (w.1.1:Int),.int (w.1.2:Int),fW w.2]:=rfl;have hi:=fB.eq w.1.2;unfold EZ at st
   by_cases c:w.1.2∈L
   .rw[decide_eq_true c]at hi
    rw[if_pos c]at st;simp![ew,i5,hi,sY (show kK.length < 1000 by omega)];exact⟨_,_,_,_,_,rfl,fB.put _,st⟩
   .rw[decide_eq_false c]at hi
    rw[if_neg c]at st;simp![ew,i5,hi];exact⟨_,_,_,_,_,rfl,fB.up (by simp),st⟩
  .rintro _ ⟨kK,L,v5,v6,v7,rfl,fB,hl⟩
   simp!;refine HG (b:=wk R L) (e:=eV) (by rw[sizeLine_eq]; omega) (λw hw ys=>?_) ?_
   .have ew:eV w=.tuple [.int (w.1.1:Int),.int (w.1.2:Int),fW w.2]:=rfl
    have h1:=hk.eq w.1.1;have h2:=fB.eq w.1.2;unfold wk;rw[ew];cases c1:decide (w.1.1∈R)
    .rw[c1]at h1
     simp![i5,h1]
    .rw[c1]at h1
     cases c2:decide (w.1.2∈L)
     .rw[c2]at h2
      simp![i5,h1,h2]
     .rw[c2]at h2
      simp![i5,h1,h2]
   .simp!
    exact k _ R L ⟨hr,⟨hl.z,λw hw=>hl.c w<|List.mem_reverse.mpr hw,λj hj=>(hl.b j hj).imp id λ⟨w,hw,z⟩=>⟨w,List.mem_reverse.mp hw,z⟩⟩,rfl⟩
end K47
open PySem L2
namespace K47
open PySem L2
noncomputable def at2(bs:Qa Wy)(j:Nat):Qa Wy:=bs.filter λw=>decide<|w.1.2=j
structure SI (n:Nat) (bs:Qa Wy) (ps vs:Qa (Pq Rat)) (kvs:Qa (Key×D)):Prop where
 ln:kvs.length<=bs.length
 e0:bs=[]->vs=[]
 ky:∀ j:Nat,(bL kvs<|Sum.inl (j:Int)).isSome=true↔∃ w∈bs,w.1.2=j
 vl:∀ (j:Nat) (d:D),bL kvs (Sum.inl (j:Int))=some d->∃ (t:Nat) (p:Pq Rat),d=.int (t:Int)/\vs[t]?=some p/\PZ n (17 * bs.length) j p/\∀ g,aJ p g=((at2 bs j).map λw=>aJ (K47.vl ps w.1.1)<|Ev n w.2 g).sum
 la:∀ cs w,bs=cs++[w]->w9 bs w.1.2->∃ t:Nat,bL kvs (Sum.inl (w.1.2:Int))=some (.int (t:Int))/\t+1=vs.length
section
variable{bs:Qa Wy}{ps vs ws:Qa (Pq Rat)}{kvs:Qa (Key×D)}{w:Wy}{t t0:Nat}{r p0:Pq Rat}
theorem O3(h:w.1.2≠j):at2 (bs++[w]) j=at2 bs j:=by
 unfold at2;rw[List.filter_append,List.filter_cons_of_neg (by simpa using h),List.filter_nil,List.append_nil]
theorem HE:at2 (bs++[w]) w.1.2=at2 bs w.1.2++[w]:=by
 unfold at2;rw[List.filter_append,List.filter_cons_of_pos (by simp),List.filter_nil]
theorem O2(no:∀ v∈bs,v.1.2≠w.1.2):at2 bs w.1.2=[]:=List.filter_eq_nil_iff.mpr λv hv=>by simpa using no v hv
theorem JE{xs ys:Qa α}{a b:α}(h:xs++[a]=ys++[b]):xs=ys/\a=b:=by
 have:=List.append_inj' h rfl;exact⟨this.1,List.singleton_inj.mp this.2⟩
theorem SI.NB(h:SI n bs ps vs kvs){x:D}(j:Nat):(bL (cf kvs (Sum.inl (w.1.2:Int)) x)<|Sum.inl (j:Int)).isSome=true↔∃ v∈bs++[w],v.1.2=j:=by
 by_cases c:j=w.1.2
 .subst c
  rw[oB];exact⟨λ_=>⟨w,by simp,rfl⟩,λ_=>rfl⟩
 .rw[uU<|CY c,h.ky]
  constructor
  .rintro⟨v,hv,e⟩
   exact⟨v,Â _ hv,e⟩
  .rintro⟨v,hv,e⟩
   rcases Á.mp hv with hv|hv
   .exact⟨v,hv,e⟩
   .cases qq.mp hv
    exact absurd e.symm c
theorem SI.M9(h:SI n bs ps vs kvs){x:D}{d:D}(c:j≠w.1.2)(e:bL (cf kvs (Sum.inl (w.1.2:Int)) x) (Sum.inl (j:Int))=some d):∃ (t:Nat) (p:Pq Rat),d=.int (t:Int)/\(vs++ws)[t]?=some p/\PZ n (17 * (bs++[w]).length) j p/\∀ g,aJ p g=((at2 (bs++[w]) j).map λw=>aJ (K47.vl ps w.1.1)<|Ev n w.2 g).sum:=by
 rw[uU<|CY c]at e;have(t,p,e1,e2,e3,e4):=h.vl j d e;refine⟨t,p,e1,gy e2,e3.up (qe _) (by simp; omega),λg=>?_⟩;rw[O3<|Ne.symm c];exact e4 g
theorem SI.new(h:SI n bs ps vs kvs)(no:∀ v∈bs,v.1.2≠w.1.2)(ht:(vs++ws)[t]?=some r)(hr:PZ n (17 * bs.length+11) w.1.2 r)(hl:∀ g,aJ r g=aJ (K47.vl ps w.1.1) (Ev n w.2 g))(up:(bs++[w]).Pairwise Lx)(lt:∀ v∈bs++[w],v.1.1 < v.1.2)
  (hla:t+1=(vs++ws).length\/(ws=[]/\w.1.1=0)\/(ws=[]/\(∃ v∈bs,v.1.2=w.1.1)/\bL kvs (Sum.inl (w.1.1:Int))=some (.int (t:Int)))):SI n (bs++[w]) ps (vs++ws) (cf kvs (Sum.inl (w.1.2:Int))<|.int (t:Int)):=by
 refine⟨?_,λz=>absurd z (by simp),λj=>h.NB j,λj d e=>?_,λcs v Gs hC=>?_⟩
 .have:=yX (pl:=kvs) (key:=(Sum.inl (w.1.2:Int):Key)) (x:=.int (t:Int))
  have:=h.ln;simp;omega
 .by_cases c:j=w.1.2
  .subst c
   rw[oB]at e;cases e;refine⟨t,r,rfl,ht,hr.up (qe _) (by simp; omega),λg=>?_⟩;rw[HE,O2 no,List.nil_append,List.map_cons,List.map_nil,List.sum_cons,List.sum_nil,Rat.add_zero,hl]
  .exact h.M9 c e
 .have(rfl,rfl):=JE Gs
  refine⟨t,oB,?_⟩;rcases hla with z|⟨rfl,z⟩|⟨rfl,z,zv⟩
  .exact z
  .have b0:=XM up lt hC z
   rw[h.e0 b0]at ht;simp at ht
  .have(cs,v,eb,e1,hC'):=SR up lt hC no z
   have(t',e2,e3):=h.la cs v eb hC';rw[e1,zv]at e2;have e4:(t:Int)=(t':Int):=by injection e2 with e2; injection e2
   rw[List.append_nil];omega
theorem SI.plus(h:SI n bs ps vs kvs)(n1:1<=n)(n3:n<=3)(hd:w.1.2<=cc n)(e0:bL kvs (Sum.inl (w.1.2:Int))=some (.int (t0:Int)))(h0:vs[t0]?=some p0)(hp:PZ n (17 * bs.length) w.1.2 p0)(hq:∀ g,aJ p0 g=((at2 bs w.1.2).map λw=>aJ (K47.vl ps w.1.1)<|Ev n w.2 g).sum)(hr:PZ n (17 * bs.length+11) w.1.2 r)(hl:∀ g,aJ r g=aJ (K47.vl ps w.1.1) (Ev n w.2 g)):
  SI n (bs++[w]) ps (vs++(ws++[jq 1 p0 r])) (cf kvs (Sum.inl (w.1.2:Int))<|.int ((vs.length+ws.length:Nat):Int)):=by
 refine⟨?_,λz=>absurd z (by simp),λj=>h.NB j,λj d e=>?_,λcs v Gs hC=>?_⟩
 .have:=yX (pl:=kvs) (key:=(Sum.inl (w.1.2:Int):Key)) (x:=.int ((vs.length+ws.length:Nat):Int))
  have:=h.ln;rw[show(bs++[w]).length=bs.length+1 by simp];omega
 .by_cases c:j=w.1.2
  .subst c
   rw[oB]at e;cases e;refine⟨_,jq 1 p0 r,rfl,by rw[<-List.append_assoc]; simp,((hp.up (qe _) (by omega:_<=17 * bs.length+11)).add hr n1 n3 hd<|.inl rfl).up (qe _) (by simp; omega),λg=>?_⟩;rw[HE,List.map_append,K47.iK,JH hp.pg.nd,hq,hl,List.map_cons,List.map_nil,List.sum_cons,List.sum_nil,Rat.add_zero,show((1:Int):Rat)=1 from rfl,Rat.one_mul]
  .exact h.M9 c e
 .have(rfl,rfl):=JE Gs
  exact⟨_,oB,by simp; omega⟩
end
end K47
open PySem L2
namespace K47
open PySem L2
theorem bd0:Bd 12 12000000 0:=jO (n:=0) (d:=1) (by decide) (by decide) (by decide)
structure RR (n m:Nat) (A:Qa Wy) (ps:Qa (Pq Rat)) (rs:Qa D) (vs:Qa (Pq Rat)) (p:Pq Rat):Prop where
 rv:RV n rs vs
 ln:rs.length<=4 * A.length+4
 la:∃ t,vs[t]?=some p/\t+1=vs.length
 pz:PZ n 1000 m p
 eq:∀ g,aJ p g=aJ (vl ps m) g
theorem SQ{c b e:Nat}{A bs cs:Qa Wy}{w:Wy}(h:Wv n m c b e A)(ea:A=bs++w::cs):at2 A w.1.1=at2 bs w.1.1:=by
 have up:=h.up;rw[ea]at up;have hp:=(Ô.mp up).2.1;have e:(w::cs).filter (λv:Wy=>decide<|v.1.2=w.1.1)=[]:=List.filter_eq_nil_iff.mpr λv hv=>by
  have jc:v∈A:=by rw[ea]; exact qw _ hv
  have l1:=(h.lt v jc).1;have:w.1.1<=v.1.1:=by
   rcases qv.mp hv with rfl|hv
   .exact qe _
   .have:=(Ò.mp hp).1 v hv
    unfold Lx at this;omega
  simp;omega
 unfold at2;rw[ea,List.filter_append,e,List.append_nil]
theorem O1{ns:Qa Str}{A:Qa Wy}{ps:Qa (Pq Rat)}{Q:U×Qa U->Prop}(n1:1<=ns.length)(n3:ns.length<=3)(m1:1<=m)(m6:m<=cc ns.length)(h:Wv ns.length m 50 m 0 A)(I:WI ns.length m A ps)
  (k:∀ rs vs p,RR ns.length m A ps rs vs p->Q (.d<|.tuple [.tuple<|ns.map .str,.tuple rs],[.d<|gc ns m A])):Wo (vA [.d<|gc ns m A]) Q:=by
 have lnA:=h.ln;simp![vA,L8];refine zh8 h λW R L hW=>?_;simp!;have hs:W.Sublist A:=by rw[hW.e]; exact List.filter_sublist
 have hv:=h.sub hs;have lnW:W.length<=A.length:=hs.length_le;refine mV (λbs cs ρ=>∃ (u:U) (vs:Qa (Pq Rat)) (kvs:Qa (Key×D)) (v3 v4 v5 v6:Qb U),ρ=[some<|U.d<|gc ns m A,some u,some<|.k kvs,v3,v4,v5,v6,none]/\Md ns.length (4 * bs.length) vs u/\SI ns.length bs ps vs kvs) ⟨_,[],[],_,_,_,_,rfl,?_,?_⟩ ?_ ?_
 .exact⟨[],[],[],rfl,rfl,qe _,Ì _,⟨rfl,λi r v e=>by simp at e⟩,λe he=>by cases he⟩
 .refine⟨qe _,λ_=>rfl,λj=>⟨λz=>?_,λz=>?_⟩,λj d e=>?_,λcs w e=>?_⟩
  .cases z
  .have(w,hw,_):=z
   cases hw
  .cases e
  .simp at e
 .rintro bs w cs _ ea ⟨u,vs,kvs,v3,v4,v5,v6,rfl,hu,hS⟩
  have hw:w∈W:=by rw[ea]; simp
  have(he,h0):=hv.en w hw;have(l1,l2):=hv.lt w hw;have lb:bs.length+1<=W.length:=by rw[ea]; simp
  have sb:(bs++[w]).Sublist W:=by
   rw[ea];exact(List.Sublist.refl bs).append<|List.singleton_sublist.mpr qp
  have vI:=hv.up.sublist sb;have lt':∀ v∈bs++[w],v.1.1 < v.1.2:=λv jc=>(hv.lt v<|sb.subset jc).1;have ew:eV w=.tuple [.int (w.1.1:Int),.int (w.1.2:Int),fW w.2]:=rfl;have kl:=hS.ln;have Nt:bL kvs (Sum.inl (w.1.2:Int))=none->∀ v∈bs,v.1.2≠w.1.2:=λe v jc z=>by
   have:=(hS.ky w.1.2).mpr ⟨v,jc,z⟩;rw[e]at this;cases this
  by_cases c:w.1.1=0
  .have e1:bL kvs (Sum.inl (w.1.1:Int))=none:=by
    cases e:bL kvs (Sum.inl (w.1.1:Int))with
    | none=>rfl
    | some d=>
     have(v,jc,ev):=(hS.ky w.1.1).mp (by rw[e]; rfl);have:=lt' v (Â _ jc);omega
   simp![ew,i5,e1,Option.getD_none];refine V7 n1 n3 hu (by omega) he h0 λu' t ws h1 h2 h3=>?_;have hl:∀ g,aJ (cu ns.length w.2) g=aJ (vl ps w.1.1) (Ev ns.length w.2 g):=λg=>by
    rw[DP,c,SS h I];unfold Ev;rw[<-DQ (Dd _),yY,yD (G4 he.lt).ln]
   cases e2:bL kvs (Sum.inl (w.1.2:Int))with
   | none=>
    simp![i5,e2,Option.isSome_none,sY (show kvs.length < 1000 by omega)];exact⟨u',vs++ws,_,_,_,_,_,rfl,h1.up (by omega),hS.new (Nt e2) h2 ((jA he).up (by omega) (by omega)) hl vI lt'<|h3.imp_right λz=>.inl ⟨z,c⟩⟩
   | some d=>
    have(t0,p0,rfl,rq,wj,FR):=hS.vl w.1.2 d e2;have er:PyData.tuple [.str "plus",.int (t0:Int),.int (t:Int)]=r3 "plus" t0 t:=rfl;have wg:PZ ns.length (17 * bs.length+11) w.1.2 (cu ns.length w.2):=(jA he).up (by omega) (by omega);have i1:=(qk.mp<|gy (ws:=ws) rq).1;have i2:=(qk.mp h2).1;have(jD,iN,jE,rfl,_):=id h1.ex;simp![i5,e2,Option.isSome_some,er];refine vj h1 n3 (by omega) (.plus i1 i2 (gy rq) h2 (wj.up (qe _) (by omega)) wg (by omega) (by omega)) λu2 g1=>?_;simp![sY (show kvs.length < 1000 by omega)];rw[List.append_assoc]at g1;exact⟨u2,_,_,_,_,_,_,rfl,g1.up (by omega),hS.plus n1 n3 (by omega) e2 rq wj FR wg hl⟩
  .have(v,NK,ev):=hW.ahead hw c
   have NJ:v∈bs:=by
    rw[ea]at NK;rcases Á.mp NK with z|z
    .exact z
    .exfalso
     have l3:=(hv.lt v (by rw[ea]; exact qw _ z)).1;have up:=hv.up;rw[ea]at up;rcases qv.mp z with rfl|z
     .omega
     .have:=(Ò.mp (Ô.mp up).2.1).1 v z
      unfold Lx at this;omega
   have so:=(hS.ky w.1.1).mpr ⟨v,NJ,ev⟩;have(d,e1):=ã.mp so;have(a,p,rfl,ha,hp,hq):=hS.vl w.1.1 d e1;have hwL:w.1.1∈L:=by
    have(wa,_,wl):=hW.mem.mp hw;exact hW.l.c w wa wl
   have du:∀ g,aJ p g=aJ (vl ps w.1.1) g:=λg=>by
    rw[hq,JF h I hW (by omega) hwL,if_neg c,Rat.zero_add];show _=((at2 W w.1.1).map _).sum;rw[SQ hv ea]
   simp![ew,i5,e1,Option.getD_some];refine V6 n1 n3 hu (by omega) he h0 ha hp (by omega) (by omega) λu' t ws r h1 h2 h4 h5 h3=>?_;have hl:∀ g,aJ r g=aJ (vl ps w.1.1) (Ev ns.length w.2 g):=λg=>by rw[h5,du]
   cases e2:bL kvs (Sum.inl (w.1.2:Int))with
   | none=>
    simp![i5,e2,Option.isSome_none,sY (show kvs.length < 1000 by omega)];exact⟨u',vs++ws,_,_,_,_,_,rfl,h1.up (by omega),hS.new (Nt e2) h2 (h4.up (by omega)<|qe _) hl vI lt'<|h3.imp_right λz=>.inr ⟨z.1,⟨v,NJ,ev⟩,by rw[e1,z.2]⟩⟩
   | some d=>
    have(t0,p0,rfl,rq,wj,FR):=hS.vl w.1.2 d e2;have er:PyData.tuple [.str "plus",.int (t0:Int),.int (t:Int)]=r3 "plus" t0 t:=rfl;have wg:PZ ns.length (17 * bs.length+11) w.1.2 r:=h4.up (by omega) (qe _);have i1:=(qk.mp<|gy (ws:=ws) rq).1;have i2:=(qk.mp h2).1;have(jD,iN,jE,rfl,_):=id h1.ex;simp![i5,e2,Option.isSome_some,er];refine vj h1 n3 (by omega) (.plus i1 i2 (gy rq) h2 (wj.up (qe _) (by omega)) wg (by omega) (by omega)) λu2 g1=>?_;simp![sY (show kvs.length < 1000 by omega)];rw[List.append_assoc]at g1;exact⟨u2,_,_,_,_,_,_,rfl,g1.up (by omega),hS.plus n1 n3 (by omega) e2 rq wj FR wg hl⟩
 .rintro _ ⟨u,vs,kvs,v3,v4,v5,v6,rfl,hu,hS⟩
  have(rs,qs,pl,rfl,q1,q2,q3,q4,q5):=id hu.ex;have cl:=Cg (n:=ns.length) (pl:=pl);have e0:bp [PyData.tuple<|ns.map .str,.int ((m+1:Nat):Int),.tuple<|A.map eV] 0=some (.tuple<|ns.map .str):=rfl;rcases List.eq_nil_or_concat W with z|⟨cs,w,z⟩
  .have rs0:rs=[]:=by
    have:=q4.1;rw[hS.e0 z]at this;exact é.mp this
   subst rs0;unfold gc at k ⊢;simp![e0,List.isEmpty_nil,if_true];have kk:=k [qR 0] [eN ns.length 0] (eN ns.length 0) ⟨⟨rfl,λi r v e1 e2=>?_⟩,by simp,⟨0,rfl,rfl⟩,PZ.nil,λg=>?_⟩
   .exact kk
   .have hi:=(qk.mp e1).1
    have i0:i=0:=by simp at hi; omega
    subst i0;cases e1;cases e2;exact .num bd0
   .rw[show eN ns.length 0=[] from rfl,gz,La h I hW.r m (qe _)<|hW.none m1 z]
  .rw[List.concat_eq_append]at z
   have(wm,hC):=WW.last h hW z;have(t,e1,e2):=hS.la cs w z (by rw[wm]; exact hC);rw[wm]at e1;have(t',p,e3,e4,e5,e6):=hS.vl m _ e1;have tt:(t:Int)=(t':Int):=by injection e3
   have tt':t'=t:=by omega
   subst tt';have rl:=q4.1;have ne:rs.isEmpty=false:=by
    cases rs with
    | nil=>simp at rl; omega
    | cons=>rfl
   unfold gc at k ⊢;simp![ne,e0];refine k rs vs p ⟨q4,by omega,⟨_,e4,e2⟩,e5.up (qe _) (by omega),λg=>?_⟩;rw[e6,JF h I hW (qe _) hW.l.z,if_neg (by omega),Rat.zero_add];rfl
end K47
open PySem L2
namespace K47
open PySem L2
theorem SO{d a:Nat}{p q:Pq Rat}{u1 u2:U}{Q:U×Qa U->Prop}(n1:1<=n)(n3:n<=3)(nj:u1.fz=some (.dict<|bM fR p))(lN:u2.fz=some (.dict<|bM fR q))(l1:p.length<=1)(hp:PZ n 0 1 p)(hq:PZ n d a q)(ha:a+1<=cc n)(hd:d<=3000)(kq:∀ lF,Q (.t<|bf fR<|iF p q,[dT p,lF])):Wo (qG [u1,u2]) Q:=by
 have(_,d6):=pf (n:=n);have lq:=hq.pg.len n1 n3 (by omega);have lm:p.length * q.length<=1 * 35:=ð l1 lq;refine Lb nj lN hp.pg.nd hq.pg.nd hp.pg.bd hq.pg.bd (λt ht=>(hp.pg.ky t ht).ln) (λt ht=>(hq.pg.ky t ht).ln) (by omega) ux ux (by rw[<-Nat.pow_add]; exact pw (by omega)) (pw (by omega)) (pw (by omega)) (pA (by omega)) (pA (by omega)) ?_ (Nat.mul_pos (Nat.pow_pos (by decide))<|Nat.pow_pos (by decide)) (by omega) (by omega) (by omega) λlF _=>kq lF;refine Ë (Ê _<|qy lm (by decide:1 * 35<=2^6)) ?_;rw[<-Nat.pow_add,<-Nat.pow_add];exact pA (by omega)
theorem zjN{ns:Qa Str}{rs:Qa D}{vs:Qa (Pq Rat)}{p:Pq Rat}{t:Nat}{Q:U×Qa U->Prop}(n1:1<=ns.length)(n3:ns.length<=3)(oW:RV ns.length rs vs)(hl:rs.length<=300)(ht:vs[t]?=some p)(tl:t+1=vs.length)
  (k:Q (.d<|pd p,[.d<|.tuple [.tuple<|ns.map .str,.tuple rs]])):Wo (Av [.d<|.tuple [.tuple<|ns.map .str,.tuple rs]]) Q:=by
 have rl:=oW.1;simp![Av,L6];refine s9 (λi ρ=>i<=rs.length/\∃ v4 v5,ρ=[some<|U.d<|.tuple [.tuple<|ns.map .str,.tuple rs],some<|.d<|.tuple<|ns.map .str,some<|.d<|.tuple rs,some<|.l<|(vs.take i).map pd,v4,v5]) ⟨by omega,_,_,rfl⟩ ?_ ?_
 .rintro i row _ hd ⟨hi0,v4,v5,rfl⟩
  have hi:=(qk.mp hd).1;have ip:i < vs.length:=by omega
  have hr:=oW.2 i row _ hd (qm ip);have et:vs.take (i+1)=vs.take i++[vs[i]]:=List.take_succ_eq_append_getElem ip;generalize hvv:vs[i]=vv at hr et;have hz:((vs.take i).map pd).length < 16777216:=by
   rw[List.length_map,List.length_take];omega
  have fin:∀ v4 v5,(i+1<=rs.length/\∃ v4' v5',[some<|U.d<|.tuple [.tuple<|ns.map .str,.tuple rs],some<|.d<|.tuple<|ns.map .str,some<|.d<|.tuple rs,some<|.l<|(vs.take i).map pd++[.dict<|bM fR vv],v4,v5]=[some<|U.d<|.tuple [.tuple<|ns.map .str,.tuple rs],some<|.d<|.tuple<|ns.map .str,some<|.d<|.tuple rs,some<|.l<|(vs.take<|i+1).map pd,v4',v5']):=λv4 v5=>⟨hi,v4,v5,by rw[et,List.map_append]; rfl⟩;have at_:∀ {a:Nat} {q:Pq Rat},a < i->vs[a]?=some q->bp ((vs.take i).map pd) (a:Int)=some (.dict<|bM fR q):=λ{a q} ha e=>by
   refine Ci ?_;rw[List.getElem?_take,if_pos ha];exact e
  cases hr with
  | @num f hf=>
   have pn:=L4 (n:=ns.length) (f:=f) n3;simp![qR,pn,hz];exact fin _ _
  | @cW j hj=>
   have pn:=zhH (n:=ns.length) (k:=j) hj n3;simp![vY,pn,hz];exact fin _ _
  | @plus a b d c p q ha hb ea eb hp hq hc Ge=>
   have ad:=Hx (s:=1) (u1:=.d (.dict<|bM fR p)) (u2:=.d (.dict<|bM fR q)) n1 n3 (.inl rfl) rfl (.inl rfl) hp hq hc Ge;have e1:bp [PyData.int 1,.int (-1)] 0=some (.int 1):=rfl;simp![r3,at_ ha ea,at_ hb eb,ad,hz,e1];exact fin _ _
  | @times a b d c p q ha hb ea eb l1 hp hq hc Ge=>
   simp![r3,at_ ha ea,at_ hb eb];refine SO n1 n3 rfl rfl l1 hp hq hc Ge λu2=>?_;simp![hz];exact fin _ _
 .rintro _ ⟨_,v4,v5,rfl⟩
  rw[show vs.take rs.length=vs from List.take_of_length_le (by omega)];have la:bp (vs.map pd) (-1)=some (pd p):=by
   unfold bp dD;rw[if_neg (by decide),if_pos (by rw[List.length_map]; omega),bd,List.length_map,show -1+((vs.length:Nat):Int)=(t:Int) by omega,List.getElem?_map,Int.toNat_natCast,ht];rfl
  simp![la];exact k
end K47
open PySem L2
namespace K47
open PySem L2
theorem Iz{neg:Bool}{d:D}{k M:Nat}(h:fD k M d)(hk:k<=64):l8 neg (.d d) (.d d)=some (.d<|.bool (!neg)):=by
 rw[h.eqD h hk hk,PySem.SeqAt.eqv_refl d h.lay];cases neg<;>rfl
theorem Zm{r:Rat}(hr:Bd 12 12000000 r):Aw [.d<|fR r]=some (.d<|.bool true,[.d<|fR r]):=by
 refine i8 ?_;have(gd,gn):=hr.size (by decide);have d1:=t9 r;have lf:=vD (n:=r.num) (d:=(r.den:Int)) (by omega) (BL d1 (by omega));rw[Rat.num_divInt_den]at lf;have er:fR r=.tuple [.int r.num,.int (r.den:Int)]:=rfl;simp![Aw,Mv,er];refine s9 (λi ρ=>∃ v1,ρ=[some<|U.d<|.tuple [.int r.num,.int (r.den:Int)],v1]) ⟨_,rfl⟩ ?_ ?_
 .rintro i d _ hd ⟨v1,rfl⟩
  obtain⟨z,rfl⟩:∃ z:Int,d=.int z:=by
   have hm:=Ç hd;simp only[qv,List.not_mem_nil,or_false]at hm;rcases hm with rfl|rfl<;>exact⟨_,rfl⟩
  simp!;exact⟨_,rfl⟩
 .rintro _ ⟨v1,rfl⟩
  rw[<-er];have eq:=DJ (a:=r) (b:=r) (neg:=false);have Fv:aT (.d<|fR r) (.d<|.int 0)=some (.d<|.int r.num):=rfl;have ix1:aT (.d<|fR r) (.d<|.int 1)=some (.d<|.int (r.den:Int)):=rfl;simp![lf,eq,Fv,ix1,show((0:Int) < (r.den:Int))=True from eq_true (by omega),if_true]
theorem zA4{f:Rat}(h:Bd 12 12000000 f):fD 1 31 (fR f):=(P0 (n:=8) (Ë (h.size (by decide)).2 (by decide))<|Ë (h.size (by decide)).1 (by decide)).mono (qe _) (by decide)
theorem HD{ns:Qa Str}(n3:ns.length<=3)(ha:∀ z∈ns,aY 10 z):fD 1 400 (.tuple<|ns.map .str):=by
 refine(p6 (n:=3) (k:=0) (M:=102) (λd hd=>?_) (by rw[List.length_map]; exact n3)).mono (qe _) (by decide);have(z,hz,rfl):=À.mp hd;exact yI<|ha z hz
theorem zA5(xs:Qa α):rO (.l<|xs.map λ_=>PyData.bool true)=some (.d<|.bool true):=by
 have e:∀ xs:Qa α,(xs.map λ_=>PyData.bool true).mapM Bh=some (xs.map λ_=>true):=λxs=>by
  induction xs with
  | nil=>rfl
  | cons x xs ih=>
   rw[List.map_cons,List.mapM_cons,ih];rfl
 show((xs.map λ_=>PyData.bool true).mapM Bh).bind _=_;rw[e];show some (U.d<|.bool<|(xs.map λ_=>true).all id)=_;rw[List.all_map];simp
theorem K9{i:Int}:AA [.d<|.int i]=some (.d<|.bool true,[.d<|.int i]):=by
 refine i8 ?_;simp![AA,LY]
theorem O0{vs:Qa (Pq Rat)}{row:D}{v:Pq Rat}(h:Rw n vs i row v):zS [.d row,.d<|.int (n:Int),.d<|.int (i:Int)]=some (.d<|.bool true,[.d row,.d<|.int (n:Int),.d<|.int (i:Int)]):=by
 refine i8 ?_;have Nl:∀ {w:Str} {a b:Nat},(w = "plus"\/w = "times")->a < i->b < i->Wo (zS [.d<|r3 w a b,.d<|.int (n:Int),.d<|.int (i:Int)]) λo=>o=(.d<|.bool true,[.d<|r3 w a b,.d<|.int (n:Int),.d<|.int (i:Int)]):=λ{w a b} hw ha hb=>by
  have ec:fF [PyData.str w,.int (a:Int),.int (b:Int)] (some 1) none=[(a:Int),(b:Int)].map PyData.int:=rfl;have mn:Cn (.d<|.tuple [.int (a:Int),.int (b:Int)])=some (.d<|.int (if(b:Int) < a then(b:Int)else a)):=rfl;have mx:xM (.d<|.tuple [.int (a:Int),.int (b:Int)])=some (.d<|.int (if(b:Int) > a then(b:Int)else a)):=rfl;have ei:lR false (.d<|PyData.str w) (.d<|PyData.tuple [.str "plus",.str "less",.str "times"])=some (.d<|.bool true):=by rcases hw with rfl|rfl<;>rfl
  have w1:bS false (.d<|.str w) (.d<|.str "number")=some (.d<|.bool false):=by rcases hw with rfl|rfl<;>rfl
  have w2:bS false (.d<|.str w) (.d<|.str "letter")=some (.d<|.bool false):=by rcases hw with rfl|rfl<;>rfl
  simp![zS,Az,r3,w1,ec];refine sM (g:=PyData.int) (as:=[(a:Int),(b:Int)]) (e:=λ_=>.bool true) (by show 2<=16777216; decide) (λe he ys=>?_) ?_
  .simp![K9]
  .have a2:rO (.l [.bool true,.bool true])=some (.d<|.bool true):=rfl
   simp![a2,w2,ei,ec,mn,mx,show((0:Int)<=if(b:Int) < a then(b:Int)else a)=True from eq_true (by split<;>omega),show((if(b:Int) > a then(b:Int)else a) < (i:Int))=True from eq_true (by split<;>omega),if_true]
 cases h with
 | @num f hf=>simp![zS,Az,qR,Zm hf]
 | @cW j hj=>
  have ec:fF [PyData.str "letter",.int (j:Int)] (some 1) none=[(j:Int)].map PyData.int:=rfl;simp![zS,Az,vY,ec];refine sM (g:=PyData.int) (as:=[(j:Int)]) (e:=λ_=>.bool true) (by show 1<=16777216; decide) (λe he ys=>?_) ?_
  .simp![K9]
  .have a1:rO (.l [.bool true])=some (.d<|.bool true):=rfl
   simp![a1,show((0:Int)<=(j:Int))=True from eq_true (by omega),if_true,show decide ((j:Int) < (n:Int))=true from decide_eq_true (by omega)]
 | plus ha hb=>exact Nl (.inl rfl) ha hb
 | times ha hb=>exact Nl (.inr rfl) ha hb
end K47
open PySem L2
namespace K47
open PySem L2
theorem Zl{ns:Qa Str}{rs:Qa D}{vs:Qa (Pq Rat)}{l:Nat}(n3:ns.length<=3)(ha:∀ z∈ns,aY 10 z)(oW:RV ns.length rs vs)(h1:1<=rs.length)(hl:rs.length<=l)(hl3:l<=300):Ay [.d<|.tuple [.tuple<|ns.map .str,.tuple rs],.d<|.tuple<|ns.map .str,.d<|.int (l:Int)]=some (.d<|.bool true,[.d<|.tuple [.tuple<|ns.map .str,.tuple rs],.d<|.tuple<|ns.map .str,.d<|.int (l:Int)]):=by
 refine i8 ?_;have eq:=Iz (neg:=true) (HD n3 ha) (by decide);have c1:((1:Int)<=(rs.length:Int))=True:=eq_true (by omega);have c2:decide ((rs.length:Int)<=(l:Int))=true:=decide_eq_true (by omega);simp![Ay,Mq,eq,c1,c2,if_true];refine Ct (λi ρ ys=>ρ=[none,none,some<|.d<|.tuple<|ns.map .str]/\ys=(List.range i).map λ_=>PyData.bool true) (by rw[Ex,sizeLine_eq]; omega) (λi ρ ys h=>by rw[h.2]; simp) ⟨rfl,rfl⟩ (λi d ρ ys hd h=>?_) λρ ys h=>?_
 .have(rfl,rfl):=h
  have(r,hr,rfl):=Eu hd;have hi:=(qk.mp hr).1;have ip:i < vs.length:=by have:=oW.1; omega
  have ro:=O0 (oW.2 i r _ hr<|qm ip);rw[Nat.zero_add];simp![ro];rw[List.range_succ,List.map_append];rfl
 .have(rfl,rfl):=h
  simp![zA5]
theorem SN{vs:Qa (Pq Rat)}{row:D}{v:Pq Rat}(n3:n<=3)(hi:i<=300)(h:Rw n vs i row v):fD 2 1000 row:=by
 have Nm:∀ {w:Str} {a b:Nat},aY 10 w->a < i->b < i->fD 2 1000 (r3 w a b):=λ{w a b} hw ha hb=>(p6 (n:=3) (k:=0) (M:=102) (λd hd=>by
   simp only[qv,List.not_mem_nil,or_false]at hd;rcases hd with rfl|rfl|rfl
   .exact yI (n:=10) hw
   .exact(vd (n:=3) (by omega)).mono (by decide) (by decide)
   .exact(vd (n:=3) (by omega)).mono (by decide) (by decide))<|qe _).mono (by decide) (by decide)
 cases h with
 | @num f hf=>
  refine(p6 (n:=2) (k:=1) (M:=102) (λd hd=>?_)<|qe _).mono (by decide) (by decide);simp only[qv,List.not_mem_nil,or_false]at hd;rcases hd with rfl|rfl
  .exact(yI (n:=10) (by unfold aY; decide)).mono (by decide) (by decide)
  .exact(zA4 hf).mono (by decide) (by decide)
 | @cW j hj=>
  refine(p6 (n:=2) (k:=0) (M:=102) (λd hd=>?_)<|qe _).mono (by decide) (by decide);simp only[qv,List.not_mem_nil,or_false]at hd;rcases hd with rfl|rfl
  .exact yI (n:=10) (by unfold aY; decide)
  .exact(vd (n:=3) (by omega)).mono (by decide) (by decide)
 | plus ha hb=>exact Nm (by unfold aY; decide) ha hb
 | times ha hb=>exact Nm (by unfold aY; decide) ha hb
theorem V5{ns:Qa Str}{rs:Qa D}{vs:Qa (Pq Rat)}(n3:ns.length<=3)(ha:∀ z∈ns,aY 10 z)(oW:RV ns.length rs vs)(hl:rs.length<=300):fD 4 700000 (.tuple [.tuple<|ns.map .str,.tuple rs]):=by
 refine(p6 (n:=2) (k:=3) (M:=302000) (λd hd=>?_)<|qe _).mono (by decide) (by decide);simp only[qv,List.not_mem_nil,or_false]at hd;rcases hd with rfl|rfl
 .exact(HD n3 ha).mono (by decide) (by decide)
 .refine(p6 (n:=300) (k:=2) (M:=1000) (λd hd=>?_) hl).mono (by decide) (by decide)
  have(i,hi,rfl):=List.mem_iff_getElem.mp hd;exact SN n3 (by omega)<|oW.2 i _ _ (qm hi)<|qm (by have:=oW.1; omega)
noncomputable def lM(p:Pq Rat):jk:=p.map λt=>(kL t.1,[.inl t.2.num,.inl (t.2.den:Int)])
theorem Cp:∀ p:Pq Rat,oQ (bf fR p)=some (lM p)
 | []=>rfl
 | t::p=>by
  show(cJ<|fR t.2).bind (λv=>(oQ<|bf fR p).bind λr=>some<|(kL t.1,v)::r)=_;rw[Cp p];rfl
theorem zA6{a b:Qa Int}(h:kL a=kL b):a=b:=(List.map_inj_right λx y e=>by cases e; rfl).mp h
theorem V4{p q:Pq Rat}(hp:p.Perm q)(nd:bW q):iR (lM p) (lM q)=true:=by
 unfold iR;rw[show((lM p).length==(lM q).length)=true by unfold lM; rw[List.length_map,List.length_map,hp.length_eq]; exact beq_self_eq_true _,Bool.true_and];refine Þ.mpr λx hx=>?_;have(t,ht,rfl):=À.mp hx;have(j,hj):=List.mem_iff_getElem?.mp (hp.mem_iff.mp ht);refine decide_eq_true<|JY ?_ (j:=j) ?_
 .unfold lM
  rw[List.map_map];show(q.map λt=>kL t.1).Nodup;exact List.pairwise_map.mpr<|(List.pairwise_map.mp nd).imp λh e=>h<|zA6 e
 .unfold lM
  rw[List.getElem?_map,hj];rfl
theorem OZ{w:Bool}{u v:U}{p q:Pq Rat}(hu:rF u=some (bf fR p))(hv:rF v=some (bf fR q))(hp:p.Perm q)(nd:bW q):xK w u v=some (.d<|.bool w):=by
 unfold xK;rw[hu,hv];show(oQ<|bf fR p).bind (λf=>(oQ<|bf fR q).bind λg=>some<|U.d<|.bool<|iR f g==w)=_;rw[Cp,Cp];show some (U.d<|.bool<|iR (lM p) (lM q)==w)=_;rw[V4 hp nd];cases w<;>rfl
theorem UY{p q:Pq Rat}(n1:bW p)(z1:∀ t∈p,t.2≠0)(n2:bW q)(z2:∀ t∈q,t.2≠0)(h:∀ g,aJ p g=aJ q g):p.Perm q:=by
 have e:tG p=tG q:=IZ ⟨D6 n1,λt ht=>z1 t<|(oC p).mem_iff.mp ht⟩ ⟨D6 n2,λt ht=>z2 t<|(oC q).mem_iff.mp ht⟩ λg=>by rw[J4<|oC p,J4<|oC q,h]
 exact(oC p).symm.trans<|e▸oC q
theorem Hr(p:Pq Rat):rF (dT p)=some (bf fR p):=by
 show(if jF (bM fR p)=true then pH (bM fR p)else none)=_;rw[if_pos<|yg p,D4]
def Wb(d:D):Prop:=∃ ns m A,d=gc ns m A/\1<=ns.length/\ns.length<=3/\(∀ z∈ns,aY 10 z)/\1<=m/\m<=cc ns.length/\Wv ns.length m 50 m 0 A
theorem SM(n1:1<=n)(n3:n<=3):bp [PyData.int 8,.int 6,.int 5] ((n:Int) - 1)=some (.int ((cc n+1:Nat):Int)):=by
 rcases(by omega:n=1\/n=2\/n=3)with rfl|rfl|rfl<;>rfl
theorem zA7(ns:Qa Int)(hl:ns.length<=63):Wo (sD [.d<|.list<|ns.map .int]) λo=>o=(.d<|.bool true,[.d<|.list<|ns.map .int]):=by
 simp![sD,G6,List.length_map];refine s9 (λi ρ=>∃ (ts:Qa D) (o2 o3 o4 o5 o6:Qb U),ρ=[some<|.d<|.list<|ns.map .int,some<|.l ts,o2,o3,o4,o5,o6]/\ts.length=i/\∀ d∈ts,Wb d) ⟨_,_,_,_,_,_,rfl,rfl,λd hd=>by cases hd⟩ ?_ ?_
 .rintro i d _ hd ⟨ts,o2,o3,o4,o5,o6,rfl,ht,il⟩
  have(hi,rfl):=Ei hd;have hi4:i < 4:=by
   refine qi hi ?_;split<;>split<;>omega
  simp!;refine zAW (by omega) λx y=>?_;simp!;refine fJ (by decide) (by decide) λr x1 y1 r0 r1=>?_;simp!;refine Ux (by omega) (by omega) λls x2 y2 hls ha=>?_;have l1:1<=ls.length:=by omega
  have l3:ls.length<=3:=by omega
  have d4:=(pf (n:=ls.length)).1;simp![SM l1 l3];refine zA0 (most:=cc ls.length+1) l1 l3 (by omega) (qe _) λm A x4 y4 m1 m6 hv=>?_;simp!;exact⟨_,_,_,_,_,_,rfl,by simp[ht],λz hz=>by
   rcases Á.mp hz with hz|hz
   .exact il z hz
   .cases qq.mp hz
    exact⟨ls,m,A,rfl,l1,l3,ha,m1,m6,hv⟩⟩
 .rintro _ ⟨ts,o2,o3,o4,o5,o6,rfl,ht,il⟩
  have l4:ts.length<=4:=by
   rw[ht,Eo];split<;>split<;>omega
  have lc:=Ur ts none (some 1);simp![M4 (xs:=ts) (ys:=fF ts none (some 1)) (by omega)];refine s9 (λi ρ=>∃ (o1 o5 o6:Qb U),ρ=[some<|.d<|.list<|ns.map .int,o1,o2,o3,o4,o5,o6]) ⟨_,_,_,rfl⟩ ?_ ?_
  .rintro i d _ hd ⟨o1,o5,o6,rfl⟩
   have jI:Wb d:=by
    rcases Á.mp (Ç hd)with h|h
    .exact il d h
    .exact il d (Us h)
   have(ls,m,A,rfl,l1,l3,ha,m1,m6,hv):=jI;have lnA:=hv.ln;have(o,ew,ps,p,rfl,I,hp):=Zn (Q:=λo=>∃ ps p,o=(.d<|pd p,[.d<|gc ls m A])/\WI ls.length m A ps/\ps[m]?=some p) l1 l3 m1 m6 hv λps p I hp=>⟨ps,p,rfl,I,hp⟩;have(o,er,rs,vs,q,rfl,hR):=O1 (Q:=λo=>∃ rs vs q,o=(.d<|.tuple [.tuple<|ls.map .str,.tuple rs],[.d<|gc ls m A])/\RR ls.length m A ps rs vs q) l1 l3 m1 m6 hv I λrs vs q h=>⟨rs,vs,q,rfl,h⟩;have(t,oS,oR):=hR.la;have rl:=hR.rv.1;have rln:=hR.ln;have Fv:aT (.d<|gc ls m A) (.d<|.int 0)=some (.d<|.tuple<|ls.map .str):=rfl;have ix2:aT (.d<|gc ls m A) (.d<|.int 2)=some (.d<|.tuple<|A.map eV):=rfl;have e44:4 * (A.length:Int)+4=((4 * A.length+4:Nat):Int):=by omega
   have isR:=Zl (l:=4 * A.length+4) l3 ha hR.rv (by omega) rln (by omega);have eqT:=Iz (neg:=true) (V5 l3 ha hR.rv (by omega)) (by decide);have pz:=I.pz _ _ hp;have ep:vl ps m=p:=by
    unfold vl;rw[qB,hp];rfl
   have pq:q.Perm p:=UY hR.pz.pg.nd hR.pz.nz pz.pg.nd pz.nz λg=>by rw[hR.eq,ep]
   have eqP:=OZ (w:=false) (Hr q) (Hr p) pq pz.pg.nd;have N6:∀ p,pd p=.dict (bM fR p):=λ_=>rfl;simp![er,Fv,ix2,List.length_map,e44,isR,eqT];refine zjN l1 l3 hR.rv (by omega) oS oR ?_;simp![ew,N6,eqP];exact⟨_,_,_,rfl⟩
  .rintro _ ⟨o1,o5,o6,rfl⟩
   simp!
theorem OY(ns:Qa Int)(hl:ns.length<=63):∃ outs,sD [.d<|.list<|ns.map .int]=some (.d<|.bool true,outs):=⟨_,i8<|zA7 ns hl⟩
abbrev Hq(K:qc):Sp:=lI K 1 sD
theorem ym{X:Cx}(ha:Wr (PE X o ta))(hv:Wr (PE X value tv))(hs:swapsWith value (some<|.Attribute o f pos') pos.line X.env=pure false:=by rfl):Wr (PS X (.Assign [.Attribute o f pos'] value pos)<|uo X.K ta tv f):=⟨Rc ha.run hv.run hs⟩
theorem all_mk{l:PySem.W.OpenLaw}{fa:Qg}(X:K.In h)(G:h.Ns mainGlobals mg)(hfa:mg "law"=some (.ref fa)){cR jm aH bY:Qg}{ja qQ ie iw:Qb Qg}{bX fU:Array Qc}{gE oO:Nat}{i9 qL hX:Array (Qb Qc)}{ig ik ir ib eA iu:Qc}
  (a0:t7 K "NewRows" "add_new" "NewRows.add_new" Mh)
  (a1:t7 K "NewRows" "shared" "NewRows.shared" Mm)
  (a2:dq K "walked_ways" LC)
  (a3:dq K "way_row" KR)
  (a4:dq K "reckoning_of_web" Mc)
  (a5:dq K "_law_box" Li)
  (a6:dq K "_law_take" Ls)
  (a7:dq K "_law_names" LB)
  (a8:dq K "_law_fraction" Ml)
  (a9:dq K "_law_plus" Lr)
  (Ot:dq K "_law_times" LA)
  (Oq:dq K "_law_poly_add" Mj)
  (Oo:dq K "_law_poly_mult" Mg)
  (Om:dq K "_law_poly_number" MC)
  (Ol:dq K "_law_poly_letter" MB)
  (Oj:dq K "_law_multiple" L3)
  (Oi:dq K "_law_entry" Lz)
  (Oh:dq K "_law_web" Lh)
  (Og:dq K "_law_entry_poly" Mb)
  (Of:dq K "_law_web_poly" L1)
  (Oe:dq K "_law_is_fraction" Mz)
  (Od:dq K "_law_is_whole" L0)
  (Oc:dq K "_law_is_whole_row" Mt)
  (Ob:dq K "_law_is_reckoning" Ms)
  (Oa:dq K "_law_whole_poly" Ma)
  (N9:dq K "law" G7)
  (z0:PySem.W.nsIn K mainGlobals "len"=some none)
  (z1:PySem.W.nsIn K mainGlobals "reversed"=some none)
  (z2:PySem.W.nsIn K mainGlobals "tuple"=some none)
  (z3:PySem.W.nsIn K mainGlobals "int"=some none)
  (z4:PySem.W.nsIn K mainGlobals "range"=some none)
  (z5:PySem.W.nsIn K mainGlobals "abs"=some none)
  (z6:PySem.W.nsIn K mainGlobals "dict"=some none)
  (z7:PySem.W.nsIn K mainGlobals "zip"=some none)
  (z8:PySem.W.nsIn K mainGlobals "isinstance"=some none)
  (z9:PySem.W.nsIn K mainGlobals "bool"=some none)
  (EG:PySem.W.nsIn K mainGlobals "all"=some none)
  (EF:PySem.W.nsIn K mainGlobals "str"=some none)
  (EE:PySem.W.nsIn K mainGlobals "min"=some none)
  (ED:PySem.W.nsIn K mainGlobals "max"=some none)
  (EC:PySem.W.nsIn K mainGlobals "enumerate"=some none)
  (EI:BB K MQ M6=true)
  (eB:PySem.W.nsIn K mainGlobals "NOUGHT"=some (some<|.ref cR))
  (d5:K.lookup cR=some ⟨.type "tuple",ja,.seq bX gE,i9⟩)
  (dW:zF [.int<|0,.int<|1] bX.toList)
  (dU:bX.size<=sizeLine)
  (kW:PySem.W.nsIn K mainGlobals "ONE"=some (some<|.ref jm))
  (kJ:K.lookup jm=some ⟨.type "tuple",qQ,.seq fU oO,qL⟩)
  (kA:zF [.int<|1,.int<|1] fU.toList)
  (ku:fU.size<=sizeLine)
  (bK:PySem.W.nsIn K mainGlobals "NewRows"=some (some<|.ref aH))
  (cZ:PySem.W.keepIn K (.ref aH)=true)
  (cV:PySem.W.makesIn K aH=true)
  (cD:PySem.W.plainGet K aH Str.empty=true)
  (cG:PySem.W.hasDictIn K aH=true)
  (cC:PySem.W.plainOver K aH=true)
  (cA:PySem.W.findIn K (.ref aH) "__setattr__"=some (some<|.builtin "object.__setattr__"))
  (br:PySem.W.findIn K (.ref aH) "rows"=some none)
  (be:PySem.W.findIn K (.ref aH) "paper"=some none)
  (aU:PySem.W.findIn K (.ref aH) "places"=some none)
  (aL:PySem.W.findIn K (.ref aH) "mark_places"=some none)
  (c8:PySem.W.findIn K (.ref aH) "__init__"=some (some<|.ref bY))
  (cX:K.lookup bY=some ⟨ig,ie,.func<|PySem.W.fnOf "__init__" "NewRows.__init__" (lD Ah) (hU Ah) (zJ Ah) .none ik ir ib iw eA iu,hX⟩)
  (dh:PySem.W.codeIn K eA "NewRows.__init__"=true)
  (cF:PySem.W.keepIn K (.ref bY)=true)
  (cI:PySem.W.isFn K (.ref bY)=true)
  : ∃ fd:FuncData,(∀ (s:Qd) (v:Qc),BindsTo s fd ⟨[v],[]⟩ [("_law_script",v)])/\∀ base:Heap,K.In base->base.Ns mainGlobals mg->bP l.prog w K mg base gN 5 fa fd ["_law_script"] (lI K 1 sD):=by
 have(_,fd,F,g):=N9;cases hfa.symm.trans (PySem.W.mg_of X G g);refine⟨fd,λs v=>by have(_,_,_,_,_,_,_,_,_,rfl,_):=F.ex; exact .of_eq rfl,λbase _ _=>?_⟩;have hB:Bl mg ["len", "reversed", "tuple", "int", "range", "abs", "dict", "zip", "isinstance", "bool", "all", "str", "min", "max", "enumerate"]:=Bl.cons (Ä X G z0) (Bl.cons (Ä X G z1)<|Bl.cons (Ä X G z2)<|Bl.cons (Ä X G z3)<|Bl.cons (Ä X G z4)<|Bl.cons (Ä X G z5)<|Bl.cons (Ä X G z6)<|Bl.cons (Ä X G z7)<|Bl.cons (Ä X G z8)<|Bl.cons (Ä X G z9)<|Bl.cons (Ä X G EG)<|Bl.cons (Ä X G EF)<|Bl.cons (Ä X G EE)<|Bl.cons (Ä X G ED)<|Bl.cons (Ä X G EC)<|Bl.nil);have hT:=zAn EI;have d9:=PySem.W.mg_of X G eB;have de:lV K cR [0,1]:=⟨_,bX,gE,d5,rfl,rfl,dU,dW⟩;have iQ:=PySem.W.mg_of X G kW;have fV:lV K jm [1,1]:=⟨_,fU,oO,kJ,rfl,rfl,ku,kA⟩;have jh:=PySem.W.mg_of X G bK;have jn:=Du (st:=Ah) cX dh cF;have ee:dQ K aH:=⟨cD,cG,cC,cA⟩;have d0:∀ p∈([("rows",.l []),("paper",.l []),("places",.x []),("mark_places",.x [])]:Qa (Str×PU)),eT K aH p.1:=λ_ z=>by rcases qv.mp z with rfl|z; exact br; rcases qv.mp z with rfl|z; exact be; rcases qv.mp z with rfl|z; exact aU; rcases qv.mp z with rfl|z; exact aL; cases z
 have aF:OB K "NewRows" ["rows", "paper", "places", "mark_places"]:=OB.of bK ee λf hf=>by have(p,hp,rfl):=À.mp (show f∈([("rows",.l []),("paper",.l []),("places",.x []),("mark_places",.x [])]:Qa (Str×PU)).map (·.1) from hf); exact d0 p hp
 have cE:nK l.prog w K mg base "NewRows" [("rows",.l []),("paper",.l []),("places",.x []),("mark_places",.x [])]:=zBq (Z:=⟨l.prog,w,K,mg,base⟩) bK jh ⟨cV,c8,cI,cZ⟩ ee d0 jn (λz=>nomatch z) (by decide) (by decide) ⟨rfl,rfl,rfl,by decide +kernel,rfl,by decide +kernel,by decide +kernel⟩ (λ_ _ _ _ _ _ us hl=>by have(_,rfl):=BJ hl; rfl) λnd=>(aE (ym aa<|gu zi)<|aE (ym aa<|gu zi)<|aE (ym aa Jd)<|zG<|ym aa Jd)
 let Z:Zs:=⟨l.prog,w,K,mg,base⟩
 have B:Bs Z:=⟨hB,hT,⟨_,d9,de⟩,⟨_,iQ,fV⟩,aF,cE⟩;have C0:=zfw B a0;have C1:=zf2 B a1 C0;have C2:=zhX B (a2.z X G);have C3:=YI B (a3.z X G) C0 C1;have C4:=zeY B (a4.z X G) C2 C3 C0;have C5:=zk8 B (a5.z X G);have C6:=zjF B (a6.z X G);have C7:=zhY B (a7.z X G) C6;have C8:=zf0 B (a8.z X G);have C9:=zjG B (a9.z X G) C8;have C10:=zhZ B (Ot.z X G) C8;have OH:=zf4 B (Oq.z X G) C9;have OG:=zfz B (Oo.z X G) C9 C10;have OF:=zen B (Om.z X G);have C14:=zeo B (Ol.z X G);have C15:=zf3 B (Oj.z X G) C6 C8;have C16:=zh0 B (Oi.z X G) C6 C15;have C17:=zk9 B (Oh.z X G) C6 C16;have C18:=zeX B (Og.z X G);have C19:=zf5 B (Of.z X G) OH OG OF C18;have C20:=zep B (Oe.z X G) C8;have C21:=zf1 B (Od.z X G);have C22:=zd4 B (Oc.z X G) C20 C21;have C23:=zd5 B (Ob.z X G) C22;have C24:=zeZ B (Oa.z X G) OH OG OF C14;exact Qq (Z:=Z) B F C4 C5 C6 C7 C17 C19 C23 C24
theorem walk{l:PySem.W.OpenLaw}{q:Qe}{loose:Qa Str}{XP:(Str->Qb Qc)->Heap->Prop}{YP:Qh->Heap->Prop}{d:DefRec}{K:Params->qc}(hn:l.most=some 63)(wA:d.params.defaults=[])
  (hY:∀ (w:Qh) (h:Heap),YP w h->(K w.params).In h)
  (F:∀ (w:Qh) (mg:Str->Qb Qc) (fa:Qg) (h:Heap),(K w.params).In h->h.Ns mainGlobals mg->mg d.name=some (.ref fa)->
   ∃ fd:FuncData,(∀ (s:Qd) (u:Qc),BindsTo s fd ⟨[u],[]⟩ [("_law_script",u)])/\∀ base:Heap,(K w.params).In base->base.Ns mainGlobals mg->bP l.prog w (K w.params) mg base gN 5 fa fd ["_law_script"] (Hq<|K w.params)):
  PySem.W.WalkO q loose XP YP l.row.toRowW d [] (λf vs=>PySem.call f vs):=
 L2.mX (n:=63) (k:=5) (x := "_law_script") (CX:=λ_=>gN) (sp:=λw=>Hq<|K w.params) hn (by decide) wA ⟨rfl,by decide,by decide,rfl⟩ hY F (λw H a ns hl hO hS=>Rx hO hS<|OY ns hl) λ_ _ _ _ _ z=>z
end K47
namespace PySem.W.Fast
def tw7930760860820843194:=()
def tw4289475387140833896:=()
def tw2060966248747984634:=()
def tw5374427886883875655:=()
def tw6322570891104705028:=()
def tw8970820592327627839:=()
def tw15415688936648328955:=()
def tw8926629569371754288:=()
def tw16513103243531182470:=()
def tw9202431963262911678:=()
def tw10680609874698374408:=()
def tw14107314424829815614:=()
def tw15230133047599022933:=()
def tw4496467565632368207:=()
def tw10158969418877938783:=()
def tw6561212966951594279:=()
def tw2162127643238737530:=()
def tw33958185427086888:=()
def tw7432971079726991269:=()
def tw3641134083191347708:=()
def tw5156741064577259584:=()
def tw2848645164968628993:=()
def tw18091536270653756025:=()
def tw6968272647767324691:=()
def tw9872346684942228196:=()
def tw12395011757618103195:=()
def tw8632797765783591423:=()
def tw12802027660899055743:=()
def tw17848842225593625701:=()
def tw17628884121785596783:=()
def tw11110089466728558559:=()
def tw8744147303579912537:=()
def tw11375353250746260309:=()
def tw3866704861680318882:=()
def tw13975831833362595019:=()
def tw2785817527732859526:=()
def tw3781312215115831693:=()
def tw16971984877646563209:=()
def tw2807171401548489263:=()
def tw3578114683431550052:=()
def tw11713997086313070265:=()
def tw4023694765905390211:=()
def tw17200855755735534035:=()
def tw452349340468279702:=()
def tw17331156469492184418:=()
def tw17322925682157602356:=()
def tw2640090043464462904:=()
def tw14079110448778814768:=()
def tw15342962080608635073:=()
def tw8214554602278722926:=()
def tw3329246935416970204:=()
def tw17084666966169010756:=()
def tw3153452557313989440:=()
def tw14513851993429154641:=()
def tw7888898648446846124:=()
def tw15564578029406402916:=()
def tw9679284458314785016:=()
def tw13650772542082595288:=()
def tw8523228343348527589:=()
def tw1387445477683719284:=()
def tw18350304101575627694:=()
def tw16938709404793266865:=()
def tw79967481094422875:=()
def tw18335751716963931482:=()
def tw14044785984060756037:=()
def tw15714785208950978889:=()
def tw9051971896319154691:=()
def tw4488457816582345445:=()
def tw4415868492036535030:=()
def tw11953372555693292367:=()
def tw1484344669490178916:=()
def tw13625465058530865461:=()
def tw4240902064119382288:=()
def tw8290744479937824655:=()
def tw4541924880109475647:=()
def tw9713323773475338270:=()
def tw10972415786777258585:=()
def tw11347463563662587781:=()
def tw16987193623670729715:=()
def tw16776802161350737102:=()
def tw3012054274097588468:=()
def tw738030854954491523:=()
def tw15714974121467340657:=()
def tw17110989911051206040:=()
def tw6709054887916499728:=()
def tw17520606862286453467:=()
def tw1946616838354382328:=()
def tw16198475603778177043:=()
def tw7335147564910843641:=()
def tw10006584125848921619:=()
def tw15771896518176045133:=()
def tw5432378148583372057:=()
def tw15233456588099073471:=()
def tw3972862593898751765:=()
def tw6769815304438312995:=()
def tw4470959400683943739:=()
def tw2322238991218141273:=()
def tw12205425571484187810:=()
def tw17644403196698245672:=()
def tw10863009159439747507:=()
def tw4263191247956035707:=()
def tw17756121663301076321:=()
def tw15361582862115252092:=()
def tw297183792442447326:=()
def tw8847053226748476410:=()
def tw12874970705483971636:=()
def tw16510690820319506215:=()
def tw16997167629088797248:=()
def tw470017762902112111:=()
def tw8179226313307204270:=()
def tw1159196774883694943:=()
def tw5721139938787059860:=()
def tw18327630640674238497:=()
def tw1465412220997216364:=()
def tw15774759317406415805:=()
def tw712644074956378234:=()
def tw322449727248238217:=()
def tw910328249402512885:=()
def tw15070315029079979557:=()
def tw16164375187797576944:=()
def tw580273813166011902:=()
def tw12316000199277452157:=()
def tw4182857962922196290:=()
def tw11603894722649242138:=()
def tw456504669789993236:=()
def tw9008548546475627714:=()
def tw16285332415578560648:=()
def tw14634947654533599832:=()
def tw7535489507705689652:=()
def tw15803491382143988586:=()
def tw16983676887197008017:=()
def tw5381796574368289841:=()
def tw15741195563956538162:=()
def tw5509665258219751193:=()
def tw6246703651624531080:=()
def tw14086354937100838523:=()
def tw7188906073649012684:=()
def tw15555213384446861574:=()
def tw505709228485269820:=()
def tw10917513201574892436:=()
def tw308286548473650505:=()
def tw6104169989441408933:=()
def tw6776855523677803569:=()
def tw2926524384628973243:=()
def tw2691749157557933261:=()
def tw16864343460713236379:=()
def tw7857721729819558452:=()
def tw14220823092986699176:=()
def tw10161571096422510178:=()
def tw4523624032543902693:=()
def tw15588525205601688280:=()
def tw12331280561375376536:=()
end PySem.W.Fast
open PySem PySem.W PyProof.Rows
set_option maxRecDepth 100000 in
set_option maxHeartbeats 0 in
theorem PySem.Challenge.cw_undivide_k47_whole_back_from_webs_holds : PySem.Challenge.rw_undivide_k47_whole_back_from_webs.Holds := by
 w_on; o_law; k_head; (case hw=>w_witness2)
 k_fill
 refine K47.walk (l:=PySem.Challenge.rw_undivide_k47_whole_back_from_webs) rfl rfl (λw h Y=>PySem.W.kIn_of Y) ?F
 case F=>
  intro w mg fa h KX G wo;refine' K47.all_mk KX G wo ?a0 ?a1 ?a2 ?a3 ?a4 ?a5 ?a6 ?a7 ?a8 ?a9 ?Ot ?Oq ?Oo ?Om ?Ol ?Oj ?Oi ?Oh ?Og ?Of ?Oe ?Od ?Oc ?Ob ?Oa ?N9 ?z0 ?z1 ?z2 ?z3 ?z4 ?z5 ?z6 ?z7 ?z8 ?z9 ?EG ?EF ?EE ?ED ?EC ?EI ?eB ?d5 ?dW ?dU ?kW ?kJ ?kA ?ku ?bK ?cZ ?cV ?cD ?cG ?cC ?cA ?br ?be ?aU ?aL ?c8 ?cX ?dh ?cF ?cI
  any_goals (refine' L2.fnK ?_ ?_ ?_ ?_<;>try k_is)
  any_goals (refine' L2.mtK ?_ ?_ ?_ ?_ ?_ ?_ ?_ ?_ ?_ ?_<;>try k_is)
  (case z0=>k_is)
  (case z1=>k_is)
  (case z2=>k_is)
  (case z3=>k_is)
  (case z4=>k_is)
  (case z5=>k_is)
  (case z6=>k_is)
  (case z7=>k_is)
  (case z8=>k_is)
  (case z9=>k_is)
  (case EG=>k_is)
  (case EF=>k_is)
  (case EE=>k_is)
  (case ED=>k_is)
  (case EC=>k_is)
  (case EI=>kernel_rfl)
  (case eB=>k_is)
  (case d5=>k_is)
  (case dW=>(repeat (first|exact .nil|refine .cons ⟨_,rfl⟩ ?_)))
  (case dU=>exact by decide)
  (case kW=>k_is)
  (case kJ=>k_is)
  (case kA=>(repeat (first|exact .nil|refine .cons ⟨_,rfl⟩ ?_)))
  (case ku=>exact by decide)
  (case bK=>k_is)
  (case cZ=>k_is)
  (case cV=>k_is)
  (case cD=>k_is)
  (case cG=>k_is)
  (case cC=>k_is)
  (case cA=>k_is)
  (case br=>k_is)
  (case be=>k_is)
  (case aU=>k_is)
  (case aL=>k_is)
  (case c8=>k_is)
  (case cX=>k_is)
  (case dh=>k_is)
  (case cF=>k_is)
  (case cI=>k_is)
