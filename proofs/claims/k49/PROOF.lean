import PyProof.Rows.All
import Wide.All
import OpenK.AllK
import Wide.FinOn
import Lean
import PyProof.EqAt
import PyProof.EqKinds
import PyProof.TupleCall
import PySem.Challenge.RW_undivide_k49_too_wide_or_not_whole
set_option Elab.async false
set_option linter.all false
set_option maxRecDepth 100000
set_option compiler.extract_closed false
local macro_rules | `(tactic| omega)=> `(tactic| lia)
noncomputable section
open Lean in
local macro_rules|`(tactic|have($a,$b,*):=$e)=>do
 let p<-(#[a]++b.getElems).mapM λx=>match x with|`($i:ident)=>`(Parser.Tactic.rcasesPatLo|$i:ident)|_=>`(Parser.Tactic.rcasesPatLo|_)
 `(tactic|obtain⟨$p,*⟩:=$e)
namespace L2
open PySem PySem.Spec PyProof.Rows
abbrev À:=@PySem.F.plainAttrs_list
abbrev Á:=@PySem.F.slot_list_append
abbrev Â:=@PySem.F.type_list_append
abbrev Ã:=@PyProof.Rows.boot_isinstance
abbrev Ä:=@Nat.zero_le
abbrev Å:=@PySem.boot_len
abbrev Æ:=@PySem.Heap.get?_update_other
abbrev Ç.{u}:=@Array.getElem?_eq_some_iff.{u}
abbrev È:=@PySem.W.mg_none_of
abbrev É:=@PyProof.Rows.boot_tuple
abbrev Ê:=@PySem.W.kia_one
abbrev Ë:=@PySem.W.mg_of
abbrev Ì:=@PyProof.Rows.boot_int
abbrev Í:=@Nat.lt_irrefl
abbrev Î:=@List.mem_range
abbrev Ï.{u}:=@List.pairwise_iff_getElem.{u}
abbrev Ð.{u}:=@List.mem_of_getElem?.{u}
abbrev Ñ:=@PySem.W.looks_findIn
abbrev Ò.{u}:=@List.mem_append.{u}
abbrev Ó.{u}:=@Array.perm_iff_toList_perm.{u}
abbrev Ô:=@PySem.Heap.get?_update_self
abbrev Õ:=@PySem.Obj.isFreed_of_fields
abbrev Ö.{u}:=@List.mem_append_left.{u}
abbrev Ø.{u}:=@Option.isSome_iff_exists.{u}
abbrev Ù:=@Int.mul_ediv_cancel_left
abbrev Ú:=@PySem.mem_of_lookup
abbrev Û:=@PySem.F.slot_tuple_hash
abbrev Ü:=@PySem.Obj.data_mapFields
abbrev Ý:=@Int.emod_nonneg
abbrev Þ:=@Int.emod_lt_of_pos
abbrev ß.{u}:=@List.getElem?_set_self.{u}
abbrev à.{u}:=@List.ext_getElem?.{u}
abbrev á.{u}:=@List.perm_append_comm.{u}
abbrev â:=@PyProof.Rows.callWith_type1
abbrev ã:=@Int.dvd_gcd_mul_iff_dvd_mul
abbrev ä:=@Int.eq_of_mul_eq_mul_right
abbrev å:=@Nat.le_succ
abbrev æ:=@Nat.ne_of_gt
abbrev ç:=@PySem.W.callWith_K
abbrev Qa.{u}:=@List.{u}
abbrev Qb.{u}:=@Option.{u}
abbrev Qc:=Value
abbrev Qd:=Shared
abbrev Qe:=Program
abbrev Qf:=Around
abbrev Qg:=Addr
abbrev Qh:=World
abbrev qa:=@wpAny_bind
abbrev qb:=@wpAny_pure
abbrev qc:=PySem.W.Frag
abbrev qd:=@Heap.get?_push_of_some
abbrev qe:=@Nat.le_refl
abbrev qf:=@Bool.false_ne_true
abbrev qg:=@Heap.get?_push_size
abbrev qh:=@Heap.lt_size
abbrev qi:=@Nat.lt_of_lt_of_le
abbrev qj:=@Nat.ne_of_lt
abbrev qk.{u}:=@List.getElem?_eq_some_iff.{u}
abbrev ql.{u}:=@List.getElem?_eq_getElem.{u}
abbrev qm.{u}:=@List.mem_cons_of_mem.{u}
abbrev qo.{u}:=@List.mem_cons_self.{u}
abbrev qp.{u}:=@List.mem_singleton.{u}
abbrev qq.{u,v}:=@Option.map_eq_some_iff.{u,v}
abbrev qr.{u}:=@List.length_append.{u}
abbrev qt.{u}:=@List.length_cons.{u}
abbrev qu.{u}:=@List.mem_cons.{u}
abbrev qv.{u}:=@List.mem_append_right.{u}
abbrev qw.{u}:=@Option.some.inj.{u}
abbrev qx:=@Nat.le_trans
abbrev qy:=@wpAny_newObj_type
abbrev qA.{u}:=@List.getD_eq_getElem?_getD.{u}
abbrev qB.{u}:=@List.getElem?_set_ne.{u}
abbrev Key:=Sum Int Str
def Gy:Key->Qc->Bool
 | .inl k,v=>Value.isInt k v
 | .inr x,v=>Value.isStrOf x v
def Ml(w:Qh):Key->Int
 | .inl k=>hashInt k
 | .inr x=>hashStr w x
theorem zW:∀ {k:Key} {v:Qc},Gy k v=true->(∃ i t,k=Sum.inl i/\v=Value.int i t)\/(∃ x t,k=Sum.inr x/\v=Value.str x t)
 | .inl i,v,h=>by
  have(t,e):=Value.isInt_shape (k:=i) (v:=v) h;exact .inl ⟨i,t,rfl,e⟩
 | .inr x,v,h=>by
  have(t,e):=Value.isStrOf_shape (x:=x) (v:=v) h;exact .inr ⟨x,t,rfl,e⟩
theorem Qj(a b:Int):decide ((Sum.inl a:Key)=Sum.inl b)=(a==b):=by
 by_cases e:a=b
 .subst e; simp
 .have h:¬(Sum.inl a:Key)=Sum.inl b:=λq=>e<|Sum.inl.inj q
  rw[decide_eq_false h];exact(beq_eq_false_iff_ne.mpr e).symm
theorem Qi(a b:Str):decide ((Sum.inr a:Key)=Sum.inr b)=decide (a=b):=by
 by_cases e:a=b
 .subst e; simp
 .have h:¬(Sum.inr a:Key)=Sum.inr b:=λq=>e<|Sum.inr.inj q
  rw[decide_eq_false h,decide_eq_false e]
theorem P9(a:Int)(b:Str):decide ((Sum.inl a:Key)=Sum.inr b)=false:=decide_eq_false (λq=>nomatch q)
theorem P8(a:Str)(b:Int):decide ((Sum.inr a:Key)=Sum.inl b)=false:=decide_eq_false (λq=>nomatch q)
def iV(prog:Qe)(w:Qh):PySem.KeyKind prog w Key where
 is:=Gy
 hash:=Ml w
 inj:=λv a b ha hb=>by
  rcases zW ha with⟨i,t,rfl,rfl⟩|⟨x,t,rfl,rfl⟩
  .rcases zW hb with⟨j,u,rfl,e⟩|⟨y,u,rfl,e⟩
   .injection e with e1 _; rw[e1]
   .exact nomatch e
  .rcases zW hb with⟨j,u,rfl,e⟩|⟨y,u,rfl,e⟩
   .exact nomatch e
   .injection e with e1 _; rw[e1]
 byValue:=λk v h=>by
  rcases zW h with⟨i,t,rfl,rfl⟩|⟨x,t,rfl,rfl⟩<;>rfl
 pyHash:=λhv h=>by
  rcases zW hv with⟨i,t,rfl,rfl⟩|⟨x,t,rfl,rfl⟩
  .exact wpAny_pyHash_int h
  .exact wpAny_pyHash_str h
 eqBool:=λhu hv h=>by
  rcases zW hu with⟨i,t,rfl,rfl⟩|⟨x,t,rfl,rfl⟩
  .rcases zW hv with⟨j,u,rfl,rfl⟩|⟨y,u,rfl,rfl⟩
   .rw[Qj]at h; exact wpAny_eqBool_int h
   .rw[P9]at h; exact SeqAt.EqAt.int_str i t y u _ _ _ _ h
  .rcases zW hv with⟨j,u,rfl,rfl⟩|⟨y,u,rfl,rfl⟩
   .rw[P8]at h; exact SeqAt.EqAt.str_int x t j u _ _ _ _ h
   .rw[Qi]at h; exact wpAny_eqBool_str h
 «strs»:=λk x t v h=>by
  rcases zW h with⟨i,u,rfl,e⟩|⟨y,u,rfl,e⟩
  .exact nomatch e
  .injection e with e1 _
   subst e1;cases v<;>rfl
inductive V where
 | aK|bl (b:Bool) | int (i:Int) | str (x:Str) | jL (b:Array UInt8) | rm (b:UInt64) | ref (a:Qg) | ty (n:String)
 deriving DecidableEq
def zQ:V->Qc->Prop
 | .aK,u=>u=Value.none
 | .bl b,u=>u=Value.bool b
 | .int i,u=>∃ t,u=Value.int i t
 | .str x,u=>∃ t,u=Value.str x t
 | .jL b,u=>∃ t,u=Value.bytes b t
 | .rm b,u=>∃ t,u=Value.float b t
 | .ref a,u=>u=Value.ref a
 | .ty n,u=>u=Value.type n
abbrev zH:Qa V->Qa Qc->Prop:=Paired zQ
theorem zH.length{xs:Qa V}{us:Qa Qc}(r:zH xs us):xs.length=us.length:=Paired.length r
theorem zH.get:∀ {xs:Qa V} {us:Qa Qc} {i:Nat} {x:V},zH xs us->xs[i]?=some x->∃ u,us[i]?=some u/\zQ x u
 | _,_,_,_,.nil,e=>by simp at e
 | _,_,0,_,.cons r _,e=>by simp at e; subst e; exact⟨_,rfl,r⟩
 | _,_,i+1,x,.cons _ t,e=>by
  have(u,h1,h2):=zH.get (i:=i) (x:=x) t (by simpa using e);exact⟨u,by simpa using h1,h2⟩
theorem zH.set{x:V}{u:Qc}(r:zQ x u):∀ {xs:Qa V} {us:Qa Qc} (i:Nat),zH xs us->zH (xs.set i x) (us.set i u)
 | _,_,_,.nil=>.nil
 | _,_,0,.cons _ t=>.cons r t
 | _,_,i+1,.cons q t=>.cons q<|zH.set r i t
theorem zH.append:∀ {xs ys:Qa V} {us ws:Qa Qc},zH xs us->zH ys ws->zH (xs++ys) (us++ws)
 | _,_,_,_,.nil,s=>s
 | _,_,_,_,.cons r t,s=>.cons r<|zH.append t s
theorem zH.take:∀ {xs:Qa V} {us:Qa Qc} (n:Nat),zH xs us->zH (xs.take n) (us.take n)
 | _,_,0,_=>.nil
 | _,_,_+1,.nil=>.nil
 | _,_,n+1,.cons r t=>.cons r<|zH.take n t
theorem zH.drop:∀ {xs:Qa V} {us:Qa Qc} (n:Nat),zH xs us->zH (xs.drop n) (us.drop n)
 | _,_,0,r=>r
 | _,_,_+1,.nil=>.nil
 | _,_,n+1,.cons _ t=>zH.drop n t
def pM:Qb V->Qb Qc->Prop
 | some v,some u=>zQ v u
 | none,none=>True
 | _,_=>False
def KV{κ:Type}:Qa (κ×V)->Qa (κ×Qc)->Prop:=Paired λ(p:κ×V) (q:κ×Qc)=>p.1=q.1/\zQ p.2 q.2
def kV:Key->V
 | .inl i=>.int i
 | .inr x=>.str x
structure IK (prog:Qe) (w:Qh) (J:Type) [DecidableEq J] where
 is:Heap->J->Qc->Prop
 hash:J->Int
 draws:J->Nat
 ig:Nat
 inj:∀ {h:Heap} {v:Qc} {x y:J},is h x v->is h y v->x=y
 keeps:∀ {h h':Heap} {k:J} {v:Qc} {d:Qg} {o:Obj} {es ep},is h k v->h.get? d=some o->o.data=.dict es ep->Heap.SameBut d h h'->is h' k v
 pyHash:∀ {A:Qf} {E:Qc->Qd->Prop} {s:Qd} {k:J} {v:Qc} {Q:Int->Qd->Prop},A.units+ig < cLine->is s.heap k v->Q (hash k) {s with toks:=s.toks+draws k}->
  wpAny (model prog w) A (PySem.pyHash v) Q E s
 eqBool:∀ {A:Qf} {E:Qc->Qd->Prop} {s:Qd} {x y:J} {u v:Qc} {Q:Bool->Qd->Prop},A.units+ig < cLine->is s.heap x u->is s.heap y v->Q (decide<|x=y) s->
  wpAny (model prog w) A (PySem.eqBool u v) Q E s
 quiet:∀ {A:Qf} {E:Qc->Qd->Prop} {s:Qd} {k:J} {v:Qc} {Q:Bool->Qd->Prop} (n:Nat),ig<=n->is s.heap k v->Q true s->wpAny (model prog w) A (eqIsQuiet n v) Q E s
section
variable{prog:Qe}{w:Qh}{J:Type}[DecidableEq J](I:IK prog w J)
inductive aZ (h:Heap):Qa J->Qa Qc->Prop
 | nil:aZ h [] []
 | cons {k:J} {v:Qc} {ks:Qa J} {vs:Qa Qc}:I.is h k v->aZ h ks vs->aZ h (k::ks) (v::vs)
def gC(h:Heap)(ks:Qa J)(a:Qg):Prop:=∃ o items n,h.get? a=some o/\o.cls=.type "tuple"/\o.data=.seq items n/\aZ I h ks items.toList
def xJ(ks:Qa J):Int:=reduceHash (Builtin.Tuple.tupleHashOf<|ks.map I.hash)
def yb(ks:Qa J):Nat:=(ks.map I.draws).sum+1
variable{I}
theorem aZ.inj{h:Heap}{x y:Qa J}{vs:Qa Qc}(hx:aZ I h x vs)(hy:aZ I h y vs):x=y:=by
 induction hx generalizing y with
 | nil=>cases hy; rfl
 | cons h1 _ ih=>
  cases hy with
  | cons h2 t2=>rw[I.inj h1 h2,ih t2]
theorem aZ.keeps{h h':Heap}{x:Qa J}{vs:Qa Qc}{d:Qg}{o:Obj}{es ep}(hx:aZ I h x vs)(ho:h.get? d=some o)(hd:o.data=.dict es ep)(hs:Heap.SameBut d h h'):aZ I h' x vs:=by
 induction hx with
 | nil=>exact .nil
 | cons h1 _ ih=>exact .cons (I.keeps h1 ho hd hs) ih
theorem gC.typeIs{s:Qd}{ks:Qa J}{a:Qg}(x:gC I s.heap ks a):s.TypeIs (.ref a) "tuple":=let ⟨o,_,_,ho,hc,_⟩:=x; ⟨o,ho,hc⟩
theorem gC.tup{h:Heap}{ks:Qa J}{a:Qg}(x:gC I h ks a):∃ items,h.IsTuple a items:=let ⟨o,aj,n,ho,hc,hd,_⟩:=x; ⟨aj,o,ho,hc,n,hd⟩
theorem gC.inj{h:Heap}{a:Qg}{x y:Qa J}(hx:gC I h x a)(hy:gC I h y a):x=y:=by
 have(o,items,n,ho,_,hd,hi):=hx;have(o',Ei,n',dZ,_,jJ,hG):=hy;obtain rfl:o=o':=qw (ho.symm.trans dZ);rw[hd]at jJ;injection jJ with h1 _;subst h1;exact hi.inj hG
theorem gC.keeps{h h':Heap}{ks:Qa J}{a d:Qg}{o:Obj}{es ep}(x:gC I h ks a)(ho:h.get? d=some o)(hd:o.data=.dict es ep)(hs:Heap.SameBut d h h'):gC I h' ks a:=by
 have(o',items,n,dZ,hc,jJ,hi):=x;have EB:a≠d:=by
  rintro rfl;obtain rfl:o'=o:=qw (dZ.symm.trans ho);rw[hd]at jJ; exact nomatch jJ
 exact⟨o',items,n,(hs.2 a EB).trans dZ,hc,jJ,hi.keeps ho hd hs⟩
variable{A:Qf}{E:Qc->Qd->Prop}{s:Qd}
theorem Ig{ks:Qa J}{a:Qg}{Q:Int->Qd->Prop}(hu:A.units+(I.ig+1) < cLine)(hk:gC I s.heap ks a)(h:Q (xJ I ks) {s with toks:=s.toks+yb I ks}):
  wpAny (model prog w) A (pyHash<|.ref a) Q E s:=by
 have hT:=hk.typeIs;have(o,items,n,ho,_,hd,hi):=hk;unfold pyHash
 first|unfold pyHashByItsType|skip
 first|refine qa (wpAny_cRoomFor_or (.inr (by omega)) ?_) | skip
 refine qa<|wpAny_specialOf hT Û.lookup ?_;show wpAny _ _ (if(some (Value.builtin "tuple.__hash__")==some Value.none)=true then _ else _) Q E s;rw[if_neg (by rw[beq_builtin_none]; exact qf)];refine qa<|wpAny_specialOf hT Û.lookup ?_;show wpAny _ _ (callSpecialIfBoundUnlessNone? (.ref a) "__hash__" _ >>= _) Q E s;refine qa<|wpAny_callSpecialIfBoundUnlessNone?_slot hT Û<|wpAny_call_entry Û hT PySem.F.entry_tuple_hash ?_<|PySem.F.args_tuple_hash_1 _;show wpAny _ _ (Builtin.Tuple.tupleItemsOf (.ref a) >>= _) _ _ s;refine qa<|wpAny_tupleItemsOf ho hd ?_;refine qa ?_;rw[<-Array.forIn_toList];refine wpAny_forIn_list _
  (λrest (b:Array Int) s'=>∃ done left,ks=done++left/\aZ I s.heap left rest/\b.toList=done.map I.hash/\s'={s with toks:=s.toks+(done.map I.draws).sum})
  _ ?_ ?_ _ _ ⟨[],ks,rfl,hi,rfl,rfl⟩
 .rintro x rest b s' ⟨done,left,rfl,hl,hb,rfl⟩
  cases hl with
  | @cons k _ nJ _ h1 Aj=>
   refine qa (I.pyHash (s:={s with toks:=s.toks+(done.map I.draws).sum}) (by show A.units+1+I.ig < _; omega) h1 ?_)
   first
    | exact qb ⟨done++[k],nJ,by simp,Aj,by simp[hb],by simp[Nat.add_assoc]⟩
    | exact qa<|qb<|qb ⟨done++[k],nJ,by simp,Aj,by simp[hb],by simp[Nat.add_assoc]⟩
 .rintro b s' ⟨done,left,rfl,hl,hb,rfl⟩
  cases hl;rw[List.append_nil]at h;show wpAny _ _ (retInt<|Builtin.Tuple.tupleHashOf b.toList) _ _ _;rw[hb];refine wpAny_ret_mkInt ?_;show wpAny _ _ (if(decide (-(2:Int)^63<=Builtin.Tuple.tupleHashOf (done.map I.hash)) && decide (Builtin.Tuple.tupleHashOf (done.map I.hash) < 2^63))=true then _ else _) Q E _;unfold xJ reduceHash at h;unfold yb at h
  by_cases hr:(decide (-(2:Int)^63<=Builtin.Tuple.tupleHashOf (done.map I.hash)) && decide (Builtin.Tuple.tupleHashOf (done.map I.hash) < 2^63))=true
  .rw[if_pos hr]
   rw[if_pos hr]at h;exact qb (by simpa [Nat.add_assoc] using h)
  .rw[if_neg hr]
   rw[if_neg hr]at h;exact qa<|wpAny_rule<|qb (by simpa [Nat.add_assoc] using h)
theorem W9{x y:Qa J}{a b:Qg}{P:Fin->Qd->Prop}(hu:A.units+I.ig < cLine)(hx:gC I s.heap x a)(hy:gC I s.heap y b)(h:P (.done<|.ret<|.bool<|decide<|x=y) s):
  wpAny (model prog w) A (Builtin.«tuple.__eq__» ⟨[.ref a,.ref b],[]⟩) P E s:=by
 have Zr:=hy.typeIs;have(oa,xs,na,Y0,_,Zh,Zd):=hx;have(ob,ys,nb,YZ,_,cx,Zc):=hy;show wpAny _ _ (isInstance (.ref b) (.type "tuple") >>= _) _ _ s;refine qa<|wpAny_isInstance Zr isSubtype_tuple_tuple ?_;simp only[Bool.not_true,Bool.false_eq_true,if_false];refine qa<|wpAny_tupleItemsOf Y0 Zh ?_;refine qa<|wpAny_tupleItemsOf YZ cx ?_;refine qa ?_;refine wpAny_forIn_list _
  (λrest r s'=>r.1=none/\s'=s/\∃ x' y' mn jy,rest=List.zip mn jy/\aZ I s.heap x' mn/\aZ I s.heap y' jy/\decide (x'=y')=decide (x=y)/\(mn.length==jy.length)=(xs.size==ys.size))
  _ ?_ ?_ _ _ ⟨rfl,rfl,x,y,xs.toList,ys.toList,rfl,Zd,Zc,rfl,by simp⟩
 .rintro⟨u,v⟩ rest r s' ⟨hr,rfl,x',y',mn,jy,hz,kD,sT,nR,hlen⟩
  cases kD with
  | nil=>simp at hz
  | @cons k1 u' KE DC h1 Es=>
   cases sT with
   | nil=>simp at hz
   | @cons k2 v' KC DA h2 Er=>
    simp only[List.zip_cons_cons,List.cons.injEq,Prod.mk.injEq]at hz;obtain⟨⟨rfl,rfl⟩,rfl⟩:=hz;refine qa<|I.eqBool (x:=k1) (y:=k2) hu h1 h2 ?_
    by_cases hk:k1=k2
    .subst hk
     rw[decide_eq_true rfl];simp only[Bool.not_true,Bool.false_eq_true,if_false];refine qb ⟨rfl,rfl,KE,KC,DC,DA,rfl,Es,Er,?_,by simpa using hlen⟩;rw[<-nR]
     by_cases vv:KE=KC
     .simp[vv]
     .simp[vv]
    .rw[decide_eq_false hk]
     simp only[Bool.not_false,if_true];have hf:decide (x=y)=false:=by rw[<-nR]; simp[hk]
     rw[hf]at h;exact qa<|qb<|qb<|qb h
 .rintro⟨r1,r2⟩ s' ⟨hr,rfl,x',y',mn,jy,hz,kD,sT,nR,hlen⟩
  simp only at hr;subst hr;refine qb ?_;have EJ:(xs.size==ys.size)=decide (x=y):=by
   rw[<-nR,<-hlen];cases kD with
   | nil=>
    cases sT with
    | nil=>simp
    | cons _ _=>simp
   | cons _ _=>
    cases sT with
    | nil=>simp
    | cons _ _=>simp at hz
  show P (.done<|.ret<|.bool<|xs.size==ys.size) s';rw[EJ]; exact h
theorem Gx{x y:Qa J}{a b:Qg}{Q:Bool->Qd->Prop}(hu:A.units+(I.ig+1) < cLine)(hx:gC I s.heap x a)(hy:gC I s.heap y b)(h:Q (decide<|x=y) s):
  wpAny (model prog w) A (eqBool (.ref a)<|.ref b) Q E s:=by
 unfold eqBool
 try with_reducible refine wpAny_holding ?_
 show wpAny _ _ (if(Value.ref a==Value.ref b)=true then _ else _) Q E s
 by_cases EV:(Value.ref a==Value.ref b)=true
 .rw[if_pos EV]
  have e:a=b:=by have:=eq_of_beq EV; injection this
  subst e;obtain rfl:=hx.inj hy;exact qa<|wpAny_rule<|qb (by simpa using h)
 .rw[if_neg EV]
  exact qa (wpAny_richCompare_same_room (op:=.Eq) hx.typeIs hy.typeIs PySem.F.slot_tuple_eq
   (wpAny_call_entry PySem.F.slot_tuple_eq hx.typeIs PySem.F.entry_tuple_eq (W9 (by show A.units+1+I.ig < _; omega) hx hy ⟨_,rfl,(λe=>nomatch e),wpAny_truthy_bool h⟩)<|PySem.F.args_tuple_eq_2 _ _) (by omega))
theorem IP{ks:Qa J}{a:Qg}{Q:Bool->Qd->Prop}(n:Nat)(hn:I.ig+1<=n)(hk:gC I s.heap ks a)(h:Q true s):wpAny (model prog w) A (eqIsQuiet n<|.ref a) Q E s:=by
 have hT:=hk.typeIs;obtain⟨m,rfl⟩:∃ m,n=m+1:=⟨n - 1,by omega⟩;have(o,items,n',ho,_,hd,hi):=hk;unfold eqIsQuiet;refine qa<|wpAny_specialOf hT PySem.F.slot_tuple_eq.lookup ?_;show wpAny _ _ (isInstance (.ref a) (.type "tuple") >>= _) _ _ s;refine qa<|wpAny_isInstance hT isSubtype_tuple_tuple ?_;simp only[Bool.not_true,Bool.false_eq_true,if_false];refine qa<|wpAny_seqItems ho hd ?_;refine qa ?_;show wpAny _ _ (forIn items _ _) _ _ s;rw[<-Array.forIn_toList];refine wpAny_forIn_list _ (λrest r s'=>r.1=none/\s'=s/\∃ nJ,aZ I s.heap nJ rest) _ ?_ ?_ _ _ ⟨rfl,rfl,ks,hi⟩
 .rintro v rest r s' ⟨hr,rfl,nJ,rl⟩
  cases rl with
  | cons h1 t1=>
   refine qa<|I.quiet m (by omega) h1 ?_;simp only[Bool.not_true,Bool.false_eq_true,if_false];exact qb ⟨rfl,rfl,_,t1⟩
 .rintro⟨r1,r2⟩ s' ⟨hr,rfl,_⟩
  simp only at hr;subst hr;exact qb h
end
def YH(prog:Qe)(w:Qh):IK prog w Key where
 is:=λ_ k v=>(iV prog w).is k v=true
 hash:=(iV prog w).hash
 draws:=λ_=>1
 ig:=0
 inj:=λhx hy=>(iV prog w).inj _ _ _ hx hy
 keeps:=λx _ _ _=>x
 pyHash:=λ_ hk h=>(iV prog w).pyHash hk h
 eqBool:=λ_ hx hy h=>(iV prog w).eqBool hx hy h
 quiet:=λn _ hk h=>by rw[eqIsQuiet_byValue n<|(iV prog w).byValue _ _ hk]; exact qb h
def El{prog:Qe}{w:Qh}{J:Type}[DecidableEq J](I:IK prog w J):IK prog w (Key ⊕ Qa J) where
 is:=λh x v=>match x with
  | .inl k=>(iV prog w).is k v=true
  | .inr ks=>∃ a,v=.ref a/\gC I h ks a
 hash:=λx=>match x with
  | .inl k=>(iV prog w).hash k
  | .inr ks=>xJ I ks
 draws:=λx=>match x with
  | .inl _=>1
  | .inr ks=>yb I ks
 ig:=I.ig+1
 inj:=λ{h v x y} hx hy=>by
  cases x with
  | inl k=>
   cases y with
   | inl k'=>exact congrArg Sum.inl<|(iV prog w).inj _ _ _ hx hy
   | inr ks=>
    have(a,rfl,_):=hy;rcases zW hx with⟨i,t,_,e⟩|⟨z,t,_,e⟩<;>cases e
  | inr ks=>
   have(a,rfl,hx):=hx;cases y with
   | inl k'=>rcases zW hy with⟨i,t,_,e⟩|⟨z,t,_,e⟩<;>cases e
   | inr nJ=>
    have(b,e,hy):=hy;cases e;exact congrArg Sum.inr (hx.inj hy)
 keeps:=λ{h h' k v d o es ep} x ho hd hs=>by
  cases k with
  | inl k=>exact x
  | inr ks=>
   have(a,e,x):=x;exact⟨a,e,x.keeps ho hd hs⟩
 pyHash:=λ{A E s k v Q} hu hk h=>by
  cases k with
  | inl k=>exact(iV prog w).pyHash hk h
  | inr ks=>
   have(a,rfl,x):=hk;exact Ig hu x h
 eqBool:=λ{A E s x y u v Q} hu hx hy h=>by
  cases x with
  | inl k=>
   cases y with
   | inl k'=>exact(iV prog w).eqBool hx hy (by simpa using h)
   | inr ks=>
    have(b,rfl,hy):=hy;have(aj,ht):=hy.tup;have h':Q false s:=by simpa using h
    rcases zW hx with⟨i,t,rfl,rfl⟩|⟨z,t,rfl,rfl⟩
    .exact SeqAt.EqAt.int_tuple i t ht (by omega) _ _ _ _ h'
    .exact SeqAt.EqAt.str_tuple z t ht (by omega) _ _ _ _ h'
  | inr ks=>
   have(a,rfl,hx):=hx;have(aj,ht):=hx.tup;cases y with
   | inl k'=>
    have h':Q false s:=by simpa using h
    rcases zW hy with⟨i,t,rfl,rfl⟩|⟨z,t,rfl,rfl⟩
    .exact SeqAt.EqAt.tuple_int i t ht (by omega) _ _ _ _ h'
    .exact SeqAt.EqAt.tuple_str z t ht (by omega) _ _ _ _ h'
   | inr nJ=>
    have(b,rfl,hy):=hy;exact Gx hu hx hy (by simpa using h)
 quiet:=λ{A E s k v Q} n hn hk h=>by
  cases k with
  | inl k=>rw[eqIsQuiet_byValue n<|(iV prog w).byValue _ _ hk]; exact qb h
  | inr ks=>
   have(a,rfl,x):=hk;exact IP n hn x h
def P7{prog:Qe}{w:Qh}{J:Type}[DecidableEq J](I:IK prog w J)(hI:I.ig<=7):HeapKind prog w (Qa J) where
 is:=gC I
 hash:=xJ I
 draws:=yb I
 room:=λA=>A.units+(I.ig+1) < cLine
 inj:=λhx hy=>hx.inj hy
 keeps:=λx ho hd hs=>x.keeps ho hd hs
 pyHash:=λhu hk h=>Ig hu hk h
 eqBool:=λhu hx hy h=>Gx hu hx hy h
 quiet:=λhk h=>IP 8 (by omega) hk h
abbrev K1:=Key ⊕ Qa Key
instance dK1:DecidableEq K1:=instDecidableEqSum
abbrev K2:=Key ⊕ Qa K1
instance dK2:DecidableEq K2:=instDecidableEqSum
abbrev K3:=Key ⊕ Qa K2
instance dK3:DecidableEq K3:=instDecidableEqSum
instance dL3:DecidableEq (Qa K3):=instDecidableEqList
def OG(prog:Qe)(w:Qh):HeapKind prog w (Qa K3):=P7 (El<|El<|El<|YH prog w) (by show 3<=7; decide)
inductive HO where
 | lst (xs:Qa V)
 | tup (xs:Qa V)
 | dK (aL:Qa (Key×V)) | dT (aL:Qa (Qa Key×V))
 | set (S:Int->Bool) (n:Nat)
 | ins (C dx:Qg) (fs:Qa (Str×V))
 | own (x:Qg)
 | xd (fs:Qa (Str×V))
 | met (f x:Qg)
 | DS (lo hi:Int)
 | bu (o:Obj) (u:HO)
 | qF (ps:Array Qc)
 | ext (φ:Heap->Prop)
 | sub (b:Qg) (p u:HO)
 | dX (aL:Qa (Qa K3×V))
def HO.flat:HO->Bool
 | .lst _=>true
 | .dK _=>true
 | .dT _=>true
 | .dX _=>true
 | _=>false
abbrev Hp:=Qg->Qb HO
def upd(H:Hp)(a:Qg)(o:HO):Hp:=λb=>if b=a then some o else H b
theorem zt{H:Hp}{a:Qg}{o:HO}:upd H a o a=some o:=by unfold upd; rw[if_pos rfl]
theorem zp{H:Hp}{a b:Qg}{o:HO}(h:b≠a):upd H a o b=H b:=by unfold upd; rw[if_neg h]
theorem TJ{H:Hp}{a:Qg}{o u:HO}:upd (upd H a o) a u=upd H a u:=by
 funext b; unfold upd; split<;>rfl
theorem Cb{H:Hp}{a b:Qg}{o u:HO}(h:H a=some o)(h':H b=some u)(d:o≠u):a≠b:=by
 intro e; subst e; rw[h]at h'; exact d<|qw h'
theorem zV{H:Hp}{a b:Qg}{o:HO}(h:H a=some o)(h':H b=none):a≠b:=by
 intro e; subst e; rw[h]at h'; cases h'
def Mk(K:qc)(a:Qg)(xs:Qa V):Prop:=∃ (o:Obj) (aj:Array Qc) (n:Nat),K.lookup a=some o/\o.cls=.type "tuple"/\o.data=.seq aj n/\aj.size<=sizeLine/\zH xs aj.toList/\∃ i r,xs=.int i::r
def cq(K:qc)(H:Hp)(a:Qg)(xs:Qa V):Prop:=H a=some (.tup xs)\/Mk K a xs
theorem cq.keeps{K:qc}{H H':Hp}{a:Qg}{xs:Qa V}(h:cq K H a xs)(ht:∀ b ys,H b=some (.tup ys)->H' b=some (.tup ys)):cq K H' a xs:=h.imp (ht _ _) id
def nz(h:Heap)(a:Qg)(items:Array Qc):Prop:=∃ o,h.get? a=some o/\o.cls=.type "tuple"/\(∃ n,o.data=.seq items n)/\(o.dict=none\/∃ i t r,items.toList=.int i t::r)
theorem nz.tup{h:Heap}{a:Qg}{items:Array Qc}(x:nz h a items):IsTup h a items:=let ⟨o,e,c,d,_⟩:=x; ⟨o,e,c,d⟩
theorem nz.lt{h:Heap}{a:Qg}{items:Array Qc}(x:nz h a items):a < h.objs.size:=x.tup.lt
theorem nz.new(h:Heap)(items:Array Qc):nz (h.push {cls:=.type "tuple",data:=.seq items}) h.objs.size items:=⟨_,qg _ rfl,rfl,⟨_,rfl⟩,.inl rfl⟩
def N0(K:qc)(H:Hp)(ks:Qa Key)(a:Qg):Prop:=cq K H a (ks.map kV)
def NI{J:Type}(P:Qa J->Qg->Prop)(x:Key ⊕ Qa J)(v:V):Prop:=match x with
 | .inl k=>v=kV k
 | .inr ks=>∃ b,v=.ref b/\P ks b
def nZ{J:Type}(K:qc)(H:Hp)(P:Qa J->Qg->Prop)(xs:Qa (Key ⊕ Qa J))(a:Qg):Prop:=∃ vs,cq K H a vs/\Paired (NI P) xs vs
def N3(K:qc)(H:Hp):Qa K3->Qg->Prop:=nZ K H (nZ K H<|nZ K H<|N0 K H)
theorem Ie{α β:Type}{F G:α->β->Prop}:∀ {l₁:Qa α} {l₂:Qa β},Paired F l₁ l₂->(∀ a b,F a b->G a b)->Paired G l₁ l₂
 | _,_,.nil,_=>.nil
 | _,_,.cons r t,f=>.cons (f _ _ r)<|Ie t f
theorem nZ.keeps{J:Type}{K:qc}{H H':Hp}{P P':Qa J->Qg->Prop}{xs:Qa (Key ⊕ Qa J)}{a:Qg}(h:nZ K H P xs a)(ht:∀ b ys,H b=some (.tup ys)->H' b=some (.tup ys))(hp:∀ ks b,P ks b->P' ks b):nZ K H' P' xs a:=by
 have(vs,h1,h2):=h;refine⟨vs,h1.keeps ht,Ie h2 λx v z=>?_⟩;cases x with
 | inl k=>exact z
 | inr ks=>have(b,e,z):=z; exact⟨b,e,hp _ _ z⟩
theorem N3.keeps{K:qc}{H H':Hp}{xs:Qa K3}{a:Qg}(h:N3 K H xs a)(ht:∀ b ys,H b=some (.tup ys)->H' b=some (.tup ys)):N3 K H' xs a :=
 nZ.keeps h ht λ_ _ h=>nZ.keeps h ht λ_ _ h=>nZ.keeps h ht λ_ _ h=>cq.keeps h ht
section
variable(P:Qe)(w:Qh)(K:qc)
def cG(H:Hp)(h:Heap)(a:Qg):HO->Prop
 | .lst xs=>xs.length<=sizeLine/\∃ (aj:Qa Qc) (n:Nat),zH xs aj/\h.get? a=some {cls:=.type "list",data:=.seq aj.toArray n}
 | .tup xs=>xs.length<=sizeLine/\∃ aj:Qa Qc,zH xs aj/\nz h a aj.toArray
 | .dK aL=>aL.length<=sizeLine/\(a==sysModules)=false/\∃ vs,KV aL vs/\h.DictOf (iV P w) a vs
 | .dT aL=>aL.length<=sizeLine/\(a==sysModules)=false/\∃ xs:Qa (Qa Key×Qg×Qc),
   Paired (λ(p:Qa Key×V) (q:Qa Key×Qg×Qc)=>p.1=q.1/\cq K H q.2.1 (p.1.map kV)/\zQ p.2 q.2.2) aL xs/\
   ∃ o es ep,h.get? a=some o/\o.ExactDict/\o.data=.dict es ep/\es.toList=xs.map (entryOfKey<|tupleKind<|iV P w)/\(xs.map (·.1)).Nodup
 | .dX aL=>aL.length<=sizeLine/\(a==sysModules)=false/\∃ xs:Qa (Qa K3×Qg×Qc),
   Paired (λ(p:Qa K3×V) (q:Qa K3×Qg×Qc)=>p.1=q.1/\N3 K H p.1 q.2.1/\zQ p.2 q.2.2) aL xs/\
   ∃ o es ep,h.get? a=some o/\o.ExactDict/\o.data=.dict es ep/\es.toList=xs.map (entryOfKey<|OG P w)/\(xs.map (·.1)).Nodup
 | .set S n=>h.SetOf (intKind P w) a S n
 | .ins C dx fs=>H dx=some (.own a)/\fs.length<=1000/\dx≠a/\h.get? a=some (PySem.W.instObj C dx)/\
   ∃ mA,h.Ns1 dx mA/\(∀ f,pM (fs.lookup f)<|mA f)/\PySem.Within mA (fs.map (·.1))
 | .own _=>∃ o,h.get? a=some o
 | .xd fs=>∃ mA,h.Ns1 a mA/\∀ f,pM (fs.lookup f)<|mA f
 | .DS lo hi=>∃ t u v,h.get? a=some {cls:=.type "range",data:=.fields #[.int lo t,.int hi u,.int 1 v]}
 | .bu o u=>h.get? a=some o/\cG H h a u
 | .qF ps=>h.get? a=some {cls:=.none,data:=.fields ps}
 | .met f x=>h.get? a=some (PySem.W.methodObj (.ref f)<|.ref x)
 | .ext φ=>φ h/\(∃ o,h.get? a=some o)/\∀ h1 h2:Heap,φ h1->(∀ o,h1.get? a=some o->h2.get? a=some o)->φ h2
 | .sub b p u=>cG H h a u/\H b=some (.own a)/\b≠a/\p.flat=true/\cG H h b p
def cZ(H:Hp)(h:Heap):Prop:=∀ a o,H a=some o->cG P w K H h a o
end
section
variable{P:Qe}{w:Qh}{K:qc}{H H':Hp}{h h':Heap}{a:Qg}{o:HO}
theorem cG.lt(x:cG P w K H h a o):a < h.objs.size:=by
 induction o with
 | sub b p u _ ih=>exact ih x.1
 | lst xs=>have(_,_,_,_,e):=x; exact qh e
 | tup xs=>have(_,_,_,p):=x; exact p.lt
 | dK aL=>have(_,_,_,_,o,_,_,e,_):=x; exact qh e
 | dT aL=>have(_,_,_,_,o,_,_,e,_):=x; exact qh e
 | dX aL=>have(_,_,_,_,o,_,_,e,_):=x; exact qh e
 | set S n=>have(o,_,_,_,e,_):=x; exact qh e
 | ins C dx fs=>have(_,_,_,e,_):=x; exact qh e
 | own y=>have(_,e):=x; exact qh e
 | xd fs=>obtain⟨_,⟨_,_,_,e,_⟩,_⟩:=x; exact qh e
 | DS lo hi=>have(_,_,_,e):=x; exact qh e
 | bu ob u _=>have(e,_):=x; exact qh e
 | qF ps=>exact qh (show h.get? a=some _ from x)
 | met f y=>exact qh (show h.get? a=some _ from x)
 | ext φ=>obtain⟨_,⟨_,e⟩,_⟩:=x; exact qh e
theorem Paired.j8{α β:Type}{F G:α->β->Prop}:∀ {l₁:Qa α} {l₂:Qa β},Paired F l₁ l₂->(∀ a b,F a b->G a b)->Paired G l₁ l₂
 | _,_,.nil,_=>.nil
 | _,_,.cons r t,f=>.cons (f _ _ r)<|Paired.j8 t f
theorem cG.uV(x:cG P w K H h a o)(f:o.flat=true)(k:∀ u,h.get? a=some u->h'.get? a=some u)(ht:∀ b xs,H b=some (.tup xs)->H' b=some (.tup xs)):cG P w K H' h' a o:=by
 cases o with
 | lst xs=>have(z,aj,n,r,e):=x; exact⟨z,aj,n,r,k _ e⟩
 | dK aL=>have(z,y,vs,r,ob,es,ep,e,c):=x; exact⟨z,y,vs,r,ob,es,ep,k _ e,c⟩
 | dT aL=>
  have(z,y,xs,r,ob,es,ep,e,c):=x;exact⟨z,y,xs,Paired.j8 r λp q z=>⟨z.1,z.2.1.keeps ht,z.2.2⟩,ob,es,ep,k _ e,c⟩
 | dX aL=>
  have(z,y,xs,r,ob,es,ep,e,c):=x;exact⟨z,y,xs,Paired.j8 r λp q z=>⟨z.1,z.2.1.keeps ht,z.2.2⟩,ob,es,ep,k _ e,c⟩
 | _=>cases f
theorem cG.de(x:cG P w K H h a o)(k:∀ b u,(b=a\/H b=some (.own a))->h.get? b=some u->h'.get? b=some u)
  (ho:∀ b,H b=some (.own a)->H' b=some (.own a)) (ht:∀ b xs,H b=some (.tup xs)->H' b=some (.tup xs)):cG P w K H' h' a o:=by
 induction o with
 | lst xs=>have(z,aj,n,r,e):=x; exact⟨z,aj,n,r,k _ _ (.inl rfl) e⟩
 | tup xs=>have(z,aj,r,ob,e,c):=x; exact⟨z,aj,r,ob,k _ _ (.inl rfl) e,c⟩
 | dK aL=>have(z,y,vs,r,ob,es,ep,e,c):=x; exact⟨z,y,vs,r,ob,es,ep,k _ _ (.inl rfl) e,c⟩
 | dT aL=>
  have(z,y,xs,r,ob,es,ep,e,c):=x;exact⟨z,y,xs,Paired.j8 r λp q z=>⟨z.1,z.2.1.keeps ht,z.2.2⟩,ob,es,ep,k _ _ (.inl rfl) e,c⟩
 | dX aL=>
  have(z,y,xs,r,ob,es,ep,e,c):=x;exact⟨z,y,xs,Paired.j8 r λp q z=>⟨z.1,z.2.1.keeps ht,z.2.2⟩,ob,es,ep,k _ _ (.inl rfl) e,c⟩
 | set S n=>have(ob,es,ep,t,e,c):=x; exact⟨ob,es,ep,t,k _ _ (.inl rfl) e,c⟩
 | ins C dx fs=>
  obtain⟨d,z,ne,e,mA,⟨od,es,ep,e2,c⟩,r⟩:=x;exact⟨ho _ d,z,ne,k _ _ (.inl rfl) e,mA,⟨od,es,ep,k _ _ (.inr d) e2,c⟩,r⟩
 | own y=>have(ob,e):=x; exact⟨ob,k _ _ (.inl rfl) e⟩
 | xd fs=>obtain⟨mA,⟨od,es,ep,e,c⟩,r⟩:=x; exact⟨mA,⟨od,es,ep,k _ _ (.inl rfl) e,c⟩,r⟩
 | DS lo hi=>have(t,u,v,e):=x; exact⟨t,u,v,k _ _ (.inl rfl) e⟩
 | bu ob u ih=>have(e,q):=x; exact⟨k _ _ (.inl rfl) e,ih q⟩
 | qF ps=>
  have e:h.get? a=some {cls:=.none,data:=.fields ps}:=x;show h'.get? a=some {cls:=.none,data:=.fields ps};exact k a _ (.inl rfl) e
 | met f y=>
  have e:h.get? a=some (PySem.W.methodObj (.ref f)<|.ref y):=x;show h'.get? a=some (PySem.W.methodObj (.ref f)<|.ref y);exact k a _ (.inl rfl) e
 | ext φ=>obtain⟨p,⟨o,e⟩,st⟩:=x; exact⟨st _ _ p λo q=>k _ _ (.inl rfl) q,⟨o,k _ _ (.inl rfl) e⟩,st⟩
 | sub b p u _ ih=>have(y,e,n,f,q):=x; exact⟨ih y,ho _ e,n,f,q.uV f (λu z=>k _ _ (.inr e) z) ht⟩
theorem cZ.lt(x:cZ P w K H h)(e:H a=some o):a < h.objs.size:=(x a o e).lt
theorem cZ.fresh(x:cZ P w K H h)(e:h.objs.size<=a):H a=none:=by
 cases q:H a with
 | none=>rfl
 | some u=>exact absurd (qi (x.lt q) e)<|Í _
theorem cZ.kept(x:cZ P w K H h)(k:∀ b u,h.get? b=some u->h'.get? b=some u):cZ P w K H h':=λa o e=>
 (x a o e).de (λb u _ q=>k b u q) (λ_ q=>q) λ_ _ q=>q
theorem cZ.laid(x:cZ P w K H h)(k:∀ b u,h.get? b=some u->h'.get? b=some u)(hp:h.objs.size<=a)(new:cG P w K (upd H a o) h' a o):cZ P w K (upd H a o) h':=λb u e=>by
 have hn:=x.fresh hp
 by_cases hb:b=a
 .subst hb; rw[zt]at e; cases e; exact new
 .rw[zp hb]at e
  exact(x b u e).de (λc v _ q=>k c v q) (λc q=>by rw[zp<|zV q hn]; exact q) λc xs q=>by rw[zp<|zV q hn]; exact q
end
def Rd(H:Hp)(a:Qg)(u:HO):Prop:=H a=some u\/∃ o,H a=some (.bu o u)
theorem Rd.ok{P:Qe}{w:Qh}{K:qc}{H:Hp}{h:Heap}{a:Qg}{u:HO}(r:Rd H a u)(x:cZ P w K H h):cG P w K H h a u:=by
 rcases r with r|⟨o,r⟩
 .exact x a u r
 .have(_,q):=x a _ r
  exact q
def AH:Qb HO->Prop
 | some (.lst _)=>True
 | some (.dK _)=>True
 | some (.dT _)=>True
 | some (.set _ _)=>True
 | some (.ins _ _ _)=>True
 | some (.ext _)=>True
 | some (.sub _ _ _)=>True
 | some (.dX _)=>True
 | _=>False
section
variable{P:Qe}{w:Qh}{K:qc}{H:Hp}{h h':Heap}{x e:Qg}{o':HO}
theorem cZ.write(ok:cZ P w K H h)(mu:AH (H x))(he:e=x\/H e=some (.own x))(k:∀ b u,b≠e->h.get? b=some u->h'.get? b=some u)(sY:∃ u,h'.get? e=some u)
  (new:cG P w K (upd H x o') h' x o'):cZ P w K (upd H x o') h':=λb u q=>by
 have u9:∀ c y,H c=some (.own y)->c≠x:=λc y r z=>by subst z; rw[r]at mu; exact mu
 have D4:∀ c xs,H c=some (.tup xs)->c≠x:=λc xs r z=>by subst z; rw[r]at mu; exact mu
 by_cases hb:b=x
 .subst hb; rw[zt]at q; cases q; exact new
 .rw[zp hb]at q
  by_cases rg:b=e
  .have q':H b=some (.own x):=by
    rcases he with z|z
    .exact absurd (rg.trans z) hb
    .rw[rg]; exact z
   rw[q]at q'; cases q';have(v,hv):=sY;exact⟨v,by rw[rg]; exact hv⟩
  .refine(ok b u q).de (λc v hc r=>k c v ?_ r) (λc r=>by rw[zp<|u9 c b r]; exact r) λc xs r=>by rw[zp<|D4 c xs r]; exact r
   rcases hc with rfl|hc
   .exact rg
   .rintro rfl
    rcases he with z|z
    .exact u9 c b hc z
    .rw[hc]at z; cases z; exact hb rfl
end
structure Un (fs ex:Qa Qg) (H H':Hp) (h h':Heap):Prop where
 keep:∀ b o,h.get? b=some o->H b=none->b∉fs->b∉ex->h'.get? b=some o
 slot:∀ b o,h.get? b=some o->H b=none->b∈fs->b∉ex->∃ sl,h'.get? b=some {o with slots:=sl}
 free:∀ b o,h.get? b=some o->H b=none->b∉ex->H' b=none
 there:∀ b o,h.get? b=some o->b∉ex->∃ o',h'.get? b=some o'
 c9:∀ b xs,H b=some (.tup xs)->H' b=some (.tup xs)
 cT:∀ b o u,H b=some (.bu o u)->H' b=some (.bu o u)
 dF:∀ b ps,H b=some (.qF ps)->∃ more,H' b=some (.qF<|ps++more)
section
variable{fs ZG ex ex':Qa Qg}{H H1 H2:Hp}{h h1 h2 h':Heap}{a x e:Qg}{o:HO}
theorem Un.any(u:Un fs ex H H1 h h1){b:Qg}{ob:Obj}(q:h.get? b=some ob)(n:H b=none)(hx:b∉ex):∃ sl,h1.get? b=some {ob with slots:=sl}:=by
 by_cases hb:b∈fs
 .exact u.slot b ob q n hb hx
 .exact⟨ob.slots,u.keep b ob q n hb hx⟩
theorem Un.kept(k:∀ b u,h.get? b=some u->h'.get? b=some u):Un fs ex H H h h' :=
 ⟨λb ob q _ _ _=>k b ob q,λb ob q _ _ _=>⟨ob.slots,k b ob q⟩,λ_ _ _ n _=>n,λb ob q _=>⟨ob,k b ob q⟩,λ_ _ q=>q,λ_ _ _ q=>q,λ_ ps q=>⟨#[],by rw[q]; simp⟩⟩
theorem Un.refl:Un fs ex H H h h:=Un.kept λ_ _ q=>q
theorem Un.laid(k:∀ b u,h.get? b=some u->h'.get? b=some u)(hp:h.objs.size<=a)(hn:H a=none):Un fs ex H (upd H a o) h h' where
 keep:=λb u q _ _ _=>k b u q
 slot:=λb u q _ _ _=>⟨u.slots,k b u q⟩
 free:=λb u q n _=>by rw[zp<|qj<|qi (qh q) hp]; exact n
 there:=λb u q _=>⟨u,k b u q⟩
 c9:=λb xs q=>by rw[zp<|zV q hn]; exact q
 cT:=λb u xs q=>by rw[zp<|zV q hn]; exact q
 dF:=λb ps q=>⟨#[],by rw[zp<|zV q hn,q]; simp⟩
theorem Un.write(mu:AH (H x))(he:e=x\/H e=some (.own x))(k:∀ b u,b≠e->h.get? b=some u->h'.get? b=some u)(sY:∃ u,h'.get? e=some u):Un fs ex H (upd H x o) h h':=by
 have hx:∀ b,H b=none->b≠x:=λb n z=>by subst z; rw[n]at mu; exact mu
 have hb:∀ b,H b=none->b≠e:=λb n z=>by
  subst z;rcases he with r|r
  .exact hx b n r
  .rw[n]at r; cases r
 have hm:∀ b u,H b=some u->¬AH (some u)->b≠x:=λb u q nm z=>by subst z; rw[q]at mu; exact nm mu
 refine⟨λb u q n _ _=>k b u (hb b n) q,λb u q n _ _=>⟨u.slots,k b u (hb b n) q⟩,λb u q n _=>by rw[zp<|hx b n]; exact n,λb u q _=>?_,
  λb xs q=>by rw[zp<|hm b _ q λz=>z]; exact q,λb u xs q=>by rw[zp<|hm b _ q λz=>z]; exact q,λb ps q=>⟨#[],by rw[zp<|hm b _ q λz=>z,q]; simp⟩⟩
 by_cases rg:b=e
 .subst rg; exact sY
 .exact⟨u,k b u rg q⟩
end
def qE(h:Heap)(H:Hp):Qa Qg:=(List.range h.objs.size).filter λa=>(H a).isSome
def m6(h:Heap)(H:Hp):Heap:=PySem.W.hideAll h (qE h H)
theorem Vq(h:Heap)(H:Hp):(m6 h H).objs.size=h.objs.size:=PySem.W.hideAll_size _ _
theorem VP{h:Heap}{H:Hp}{b:Qg}{o:Obj}(e:h.get? b=some o)(n:H b=none):(m6 h H).get? b=some o :=
 PySem.W.hideAll_get _ e λhm=>by
  have q:(H b).isSome=true:=(List.mem_filter.mp hm).2;rw[n]at q; simp at q
theorem TH{h:Heap}{H:Hp}{b:Qg}{o:Obj}(e:(m6 h H).get? b=some o):h.get? b=some o/\H b=none:=by
 have e':h.get? b=some o:=PySem.W.of_hideAll (qE h H) e;refine⟨e',?_⟩;cases q:H b with
 | none=>rfl
 | some x=>
  have hm:b∈qE h H:=List.mem_filter.mpr ⟨Î.mpr<|qh e',by simp[q]⟩;have z:(m6 h H).get? b=none:=PySem.W.hideAll_none (qE h H) hm;rw[z]at e; cases e
def TF(g h:Heap)(L:Qg):Qa (Qg×Obj):=(List.range h.objs.size).filterMap λa=>if a=L\/(g.get? a).isSome=true then none else(h.get? a).map λo=>(a,o)
def rest(g h:Heap)(L d:Qg):Qa (Qg×Obj):=(TF g h L).filter λp=>decide<|p.1≠d
structure Mod (K:qc) (mg:Str->Qb Qc) (base:Heap):Prop where
 oX:K.In base
 glob:base.Ns mainGlobals mg
 blt:∃ mb,base.Ns builtinsNs mb/\∀ x:Str,x ≠ "__name__"->mb x=bootBuiltins x
 nolimit:base.NoLimit
structure Cx where
 prog:Qe
 w:Qh
 K:qc
 mg:Str->Qb Qc
 base:Heap
 A:Qf
 N:Qa Str
 bo:Qd
 av:Hp
 env:Env
 outer:Qa Env
 stack:Qa Env
 ex:Qa Qg
 fn:Str->Bool
 calm:Bool
 pn:Qa (Qg×Obj)
 xe:Qc->Qd->Prop
def hU(l:Qa Env):Qa Qg:=l.filterMap (·.frame)
abbrev Cx.fs(X:Cx):Qa Qg:=hU X.outer
def AA(sc:Scope)(x:Str):Prop:=sc.names.lookup x=some .local\/sc.names.lookup x=some .cell\/sc.names.lookup x=some .free
def Loc(sc:Scope)(x:Str):Prop:=sc.names.lookup x=some .local\/sc.names.lookup x=some .cell
def Mj(env:Env)(h:Heap)(m:Str->Qb Qc)(x:Str)(u:Qc):Prop :=
 (env.kindOf x=some .local/\m x=some u)\/((env.kindOf x=some .cell\/env.kindOf x=some .free)/\∃ c,env.cells.lookup x=some c/\h.IsCell c (some u))
structure Cx.Ok (X:Cx):Prop where
 mod:Mod X.K X.mg X.base
 kind:X.env.scope.kind=.function
 glob:X.env.globals=mainGlobals
 blt:X.env.builtins=builtinsNs
 above:X.bo.heap.objs.size<=X.env.locals
 inj:∀ x y c,X.env.cells.lookup x=some c->X.env.cells.lookup y=some c->x=y
 has:∀ x,(X.env.kindOf x=some .cell\/X.env.kindOf x=some .free)->∃ c,X.env.cells.lookup x=some c
 pC:∀ x c,X.fn x=true->X.env.cells.lookup x=some c->X.bo.heap.objs.size<=c
 hd:X.calm=true->X.A.handled=none
 frames:X.A.frames=some X.stack
 qG:X.stack=X.outer\/(X.stack=X.env::X.outer/\X.env.frame=some X.env.locals)
 tu:∀ b∈X.ex,b≠X.env.locals/\∀ x c,X.env.cells.lookup x=some c->c≠b
 bs:∀ b o,X.base.get? b=some o->X.bo.heap.get? b=some o/\X.av b=none
 kJ:X.base.objs.size<=X.bo.heap.objs.size
 g8:∀ b o,X.base.get? b=some o->b∉X.ex
 i8:∀ b∈X.ex,b∉X.fs
 cS:X.bo.heap.FunFrames X.base X.outer
 mR:∀ b∈X.fs,X.av b=none
structure Inv (X:Cx) (pins:Qa (Qg×Obj)) (σ:Qa (Qb V)) (H:Hp) (s:Qd):Prop where
 ok:X.Ok
 os:s.os=X.bo.os
 bare:AllBare s.gens
 base:Un X.fs X.ex X.av H X.bo.heap s.heap
 loc:∃ m,s.heap.Ns X.env.locals m/\∀ (i:Nat) (x:Str) (v:V),X.N[i]?=some x->σ[i]?=some (some v)->AA X.env.scope x->∃ u,zQ v u/\Mj X.env s.heap m x u
 cell:∀ x c,X.env.cells.lookup x=some c->∃ v,s.heap.IsCell c v
 free:H X.env.locals=none
 aY:∀ x c,X.env.cells.lookup x=some c->H c=none
 pin:∀ p∈X.pn++pins,s.heap.get? p.1=some p.2/\H p.1=none/\p.1≠X.env.locals/\p.1∉X.fs/\∀ v,p.2.data≠.cell v
 aD:cZ X.prog X.w X.K H s.heap
 len:σ.length=X.N.length
section
variable{X:Cx}{pins:Qa (Qg×Obj)}{σ:Qa (Qb V)}{H H':Hp}{s:Qd}{h':Heap}
theorem Cx.Ok.D7(ok:X.Ok){b:Qg}{o:Obj}(e:X.base.get? b=some o):b∉X.fs:=λhb=>by
 have:=(ok.cS.mem hb).1;rw[e]at this; cases this
theorem Inv.bs(I:Inv X pins σ H s):∀ b o,X.base.get? b=some o->s.heap.get? b=some o/\H b=none:=λb o e=>
 ⟨I.base.keep b o (I.ok.bs b o e).1 (I.ok.bs b o e).2 (I.ok.D7 e)<|I.ok.g8 b o e,I.base.free b o (I.ok.bs b o e).1 (I.ok.bs b o e).2<|I.ok.g8 b o e⟩
theorem Inv.bk(I:Inv X pins σ H s):∀ b o,X.base.get? b=some o->s.heap.get? b=some o:=λb o e=>(I.bs b o e).1
theorem Inv.mod(I:Inv X pins σ H s):Mod X.K X.mg X.base:=I.ok.mod
theorem Inv.cB(I:Inv X pins σ H s):X.K.In s.heap:=I.ok.mod.oX.keeps I.bk
theorem Inv.fr(I:Inv X pins σ H s):∃ m,Fr X.base X.env.locals s.heap m :=
 let ⟨m,hn,_⟩:=I.loc
 ⟨m,hn,I.bk,qx I.ok.kJ I.ok.above⟩
theorem Inv.lt(I:Inv X pins σ H s):X.env.locals < s.heap.objs.size:=let ⟨_,hn,_⟩:=I.loc; hn.lt
theorem Inv.sz(I:Inv X pins σ H s):X.bo.heap.objs.size<=s.heap.objs.size:=qx I.ok.above (Nat.le_of_lt I.lt)
theorem Inv.D6(I:Inv X pins σ H s){a:Qg}(h:s.heap.objs.size<=a):a∉X.fs:=λhb=>by
 have(_,o,ho,_):=I.ok.cS.mem hb;exact absurd (qi (qh ho)<|qx I.sz h)<|Í _
theorem Inv.kI(I:Inv X pins σ H s):∀ x c,X.env.cells.lookup x=some c->c≠X.env.locals:=λx c e z=>by
 have(v,o,ho,hd):=I.cell x c e;obtain⟨m,⟨o',es,ep,dZ,jJ,_⟩,_⟩:=I.loc;rw[z,dZ]at ho; cases ho; rw[jJ]at hd; cases hd
theorem Inv.cS(I:Inv X pins σ H s):s.heap.FunFrames X.base X.outer:=by
 have all:∀ (l:Qa Env),(∀ b∈hU l,b∈X.fs)->X.bo.heap.FunFrames X.base l->s.heap.FunFrames X.base l:=by
  intro l
  induction l with
  | nil=>intro _ _; trivial
  | cons env r ih=>
   intro hs hl;obtain⟨hk,⟨L,o,hf,hn,ho,hd⟩,hr⟩:=hl;have hL:L∈X.fs:=hs L (by unfold hU; rw[List.filterMap_cons,hf]; exact qo);have(sl,e):=I.base.slot L o ho (I.ok.mR L hL) hL λz=>I.ok.i8 L z hL;exact⟨hk,⟨L,_,hf,hn,e,hd⟩,ih (λb hb=>hs b (by unfold hU; rw[List.filterMap_cons,hf]; exact qm _ hb)) hr⟩
 exact all X.outer (λ_ hb=>hb) I.ok.cS
theorem Inv.stack(I:Inv X pins σ H s):s.heap.FunFrames X.base X.stack:=by
 rcases I.ok.qG with e|⟨e,hf⟩
 .rw[e]; exact I.cS
 .rw[e]
  have(m,hn,_):=I.loc;refine .cons (by rw[I.ok.kind]; decide) hf hn ?_ I.cS;exact Heap.get?_none_of_le<|qx I.ok.kJ I.ok.above
theorem Inv.eR(I:Inv X pins σ H s):∀ b∈hU X.stack,b∈X.env.locals::X.fs:=λb hb=>by
 rcases I.ok.qG with e|⟨e,hf⟩
 .rw[e]at hb; exact qm _ hb
 .rw[e]at hb
  unfold hU at hb;rw[List.filterMap_cons,hf]at hb;exact hb
theorem Inv.eG(I:Inv X pins σ H s):∀ b∈hU X.stack,H b=none:=λb hb=>by
 rcases qu.mp (I.eR b hb)with e|hb
 .rw[e]; exact I.free
 .have(_,o,ho,_):=I.ok.cS.mem hb
  exact I.base.free b o ho (I.ok.mR b hb) λz=>I.ok.i8 b z hb
theorem Inv.step{g':Array GenState}{t':Nat}{d':Drawn}{ch:Qa Qg}(I:Inv X pins σ H s)
  (mQ:∀ b∈ch,(b∈X.ex\/X.bo.heap.objs.size<=b)/\b≠X.env.locals/\(∀ x c,X.env.cells.lookup x=some c->c≠b)/\∀ p∈X.pn++pins,p.1≠b)
  (keep:∀ b o,b≠X.env.locals->b∉X.fs->b∉ch->s.heap.get? b=some o->H b=none->h'.get? b=some o)
  (slot:∀ b o,b≠X.env.locals->b∈X.fs->b∉ch->s.heap.get? b=some o->H b=none->∃ sl,h'.get? b=some {o with slots:=sl}) (free:∀ b o,b∉ch->s.heap.get? b=some o->H b=none->H' b=none)
  (there:∀ b o,b∉ch->s.heap.get? b=some o->∃ o',h'.get? b=some o')
  (c9:∀ b xs,H b=some (.tup xs)->H' b=some (.tup xs)) (cT:∀ b o u,H b=some (.bu o u)->H' b=some (.bu o u)) (dF:∀ b ps,H b=some (.qF ps)->∃ more,H' b=some (.qF<|ps++more))
  (ns:∀ m,s.heap.Ns X.env.locals m->h'.Ns X.env.locals m) (aD:cZ X.prog X.w X.K H' h') (hg:AllBare g'):
  Inv X pins σ H' {s with heap:=h',gens:=g',drawn:=d',toks:=t'}:=by
 have KU:∀ b o,X.bo.heap.get? b=some o->b≠X.env.locals:=λb o e=>qj<|qi (qh e) I.ok.above;have Aa:∀ b o,X.bo.heap.get? b=some o->b∉X.ex->b∉ch:=λb o e hx hb=>by
  rcases(mQ b hb).1 with z|z
  .exact hx z
  .exact absurd (qi (qh e) z) (Í _)
 have cellK:∀ x c,X.env.cells.lookup x=some c->∀ v,s.heap.IsCell c v->h'.IsCell c v:=λx c e v ⟨o,ho,hd⟩=>by
  have vf:c∉ch:=λz=>(mQ c z).2.2.1 x c e rfl
  by_cases hc:c∈X.fs
  .have(sl,q):=slot c o (I.kI x c e) hc vf ho (I.aY x c e)
   exact⟨_,q,hd⟩
  .exact⟨o,keep c o (I.kI x c e) hc vf ho<|I.aY x c e,hd⟩
 refine⟨I.ok,I.os,hg,⟨λb o e n hb hx=>?_,λb o e n hb hx=>?_,λb o e n hx=>?_,λb o e hx=>?_,λb xs e=>c9 b xs<|I.base.c9 b xs e,λb o xs e=>cT b o xs<|I.base.cT b o xs e,λb ps e=>?_⟩,?_,λx c e=>?_,?_,λx c e=>?_,λp hp=>?_,aD,I.len⟩
 .exact keep b o (KU b o e) hb (Aa b o e hx) (I.base.keep b o e n hb hx) (I.base.free b o e n hx)
 .have(sl,e1):=I.base.slot b o e n hb hx
  have(uY,e2):=slot b _ (KU b o e) hb (Aa b o e hx) e1 (I.base.free b o e n hx);exact⟨uY,e2⟩
 .have(o',e1):=I.base.there b o e hx
  exact free b o' (Aa b o e hx) e1<|I.base.free b o e n hx
 .have(o',e1):=I.base.there b o e hx
  exact there b o' (Aa b o e hx) e1
 .have(m1,e1):=I.base.dF b ps e
  have(m2,e2):=dF b _ e1;exact⟨m1++m2,by rw[e2,Array.append_assoc]⟩
 .have(m,hn,hl):=I.loc
  refine⟨m,ns m hn,λi x v e1 e2 e3=>?_⟩;have(u,r,l):=hl i x v e1 e2 e3;refine⟨u,r,?_⟩;rcases l with l|⟨k,c,e,z⟩
  .exact .inl l
  .exact .inr ⟨k,c,e,cellK x c e _ z⟩
 .have(v,z):=I.cell x c e
  exact⟨v,cellK x c e v z⟩
 .obtain⟨m,⟨o,_,_,ho,_⟩,_⟩:=I.loc
  exact free _ o (λz=>(mQ _ z).2.1 rfl) ho I.free
 .have(v,o,ho,hd):=I.cell x c e
  exact free c o (λz=>(mQ c z).2.2.1 x c e rfl) ho<|I.aY x c e
 .have(e,n,ne,nf,d):=I.pin p hp
  have vf:p.1∉ch:=λz=>(mQ p.1 z).2.2.2 p hp rfl;exact⟨keep p.1 p.2 ne nf vf e n,free p.1 p.2 vf e n,ne,nf,d⟩
theorem Inv.un{t':Nat}(I:Inv X pins σ H s)(u:Un X.fs [] H H' s.heap h')(aD:cZ X.prog X.w X.K H' h'):Inv X pins σ H' {s with heap:=h',toks:=t'}:=by
 obtain⟨m,⟨o,es,ep,ho,r⟩,_⟩:=id I.loc;have(sl,hL):=u.any ho I.free (by simp);exact I.step (g':=s.gens) (d':=s.drawn) (ch:=[]) (λ_ z=>nomatch z) (λb o _ hb _ e n=>u.keep b o e n hb (by simp)) (λb o _ hb _ e n=>u.slot b o e n hb (by simp)) (λb o _ e n=>u.free b o e n (by simp)) (λb o _ e=>u.there b o e (by simp)) u.c9 u.cT u.dF (λm' hm=>by
  have(o',vU,tw,dZ,r'):=hm;rw[ho]at dZ; cases dZ;exact⟨_,vU,tw,hL,r'⟩) aD I.bare
theorem Inv.call{g':Array GenState}{t':Nat}{d':Drawn}{ch:Qa Qg}(I:Inv X pins σ H s)(u:Un (hU X.stack) ch H H' s.heap h')(aD:cZ X.prog X.w X.K H' h')(hg:AllBare g')
  (mQ:∀ b∈ch,(b∈X.ex\/X.bo.heap.objs.size<=b)/\b≠X.env.locals/\(∀ x c,X.env.cells.lookup x=some c->c≠b)/\∀ p∈X.pn++pins,p.1≠b):
  Inv X pins σ H' {s with heap:=h',gens:=g',drawn:=d',toks:=t'}:=by
 obtain⟨m,⟨o,es,ep,ho,r⟩,_⟩:=id I.loc;have(sl,hL):=u.any ho I.free λz=>(mQ _ z).2.1 rfl;exact I.step (ch:=ch) mQ (λb o hL hb hc e n=>u.keep b o e n (λz=>(qu.mp<|I.eR b z).elim hL hb) hc) (λb o _ _ hc e n=>u.any e n hc) (λb o hc e n=>u.free b o e n hc) (λb o hc e=>u.there b o e hc) u.c9 u.cT u.dF (λm' hm=>by
  have(o',vU,tw,dZ,r'):=hm;rw[ho]at dZ; cases dZ;exact⟨_,vU,tw,hL,r'⟩) aD hg
theorem Inv.turned{t':Nat}{it:Qg}(I:Inv X pins σ H s)(k:∀ b o,b≠it->s.heap.get? b=some o->h'.get? b=some o)(hn:H it=none)(hL:it≠X.env.locals)
  (h1:it∈X.ex\/X.bo.heap.objs.size<=it) (h2:∀ x c,X.env.cells.lookup x=some c->c≠it) (h3:∀ p∈X.pn++pins,p.1≠it):Inv X pins σ H {s with heap:=h',toks:=t'}:=by
 have ve:∀ b u,H b=some u->b≠it:=λb u e z=>by rw[z,hn]at e; cases e
 refine I.step (g':=s.gens) (d':=s.drawn) (ch:=[it]) (λb hb=>?_) (λb o _ _ hc e _=>k b o (λz=>hc (by simp[z])) e) (λb o _ _ hc e _=>⟨o.slots,k b o (λz=>hc (by simp[z])) e⟩) (λ_ _ _ _ n=>n)
  (λb o hc e=>⟨o,k b o (λz=>hc (by simp[z])) e⟩) (λ_ _ e=>e) (λ_ _ _ e=>e) (λb ps e=>⟨#[],by rw[e]; simp⟩) (λm hm=>?_) (λb u e=>?_) I.bare
 .have e:b=it:=by simpa using hb
  subst e;exact⟨h1,hL,h2,h3⟩
 .have(o,es,ep,ho,r):=hm
  exact⟨o,es,ep,k _ o (Ne.symm hL) ho,r⟩
 .refine(I.aD b u e).de (λc v hc q=>k c v ?_ q) (λ_ q=>q) λ_ _ q=>q
  rcases hc with z|z
  .rw[z]; exact ve b u e
  .exact ve c _ z
theorem Inv.tok(I:Inv X pins σ H s)(t:Nat):Inv X pins σ H {s with toks:=t}:=I.un (h':=s.heap) (t':=t) Un.refl I.aD
theorem Inv.kept{t':Nat}(I:Inv X pins σ H s)(k:∀ b u,s.heap.get? b=some u->h'.get? b=some u):Inv X pins σ H {s with heap:=h',toks:=t'}:=I.un (Un.kept k) (I.aD.kept k)
theorem Inv.laid{a:Qg}{o:HO}{t':Nat}(I:Inv X pins σ H s)(k:∀ b u,s.heap.get? b=some u->h'.get? b=some u)(hp:s.heap.objs.size<=a)(new:cG X.prog X.w X.K (upd H a o) h' a o):
  Inv X pins σ (upd H a o) {s with heap:=h',toks:=t'}:=I.un (Un.laid k hp<|I.aD.fresh hp) (I.aD.laid k hp new)
theorem Inv.write{x e:Qg}{o:HO}{t':Nat}(I:Inv X pins σ H s)(mu:AH (H x))(he:e=x\/H e=some (.own x))(k:∀ b u,b≠e->s.heap.get? b=some u->h'.get? b=some u)(sY:∃ u,h'.get? e=some u)
  (new:cG X.prog X.w X.K (upd H x o) h' x o):Inv X pins σ (upd H x o) {s with heap:=h',toks:=t'}:=I.un (Un.write mu he k sY) (I.aD.write mu he k sY new)
theorem Inv.weak{aC:Qa (Qb V)}(I:Inv X pins σ H s)(hl:aC.length=σ.length)(w:∀ (i:Nat) v,aC[i]?=some (some v)->σ[i]?=some (some v)):Inv X pins aC H s :=
 ⟨I.ok,I.os,I.bare,I.base,let ⟨m,hn,Aj⟩:=I.loc; ⟨m,hn,λi x v e1 e2 e3=>Aj i x v e1 (w i v e2) e3⟩,I.cell,I.free,I.aY,I.pin,I.aD,hl.trans I.len⟩
theorem Inv.eH{gZ:Qa (Qg×Obj)}(I:Inv X pins σ H s)(h:∀ p∈gZ,s.heap.get? p.1=some p.2/\H p.1=none/\p.1≠X.env.locals/\p.1∉X.fs/\∀ v,p.2.data≠.cell v):Inv X gZ σ H s :=
 ⟨I.ok,I.os,I.bare,I.base,I.loc,I.cell,I.free,I.aY,λp hp=>(Ò.mp hp).elim (λz=>I.pin p<|Ö _ z)<|h p,I.aD,I.len⟩
theorem CT{N:Qa Str}(hN:N.Nodup){i j:Nat}{x:Str}(a:N[i]?=some x)(b:N[j]?=some x):i=j:=by
 have(h1,e1):=qk.mp a;have(h2,e2):=qk.mp b;exact(List.getElem_inj hN).mp<|e1.trans e2.symm
theorem Jt{M:Model}{A:Qf}{E:Qc->Qd->Prop}{i:Nat}{x:Str}{v:V}{u:Qc}{Q:Unit->Qd->Prop}(I:Inv X pins σ H s)(hN:X.N.Nodup)(hi:X.N[i]?=some x)(hx:Loc X.env.scope x)(r:zQ v u)
  (h:∀ s',Inv X pins (σ.set i<|some v) H s'->(∃ a,Heap.SameBut a s.heap s'.heap/\(a=X.env.locals\/X.env.cells.lookup x=some a))->Q () s') (hf:X.fn x=true\/X.env.scope.names.lookup x=some .local:=by first|exact .inl rfl|exact .inr rfl|assumption):wpAny M A (storeName X.env x u) Q E s:=by
 have(m,hn,hl):=id I.loc;have lI:(X.env.scope.kind==.class || (X.env.scope.kind==.module && X.env.locals != X.env.globals))=false:=by rw[I.ok.kind]; rfl
 have nP:i < σ.length:=by rw[I.len]; exact(qk.mp hi).1
 have kI:=I.kI;have tracked:∀ {a:Qg} {h':Heap},(∃ o,s.heap.get? a=some o/\H a=none)->Heap.SameBut a s.heap h'->cZ X.prog X.w X.K H h':=λ{a h'} ha hs b ob e=>by
  have(_,_,pj):=ha;refine(I.aD b ob e).de (λc w' hc q=>(hs.2 c ?_).trans q) (λ_ q=>q) λ_ _ q=>q;rintro rfl;rcases hc with rfl|hc
  .rw[pj]at e; cases e
  .rw[pj]at hc; cases hc
 rcases hx with hk|hk
 .refine wpAny_storeName_local hk hn (λh' pe hs=>?_) lI
  have(oL,_,_,vz,_):=id hn;refine h _ ⟨I.ok,I.os,I.bare,⟨λb o e n hb hx=>?_,λb o e n hb hx=>?_,I.base.free,λb o e hx=>?_,I.base.c9,I.base.cT,I.base.dF⟩,⟨_,pe,λj y v' e1 e2 e3=>?_⟩,λy c e=>?_,I.free,I.aY,λp hp=>?_,tracked ⟨oL,vz,I.free⟩ hs,by simpa using I.len⟩ ⟨_,hs,.inl rfl⟩
  .exact(hs.2 b<|qj<|qi (qh e) I.ok.above).trans (I.base.keep b o e n hb hx)
  .have(sl,e1):=I.base.slot b o e n hb hx
   exact⟨sl,(hs.2 b<|qj<|qi (qh e) I.ok.above).trans e1⟩
  .have(o',e1):=I.base.there b o e hx
   exact⟨o',(hs.2 b<|qj<|qi (qh e) I.ok.above).trans e1⟩
  .by_cases hj:j=i
   .subst hj
    rw[hi]at e1; cases e1;rw[List.getElem?_set_self nP]at e2;cases e2;exact⟨u,r,.inl ⟨hk,by simp⟩⟩
   .rw[qB<|Ne.symm hj]at e2
    have(u',r',q):=hl j y v' e1 e2 e3;refine⟨u',r',?_⟩;rcases q with⟨k,e⟩|⟨k,c,e,z⟩
    .refine .inl ⟨k,?_⟩
     have:y≠x:=λe=>hj<|CT hN e1<|e▸hi;simp[this,e]
    .exact .inr ⟨k,c,e,z.sameBut hs<|kI y c e⟩
  .have(w',z):=I.cell y c e
   exact⟨w',z.sameBut hs<|kI y c e⟩
  .have(e,n,ne,nf,d):=I.pin p hp
   exact⟨(hs.2 p.1 ne).trans e,n,ne,nf,d⟩
 .have EI:X.fn x=true:=by
   rcases hf with z|z
   .exact z
   .rw[z]at hk; cases hk
  have(c,hc):=I.ok.has x (.inl hk);have(w',z):=I.cell x c hc;refine wpAny_storeName_cell I.ok.kind hk hc z λh' fH hs=>?_;have(oc,sW,EA):=id z;refine h {s with heap:=h'} ⟨I.ok,I.os,I.bare,⟨λb o e n hb hx=>?_,λb o e n hb hx=>?_,I.base.free,λb o e hx=>?_,I.base.c9,I.base.cT,I.base.dF⟩,⟨m,hn.sameBut hs<|Ne.symm<|kI x c hc,λj y v' e1 e2 e3=>?_⟩,λy c' e=>?_,I.free,I.aY,λp hp=>?_,tracked ⟨oc,sW,I.aY x c hc⟩ hs,by simpa using I.len⟩ ⟨c,hs,.inr hc⟩
  .exact(hs.2 b<|qj<|qi (qh e)<|I.ok.pC x c EI hc).trans (I.base.keep b o e n hb hx)
  .have(sl,e1):=I.base.slot b o e n hb hx
   exact⟨sl,(hs.2 b<|qj<|qi (qh e)<|I.ok.pC x c EI hc).trans e1⟩
  .have(o',e1):=I.base.there b o e hx
   exact⟨o',(hs.2 b<|qj<|qi (qh e)<|I.ok.pC x c EI hc).trans e1⟩
  .by_cases hj:j=i
   .subst hj
    rw[hi]at e1; cases e1;rw[List.getElem?_set_self nP]at e2;cases e2;exact⟨u,r,.inr ⟨.inl hk,c,hc,fH⟩⟩
   .rw[qB<|Ne.symm hj]at e2
    have(u',r',q):=hl j y v' e1 e2 e3;refine⟨u',r',?_⟩;rcases q with q|⟨k,c',e,z'⟩
    .exact .inl q
    .refine .inr ⟨k,c',e,z'.sameBut hs ?_⟩
     rintro rfl;exact hj<|CT hN e1<|I.ok.inj _ _ _ e hc▸hi
  .by_cases Lm:c'=c
   .subst Lm; exact⟨_,fH⟩
   .have(w2,z2):=I.cell y c' e
    exact⟨w2,z2.sameBut hs Lm⟩
  .have(e,n,ne,nf,d):=I.pin p hp
   refine⟨(hs.2 p.1 ?_).trans e,n,ne,nf,d⟩;intro q;rw[q,sW]at e;have q':oc=p.2:=qw e;exact d w' (by rw[<-q']; exact EA)
theorem uF{M:Model}{A:Qf}{E:Qc->Qd->Prop}{i:Nat}{x:Str}{v:V}{u:Qc}{Q:Unit->Qd->Prop}(I:Inv X pins σ H s)(hN:X.N.Nodup)(hi:X.N[i]?=some x)(hx:Loc X.env.scope x)(r:zQ v u)
  (h:∀ s',Inv X pins (σ.set i<|some v) H s'->Q () s') (hf:X.fn x=true\/X.env.scope.names.lookup x=some .local:=by first|exact .inl rfl|exact .inr rfl|assumption):wpAny M A (storeName X.env x u) Q E s :=
 Jt I hN hi hx r (λs' I' _=>h s' I') hf
theorem Inv.wc{s':Qd}{ch:Qa Qg}(I:Inv X pins σ H s)(ho:s'.os=s.os)(u:Un (hU X.stack) ch H H' s.heap s'.heap)(aD:cZ X.prog X.w X.K H' s'.heap)(hg:AllBare s'.gens)
  (mQ:∀ b∈ch,(b∈X.ex\/X.bo.heap.objs.size<=b)/\b≠X.env.locals/\(∀ x c,X.env.cells.lookup x=some c->c≠b)/\∀ p∈X.pn++pins,p.1≠b):Inv X pins σ H' s':=by
 have(h',g',d',t',o'):=s';have e:o'=s.os:=ho;subst e;exact I.call (g':=g') (t':=t') (d':=d') u aD hg mQ
end
abbrev XK:=Qc->Qb Qg->Hp->Prop
abbrev St:=Qa (Qb V)
abbrev VK:=V->Hp->Prop
abbrev TE:=St->Hp->VK->Prop
abbrev TT:=St->Hp->(Bool->Hp->Prop)->Prop
abbrev TA:=St->Hp->(Qa V->Hp->Prop)->Prop
structure Ends where
 nx:St->Hp->Prop
 rt:VK
 bk:St->Hp->Prop:=λ_ _=>False
 ct:St->Hp->Prop:=λ_ _=>False
abbrev TS:=Ends->St->Hp->Prop
def EP(X:Cx)(pins:Qa (Qg×Obj))(σ:St)(Q:VK)(u:Qc)(s':Qd):Prop:=∃ v H',Inv X pins σ H' s'/\zQ v u/\Q v H'
def TP(X:Cx)(pins:Qa (Qg×Obj))(σ:St)(Q:Bool->Hp->Prop)(b:Bool)(s':Qd):Prop:=∃ H',Inv X pins σ H' s'/\Q b H'
def AP(X:Cx)(pins:Qa (Qg×Obj))(σ:St)(Q:Qa V->Hp->Prop)(us:Qa Qc)(s':Qd):Prop:=∃ vs H',Inv X pins σ H' s'/\zH vs us/\Q vs H'
def SP(X:Cx)(pins:Qa (Qg×Obj))(D:Ends)(f:Flow)(s':Qd):Prop :=
 match f with
 | .next=>∃ aC H',Inv X pins aC H' s'/\D.nx aC H'
 | .brk=>∃ aC H',Inv X pins aC H' s'/\D.bk aC H'
 | .cont=>∃ aC H',Inv X pins aC H' s'/\D.ct aC H'
 | .ret u=>∃ v aC H',Inv X pins aC H' s'/\zQ v u/\D.rt v H'
def PE(X:Cx)(e:Expr)(t:TE):Prop :=
 ∀ (pins:Qa (Qg×Obj)) (s:Qd) (σ:St) (H:Hp) (Q:VK),Inv X pins σ H s->t σ H Q->wpAny (model X.prog X.w) X.A (eval e X.env) (EP X pins σ Q) X.xe s
def PT(X:Cx)(e:Expr)(t:TT):Prop :=
 ∀ (pins:Qa (Qg×Obj)) (s:Qd) (σ:St) (H:Hp) (Q:Bool->Hp->Prop),Inv X pins σ H s->t σ H Q->wpAny (model X.prog X.w) X.A (isTrue e X.env<|eval e X.env) (TP X pins σ Q) X.xe s
def PW(X:Cx)(e:Expr)(t:TT):Prop :=
 ∀ (whole:Sem Qc) (pins:Qa (Qg×Obj)) (s:Qd) (σ:St) (H:Hp) (Q:Bool->Hp->Prop),Inv X pins σ H s->t σ H Q->wpAny (model X.prog X.w) X.A (isTrue e X.env whole) (TP X pins σ Q) X.xe s
theorem PW.pt{X:Cx}{e:Expr}{t:TT}(h:PW X e t):PT X e t:=h _
def PA(X:Cx)(es:Qa Expr)(t:TA):Prop :=
 ∀ (pos:Pos) (pins:Qa (Qg×Obj)) (s:Qd) (σ:St) (H:Hp) (Q:Qa V->Hp->Prop),Inv X pins σ H s->t σ H Q->wpAny (model X.prog X.w) X.A (spliced<|backTo pos<|starEach es X.env) (AP X pins σ Q) X.xe s
def PS(X:Cx)(st:Stmt)(t:TS):Prop :=
 ∀ (pins:Qa (Qg×Obj)) (s:Qd) (σ:St) (H:Hp) (D:Ends),Inv X pins σ H s->t D σ H->wpAny (model X.prog X.w) X.A (exec st X.env) (SP X pins D) X.xe s
def cW(X:Cx)(st:Qa Stmt)(t:TS):Prop :=
 ∀ (pins:Qa (Qg×Obj)) (s:Qd) (σ:St) (H:Hp) (D:Ends),Inv X pins σ H s->t D σ H->wpAny (model X.prog X.w) X.A (execs st X.env) (SP X pins D) X.xe s
theorem aJ{α:Type}{t:Sem α}{Q Q':α->Qd->Prop}{M:Model}{A:Qf}{E:Qc->Qd->Prop}{s:Qd}(h:wpAny M A t Q E s)(hQ:∀ a s,Q a s->Q' a s):wpAny M A t Q' E s:=wpAny_mono h hQ λ_ _ x=>x
section
variable{X:Cx}
theorem bin{a b:Expr}{ta tb:TE}(ha:PE X a ta)(hb:PE X b tb){pins:Qa (Qg×Obj)}{s:Qd}{σ:St}{H:Hp}{R:V->V->Hp->Prop}(I:Inv X pins σ H s)(h:ta σ H λx H1=>tb σ H1 λy H2=>R x y H2)
  {α:Type} {Q:α->Qd->Prop} {f:Qc->Qc->Sem α}
  (hf:∀ v u s2 x y H2,Inv X pins σ H2 s2->zQ x v->zQ y u->R x y H2->wpAny (model X.prog X.w) X.A (f v u) Q X.xe s2):
  wpAny (model X.prog X.w) X.A (eval a X.env) (λv aH=>wpAny (model X.prog X.w) X.A (eval b X.env) (λu lz=>wpAny (model X.prog X.w) X.A (f v u) Q X.xe lz) X.xe aH) X.xe s:=by
 refine aJ (ha pins s σ H _ I h) λv s1 hZ=>?_;have(x,H1,I1,r1,q1):=hZ;refine aJ (hb pins s1 σ H1 _ I1 q1) λu s2 hZ=>?_;have(y,H2,I2,r2,q2):=hZ;exact hf v u s2 x y H2 I2 r1 r2 q2
def kO(i:Nat):TE:=λσ H Q=>∃ v,σ[i]?=some (some v)/\Q v H
def tC(v:V):TE:=λ_ H Q=>Q v H
theorem P6{i:Nat}{x:Str}{pos:Pos}(hN:X.N[i]?=some x)(hv:AA X.env.scope x)(hd:(x==("__debug__":Str))=false:=by decide)(gL:(x==("__classdict__":Str))=false:=by decide):PE X (.Name x pos) (kO i):=by
 intro pins s σ H Q I h;have(v,e,h):=h;have(m,hn,hl):=I.loc;have(u,r,l):=hl i x v hN e hv;have fin:EP X pins σ Q u s:=⟨v,H,I,r,h⟩;rcases l with⟨hk,hm⟩|⟨hk,c,hc,pk⟩
 .exact wpAny_Name (wpAny_loadName_local I.ok.kind hk hn hm fin) hd
 .rcases hk with hk|hk
  .exact wpAny_Name (wpAny_loadName_cell I.ok.kind hk hc pk fin) hd
  .exact wpAny_Name (wpAny_loadName_free I.ok.kind hk hc pk fin gL) hd
theorem P5{i j pos}:PE X (.Constant (.int i) j pos) (tC<|.int i):=λ_ _ _ H _ I h=>wpAny_Constant_int ⟨.int i,H,I.tok _,⟨_,rfl⟩,h⟩
theorem OF{b j pos}:PE X (.Constant (.bool b) j pos) (tC<|.bl b):=λ_ _ _ H _ I h=>Constant_bool ⟨.bl b,H,I,rfl,h⟩
theorem P4{j pos}:PE X (.Constant .none j pos) (tC .aK):=λ_ _ _ H _ I h=>Constant_none ⟨.aK,H,I,rfl,h⟩
theorem P2{x j pos}:PE X (.Constant (.str x) j pos) (tC<|.str x):=λ_ _ _ H _ I h=>Calls.Constant_str ⟨.str x,H,I.tok _,⟨_,rfl⟩,h⟩
def Gl(X:Cx)(x:Str):Prop:=X.env.kindOf x=some .globalImplicit
theorem p4{E:Qc->Qd->Prop}{pins:Qa (Qg×Obj)}{s:Qd}{σ:St}{H:Hp}{x:Str}{u:Qc}{pos:Pos}{Q:Qc->Qd->Prop}(I:Inv X pins σ H s)(hg:Gl X x)(hm:X.mg x=some u)(h:Q u s)
  (hd:(x==("__debug__":Str))=false:=by decide):wpAny (model X.prog X.w) X.A (eval (.Name x pos) X.env) Q E s :=
 Calls.Name_function_global I.ok.kind hg (Calls.loadGlobal_global (by rw[I.ok.glob]; exact I.mod.glob.keeps I.bk) hm h) hd
theorem uh{E:Qc->Qd->Prop}{pins:Qa (Qg×Obj)}{s:Qd}{σ:St}{H:Hp}{x:Str}{u:Qc}{pos:Pos}{Q:Qc->Qd->Prop}(I:Inv X pins σ H s)(hg:Gl X x)(hm:X.mg x=none)(hv:bootBuiltins x=some u)(h:Q u s)
  (hn:x ≠ "__name__":=by decide) (hd:(x==("__debug__":Str))=false:=by decide):wpAny (model X.prog X.w) X.A (eval (.Name x pos) X.env) Q E s:=by
 have(mb,h1,h2):=I.mod.blt;exact Calls.Name_function_global I.ok.kind hg (Calls.loadGlobal_builtin (by rw[I.ok.glob]; exact I.mod.glob.keeps I.bk) hm (by rw[I.ok.blt]; exact h1.keeps I.bk) ((h2 x hn).trans hv) h) hd
theorem Ic{x:Str}{v:V}{u:Qc}{pos:Pos}(hg:Gl X x)(hm:X.mg x=some u)(r:zQ v u)(hd:(x==("__debug__":Str))=false:=by decide):PE X (.Name x pos) (tC v):=
 λ_ _ _ H _ I h=>p4 I hg hm ⟨v,H,I,r,h⟩ hd
theorem TC{x:Str}{v:V}{u:Qc}{pos:Pos}(hg:Gl X x)(hm:X.mg x=none)(hv:bootBuiltins x=some u)(r:zQ v u)(hn:x ≠ "__name__":=by decide)(hd:(x==("__debug__":Str))=false:=by decide):PE X (.Name x pos) (tC v):=
 λ_ _ _ H _ I h=>uh I hg hm hv ⟨v,H,I,r,h⟩ hn hd
variable{a b:Expr}{ta tb:TE}{pos:Pos}
def tB(t:TE):TT:=λσ H Q=>t σ H λx H1=>∃ c,x=.bl c/\Q c H1
theorem P1{e:Expr}{t:TE}(h:PE X e t)(he:∀ whole,isTrue e X.env whole=(do let v <-whole; standAt e.pos; holding [v] (truthy v)):=by intro _; rfl):PT X e (tB t):=by
 intro pins s σ H Q I hw;refine isTrue_plain (aJ (h pins s σ H _ I hw) λv s1 hZ=>?_)<|he _;have(x,H1,I1,r1,q1):=hZ;have(d,rfl,q):=q1;cases r1;exact wpAny_truthy_bool ⟨H1,I1,q⟩
variable{tA mw:TT}{rest:Qa Expr}
def Bf(t u:TT):TT:=λσ H Q=>t σ H λc H1=>if c=true then u σ H1 Q else Q false H1
def DH(t u:TT):TT:=λσ H Q=>t σ H λc H1=>if c=true then Q true H1 else u σ H1 Q
def Be(t:TT):TT:=λσ H Q=>t σ H λc H1=>Q (!c) H1
theorem TB(ha:PT X a tA):PW X (.BoolOp .And [a] pos) tA:=by
 intro wh pins s σ H Q I h;refine isTrue_and<|aJ (ha pins s σ H Q I h) λc s1 e=>?_;cases c with
 | true=>exact isTrue_and_nil e
 | false=>exact e
theorem P0(ha:PT X a tA):PW X (.BoolOp .Or [a] pos) tA:=by
 intro wh pins s σ H Q I h;refine isTrue_or<|aJ (ha pins s σ H Q I h) λc s1 e=>?_;cases c with
 | false=>exact isTrue_or_nil e
 | true=>exact e
theorem PZ(ha:PT X a tA)(hb:PW X (.BoolOp .And (b::rest) pos) mw):PW X (.BoolOp .And (a::b::rest) pos) (Bf tA mw):=by
 intro wh pins s σ H Q I h;refine isTrue_and<|aJ (ha pins s σ H _ I h) λc s1 hZ=>?_;have(H1,I1,q1):=hZ;cases c with
 | true=>exact hb wh pins s1 σ H1 Q I1 q1
 | false=>exact⟨H1,I1,q1⟩
theorem OE(ha:PT X a tA)(hb:PW X (.BoolOp .Or (b::rest) pos) mw):PW X (.BoolOp .Or (a::b::rest) pos) (DH tA mw):=by
 intro wh pins s σ H Q I h;refine isTrue_or<|aJ (ha pins s σ H _ I h) λc s1 hZ=>?_;have(H1,I1,q1):=hZ;cases c with
 | true=>exact⟨H1,I1,q1⟩
 | false=>exact hb wh pins s1 σ H1 Q I1 q1
theorem PY(ha:PT X a tA):PT X (.UnaryOp .Not a pos) (Be tA):=by
 intro pins s σ H Q I h;exact isTrue_not<|ha pins s σ H (λc H1=>Q (!c) H1) I h
def Ca(ta tb:TE):TE:=λσ H Q=>ta σ H λx H1=>∃ c,x=.bl c/\if c=true then tb σ H1 Q else Q (.bl false) H1
def B9(ta:TE):TE:=λσ H Q=>ta σ H λx H1=>∃ c,x=.bl c/\Q (.bl (!c)) H1
theorem PX{op}{t:TE}(h:PE X a t):PE X (.BoolOp op [a] pos) t:=λpins s σ H Q I hw=>BoolOp_one<|h pins s σ H Q I hw
theorem PV(ha:PE X a ta)(hb:PE X (.BoolOp .And (b::rest) pos) tb):PE X (.BoolOp .And (a::b::rest) pos) (Ca ta tb):=by
 intro pins s σ H Q I h;refine BoolOp_and<|aJ (ha pins s σ H _ I h) λv s1 hZ=>?_;have(x,H1,I1,r1,q1):=hZ;have(c,rfl,q1):=q1;cases r1;refine wpAny_truthy_bool ?_;cases c with
 | true=>exact hb pins s1 σ H1 Q I1 q1
 | false=>exact⟨.bl false,H1,I1,rfl,q1⟩
theorem PR(ha:PE X a ta):PE X (.UnaryOp .Not a pos) (B9 ta):=by
 intro pins s σ H Q I h;refine UnaryOp_<|aJ (ha pins s σ H _ I h) λv s1 hZ=>?_;have(x,H1,I1,r1,q1):=hZ;have(c,rfl,q1):=q1;cases r1;exact not_of<|wpAny_truthy_bool ⟨.bl (!c),H1,I1,rfl,q1⟩
def DJ(t:TT)(ta tb:TE):TE:=λσ H Q=>t σ H λc H1=>if c=true then ta σ H1 Q else tb σ H1 Q
theorem UX{c:Expr}(hc:PT X c tA)(ha:PE X a ta)(hb:PE X b tb):PE X (.IfExp c a b pos) (DJ tA ta tb):=by
 intro pins s σ H Q I h;refine wpAny_IfExp<|aJ (hc pins s σ H _ I h) λd s1 hZ=>?_;have(H1,I1,q1):=hZ;cases d with
 | true=>exact ha pins s1 σ H1 Q I1 q1
 | false=>exact hb pins s1 σ H1 Q I1 q1
end
def bE(K:qc)(H:Hp)(a:Qg)(xs:Qa V):Prop :=
 Rd H a (.lst xs)\/
  ∃ (o:Obj) (aj:Array Qc) (n:Nat),K.lookup a=some o/\o.cls=.type "list"/\o.dict=none/\o.data=.seq aj n/\aj.size<=sizeLine/\zH xs aj.toList
def cy(K:qc)(H:Hp)(a:Qg)(xs:Qa V):Prop :=
 Rd H a (.tup xs)\/
  ∃ (o:Obj) (aj:Array Qc) (n:Nat),K.lookup a=some o/\o.cls=.type "tuple"/\o.data=.seq aj n/\aj.size<=sizeLine/\zH xs aj.toList
def Mi:Qc->Qb V
 | .none=>some .aK
 | .bool b=>some<|.bl b
 | .int i _=>some<|.int i
 | .str x _=>some<|.str x
 | .bytes b _=>some<|.jL b
 | .float b _=>some<|.rm b
 | .ref a=>some<|.ref a
 | .type n=>some<|.ty n
 | _=>none
theorem zQ.abs{x:V}{u:Qc}(r:zQ x u):Mi u=some x:=by
 cases x with
 | aK=>cases r; rfl
 | bl _=>cases r; rfl
 | int _=>have(t,rfl):=r; rfl
 | str _=>have(t,rfl):=r; rfl
 | jL _=>have(t,rfl):=r; rfl
 | rm _=>have(t,rfl):=r; rfl
 | ref _=>cases r; rfl
 | ty _=>cases r; rfl
theorem zQ.inj{x y:V}{u:Qc}(r:zQ x u)(q:zQ y u):x=y:=qw (r.abs.symm.trans q.abs)
theorem zH.inj:∀ {xs ys:Qa V} {us:Qa Qc},zH xs us->zH ys us->xs=ys
 | _,_,_,.nil,.nil=>rfl
 | _,_,_,.cons r t,.cons r' t'=>by rw[r.inj r',zH.inj t t']
section
variable{X:Cx}{pins:Qa (Qg×Obj)}{σ:St}{H:Hp}{s:Qd}{a:Qg}{xs ys:Qa V}
theorem bE.of{K:qc}(h:H a=some (.lst xs)):bE K H a xs:=.inl (.inl h)
theorem cy.of{K:qc}(h:H a=some (.tup xs)):cy K H a xs:=.inl (.inl h)
theorem Inv.list(I:Inv X pins σ H s)(h:bE X.K H a xs):∃ aj:Qa Qc,zH xs aj/\PlainL s.heap a aj.toArray/\xs.length<=sizeLine:=by
 rcases h with h|⟨o,aj,n,hk,hc,hd,hs,hz,r⟩
 .have(z,aj,n,r,e):=h.ok I.aD
  exact⟨aj,r,⟨_,n,e,rfl,rfl,rfl⟩,z⟩
 .refine⟨aj.toList,r,⟨o,n,I.cB a o hk,hc,hd,by simpa using hs⟩,?_⟩
  have e:=r.length;simp only[Array.length_toList]at e;omega
theorem Inv.tuple(I:Inv X pins σ H s)(h:cy X.K H a xs):∃ aj:Qa Qc,zH xs aj/\IsTup s.heap a aj.toArray/\xs.length<=sizeLine:=by
 rcases h with h|⟨o,aj,n,hk,hc,hs,hz,r⟩
 .have(z,aj,r,p):=h.ok I.aD
  exact⟨aj,r,p.tup,z⟩
 .refine⟨aj.toList,r,⟨o,I.cB a o hk,hc,n,by simpa using hs⟩,?_⟩
  have e:=r.length;simp only[Array.length_toList]at e;omega
theorem Inv.lD(I:Inv X pins σ H s)(h:bE X.K H a xs)(h':bE X.K H a ys):xs=ys:=by
 obtain⟨aj,r,⟨o,n,e,_,_,d⟩,_⟩:=I.list h;obtain⟨its',r',⟨o',n',e',_,_,d'⟩,_⟩:=I.list h';rw[e]at e'; cases e';rw[d]at d';injection d' with d1 _;have:aj=its':=by simpa using congrArg Array.toList d1
 subst this;exact r.inj r'
theorem Inv.fS(I:Inv X pins σ H s)(h:cy X.K H a xs)(h':cy X.K H a ys):xs=ys:=by
 obtain⟨aj,r,⟨o,e,_,n,d⟩,_⟩:=I.tuple h;obtain⟨its',r',⟨o',e',_,n',d'⟩,_⟩:=I.tuple h';rw[e]at e'; cases e';rw[d]at d';injection d' with d1 _;have:aj=its':=by simpa using congrArg Array.toList d1
 subst this;exact r.inj r'
end
abbrev Cx.fF(X:Cx)(E:Qc->Qd->Prop):Cx:={X with xe:=E}
abbrev Cx.qO(X:Cx):Cx:=X.fF λ_ _=>False
theorem Cx.Ok.fF{X:Cx}(ok:X.Ok)(E:Qc->Qd->Prop):(X.fF E).Ok :=
 ⟨ok.mod,ok.kind,ok.glob,ok.blt,ok.above,ok.inj,ok.has,ok.pC,ok.hd,ok.frames,ok.qG,ok.tu,ok.bs,ok.kJ,ok.g8,ok.i8,ok.cS,ok.mR⟩
theorem Cx.Ok.cz{X:Cx}{E:Qc->Qd->Prop}(ok:(X.fF E).Ok):X.Ok :=
 ⟨ok.mod,ok.kind,ok.glob,ok.blt,ok.above,ok.inj,ok.has,ok.pC,ok.hd,ok.frames,ok.qG,ok.tu,ok.bs,ok.kJ,ok.g8,ok.i8,ok.cS,ok.mR⟩
section
variable{X:Cx}{pins:Qa (Qg×Obj)}{σ:St}{H:Hp}{s:Qd}{E:Qc->Qd->Prop}
theorem Inv.fF(I:Inv X pins σ H s)(E:Qc->Qd->Prop):Inv (X.fF E) pins σ H s:=⟨I.ok.fF E,I.os,I.bare,I.base,I.loc,I.cell,I.free,I.aY,I.pin,I.aD,I.len⟩
theorem Inv.cz(I:Inv (X.fF E) pins σ H s):Inv X pins σ H s:=⟨I.ok.cz,I.os,I.bare,I.base,I.loc,I.cell,I.free,I.aY,I.pin,I.aD,I.len⟩
theorem SP.cz{D:Ends}{f:Flow}{s':Qd}(h:SP (X.fF E) pins D f s'):SP X pins D f s':=by
 cases f with
 | next=>have(aC,H',I,q):=h; exact⟨aC,H',I.cz,q⟩
 | brk=>have(aC,H',I,q):=h; exact⟨aC,H',I.cz,q⟩
 | cont=>have(aC,H',I,q):=h; exact⟨aC,H',I.cz,q⟩
 | ret u=>have(v,aC,H',I,r,q):=h; exact⟨v,aC,H',I.cz,r,q⟩
theorem cW.qO{st:Qa Stmt}{t:TS}(h:cW X.qO st t):cW X st t:=λpins s σ H D I hw=>
 wpAny_mono (h pins s σ H D (I.fF _) hw) (λ_ _ q=>q.cz) λ_ _ z=>False.elim z
end
section
variable{X:Cx}{st:Stmt}{rest:Qa Stmt}{t u:TS}{e:Expr}{te:TE}{pos:Pos}
def B4:TS:=λD σ H=>D.nx σ H
def Bc(t u:TS):TS:=λD σ H=>t {D with nx:=u D} σ H
theorem SD:cW X [] B4:=λ_ _ σ H _ I h=>wpAny_execs_nil ⟨σ,H,I,h⟩
theorem UW(h1:PS X st t)(h2:cW X rest u):cW X (st::rest) (Bc t u):=by
 intro pins s σ H D I h;refine wpAny_execs_cons<|aJ (h1 pins s σ H {D with nx:=u D} I h) λf s1 q=>?_;cases f with
 | next=>
  have(aC,H',I',q):=q;exact h2 pins s1 aC H' D I' q
 | ret v=>exact q
 | brk=>exact q
 | cont=>exact q
theorem CO(h1:PS X st t):cW X [st] t:=by
 intro pins s σ H D I h;refine wpAny_execs_cons<|aJ (h1 pins s σ H D I h) λf s1 q=>?_;cases f with
 | next=>exact wpAny_execs_nil q
 | ret v=>exact q
 | brk=>exact q
 | cont=>exact q
def B3:TS:=λD σ H=>D.ct σ H
theorem Xi:PS X (.Continue pos) B3:=λ_ _ σ H _ I h=>wpAny_Continue ⟨σ,H,I,h⟩
theorem Inv.quiet{pins:Qa (Qg×Obj)}{σ:St}{H:Hp}{s:Qd}(I:Inv X pins σ H s):interactive X.env=false:=by simp[interactive,I.ok.kind]
def B2(te:TE):TS:=λD σ H=>te σ H λ_ H1=>D.nx σ H1
theorem SA(he:PE X e te)(hs:swapsWith e none pos.line X.env=pure false:=by rfl):PS X (.Expr e pos) (B2 te):=by
 intro pins s σ H D I h;exact wpAny_Expr_any (aJ (he pins s σ H _ I h) λv s1 ⟨x,H1,I1,r1,q1⟩=>⟨σ,H1,I1,q1⟩) I.quiet hs
def wZ(te:TE):TS:=λD σ H=>te σ H D.rt
theorem PQ(he:PE X e te):PS X (.Return (some e) pos) (wZ te):=by
 intro pins s σ H D I h;exact wpAny_Return_some<|aJ (he pins s σ H _ I h) λv s1 ⟨x,H1,I1,r1,q1⟩=>⟨x,σ,H1,I1,r1,q1⟩
def Bb(c:TT)(t u:TS):TS:=λD σ H=>c σ H λb H1=>if b=true then t D σ H1 else u D σ H1
theorem OD{c:Expr}{a b:Qa Stmt}{tc:TT}(hc:PT X c tc)(ha:cW X a t)(hb:cW X b u):PS X (.If c a b pos) (Bb tc t u):=by
 intro pins s σ H D I h;refine wpAny_If<|aJ (hc pins s σ H _ I h) λd s1 hZ=>?_;have(H1,I1,q1):=hZ;cases d with
 | true=>exact ha pins s1 σ H1 D I1 q1
 | false=>exact hb pins s1 σ H1 D I1 q1
end
abbrev TG:=V->St->Hp->(St->Hp->Prop)->Prop
abbrev iM:=Qa V->St->Hp->(St->Hp->Prop)->Prop
def PG(X:Cx)(target:Expr)(t:TG):Prop :=
 ∀ (pins:Qa (Qg×Obj)) (s:Qd) (σ:St) (H:Hp) (v:V) (u:Qc) (Q:St->Hp->Prop),Inv X pins σ H s->zQ v u->t v σ H Q->
  wpAny (model X.prog X.w) X.A (assign target X.env u) (λ_ s'=>∃ aC H',Inv X pins aC H' s'/\Q aC H') X.xe s
def pE(X:Cx)(ts:Qa Expr)(t:iM):Prop :=
 ∀ (pins:Qa (Qg×Obj)) (s:Qd) (σ:St) (H:Hp) (vs:Qa V) (us:Qa Qc) (Q:St->Hp->Prop),Inv X pins σ H s->zH vs us->t vs σ H Q->
  wpAny (model X.prog X.w) X.A (assignInOrder ((assignEach ts X.env).map (·.2)) us) (λ_ s'=>∃ aC H',Inv X pins aC H' s'/\Q aC H') X.xe s
abbrev wY:=V->V->V->Hp->(Hp->Prop)->Prop
def Ba(X:Cx)(t:wY):Prop :=
 ∀ (pins:Qa (Qg×Obj)) (s:Qd) (σ:St) (H:Hp) (o i v:V) (ov iv u:Qc) (Q:Hp->Prop),Inv X pins σ H s->zQ o ov->zQ i iv->zQ v u->t o i v H Q->
  wpAny (model X.prog X.w) X.A (setItem ov iv u) (λ_ s'=>∃ H',Inv X pins σ H' s'/\Q H') X.xe s
section
variable{X:Cx}{pos:Pos}
def jv(i:Nat):TG:=λv σ H Q=>Q (σ.set i<|some v) H
theorem Sz{i:Nat}{x:Str}(hN:X.N.Nodup)(hi:X.N[i]?=some x)(hx:Loc X.env.scope x)(hf:X.fn x=true\/X.env.scope.names.lookup x=some .local:=by first|exact .inl rfl|exact .inr rfl|assumption):PG X (.Name x pos) (jv i):=by
 intro pins s σ H v u Q I r h;exact wpAny_assign_Name<|uF I hN hi hx r (λs' I'=>⟨_,H,I',h⟩) hf
def wX:iM:=λvs σ H Q=>vs=[]/\Q σ H
def t9(t:TG)(u:iM):iM:=λvs σ H Q=>∃ v r,vs=v::r/\t v σ H λaC H'=>u r aC H' Q
theorem Sy:pE X [] wX:=by
 intro pins s σ H vs us Q I r h;have(e,h):=h;subst e;cases r;exact assignInOrder_nil ⟨σ,H,I,h⟩
theorem UU{e:Expr}{es:Qa Expr}{t:TG}{u:iM}(h1:PG X e t)(h2:pE X es u)
  (hs:(assignEach (e::es) X.env).map (·.2)=assign e X.env::(assignEach es X.env).map (·.2):=by rfl):pE X (e::es) (t9 t u):=by
 intro pins s σ H vs us Q I r h;have(v,vr,e1,h):=h;subst e1;cases r with
 | cons r rr=>
  rw[hs];refine assignInOrder_cons<|aJ (h1 pins s σ H _ _ _ I r h) λ_ s1 hZ=>?_;have(eh,H1,I1,q1):=hZ;exact h2 pins s1 eh H1 _ _ Q I1 rr q1
def wW(K:qc)(n:Nat)(t:iM):TG:=λv σ H Q=>∃ a xs,v=.ref a/\cy K H a xs/\xs.length=n/\t xs σ H Q
theorem PN{es:Qa Expr}{k:Nat}{t:iM}{n:Nat}(hc:X.calm=true)(h:pE X es t)
  (hn:(assignEach es X.env).length=n:=by rfl) (i7:(assignEach es X.env).findIdx? (·.1)=none:=by rfl):PG X (.Tuple es k pos) (wW X.K n t):=by
 intro pins s σ H v u Q I r hw;have(a,xs,e1,hq,hl,hw):=hw;subst e1;cases r;have(aj,rv,ht,hz):=I.tuple hq;refine assign_Tuple_tuple (I.ok.hd hc) ht (by simp[hn,<-hl,rv.length]) i7 λh' hx=>?_;have I1:Inv X pins σ H {s with heap:=h'}:=I.kept (t':=s.toks) λb o e=>hx b o (qj<|qh e) e;exact h pins _ σ H xs _ Q I1 (by simpa using rv) hw
def A9(to ti:TE)(t:wY):TG:=λv σ H Q=>to σ H λo H1=>ti σ H1 λi H2=>t o i v H2 λH3=>Q σ H3
theorem QB{o i:Expr}{to ti:TE}{t:wY}(ho:PE X o to)(hi:PE X i ti)(hs:Ba X t)
  (ha:∀ v,assign (.Subscript o i pos) X.env v=(do
   let ov <-holding [v] (eval o X.env)
   let iv <-holding [v,ov] (eval i X.env)
   standAt pos
   holding [v,ov,iv] (setItem ov iv v)
   release [v,ov,iv] []):=by intro _; rfl):PG X (.Subscript o i pos) (A9 to ti t):=by
 intro pins s σ H v u Q I r h;rw[ha];refine qa<|wpAny_holding<|aJ (ho pins s σ H _ I h) λov s1 hZ=>?_;have(x,H1,I1,r1,q1):=hZ;refine qa<|wpAny_holding<|aJ (hi pins s1 σ H1 _ I1 q1) λiv s2 hZ=>?_;have(y,H2,I2,r2,q2):=hZ;refine qa<|wpAny_standAt<|qa<|wpAny_holding<|aJ (hs pins s2 σ H2 x y v ov iv u _ I2 r1 r2 r q2) λ_ s3 hZ=>?_;have(H3,I3,q3):=hZ;exact wpAny_release ⟨σ,H3,I3,q3⟩
def lV(te:TE)(g:TG):TS:=λD σ H=>te σ H λx H1=>g x σ H1 D.nx
theorem Qz{tg e:Expr}{te:TE}{g:TG}(he:PE X e te)(hg:PG X tg g)(hs:swapsWithSole [tg] e pos.line X.env=pure false:=by rfl)(hw:swappedStores [tg] e X.env=pure none:=by rfl)
  (h1:(assignEach [tg] X.env).map (·.2)=[assign tg X.env]:=by rfl):PS X (.Assign [tg] e pos) (lV te g):=by
 intro pins s σ H D I h;refine wpAny_Assign_stores (aJ (he pins s σ H _ I h) λv s1 hZ=>?_) hs hw;have(x,H1,I1,r1,q1):=hZ;rw[h1];exact aJ (hg pins s1 σ H1 x v _ I1 r1 q1) λ_ s2 q=>q
theorem Qy{i:Nat}{x:Str}{e:Expr}{te:TE}{pos':Pos}(hN:X.N.Nodup)(hi:X.N[i]?=some x)(hx:Loc X.env.scope x)(he:PE X e te)(hs:swapsWith e (some<|.Name x pos') pos.line X.env=pure false:=by rfl)(hf:X.fn x=true\/X.env.scope.names.lookup x=some .local:=by first|exact .inl rfl|exact .inr rfl|assumption):
  PS X (.Assign [.Name x pos'] e pos) (lV te<|jv i):=by
 intro pins s σ H D I h;refine wpAny_Assign_Name (aJ (he pins s σ H _ I h) λv s1 hZ=>?_) hs;have(y,H1,I1,r1,q1):=hZ;exact uF I1 hN hi hx r1 (λs2 I2=>⟨_,H1,I2,q1⟩) hf
def Bp(i j:Nat)(ta:TA):TS:=λD σ H=>ta σ H λvs H1=>∃ v w,vs=[v,w]/\D.nx ((σ.set i<|some v).set j<|some w) H1
theorem Qx{i j:Nat}{x y:Str}{a b:Expr}{ta:TA}{px py pt:Pos}{kt k2 qK}(hc:X.calm=true)(hN:X.N.Nodup)(hi:X.N[i]?=some x)(hj:X.N[j]?=some y)(d0:i≠j)
  (hx:X.env.scope.names.lookup x=some .local) (hy:X.env.scope.names.lookup y=some .local) (ha:PA X [a,b] ta)
  (hw:swappedStores [.Tuple [.Name x px,.Name y py] kt pt] (.Tuple [a,b] k2 qK) X.env=pure (some [x,y]))
  (hs:swapsWithSole [.Tuple [.Name x px,.Name y py] kt pt] (.Tuple [a,b] k2 qK) pos.line X.env=pure false:=by rfl):
  PS X (.Assign [.Tuple [.Name x px,.Name y py] kt pt] (.Tuple [a,b] k2 qK) pos) (Bp i j ta):=by
 intro pins s σ H D I h;rw[exec_Assign_arm];refine qa<|wpAny_standAt ?_;rw[hs];refine qa<|qb ?_;rw[if_neg (by decide)];refine qa<|Tuple_<|aJ (ha _ pins s σ H _ I h) λus s1 hZ=>?_;have(vs,H1,I1,r1,q1):=hZ;have(v,w,e1,q1):=q1;subst e1;obtain⟨u1,u2,rfl,rv,u0⟩:∃ u1 u2,us=[u1,u2]/\zQ v u1/\zQ w u2:=by
  cases r1 with
  | cons p q=>
   cases q with
   | cons p' q'=>
    cases q';exact⟨_,_,rfl,p,p'⟩
 refine qy ?_ (by show 2<=sizeLine; decide);have I2:Inv X pins σ H1 {s1 with heap:=s1.heap.push {cls:=.type "tuple",data:=.seq [u1,u2].toArray}}:=I1.kept (t':=s1.toks) λb o e=>qd _ e;rw[hw];refine qa<|qb ?_;show wpAny (model X.prog X.w) X.A (do rule "assign.swapped-stores"; let items <-unpackItems (.ref s1.heap.objs.size) 2 none; assignInOrder [λv=>bindName X.env y v,λv=>bindName X.env x v] items.reverse; pure Flow.next) _ _ _;refine qa<|wpAny_rule<|qa<|unpackItems_tuple (items:=#[u1,u2]) (I.ok.hd hc) (IsTup.new s1.heap _) λh' kD=>?_;have I3:=I2.kept (h':=h') (t':=s1.toks) λb o e=>kD b o (qj<|qh e) e;show wpAny _ _ (assignInOrder [λv=>bindName X.env y v,λv=>bindName X.env x v] [u2,u1] >>= λ_=>pure Flow.next) _ _ _;refine qa<|assignInOrder_cons<|wpAny_bindName<|uF I3 hN hj (.inl hy) u0 (λs2 I4=>?_)<|.inr hy;refine assignInOrder_cons<|wpAny_bindName<|uF I4 hN hi (.inl hx) rv (λs3 I5=>assignInOrder_nil<|qb ?_)<|.inr hx;rw[List.set_comm _ _<|Ne.symm d0]at I5;exact⟨_,H1,I5,q1⟩
end
section
variable{X:Cx}{pos:Pos}
def Cv(c:TT)(tb:TS):TS:=λD σ H=>∃ W:Nat->St->Hp->Prop,(∃ m,W m σ H)/\∀ m σ H,W m σ H->
 c σ H λb H1=>if b=true then ∃ N:St->Hp->Prop,(∀ aC H',N aC H'->∃ m',m' < m/\W m' aC H')/\tb {D with nx:=N,ct:=N,bk:=D.nx} σ H1 else D.nx σ H1
theorem UT{c:Expr}{body:Qa Stmt}{tc:TT}{tb:TS}(hp:PassesOwn (model X.prog X.w) X.A X.env X.xe)(hc:PT X c tc)(hb:cW X body tb):PS X (.While c body [] pos) (Cv tc tb):=by
 intro pins s σ H D I h;obtain⟨W,⟨m0,w0⟩,turn⟩:=h;refine wpAny_While<|codeAny_whileLoop (λn s'=>∃ aC H',Inv X pins aC H' s'/\W n aC H') ?_ m0 ⟨σ,H,I,w0⟩;rintro n s1 ⟨eh,H1,I1,w1⟩;refine wpAny_passesOwn hp<|aJ (hc pins s1 eh H1 _ I1<|turn n eh H1 w1) λb s2 hZ=>?_;have(H2,I2,q2):=hZ;cases b with
 | true=>
  have(N,hN,q2):=q2;rw[if_pos rfl];refine wpAny_passesOwn hp<|aJ (hb pins s2 eh H2 _ I2 q2) λf s3 q3=>?_;cases f with
  | next=>
   have(d9,H3,I3,n3):=q3;have(m',hm,w3):=hN d9 H3 n3;exact⟨m',hm,d9,H3,I3,w3⟩
  | cont=>
   have(d9,H3,I3,n3):=q3;have(m',hm,w3):=hN d9 H3 n3;exact⟨m',hm,d9,H3,I3,w3⟩
  | brk=>exact q3
  | ret v=>exact q3
 | false=>
  rw[if_neg qf];exact wpAny_execs_nil ⟨eh,H2,I2,q2⟩
end
structure It where
 go:Nat->Hp->Prop
 uM:Nat->Hp->V->Hp->Prop
 stop:Nat->Hp->Prop
def jU(X:Cx)(pins:Qa (Qg×Obj))(H:Hp)(b:Qg):Prop :=
 H b=none/\b≠X.env.locals/\b∉X.fs/\(b∈X.ex\/X.bo.heap.objs.size<=b)/\(∀ x c,X.env.cells.lookup x=some c->c≠b)/\∀ p∈X.pn++pins,p.1≠b
theorem Inv.hV{X:Cx}{pins:Qa (Qg×Obj)}{σ:St}{H H':Hp}{s:Qd}{b:Qg}(I:Inv X pins σ H s)(hb:s.heap.objs.size<=b)(hn:H' b=none):jU X pins H' b:=by
 refine⟨hn,æ<|qi I.lt hb,I.D6 hb,.inr<|qx I.sz hb,λx c e z=>?_,λp hp z=>?_⟩
 .have(v,q):=I.cell x c e
  exact absurd (qi q.lt (by rw[z]; exact hb))<|Í _
 .exact absurd (qi (qh (I.pin p hp).1) (by rw[z]; exact hb)) (Í _)
structure Turn (P:Qe) (w:Qh) (K:qc) (tg:Expr) (J:It) (fp:Qa Qg) (it:Qg) (tn:Nat->Heap->Prop):Prop where
 mem:it∈fp
 obj:∀ i h,tn i h->∀ b∈fp,∃ o,h.get? b=some o/\∀ v,o.data≠.cell v
 keep:∀ i h h',tn i h->(∀ b∈fp,∀ o,h.get? b=some o->h'.get? b=some o)->tn i h'
 item:∀ (X:Cx),X.prog=P->X.w=w->X.K=K->X.calm=true->∀ (i:Nat) (pins:Qa (Qg×Obj)) (s:Qd) (σ:St) (H:Hp) (E:Qc->Qd->Prop),Inv X pins σ H s->(∀ b∈fp,jU X pins H b)->tn i s.heap->J.go i H->
  wpAny (model P w) X.A (pyNext<|.ref it) (λr s1=>∃ u,r=some u/\
   wpAny (model P w) X.A (letOwnedTupleGo tg (.ref it) u) (λ_ s2=>∃ x H',Inv X pins σ H' s2/\zQ x u/\J.uM i H x H'/\tn (i+1) s2.heap/\∀ b∈fp,H' b=none) E s1) E s
 done:∀ (X:Cx),X.prog=P->X.w=w->X.K=K->X.calm=true->∀ (i:Nat) (pins:Qa (Qg×Obj)) (s:Qd) (σ:St) (H:Hp) (E:Qc->Qd->Prop),Inv X pins σ H s->(∀ b∈fp,jU X pins H b)->tn i s.heap->J.stop i H->
  wpAny (model P w) X.A (pyNext<|.ref it) (λr s1=>r=none/\Inv X pins σ H s1) E s
 self:∀ (A:Qf) (i:Nat) (s:Qd) (Q:Qc->Qd->Prop) (E:Qc->Qd->Prop),tn i s.heap->Q (.ref it) s->wpAny (model P w) A (pyIter<|.ref it) Q E s
abbrev TI:=St->Hp->(It->Hp->Prop)->Prop
def LV(X:Cx)(pins:Qa (Qg×Obj))(σ:St)(tg:Expr)(R:It->Hp->Prop)(Eh:Qc)(s2:Qd):Prop :=
 ∃ (it:Qg) (fp:Qa Qg) (tn:Nat->Heap->Prop) (J:It) (H':Hp),Eh=.ref it/\Inv X pins σ H' s2/\Turn X.prog X.w X.K tg J fp it tn/\tn 0 s2.heap/\(∀ b∈fp,jU X pins H' b)/\R J H'
def PI(X:Cx)(tg iter:Expr)(wi:TI):Prop :=
 ∀ (pins:Qa (Qg×Obj)) (s:Qd) (σ:St) (H:Hp) (R:It->Hp->Prop),Inv X pins σ H s->wi σ H R->
  wpAny (model X.prog X.w) X.A (eval iter X.env) (λv s1=>wpAny (model X.prog X.w) X.A (pyIter v) (LV X pins σ tg R) X.xe s1) X.xe s
theorem B1{M:Model}{A:Qf}{E:Qc->Qd->Prop}{s:Qd}{tg:Expr}{it:Qg}{u:Qc}{o:Obj}{n:String}{vs:Array Qc}{Q:Unit->Qd->Prop}(ho:s.heap.get? it=some o)(hc:o.cls=.type n)(hd:o.data=.fields vs)
  (hn:["enumerate", "zip", "dict_itemiterator", "dict_reverseitemiterator", "odict_iterator", "itertools.zip_longest", "itertools.pairwise"].contains n=false) (hQ:Q () s):wpAny M A (letOwnedTupleGo tg (.ref it) u) Q E s:=by
 unfold letOwnedTupleGo;cases tg<;>first
  | exact qb hQ
  | (cases u<;>first
    | exact qb hQ
    | (refine qa<|wpAny_load ho ?_
       rw[hc,hd];show wpAny M A (if(["enumerate", "zip", "dict_itemiterator", "dict_reverseitemiterator", "odict_iterator", "itertools.zip_longest", "itertools.pairwise"].contains n && vs[0]?==some (rawInt _))=true then _ else _) Q E s;rw[if_neg (by intro h; rw[hn,Bool.false_and]at h; cases h)];exact qb hQ))
def Fp(K:qc)(a:Qg):It :=
 ⟨λi H=>∃ xs x,bE K H a xs/\xs[i]?=some x,λi H x H'=>H'=H/\∀ xs,bE K H a xs->xs[i]?=some x,λi H=>∃ xs,bE K H a xs/\xs.length<=i⟩
def Fo(K:qc)(a:Qg):It :=
 ⟨λi H=>∃ xs x,cy K H a xs/\xs[i]?=some x,λi H x H'=>H'=H/\∀ xs,cy K H a xs->xs[i]?=some x,λi H=>∃ xs,cy K H a xs/\xs.length<=i⟩
def AI(lo:Int)(n:Nat):It:=⟨λi _=>i < n,λi H x H'=>H'=H/\x=.int (lo+i),λi _=>n<=i⟩
theorem Js{P:Qe}{w:Qh}{K:qc}{tg:Expr}(a it:Qg):Turn P w K tg (Fp K a) [it] it (λi h=>h.IsListIter it a i) where
 mem:=by simp
 obj:=λi h st b hb=>by
  have e:b=it:=by simpa using hb
  subst e;have(o,e,c,d):=st;exact⟨o,e,λv z=>by rw[d]at z; cases z⟩
 keep:=λi h h' st k=>st.at λo e=>k it (by simp) o e
 item:=by
  intro X hP hw hK hc i pins s σ H E I hf st hg;subst hP hw hK;have(xs,x,hq,hx):=hg;have(aj,rv,p,hz):=I.list hq;have(u,hu,ru):=rv.get hx;have(f0,f1,f2,f3,f4,f5):=hf it (by simp);refine wpAny_pyNext_list_item st p.isList (x:=u) (by simpa using hu) λh' aq sb=>?_;have I1:Inv X pins σ H {s with heap:=h'}:=I.turned (t':=s.toks) (λb o hb e=>(sb.2 b hb).trans e) f0 f1 f3 f4 f5;have(o,e,c,d):=id aq;exact⟨u,rfl,B1 (s:={s with heap:=h'}) e c d (by decide) ⟨x,H,I1,ru,⟨rfl,λys hy=>by rw[I.lD hy hq]; exact hx⟩,aq,λb hb=>(hf b hb).1⟩⟩
 done:=by
  intro X hP hw hK hc i pins s σ H E I hf st hg;subst hP hw hK;have(xs,hq,hx):=hg;have(aj,rv,p,hz):=I.list hq;have(f0,f1,f2,f3,f4,f5):=hf it (by simp);have hl:=rv.length;exact wpAny_pyNext_list_end (I.ok.hd hc) st p.isList (by simp; omega) λh' eb=>⟨rfl,I.turned (t':=s.toks) (λb o hb e=>eb b o hb e) f0 f1 f3 f4 f5⟩
 self:=λ_ _ _ _ _ st h=>wpAny_pyIter_listiter st h
theorem JE{P:Qe}{w:Qh}{K:qc}{tg:Expr}(a it:Qg):Turn P w K tg (Fo K a) [it] it (λi h=>h.IsTupleIter it a i) where
 mem:=by simp
 obj:=λi h st b hb=>by
  have e:b=it:=by simpa using hb
  subst e;have(o,e,c,d):=st;exact⟨o,e,λv z=>by rw[d]at z; cases z⟩
 keep:=λi h h' st k=>st.at λo e=>k it (by simp) o e
 item:=by
  intro X hP hw hK hc i pins s σ H E I hf st hg;subst hP hw hK;have(xs,x,hq,hx):=hg;have(aj,rv,p,hz):=I.tuple hq;have(u,hu,ru):=rv.get hx;have(f0,f1,f2,f3,f4,f5):=hf it (by simp);refine wpAny_pyNext_tuple_item st (show s.heap.IsTuple a aj.toArray from p) (x:=u) (by simpa using hu) λh' aq sb=>?_;have I1:Inv X pins σ H {s with heap:=h'}:=I.turned (t':=s.toks) (λb o hb e=>(sb.2 b hb).trans e) f0 f1 f3 f4 f5;have(o,e,c,d):=id aq;exact⟨u,rfl,B1 (s:={s with heap:=h'}) e c d (by decide) ⟨x,H,I1,ru,⟨rfl,λys hy=>by rw[I.fS hy hq]; exact hx⟩,aq,λb hb=>(hf b hb).1⟩⟩
 done:=by
  intro X hP hw hK hc i pins s σ H E I hf st hg;subst hP hw hK;have(xs,hq,hx):=hg;have(aj,rv,p,hz):=I.tuple hq;have(f0,f1,f2,f3,f4,f5):=hf it (by simp);have hl:=rv.length;exact wpAny_pyNext_tuple_end (I.ok.hd hc) st (show s.heap.IsTuple a aj.toArray from p) (by simp; omega) λh' eb=>⟨rfl,I.turned (t':=s.toks) (λb o hb e=>eb b o hb e) f0 f1 f3 f4 f5⟩
 self:=λ_ _ _ _ _ st h=>wpAny_pyIter_tupleiter st h
theorem W8{P:Qe}{w:Qh}{K:qc}{tg:Expr}(it:Qg)(lo:Int)(n:Nat):Turn P w K tg (AI lo n) [it] it (λi h=>IsRangeIter h it (lo+(i:Nat) * 1) ((n:Int) - (i:Nat)) 1) where
 mem:=by simp
 obj:=λi h st b hb=>by
  have e:b=it:=by simpa using hb
  subst e;exact⟨_,st,λv z=>by
   have z':Data.fields _=Data.cell v:=z;cases z'⟩
 keep:=λi h h' st k=>k it (by simp) _ st
 item:=by
  intro X hP hw hK hc i pins s σ H E I hf st hg;subst hP hw hK;have(f0,f1,f2,f3,f4,f5):=hf it (by simp);have W:=Walks.range (prog:=X.prog) (w:=X.w) (I.ok.hd hc) it lo 1 n;refine W.item i s _ _ hg st λv h' tk hv aq kk=>?_;have(t,rfl):=hv;have I1:Inv X pins σ H {s with heap:=h',toks:=tk}:=I.turned (λb o hb e=>kk b o (by simpa using hb) e) f0 f1 f3 f4 f5;refine⟨_,rfl,B1 (s:={s with heap:=h',toks:=tk}) (n := "range_iterator") aq rfl rfl (by decide) ⟨.int<|lo+i,H,I1,⟨t,?_⟩,⟨rfl,rfl⟩,aq,λb hb=>(hf b hb).1⟩⟩;rw[Int.mul_one]
 done:=by
  intro X hP hw hK hc i pins s σ H E I hf st hg;subst hP hw hK;have(f0,f1,f2,f3,f4,f5):=hf it (by simp);exact wpAny_pyNext_range_end (I.ok.hd hc) st (by have:n<=i:=hg; omega) λh' eb=>⟨rfl,I.turned (t':=s.toks) (λb o hb e=>eb b o hb e) f0 f1 f3 f4 f5⟩
 self:=λ_ _ _ _ _ st h=>wpAny_pyIter_rangeiter st h
section
variable{X:Cx}{tg:Expr}
def B0(K:qc)(tl:TE):TI:=λσ H R=>tl σ H λx H1=>∃ a,x=.ref a/\(∃ xs,bE K H1 a xs)/\R (Fp K a) H1
def Bo(K:qc)(tl:TE):TI:=λσ H R=>tl σ H λx H1=>∃ a,x=.ref a/\(∃ xs,cy K H1 a xs)/\R (Fo K a) H1
theorem Sx{l:Expr}{tl:TE}(hl:PE X l tl):PI X tg l (B0 X.K tl):=by
 intro pins s σ H R I h;refine aJ (hl pins s σ H _ I h) λv s1 hZ=>?_;have(x,H1,I1,r1,q1):=hZ;obtain⟨a,e,⟨xs,hq⟩,q⟩:=q1;subst e;cases r1;have(aj,rv,p,hz):=I1.list hq;refine wpAny_pyIter_list p.isList ?_;refine⟨s1.heap.objs.size,[s1.heap.objs.size],_,_,H1,rfl,I1.kept (t':=s1.toks) λb o e=>qd _ e,Js a _,⟨_,qg _ rfl,rfl,rfl⟩,λb hb=>?_,q⟩;have e:b=s1.heap.objs.size:=by simpa using hb
 subst e;exact I1.hV (qe _)<|I1.aD.fresh<|qe _
theorem Qw{l:Expr}{tl:TE}(hl:PE X l tl):PI X tg l (Bo X.K tl):=by
 intro pins s σ H R I h;refine aJ (hl pins s σ H _ I h) λv s1 hZ=>?_;have(x,H1,I1,r1,q1):=hZ;obtain⟨a,e,⟨xs,hq⟩,q⟩:=q1;subst e;cases r1;have(aj,rv,p,hz):=I1.tuple hq;refine wpAny_pyIter_tuple (show s1.heap.IsTuple a aj.toArray from p) ?_;refine⟨s1.heap.objs.size,[s1.heap.objs.size],_,_,H1,rfl,I1.kept (t':=s1.toks) λb o e=>qd _ e,JE a _,⟨_,qg _ rfl,rfl,rfl⟩,λb hb=>?_,q⟩;have e:b=s1.heap.objs.size:=by simpa using hb
 subst e;exact I1.hV (qe _)<|I1.aD.fresh<|qe _
theorem US{pins:Qa (Qg×Obj)}{σ:St}{H:Hp}{s:Qd}{R:It->Hp->Prop}{E:Qc->Qd->Prop}{lo hi:Int}{t u v:Tok}{tk:Nat}(I:Inv X pins σ H s)(h1:-(2^62)<=lo)(h2:lo < 2^62)(h3:-(2^62)<=hi)(h4:hi < 2^62)
  (q:R (AI lo (hi - lo).toNat) H):wpAny (model X.prog X.w) X.A (pyIter<|.ref s.heap.objs.size) (LV X pins σ tg R) E {s with heap:=s.heap.push {cls:=.type "range",data:=.fields #[.int lo t,.int hi u,.int 1 v]},toks:=tk}:=by
 refine wpAny_pyIter_range (IsRange.new ..) (small_one h1 h2 h3 h4) ?_;have I1:Inv X pins σ H {s with heap:=s.heap.push {cls:=.type "range",data:=.fields #[.int lo t,.int hi u,.int 1 v]},toks:=tk}:=I.kept λb o e=>qd _ e;refine⟨(s.heap.push {cls:=.type "range",data:=.fields #[.int lo t,.int hi u,.int 1 v]}).objs.size,[(s.heap.push {cls:=.type "range",data:=.fields #[.int lo t,.int hi u,.int 1 v]}).objs.size],_,_,H,rfl,
  I1.kept (t':=tk) λb o e=>qd _ e,W8 _ lo (hi - lo).toNat,?_,λb hb=>?_,q⟩
 .have e1:lo+((0:Nat):Int) * 1=lo:=by simp
  have e2:(((hi - lo).toNat:Nat):Int) - ((0:Nat):Int)=Builtin.Range.rangeSize lo hi 1:=by rw[rangeSize_one]; split<;>omega
  show IsRangeIter _ _ (lo+((0:Nat):Int) * 1) ((((hi - lo).toNat:Nat):Int) - ((0:Nat):Int)) 1;rw[e1,e2];exact qg _ rfl
 .have e:b=(s.heap.push {cls:=.type "range",data:=.fields #[.int lo t,.int hi u,.int 1 v]}).objs.size:=by simpa using hb
  subst e;exact I1.hV (qe _)<|I1.aD.fresh<|qe _
def BZ(ta:TA):TI:=λσ H R=>ta σ H λvs H1=>∃ j:Int,vs=[.int j]/\-(2^62)<=j/\j < 2^62/\R (AI 0 j.toNat) H1
theorem Vp{a:Expr}{ta:TA}{p pos:Pos}(hg:Gl X "range")(hm:X.mg "range"=none)(ha:PA X [a] ta)(hs:starEach [a] X.env=[(false,eval a X.env)]:=by rfl):PI X tg (.Call (.Name "range" p) [a] [] pos) (BZ ta):=by
 intro pins s σ H R I h;refine Call_<|uh I hg hm boot_range<|â (aJ (ha pos pins s σ H _ I h) λus s1 hZ=>?_) hs rfl;have(vs,H1,I1,r1,q1):=hZ;have(j,e,q1,q2,q):=q1;subst e;cases r1 with
 | cons r rr=>
  cases rr;have(t,rfl):=r;exact call_range_1<|US I1 (by omega) (by omega) q1 q2 (by simpa using q)
def wV(wi:TI)(g:TG)(tb:TS):TS:=λD σ H=>wi σ H λJ H1=>∃ W:Nat->Nat->St->Hp->Prop,(∃ m,W 0 m σ H1)/\∀ i m σ H,W i m σ H->
 (J.stop i H/\D.nx σ H)\/(J.go i H/\∃ N:St->Hp->Prop,(∀ aC H',N aC H'->∃ m',m' < m/\W (i+1) m' aC H')/\∀ x H',J.uM i H x H'->g x σ H' λfZ H2=>tb {D with nx:=N,ct:=N,bk:=D.nx} fZ H2)
def ug(fp:Qa Qg)(h:Heap):Qa (Qg×Obj):=fp.filterMap λb=>(h.get? b).map λo=>(b,o)
theorem yC{fp:Qa Qg}{h:Heap}{b:Qg}{o:Obj}(hb:b∈fp)(e:h.get? b=some o):(b,o)∈ug fp h:=List.mem_filterMap.mpr ⟨b,hb,by rw[e]; rfl⟩
theorem Vo{fp:Qa Qg}{h:Heap}{p:Qg×Obj}(hp:p∈ug fp h):p.1∈fp/\h.get? p.1=some p.2:=by
 have(b,hb,e):=List.mem_filterMap.mp hp;cases q:h.get? b with
 | none=>rw[q]at e; cases e
 | some o=>
  rw[q]at e;have e':(b,o)=p:=qw e;subst e';exact⟨hb,q⟩
theorem Inv.pinned{pins:Qa (Qg×Obj)}{σ:St}{H:Hp}{s:Qd}{fp:Qa Qg}(I:Inv X pins σ H s)(hf:∀ b∈fp,jU X pins H b)(ho:∀ b∈fp,∃ o,s.heap.get? b=some o/\∀ v,o.data≠.cell v):Inv X (pins++ug fp s.heap) σ H s :=
 I.eH λp hp=>(Ò.mp hp).elim (λz=>I.pin p<|qv _ z) λz=>by
  have(hb,e):=Vo z;have(f0,f1,f2,_):=hf p.1 hb;have(o,e',d):=ho p.1 hb;rw[e]at e'; cases e';exact⟨e,f0,f1,f2,d⟩
theorem Inv.eP{pins pl:Qa (Qg×Obj)}{σ:St}{H:Hp}{s:Qd}(I:Inv X (pins++pl) σ H s):Inv X pins σ H s:=I.eH λp hp=>I.pin p<|qv _<|Ö _ hp
theorem Qv{iter:Expr}{body:Qa Stmt}{wi:TI}{g:TG}{tb:TS}{pos:Pos}(hp:PassesOwn (model X.prog X.w) X.A X.env X.xe)(hc:X.calm=true)(hi:PI X tg iter wi)(hg:PG X tg g)(hb:cW X body tb)
  (hs:∀ x,foldedSetIterable iter X.env x=pure x:=by intro _; rfl):PS X (.For tg iter body [] pos) (wV wi g tb):=by
 intro pins s σ H D I h;refine wpAny_For (aJ (hi pins s σ H _ I h) λv s1 h1=>aJ h1 λEh s2 h2=>?_) hs;obtain⟨it,fp,tn,J,H2,e,I2,T,bz,f2,W,⟨m0,w0⟩,turn⟩:=h2;subst e;have qH:∀ {H':Hp},(∀ b∈fp,H' b=none)->∀ b∈fp,jU X pins H' b:=λhn b hb=>⟨hn b hb,(f2 b hb).2⟩;refine codeAny_forLoop_any (λn s'=>∃ i aC H',Inv X pins aC H' s'/\tn i s'.heap/\(∀ b∈fp,H' b=none)/\W i n aC H') ?_ m0 ⟨0,σ,H2,I2,bz,λb hb=>(f2 b hb).1,w0⟩;rintro n s3 ⟨i,d9,H3,I3,lA,vQ,w3⟩;rcases turn i n d9 H3 w3 with⟨stop,qn⟩|⟨go,N,hN,step⟩
 .refine wpAny_passesOwn hp (aJ (T.done X rfl rfl rfl hc i pins s3 d9 H3 X.xe I3 (qH vQ) lA stop) λr s4 hZ=>?_)
  have(hr,I4):=hZ;subst hr;exact wpAny_execs_nil ⟨d9,H3,I4,qn⟩
 .refine wpAny_passesOwn hp (aJ (T.item X rfl rfl rfl hc i pins s3 d9 H3 X.xe I3 (qH vQ) lA go) λr s4 hZ=>?_)
  have(u,hr,h4):=hZ;subst hr;refine wpAny_passesOwn hp<|aJ h4 λ_ s5 hZ=>?_;have(x,H5,I5,r5,y5,mD,E6):=hZ;have Fq:=I5.pinned (qH E6) (T.obj _ _ mD);refine wpAny_passesOwn hp<|aJ (hg _ s5 d9 H5 x u _ Fq r5<|step x H5 y5) λ_ s6 hZ=>?_;have(tI,H6,I6,q6):=hZ;refine wpAny_passesOwn hp<|aJ (hb _ s6 tI H6 _ I6 q6) λf s7 q7=>?_;have again:∀ {kN:St} {H7:Hp},Inv X (pins++ug fp s5.heap) kN H7 s7->N kN H7->∃ m,m < n/\∃ i aC H',Inv X pins aC H' s7/\tn i s7.heap/\(∀ b∈fp,H' b=none)/\W i m aC H':=λ{kN H7} I7 n7=>by
   have(m',hm,w7):=hN kN H7 n7;refine⟨m',hm,i+1,kN,H7,I7.eP,T.keep _ _ _ mD λb hb o e=>(I7.pin (b,o)<|qv _<|qv _<|yC hb e).1,λb hb=>?_,w7⟩;have(o,e,d):=T.obj _ _ mD b hb;exact(I7.pin (b,o)<|qv _<|qv _<|yC hb e).2.1
  cases f with
  | next=>have(kN,H7,I7,n7):=q7; exact again I7 n7
  | cont=>have(kN,H7,I7,n7):=q7; exact again I7 n7
  | brk=>have(kN,H7,I7,q7):=q7; exact⟨kN,H7,I7.eP,q7⟩
  | ret v=>have(x7,kN,H7,I7,r7,q7):=q7; exact⟨x7,kN,H7,I7.eP,r7,q7⟩
end
abbrev R2:=V->V->Hp->VK->Prop
def bK(X:Cx)(f:Qc->Qc->Sem Qc)(r:R2):Prop :=
 ∀ (pins:Qa (Qg×Obj)) (s:Qd) (σ:St) (H:Hp) (x y:V) (v u:Qc) (Q:VK),Inv X pins σ H s->zQ x v->zQ y u->r x y H Q->
  wpAny (model X.prog X.w) X.A (f v u) (EP X pins σ Q) X.xe s
def AD(X:Cx)(f:Qc->Sem Qc)(r:V->Hp->VK->Prop):Prop :=
 ∀ (pins:Qa (Qg×Obj)) (s:Qd) (σ:St) (H:Hp) (x:V) (v:Qc) (Q:VK),Inv X pins σ H s->zQ x v->r x H Q->
  wpAny (model X.prog X.w) X.A (f v) (EP X pins σ Q) X.xe s
def fQ(X:Cx)(f:Qc)(r:Qa V->Hp->VK->Prop):Prop :=
 ∀ (pins:Qa (Qg×Obj)) (s:Qd) (σ:St) (H:Hp) (xs:Qa V) (us:Qa Qc) (Q:VK),Inv X pins σ H s->zH xs us->r xs H Q->
  wpAny (model X.prog X.w) X.A (call f us) (EP X pins σ Q) X.xe s
def Mh(X:Cx)(r:V->Hp->(Bool->Hp->Prop)->Prop):Prop :=
 ∀ (pins:Qa (Qg×Obj)) (s:Qd) (σ:St) (H:Hp) (x:V) (v:Qc) (Q:Bool->Hp->Prop),Inv X pins σ H s->zQ x v->r x H Q->
  wpAny (model X.prog X.w) X.A (truthy v) (TP X pins σ Q) X.xe s
def mq(r:R2)(ta tb:TE):TE:=λσ H Q=>ta σ H λx H1=>tb σ H1 λy H2=>r x y H2 Q
def yV(r:V->Hp->VK->Prop)(ta:TE):TE:=λσ H Q=>ta σ H λx H1=>r x H1 Q
def rI(C:Int->Int->Prop)(g:Int->Int->V):R2:=λx y H Q=>∃ i j,x=.int i/\y=.int j/\C i j/\Q (g i j) H
def iY(g:Int->Int->V):R2:=λx y H Q=>∃ i j,x=.int i/\y=.int j/\Q (g i j) H
def rU(g:Int->V):V->Hp->VK->Prop:=λx H Q=>∃ i,x=.int i/\Q (g i) H
section
variable{X:Cx}{a b c:Expr}{ta tb tc:TE}{pos:Pos}
theorem Bn(ha:PE X a ta)(hb:PE X b tb){pins:Qa (Qg×Obj)}{s:Qd}{σ:St}{H:Hp}{R:V->V->Hp->Prop}(I:Inv X pins σ H s)
  (h:ta σ H λx H1=>tb σ H1 λy H2=>R x y H2) {Q:Qc->Qd->Prop} {f:Qc->Qc->Sem Qc}
  (hf:∀ v u s2 x y H2,Inv X pins σ H2 s2->zQ x v->zQ y u->R x y H2->wpAny (model X.prog X.w) X.A (f v u) Q X.xe s2):
  wpAny (model X.prog X.w) X.A (eval a X.env) (λv aH=>wpAny (model X.prog X.w) X.A (eval b X.env) (λu lz=>wpAny (model X.prog X.w) X.A (f v u) Q X.xe lz) X.xe aH) X.xe s:=by
 refine aJ (ha pins s σ H _ I h) λv s1 hZ=>?_;have(x,H1,I1,r1,q1):=hZ;refine aJ (hb pins s1 σ H1 _ I1 q1) λu s2 hZ=>?_;have(y,H2,I2,r2,q2):=hZ;exact hf v u s2 x y H2 I2 r1 r2 q2
theorem OC{op:Operator}{r:R2}(ho:bK X (binaryOp op) r)(ha:PE X a ta)(hb:PE X b tb):PE X (.BinOp a op b pos) (mq r ta tb):=by
 intro pins s σ H Q I h;exact wpAny_BinOp<|Bn ha hb I h λv u s2 x y H2 I2 rx ry q=>ho pins s2 σ H2 x y v u Q I2 rx ry q
theorem OB{op:UnaryOp}{r:V->Hp->VK->Prop}(ho:AD X (unaryOp op) r)(ha:PE X a ta):PE X (.UnaryOp op a pos) (yV r ta):=by
 intro pins s σ H Q I h;exact UnaryOp_<|aJ (ha pins s σ H _ I h) λv s1 ⟨x,H1,I1,r1,q1⟩=>ho pins s1 σ H1 x v Q I1 r1 q1
theorem u5{f:Qc->Qc->Sem Qc}{C:Int->Int->Prop}{g:Int->Int->Int}
  (rule:∀ (i j:Int) (t u:Tok) (s:Qd) (Q:Qc->Qd->Prop) (E:Qc->Qd->Prop),C i j->Q (.int (g i j) s.toks) {s with toks:=s.toks+1}->wpAny (model X.prog X.w) X.A (f (.int i t)<|.int j u) Q E s):
  bK X f (rI C λi j=>.int<|g i j):=by
 intro pins s σ H x y v u Q I rx ry h;have(i,j,rfl,rfl,hc,q):=h;have(t,rfl):=rx;have(t',rfl):=ry;exact rule i j t t' s _ _ hc ⟨.int<|g i j,H,I.tok _,⟨_,rfl⟩,q⟩
theorem FN{f:Qc->Qc->Sem Qc}{g:Int->Int->Int}
  (rule:∀ (i j:Int) (t u:Tok) (s:Qd) (Q:Qc->Qd->Prop) (E:Qc->Qd->Prop),Q (.int (g i j) s.toks) {s with toks:=s.toks+1}->wpAny (model X.prog X.w) X.A (f (.int i t)<|.int j u) Q E s):
  bK X f (iY λi j=>.int<|g i j):=by
 intro pins s σ H x y v u Q I rx ry h;have(i,j,rfl,rfl,q):=h;have(t,rfl):=rx;have(t',rfl):=ry;exact rule i j t t' s _ _ ⟨.int<|g i j,H,I.tok _,⟨_,rfl⟩,q⟩
theorem wU{f:Qc->Qc->Sem Qc}{g:Int->Int->Bool}
  (rule:∀ (i j:Int) (t u:Tok) (s:Qd) (Q:Qc->Qd->Prop) (E:Qc->Qd->Prop),Q (.bool<|g i j) s->wpAny (model X.prog X.w) X.A (f (.int i t)<|.int j u) Q E s):
  bK X f (iY λi j=>.bl<|g i j):=by
 intro pins s σ H x y v u Q I rx ry h;have(i,j,rfl,rfl,q):=h;have(t,rfl):=rx;have(t',rfl):=ry;exact rule i j t t' s _ _ ⟨.bl<|g i j,H,I,rfl,q⟩
def wR(i j:Int):Prop:=0<=j/\j<=1000000/\i.natAbs < 2^64
def rH(i j:Int):Prop:=(-(2^64) < i/\i < 2^64)\/(-(2^64) < j/\j < 2^64)
theorem rH.ok{i j:Int}(h:rH i j):IntMulOk i j:=by
 rcases h with⟨h1,h2⟩|⟨h1,h2⟩
 .exact .of_left (intBits_le_64 h1 h2)
 .exact .of_right (intBits_le_64 h1 h2)
theorem dD:bK X (binaryOp .Add) (iY λi j=>.int<|i+j):=FN λ_ _ _ _ _ _ _ q=>add_int q
theorem ju:bK X (binaryOp .Sub) (iY λi j=>.int<|i - j):=FN λ_ _ _ _ _ _ _ q=>sub_int q
theorem nv:bK X (binaryOp .Mult) (rI rH λi j=>.int<|i * j):=u5 λ_ _ _ _ _ _ _ hc q=>mul_int q hc.ok
theorem k9:bK X (binaryOp .Mod) (rI (λ_ j=>0 < j) λi j=>.int<|i % j):=u5 λi j _ _ _ _ _ hc q=>by
 have h1:(0:Int) < j:=hc;exact mod_int' (by omega) (by rw[Int.fmod_eq_emod_of_nonneg i (by omega)]; exact q)
theorem Qu:bK X (binaryOp .Pow) (rI wR λi j=>.int<|i^j.toNat):=u5 λ_ _ _ _ _ _ _ hc q=>pow_int_small hc.1 hc.2.1 hc.2.2 q
theorem Yb{f:Qc->Sem Qc}{g:Int->Int}
  (rule:∀ (i:Int) (t:Tok) (s:Qd) (Q:Qc->Qd->Prop) (E:Qc->Qd->Prop),Q (.int (g i) s.toks) {s with toks:=s.toks+1}->wpAny (model X.prog X.w) X.A (f<|.int i t) Q E s):
  AD X f (rU λi=>.int<|g i):=by
 intro pins s σ H x v Q I rx h;have(i,rfl,q):=h;have(t,rfl):=rx;exact rule i t s _ _ ⟨.int<|g i,H,I.tok _,⟨_,rfl⟩,q⟩
theorem mf:AD X (unaryOp .USub) (rU λi=>.int (-i)):=Yb λ_ _ _ _ _ q=>neg_int q
end
def Bm:V->V->Bool
 | .aK,.aK=>true | .aK,.int _=>true | .int _,.aK=>true | .aK,.bl _=>true | .bl _,.aK=>true | .aK,.str _=>true | .str _,.aK=>true
 | .int _,.int _=>true | .bl _,.bl _=>true | .str _,.str _=>true | .jL _,.jL _=>true
 | .int _,.str _=>true | .str _,.int _=>true | .bl _,.str _=>true | .str _,.bl _=>true
 | _,_=>false
def KO:R2:=λx y H Q=>Bm x y=true/\Q (.bl<|decide<|x=y) H
def KN:R2:=λx y H Q=>Bm x y=true/\Q (.bl (!decide (x=y))) H
theorem Ib{i j:Int}:decide (V.int i=V.int j)=(i==j):=by
 rw[Bool.eq_iff_iff];simp
theorem G1{i j:Bool}:decide (V.bl i=V.bl j)=(i==j):=by
 rw[Bool.eq_iff_iff];simp
theorem Ia{i j:Str}:decide (V.str i=V.str j)=(i==j):=by
 rw[Bool.eq_iff_iff];simp
theorem H9{i j:Array UInt8}:decide (V.jL i=V.jL j)=(i.toList==j.toList):=by
 rw[Bool.eq_iff_iff];cases i;cases j;simp
section
variable{X:Cx}{a b c:Expr}{ta tb tc:TE}{pos:Pos}
theorem zP{pins:Qa (Qg×Obj)}{σ:St}{H:Hp}{s:Qd}{Q:VK}{k k':Bool}(I:Inv X pins σ H s)(q:Q (.bl k) H)(e:k=k'):EP X pins σ Q (.bool k') s:=by
 subst e;exact⟨.bl k,H,I,rfl,q⟩
theorem gG:bK X (compareOp .Eq) KO:=by
 intro pins s σ H x y v u Q I rx ry h;have(hs,q):=h;cases x with
 | aK=>
  cases rx;cases y with
  | aK=>cases ry; exact PySem.EqNone.eq_none_none<|zP I q (by simp)
  | bl j=>cases ry; exact PySem.EqNone.eq_none_bool<|zP I q (by simp)
  | int j=>have(t',rfl):=ry; exact PySem.EqNone.eq_none_int<|zP I q (by simp)
  | str j=>have(t',rfl):=ry; exact PySem.EqNone.eq_none_str<|zP I q (by simp)
  | _=>exact absurd (show false=true from hs) qf
 | bl i=>
  cases rx;cases y with
  | aK=>cases ry; exact PySem.EqNone.eq_bool_none<|zP I q (by simp)
  | bl j=>cases ry; exact eq_bool<|zP I q G1
  | str j=>have(t',rfl):=ry; exact PySem.EqMixed.eq_bool_str<|zP I q (by simp)
  | _=>exact absurd (show false=true from hs) qf
 | int i=>
  have(t,rfl):=rx;cases y with
  | aK=>cases ry; exact PySem.EqNone.eq_int_none<|zP I q (by simp)
  | int j=>have(t',rfl):=ry; exact eq_int<|zP I q Ib
  | str j=>have(t',rfl):=ry; exact PySem.EqMixed.eq_int_str<|zP I q (by simp)
  | _=>exact absurd (show false=true from hs) qf
 | str i=>
  have(t,rfl):=rx;cases y with
  | aK=>cases ry; exact PySem.EqNone.eq_str_none<|zP I q (by simp)
  | bl j=>cases ry; exact PySem.EqMixed.eq_str_bool<|zP I q (by simp)
  | int j=>have(t',rfl):=ry; exact PySem.EqMixed.eq_str_int<|zP I q (by simp)
  | str j=>have(t',rfl):=ry; exact eq_str<|zP I q Ia
  | _=>exact absurd (show false=true from hs) qf
 | jL i=>
  have(t,rfl):=rx;cases y with
  | jL j=>have(t',rfl):=ry; exact PySem.W.eq_bytes<|zP I q H9
  | _=>exact absurd (show false=true from hs) qf
 | _=>cases y<;>exact absurd (show false=true from hs) qf
theorem rV:bK X (compareOp .NotEq) KN:=by
 intro pins s σ H x y v u Q I rx ry h;have(hs,q):=h;cases x with
 | aK=>
  cases rx;cases y with
  | aK=>cases ry; exact PySem.EqNone.ne_none_none<|zP I q (by simp)
  | bl j=>cases ry; exact PySem.EqNone.ne_none_bool<|zP I q (by simp)
  | int j=>have(t',rfl):=ry; exact PySem.EqNone.ne_none_int<|zP I q (by simp)
  | str j=>have(t',rfl):=ry; exact PySem.EqNone.ne_none_str<|zP I q (by simp)
  | _=>exact absurd (show false=true from hs) qf
 | bl i=>
  cases rx;cases y with
  | aK=>cases ry; exact PySem.EqNone.ne_bool_none<|zP I q (by simp)
  | bl j=>cases ry; exact ne_bool<|zP I q<|congrArg not G1
  | str j=>have(t',rfl):=ry; exact PySem.EqMixed.ne_bool_str<|zP I q (by simp)
  | _=>exact absurd (show false=true from hs) qf
 | int i=>
  have(t,rfl):=rx;cases y with
  | aK=>cases ry; exact PySem.EqNone.ne_int_none<|zP I q (by simp)
  | int j=>have(t',rfl):=ry; exact ne_int<|zP I q<|congrArg not Ib
  | str j=>have(t',rfl):=ry; exact PySem.EqMixed.ne_int_str<|zP I q (by simp)
  | _=>exact absurd (show false=true from hs) qf
 | str i=>
  have(t,rfl):=rx;cases y with
  | aK=>cases ry; exact PySem.EqNone.ne_str_none<|zP I q (by simp)
  | bl j=>cases ry; exact PySem.EqMixed.ne_str_bool<|zP I q (by simp)
  | int j=>have(t',rfl):=ry; exact PySem.EqMixed.ne_str_int<|zP I q (by simp)
  | str j=>have(t',rfl):=ry; exact ne_str<|zP I q<|congrArg not Ia
  | _=>exact absurd (show false=true from hs) qf
 | jL i=>
  have(t,rfl):=rx;cases y with
  | jL j=>have(t',rfl):=ry; exact PySem.W.ne_bytes<|zP I q<|congrArg not H9
  | _=>exact absurd (show false=true from hs) qf
 | _=>cases y<;>exact absurd (show false=true from hs) qf
theorem oE:bK X (compareOp .Lt) (iY λi j=>.bl<|decide<|i < j):=wU λ_ _ _ _ _ _ _ q=>lt_int q
theorem xA:bK X (compareOp .LtE) (iY λi j=>.bl<|decide<|i<=j):=wU λ_ _ _ _ _ _ _ q=>le_int q
theorem pP:bK X (compareOp .Gt) (iY λi j=>.bl<|decide<|j < i):=wU λ_ _ _ _ _ _ _ q=>gt_int q
theorem BY:bK X (compareOp .GtE) (iY λi j=>.bl<|decide<|j<=i):=wU λ_ _ _ _ _ _ _ q=>ge_int q
theorem xI:bK X (compareOp .Is) (λx y H Q=>y=.aK/\Q (.bl<|decide<|x=.aK) H):=by
 intro pins s σ H x y v u Q I rx ry h;have(rfl,q):=h;cases ry;refine is_none_gen<|zP I q ?_;cases x<;>first
  | (cases rx; rfl)
  | (have(t,rfl):=rx; rfl)
theorem Sw:bK X (compareOp .IsNot) (λx y H Q=>y=.aK/\Q (.bl (!decide (x=.aK))) H):=by
 intro pins s σ H x y v u Q I rx ry h;have(rfl,q):=h;cases ry;refine isnot_none_gen<|zP I q ?_;cases x<;>first
  | (cases rx; rfl)
  | (have(t,rfl):=rx; rfl)
theorem G0(b:Expr){op:CmpOp}(h:op≠.In:=by decide)(h2:op≠.NotIn:=by decide):behindInMarks op b=false:=by
 have e1:(op==CmpOp.In)=false:=by cases op<;>first|rfl|exact absurd rfl h
 have e2:(op==CmpOp.NotIn)=false:=by cases op<;>first|rfl|exact absurd rfl h2
 cases b<;>simp[behindInMarks,e1,e2]
theorem Sv{op:CmpOp}{r:R2}(ho:bK X (compareOp op) r)(ha:PE X a ta)(hb:PE X b tb)(hm:behindInMarks op b=false):PE X (.Compare a [op] [b] pos) (mq r ta tb):=by
 intro pins s σ H Q I h;exact wpAny_Compare1 (Bn ha hb I h λv u s2 x y H2 I2 rx ry q=>ho pins s2 σ H2 x y v u Q I2 rx ry q) hm
def pO(t:TE):TT:=λσ H Q=>t σ H λx H'=>∃ k,x=.bl k/\Q k H'
theorem Su{op:CmpOp}{r:R2}(ho:bK X (compareOp op) r)(ha:PE X a ta)(hb:PE X b tb)(hm:behindInMarks op b=false):PT X (.Compare a [op] [b] pos) (pO<|mq r ta tb):=by
 intro pins s σ H Q I h;refine wpAny_isTrue_Compare1 (aJ (ha pins s σ H _ I h) λv s1 ⟨x,H1,I1,r1,q1⟩=>aJ (hb pins s1 σ H1 _ I1 q1) λu s2 ⟨y,H2,I2,r2,q2⟩=>
  aJ (ho pins s2 σ H2 x y v u _ I2 r1 r2 q2) λc s3 ⟨z,H3,I3,r3,k,e,q3⟩=>?_) hm
 subst e;cases r3;exact wpAny_truthy_bool ⟨H3,I3,q3⟩
def uf(r r':R2)(ta tb tc:TE):TE:=λσ H Q=>ta σ H λx H1=>tb σ H1 λy H2=>r x y H2 λz H3=>∃ k,z=.bl k/\
 (if k=true then tc σ H3 λw' H4=>r' y w' H4 Q else Q (.bl false) H3)
theorem UR{op fV:CmpOp}{r r':R2}(ho:bK X (compareOp op) r)(dZ:bK X (compareOp fV) r')(ha:PE X a ta)(hb:PE X b tb)(hc:PE X c tc)
  (hm:lastMarks [op,fV] [b,c]=false:=by with_unfolding_all rfl):PE X (.Compare a [op,fV] [b,c] pos) (uf r r' ta tb tc):=by
 intro pins s σ H Q I h;refine Compare_chain (aJ (ha pins s σ H _ I h) λv s1 ⟨x,H1,I1,r1,q1⟩=>chain_link (aJ (hb pins s1 σ H1 _ I1 q1) λu s2 ⟨y,H2,I2,r2,q2⟩=>
  aJ (ho pins s2 σ H2 x y v u _ I2 r1 r2 q2) λd s3 ⟨z,H3,I3,r3,k,e,q3⟩=>?_)) hm
 subst e;cases r3;refine wpAny_truthy_bool ?_;cases k with
 | false=>exact ite_ff ⟨.bl false,H3,I3,rfl,q3⟩
 | true=>exact ite_tt<|chain_last<|aJ (hc pins s3 σ H3 _ I3 q3) λw' s4 ⟨z',H4,I4,r4,q4⟩=>dZ pins s4 σ H4 y z' u w' Q I4 r2 r4 q4
theorem UQ{op fV:CmpOp}{r r':R2}(ho:bK X (compareOp op) r)(dZ:bK X (compareOp fV) r')(ha:PE X a ta)(hb:PE X b tb)(hc:PE X c tc)
  (hm:lastMarks [op,fV] [b,c]=false:=by with_unfolding_all rfl):PT X (.Compare a [op,fV] [b,c] pos) (pO<|uf r r' ta tb tc):=by
 intro pins s σ H Q I h;refine isTrue_chain (aJ (ha pins s σ H _ I h) λv s1 ⟨x,H1,I1,r1,q1⟩=>test_link (aJ (hb pins s1 σ H1 _ I1 q1) λu s2 ⟨y,H2,I2,r2,q2⟩=>
  aJ (ho pins s2 σ H2 x y v u _ I2 r1 r2 q2) λd s3 ⟨z,H3,I3,r3,k,e,q3⟩=>?_)) hm
 subst e;cases r3;refine wpAny_truthy_bool ?_;cases k with
 | false=>
  have(k',e',q'):=q3;cases e';exact ite_ff ⟨H3,I3,q'⟩
 | true=>
  refine ite_tt<|test_last<|aJ (hc pins s3 σ H3 _ I3 q3) λw' s4 ⟨z',H4,I4,r4,q4⟩=>aJ (dZ pins s4 σ H4 y z' u w' _ I4 r2 r4 q4) λd' s5 hZ=>?_;have(z2,H5,I5,r5,k2,e2,q5):=hZ;subst e2;cases r5;exact wpAny_truthy_bool ⟨H5,I5,q5⟩
def Bk(K:qc)(x:V)(H:Hp)(k:Bool):Prop :=
 match x with
 | .aK=>k=false
 | .bl b=>k=b
 | .int i=>k=(i != 0)
 | .str y=>y.length<=sizeLine/\k=((y.length:Int) != 0)
 | .jL y=>y.size<=sizeLine/\k=((y.size:Int) != 0)
 | .ref p=>(∃ xs,bE K H p xs/\k=!xs.isEmpty)\/(∃ xs,cy K H p xs/\k=!xs.isEmpty)\/∃ aL,H p=some (.dK aL)/\k=!aL.isEmpty
 | _=>False
theorem W7{κ:Type}{aL:Qa (κ×V)}{vs:Qa (κ×Qc)}(r:KV aL vs):(!vs.isEmpty)=!aL.isEmpty:=by
 cases r<;>rfl
theorem JD{xs:Qa V}{aj:Qa Qc}(r:zH xs aj):(!aj.toArray.isEmpty)=!xs.isEmpty:=by
 cases r<;>simp
theorem su:(sizeLine:Nat) < 2^63:=by rw[sizeLine_eq]; decide
theorem Qt:Mh X (λx H Q=>∃ k,Bk X.K x H k/\Q k H):=by
 intro pins s σ H x v Q I rx h;have(k,e,q):=h;have hl:=su;have hs:sizeLine=16777216:=sizeLine_eq;cases x with
 | aK=>
  cases rx;have e':k=false:=e;subst e';exact truthy_none ⟨H,I,q⟩
 | bl b=>
  cases rx;have e':k=b:=e;subst e';exact wpAny_truthy_bool ⟨H,I,q⟩
 | int i=>
  have(t,rfl):=rx;have e':k=(i != 0):=e;subst e';exact PySem.P.truthy_int ⟨H,I,q⟩
 | str y=>
  have(t,rfl):=rx;obtain⟨hy,e'⟩:y.length<=sizeLine/\k=((y.length:Int) != 0):=e;subst e';exact PySem.P.truthy_str (by omega) ⟨H,I.tok _,q⟩
 | jL y=>
  have(t,rfl):=rx;obtain⟨hy,e'⟩:y.size<=sizeLine/\k=((y.size:Int) != 0):=e;subst e';exact PySem.W.truthy_bytes (by omega) ⟨H,I.tok _,q⟩
 | ref p=>
  cases rx;have e':(∃ xs,bE X.K H p xs/\k=!xs.isEmpty)\/(∃ xs,cy X.K H p xs/\k=!xs.isEmpty)\/∃ aL,H p=some (.dK aL)/\k=!aL.isEmpty:=e;rcases e' with⟨xs,hx,e'⟩|⟨xs,hx,e'⟩|⟨aL,hx,e'⟩
  .subst e'
   have(aj,r,pl,hz):=I.list hx;have hlen:=r.length;exact wpAny_truthy_list pl.isList (by simp only[List.size_toArray]; omega) ⟨H,I.tok _,by rw[JD r]; exact q⟩
  .subst e'
   have(aj,r,pl,hz):=I.tuple hx;have hlen:=r.length;exact truthy_tuple pl (by simp only[List.size_toArray]; omega) ⟨H,I.tok _,by rw[JD r]; exact q⟩
  .subst e'
   obtain⟨hz,hS,vs,r,m⟩:aL.length<=sizeLine/\(p==sysModules)=false/\∃ vs,KV aL vs/\s.heap.DictOf (iV X.prog X.w) p vs:=I.aD p _ hx;have hlen:aL.length=vs.length:=Paired.length r;exact wpAny_truthy_dict hS m (by omega) ⟨H,I.tok _,by rw[W7 r]; exact q⟩
 | _=>exact(show False from e).elim
theorem UP(ha:PE X a ta)(he:∀ whole,isTrue a X.env whole=(do let v <-whole; standAt a.pos; holding [v] (truthy v))):
  PT X a (λσ H Q=>ta σ H λx H'=>∃ k,Bk X.K x H' k/\Q k H'):=by
 intro pins s σ H Q I h;exact isTrue_plain (aJ (ha pins s σ H _ I h) λv s1 ⟨x,H1,I1,r1,q1⟩=>Qt pins s1 σ H1 x v Q I1 r1 q1)<|he _
theorem yB:bK X (binaryOp .Add) (λx y H Q=>∃ i j,x=.str i/\y=.str j/\i.length+j.length<=sizeLine/\Q (.str<|i++j) H):=by
 intro pins s σ H x y v u Q I rx ry h;have(i,j,rfl,rfl,hz,q):=h;have(t,rfl):=rx;have(t',rfl):=ry;exact add_str (λt' tk=>⟨.str<|i++j,H,I.tok _,⟨_,rfl⟩,q⟩) hz
theorem oC{x:V}{us:Qa Qc}(r:zH [x] us):∃ u,us=[u]/\zQ x u:=by
 cases r with
 | cons r1 r2=>cases r2; exact⟨_,rfl,r1⟩
theorem xx{x y:V}{us:Qa Qc}(r:zH [x,y] us):∃ u w',us=[u,w']/\zQ x u/\zQ y w':=by
 cases r with
 | cons r1 r2=>
  cases r2 with
  | cons r3 r4=>cases r4; exact⟨_,_,rfl,r1,r3⟩
theorem Jd:fQ X (.builtin "abs") (λxs H Q=>∃ i,xs=[.int i]/\Q (.int (if i < 0 then -i else i)) H):=by
 intro pins s σ H xs us Q I r h;have(i,rfl,q):=h;have(u,rfl,t,rfl):=oC r;exact call_abs_int λu tk=>⟨.int (if i < 0 then -i else i),H,I.tok _,⟨_,rfl⟩,q⟩
theorem Vn(hc:X.calm=true):fQ X (.builtin "min") (λxs H Q=>∃ i j,xs=[.int i,.int j]/\Q (.int (if j < i then j else i)) H):=by
 intro pins s σ H xs us Q I r h;have(i,j,rfl,q):=h;obtain⟨u,w',rfl,⟨t,rfl⟩,⟨t',rfl⟩⟩:=xx r;refine min_two_ints (I.ok.hd hc) λh' tk k=>⟨_,H,I.kept k,?_,q⟩
 by_cases hj:j < i
 .rw[if_pos hj,if_pos hj]; exact⟨_,rfl⟩
 .rw[if_neg hj,if_neg hj]; exact⟨_,rfl⟩
theorem uB:fQ X (.type "int") (λxs H Q=>(∃ i,xs=[.int i]/\Q (.int i) H)\/∃ k,xs=[.bl k]/\Q (.int (if k then 1 else 0)) H):=by
 intro pins s σ H xs us Q I r h;rcases h with⟨i,rfl,q⟩|⟨k,rfl,q⟩
 .have(u,rfl,t,rfl):=oC r
  exact call_int_int ⟨.int i,H,I,⟨_,rfl⟩,q⟩
 .have(u,rfl,r1):=oC r
  cases r1;exact call_int_bool ⟨.int (if k then 1 else 0),H,I.tok _,⟨_,rfl⟩,q⟩
end
structure rB (h:Heap) (x dx C:Qg) (mA:Str->Qb Qc):Prop where
 obj:h.get? x=some (PySem.W.instObj C dx)
 ns:h.Ns1 dx mA
 ne:dx≠x
theorem Dm{h:Heap}{dx:Qg}{mA:Str->Qb Qc}(n:h.Ns1 dx mA):∃ od,h.get? dx=some od/\∀ name,PySem.W.lookIn name od=some (mA name):=by
 have(o,es,ep,ho,hd,hk,_,hm):=n;refine⟨o,ho,λname=>?_⟩;have e:=hm name;unfold nsFind findBy at e;rw[<-Array.find?_toList]at e;unfold PySem.W.lookIn;rw[hd];dsimp only;split
 .rename_i y q
  rw[q]at e;exact congrArg some e
 .rename_i q
  rw[q]at e;have a:es.toList.any (·.refKey)=false:=by
   rw[List.any_eq_false];intro y hy;have(z,t,ka):=hk y (Array.mem_toList_iff.mp hy);simp[DictEntry.refKey,ka]
  have a':¬es.toList.any (·.refKey)=true:=by rw[a]; exact qf
  rw[if_neg a'];exact congrArg some e
theorem rB.look{h:Heap}{x dx C:Qg}{mA:Str->Qb Qc}(I:rB h x dx C mA):∃ od,PySem.W.InstAt h x (PySem.W.instObj C dx) C (some od)/\∀ name,PySem.W.lookIn name od=some (mA name):=
 let ⟨od,ho,hl⟩:=Dm I.ns
 ⟨od,⟨I.obj,rfl,rfl,ho⟩,hl⟩
section
variable{prog:Qe}{w:Qh}{A:Qf}{E:Qc->Qd->Prop}{s:Qd}{K:qc}{x dx C f:Qg}{mA:Str->Qb Qc}{name:Str}{v:Qc}
end
theorem pM.some_of{v:V}{o:Qb Qc}(r:pM (some v) o):∃ u,o=some u/\zQ v u:=by
 cases o with
 | none=>exact(show False from r).elim
 | some u=>exact⟨u,rfl,r⟩
theorem Vm{v:V}{u:Qc}(r:zQ v u):PySem.W.handedIn u=true:=by
 cases v with
 | aK=>cases(show u=Value.none from r); rfl
 | bl b=>cases(show u=Value.bool b from r); rfl
 | int i=>have(t,e):=(show ∃ t,u=Value.int i t from r); cases e; rfl
 | str x=>have(t,e):=(show ∃ t,u=Value.str x t from r); cases e; rfl
 | jL b=>have(t,e):=(show ∃ t,u=Value.bytes b t from r); cases e; rfl
 | rm b=>have(t,e):=(show ∃ t,u=Value.float b t from r); cases e; rfl
 | ref a=>cases(show u=Value.ref a from r); rfl
 | ty n=>cases(show u=Value.type n from r); rfl
section
variable{P:Qe}{w:Qh}{K:qc}{H H':Hp}{h h':Heap}{a C dx:Qg}{fs ZG:Qa (Str×V)}
theorem Ss(aD:cZ P w K H h)(e:H a=some (.ins C dx fs)):∃ mA,rB h a dx C mA/\(∀ f,pM (fs.lookup f)<|mA f)/\PySem.Within mA (fs.map (·.1))/\fs.length<=1000/\H dx=some (.own a):=by
 have(d,z,ne,ob,mA,n,r,q):=(show cG P w K H h a (.ins C dx fs) from aD a _ e);exact⟨mA,⟨ob,n,ne⟩,r,q,z,d⟩
end
structure AL (K:qc) (C:Qg):Prop where
 pg:PySem.W.plainGet K C Str.empty=true
 hd:PySem.W.hasDictIn K C=true
 po:PySem.W.plainOver K C=true
 sa:PySem.W.findIn K (.ref C) "__setattr__"=some (some<|.builtin "object.__setattr__")
theorem AL.get{K:qc}{C:Qg}(c:AL K C)(f:Str):PySem.W.plainGet K C f=true:=c.pg
def k8(K:qc)(C:Qg)(f:Str):Prop:=PySem.W.findIn K (.ref C) f=some none
structure Fk (K:qc) (C:Qg) (m:Str) (f:Qg):Prop where
 at_:PySem.W.findIn K (.ref C) m=some (some<|.ref f)
 fn:PySem.W.isFn K (.ref f)=true
 kp:PySem.W.keepIn K (.ref f)=true
section
variable{X:Cx}{pins:Qa (Qg×Obj)}{σ:St}{H:Hp}{s:Qd}{a C dx:Qg}{fs:Qa (Str×V)}{f:Str}{v:V}{A:Qf}{E:Qc->Qd->Prop}
theorem Sr{prog:Qe}{w:Qh}{env:Env}{e:Expr}{f:Str}{pos:Pos}{s:Qd}{Q:Qc->Qd->Prop}(hb:attributeBase e f env (eval e env)=eval e env)
  (h:wpAny (model prog w) A (eval e env) (λo aH=>wpAny (model prog w) A (getAttr o f true) Q E aH) E s):wpAny (model prog w) A (eval (.Attribute e f pos) env) Q E s :=
 Attribute_any_ h (by rw[arm_eval_Attribute,hb])
end
section
variable{X:Cx}{o e value:Expr}{f:Str}{pos pos' uU:Pos}{ta tv:TE}
end
section
variable{X:Cx}{pins:Qa (Qg×Obj)}{σ:St}{H:Hp}{s:Qd}{A:Qf}{E:Qc->Qd->Prop}{Q:Qc->Qd->Prop}{c:Qc}{b:Bool}
inductive dn (K:qc) (H:Hp):V->Qc->Prop where
 | aK:dn K H .aK (.type "NoneType")
 | bl (x:Bool):dn K H (.bl x) (.type "bool")
 | int (i:Int):dn K H (.int i) (.type "int")
 | str (x:Str):dn K H (.str x) (.type "str")
 | rm (x:UInt64):dn K H (.rm x) (.type "float")
 | lst {a:Qg} {xs:Qa V} (e:H a=some (.lst xs)):dn K H (.ref a) (.type "list")
 | bu {a:Qg} {o:Obj} {xs:Qa V} (e:H a=some (.bu o<|.lst xs)):dn K H (.ref a) (.type "list")
 | tup {a:Qg} {xs:Qa V} (e:cq K H a xs):dn K H (.ref a) (.type "tuple")
 | dK {a:Qg} {aL:Qa (Key×V)} (e:H a=some (.dK aL)):dn K H (.ref a) (.type "dict")
 | dT {a:Qg} {aL:Qa (Qa Key×V)} (e:H a=some (.dT aL)):dn K H (.ref a) (.type "dict")
 | ins {a C dx:Qg} {fs:Qa (Str×V)} (e:H a=some (.ins C dx fs)) (cl:AL K C) (ha:PySem.W.findIn K (.ref C) "__class__"=some (some<|.builtin "object.__class__"))
   (hn:PySem.W.specialIn K (.builtin "object.__class__") "__get__"=some (some<|.builtin "getset_descriptor.__get__")) (K4:PySem.W.takesIn K (.builtin "object.__class__")=some true)
   (hm:PySem.W.mroIn K C (.type "object")=some true):dn K H (.ref a) (.ref C)
theorem Vl{x:V}{u t:Qc}(I:Inv X pins σ H s)(rx:zQ x u)(ty:dn X.K H x t)(e:PySem.W.kitOne X.K t c=some b)(h:∀ tk,Q (.bool b) {s with toks:=tk}):
  wpAny (model X.prog X.w) A (call (.builtin "isinstance") [u,c]) Q E s:=by
 cases ty with
 | aK=>cases(show u=Value.none from rx); exact Ê PySem.W.kitx_none I.cB True.intro e (λz=>nomatch z) h
 | bl y=>cases(show u=Value.bool y from rx); exact Ê PySem.W.kitx_bool I.cB True.intro e (λz=>nomatch z) h
 | int i=>have(t,q):=(show ∃ t,u=Value.int i t from rx); cases q; exact Ê PySem.W.kitx_int I.cB True.intro e (λz=>nomatch z) h
 | str y=>have(t,q):=(show ∃ t,u=Value.str y t from rx); cases q; exact Ê PySem.W.kitx_str I.cB True.intro e (λz=>nomatch z) h
 | rm y=>have(t,q):=(show ∃ t,u=Value.float y t from rx); cases q; exact Ê PySem.W.kitx_float I.cB True.intro e (λz=>nomatch z) h
 | @lst a xs ea=>
  cases(show u=Value.ref a from rx);have(_,_,n,_,h1):=(show cG X.prog X.w X.K H s.heap a (.lst xs) from I.aD a _ ea);exact Ê PySem.W.kitx_list I.cB ⟨_,h1,rfl⟩ e (λz=>nomatch z) h
 | @bu a ob xs ea=>
  cases(show u=Value.ref a from rx);have(_,_,_,n,_,h1):=(show cG X.prog X.w X.K H s.heap a (.bu ob<|.lst xs) from I.aD a _ ea);exact Ê PySem.W.kitx_list I.cB ⟨_,h1,rfl⟩ e (λz=>nomatch z) h
 | @tup a xs ea=>
  cases(show u=Value.ref a from rx);rcases ea with ea|⟨o,aj,n,hk,hc,_⟩
  case inr=>exact Ê PySem.W.kitx_tuple I.cB ⟨o,I.cB a o hk,hc⟩ e (λz=>nomatch z) h
  have(_,_,_,p):=(show cG X.prog X.w X.K H s.heap a (.tup xs) from I.aD a _ ea);have(o,h1,h2,_):=p;exact Ê PySem.W.kitx_tuple I.cB ⟨o,h1,h2⟩ e (λz=>nomatch z) h
 | @dK a aL ea=>
  cases(show u=Value.ref a from rx);have(_,_,vs,_,p):=(show cG X.prog X.w X.K H s.heap a (.dK aL) from I.aD a _ ea);have(o,es,ep,h1,h2,_):=p;exact Ê PySem.W.kitx_dict I.cB ⟨o,h1,h2.1⟩ e (λz=>nomatch z) h
 | @dT a aL ea=>
  cases(show u=Value.ref a from rx);have(_,_,xs,_,o,es,ep,h1,h2,_):=(show cG X.prog X.w X.K H s.heap a (.dT aL) from I.aD a _ ea);exact Ê PySem.W.kitx_dict I.cB ⟨o,h1,h2.1⟩ e (λz=>nomatch z) h
 | @ins a C dx fs ea cl ha hn K4 hm=>
  cases(show u=Value.ref a from rx);have(mA,O,_):=Ss I.aD ea;have(od,J,_):=O.look;exact Ê (PySem.W.kitx_own (cl.get _) cl.hd ha hn K4 hm) I.cB J e (λz=>nomatch z) h
end
structure aE (k:Nat) (A:Qf):Prop where
 hd:A.handled=none
 dp:A.depth+3 * k+5 < recursionLimit
 un:A.units+16 * k+200 < cLine
 gd:A.guards=some []
theorem aE.mono{j k:Nat}{A:Qf}(r:aE k A)(h:j<=k):aE j A:=⟨r.hd,by have:=r.dp; omega,by have:=r.un; omega,r.gd⟩
theorem aE.deeper{k:Nat}{A:Qf}(r:aE (k+1) A)(env:Env):aE k (A.deeper env):=
 ⟨r.hd,by have:=r.dp; show A.depth+1+3 * k+5 < _; omega,by have:=r.un; show A.units+3+16 * k+200 < _; omega,r.gd⟩
theorem W6{A:Qf}{C:Qg}{us:Qa Qc}{kw:Qa (Str×Qc)}:(A.under<|.builtin "type.__call__" ⟨.ref C::us,kw⟩).depth=A.depth+1:=by
 first|rfl|simp[Around.under,Code.weight,Code.isCreation,Code.isGuard,Code.isCaller,Code.frames,Code.isFrame,guardIds]
theorem W5{A:Qf}{C:Qg}{us:Qa Qc}{kw:Qa (Str×Qc)}:(A.under<|.builtin "type.__call__" ⟨.ref C::us,kw⟩).units=A.units+1:=by
 first|rfl|simp[Around.under,Code.cUnits,Code.frames,Code.isFrame]
theorem aE.make{k:Nat}{A:Qf}(r:aE (k+1) A)(C:Qg)(us:Qa Qc)(kw:Qa (Str×Qc)):aE k (A.under<|.builtin "type.__call__" ⟨.ref C::us,kw⟩):=
 ⟨r.hd,by have:=r.dp; rw[W6]; omega,by have:=r.un; rw[W5]; omega,by have:=r.gd; first|exact this|simpa [Around.under,Code.isGuard,guardIds] using this⟩
theorem aE.depth{k:Nat}{A:Qf}(r:aE k A):A.depth < recursionLimit:=by have:=r.dp; omega
theorem aE.units{k:Nat}{A:Qf}(r:aE k A):A.units+64 < cLine:=by have:=r.un; omega
def jo:TA:=λ_ H Q=>Q [] H
def fP(ta:TE)(tr:TA):TA:=λσ H Q=>ta σ H λx H1=>tr σ H1 λxs H2=>Q (x::xs) H2
section
variable{X:Cx}{e:Expr}{es:Qa Expr}{te:TE}{t:TA}{pos:Pos}
theorem Ct:PA X [] jo:=λ_ _ _ _ H Q I h=>Calls.spliced_nil ⟨[],H,I,.nil,h⟩
theorem CN(ha:PE X e te)(hr:PA X es t)(hs:starEach (e::es) X.env=(false,eval e X.env)::starEach es X.env:=by rfl):PA X (e::es) (fP te t):=by
 intro pos pins s σ H Q I h;rw[hs];show wpAny _ _ (spliced<|(false,eval e X.env)::backTo pos (starEach es X.env)) _ _ s;refine Calls.spliced_cons<|aJ (ha pins s σ H _ I h) λu s1 hZ=>?_;have(x,H1,I1,r1,q1):=hZ;exact aJ (hr pos pins s1 σ H1 _ I1 q1) λus s2 ⟨xs,H2,I2,r2,q2⟩=>⟨x::xs,H2,I2,.cons r1 r2,q2⟩
def wQ(t:TA):TE:=λσ H Q=>t σ H λxs H1=>xs.length<=sizeLine/\∀ p,H1 p=none->Q (.ref p) (upd H1 p<|.tup xs)
def wO(t:TA):TE:=λσ H Q=>t σ H λxs H1=>xs.length<=sizeLine/\∀ p,H1 p=none->Q (.ref p) (upd H1 p<|.lst xs)
theorem Qs{x1}(h:PA X es t):PE X (.Tuple es x1 pos) (wQ t):=by
 intro pins s σ H Q I hq;refine wpAny_Tuple_spliced<|aJ (h pos pins s σ H _ I hq) λus s1 ⟨xs,H1,I1,r,z,q⟩=>⟨by rw[<-r.length]; exact z,?_⟩;have hf:H1 s1.heap.objs.size=none:=I1.aD.fresh (qe _);refine⟨.ref s1.heap.objs.size,upd H1 s1.heap.objs.size<|.tup xs,I1.laid (t':=s1.toks) (λb u e=>qd _ e) (qe _) ?_,rfl,q _ hf⟩;exact⟨z,us,r,⟨_,qg _ rfl,rfl,⟨_,rfl⟩,.inl rfl⟩⟩
theorem Qr(h:PA X es t):PE X (.List es pos) (wO t):=by
 intro pins s σ H Q I hq;refine wpAny_List_spliced<|aJ (h pos pins s σ H _ I hq) λus s1 ⟨xs,H1,I1,r,z,q⟩=>⟨by rw[<-r.length]; exact z,?_⟩;have hf:H1 s1.heap.objs.size=none:=I1.aD.fresh (qe _);refine⟨.ref s1.heap.objs.size,upd H1 s1.heap.objs.size<|.lst xs,I1.laid (t':=s1.toks) (λb u e=>qd _ e) (qe _) ?_,rfl,q _ hf⟩;exact⟨z,us,0,r,qg _ rfl⟩
end
abbrev Sp:=Qa V->Hp->VK->XK->Prop
abbrev jP:=Qa Env->Hp->Qd->XK->Qc->Qd->Prop
structure ji (P:Qe) (w:Qh) (K:qc) (mg:Str->Qb Qc) (base:Heap) (A:Qf) (outer:Qa Env) (s:Qd) (H:Hp):Prop where
 frames:A.frames=some outer
 mod:Mod K mg base
 bs:∀ b o,base.get? b=some o->s.heap.get? b=some o/\H b=none
 kJ:base.objs.size<=s.heap.objs.size
 cS:s.heap.FunFrames base outer
 mR:∀ b∈hU outer,H b=none
 aD:cZ P w K H s.heap
 bare:AllBare s.gens
def CE(outer:Qa Env)(P:Qe)(w:Qh)(K:qc)(H:Hp)(s:Qd)(Q:VK)(u:Qc)(s':Qd):Prop :=
 ∃ v H',s'.os=s.os/\AllBare s'.gens/\Un (hU outer) [] H H' s.heap s'.heap/\cZ P w K H' s'.heap/\zQ v u/\Q v H'
def CR(CX:jP)(outer:Qa Env)(P:Qe)(w:Qh)(K:qc)(H:Hp)(s:Qd)(Q:VK)(E:XK)(r:Result)(s':Qd):Prop :=
 match r with
 | .ok (.ret u)=>CE outer P w K H s Q u s'
 | .ok _=>False
 | .error e=>CX outer H s E e s'
structure bp (P:Qe) (w:Qh) (K:qc) (mg:Str->Qb Qc) (base:Heap) (CX:jP) (k:Nat) (f:Qg) (fd:FuncData) (ps:Qa Str) (sp:Sp):Prop where
 len:∀ vs H Q E,sp vs H Q E->vs.length=ps.length
 run:∀ (A:Qf) (outer:Qa Env) (s:Qd) (H:Hp) (args:Args) (us:Qa Qc) (vs:Qa V) (Q:VK) (E:XK),aE k A->ji P w K mg base A outer s H->BindsTo s fd args (ps.zip us)->zH vs us->sp vs H Q E->
  codeAny (model P w) A (.call (.ref f) args) (CR CX outer P w K H s Q E) s
theorem ji.make{P:Qe}{w:Qh}{K:qc}{mg:Str->Qb Qc}{base:Heap}{A:Qf}{outer:Qa Env}{s:Qd}{H:Hp}(e:ji P w K mg base A outer s H)(C:Qg)(us:Qa Qc)(kw:Qa (Str×Qc)):
  ji P w K mg base (A.under<|.builtin "type.__call__" ⟨.ref C::us,kw⟩) outer s H:=⟨by first|exact e.frames | (simpa [Around.under,Code.envs,Code.isFrame,pushEnvs] using e.frames),e.mod,e.bs,e.kJ,e.cS,e.mR,e.aD,e.bare⟩
section
variable{X:Cx}{pins:Qa (Qg×Obj)}{σ:St}{H:Hp}{s s':Qd}
theorem Inv.nY(I:Inv X pins σ H s):ji X.prog X.w X.K X.mg X.base X.A X.stack s H :=
 ⟨I.ok.frames,I.ok.mod,I.bs,qx I.ok.kJ I.sz,I.stack,I.eG,I.aD,I.bare⟩
theorem Inv.after{Q:VK}{u:Qc}(I:Inv X pins σ H s)(h:CE X.stack X.prog X.w X.K H s Q u s'):EP X pins σ Q u s':=by
 have(v,H',os,bare,un,aD,r,q):=h;have(hh,g,d,t,oU):=s';obtain rfl:oU=s.os:=os;exact⟨v,H',I.call (h':=hh) (g':=g) (d':=d) (t':=t) (ch:=[]) un aD bare (λb z=>absurd z (by simp)),r,q⟩
end
def OA(sp:Sp)(dvs:Qa V)(E:XK)(t:TA):TE:=λσ H Q=>t σ H λvs H1=>sp (vs++dvs) H1 Q E
def jY(K:qc)(fd:FuncData)(ps:Qa Str)(ds:Qa Qc):Prop :=
 ∀ (s:Qd) (us:Qa Qc),K.In s.heap->(us++ds).length=ps.length->BindsTo s fd ⟨us,[]⟩ (ps.zip<|us++ds)
theorem jY.all{K:qc}{fd:FuncData}{ps:Qa Str}(h:∀ us:Qa Qc,us.length=ps.length->bindArgs fd ⟨us,[]⟩=pure (ps.zip us)):jY K fd ps []:=λs us _ hl=>by
 rw[List.append_nil]at hl ⊢;exact .of_eq<|h us hl
def ue(CX:jP)(X:Cx)(E:XK):Prop:=∀ (pins:Qa (Qg×Obj)) (σ:St) (H:Hp) (s:Qd) (e:Qc) (s':Qd),Inv X pins σ H s->CX X.stack H s E e s'->X.xe e s'
section
variable{X:Cx}{CX:jP}{k:Nat}{f C:Qg}{fd:FuncData}{ps:Qa Str}{sp:Sp}{dvs:Qa V}{ds:Qa Qc}{E:XK}{x m:Str}{p pos apos:Pos}{e o:Expr}{es:Qa Expr}{ta:TE}{t:TA}
theorem Qq{pins:Qa (Qg×Obj)}{σ:St}{H:Hp}{s:Qd}{Q:VK}{us:Qa Qc}{vs:Qa V}(F:bp X.prog X.w X.K X.mg X.base CX k f fd ps sp)(hr:aE k X.A)(hb:jY X.K fd ps ds)(hd:zH dvs ds)(hx:ue CX X E)
  (I:Inv X pins σ H s) (r:zH vs us) (h:sp (vs++dvs) H Q E):wpAny (model X.prog X.w) X.A (call (.ref f) us) (EP X pins σ Q) X.xe s:=by
 have r2:zH (vs++dvs) (us++ds):=r.append hd;have hl:(us++ds).length=ps.length:=by rw[<-r2.length]; exact F.len _ _ _ _ h
 refine wpAny_call<|codeAny_mono (F.run X.A X.stack s H ⟨us,[]⟩ (us++ds) (vs++dvs) Q E hr I.nY (hb s us I.cB hl) r2 h) λr s' hq=>?_;cases r with
 | error e=>exact hx pins σ H s e s' I hq
 | ok fl=>
  cases fl with
  | ret u=>exact I.after hq
  | next=>exact False.elim hq
  | brk=>exact False.elim hq
  | cont=>exact False.elim hq
theorem Sq(F:bp X.prog X.w X.K X.mg X.base CX k f fd ps sp)(hr:aE k X.A)(hg:Gl X x)(hm:X.mg x=some (.ref f))(hk:PySem.W.keepIn X.K (.ref f)=true)(hb:jY X.K fd ps ds)(hd:zH dvs ds)(hx:ue CX X E)
  (ha:PA X (e::es) t) (cx:(x==("__debug__":Str))=false:=by decide) (he:starEach (e::es) X.env=(false,eval e X.env)::starEach es X.env:=by rfl) (bZ:(backTo pos<|starEach es X.env).any (·.1)=false:=by rfl):
  PE X (.Call (.Name x p) (e::es) [] pos) (OA sp dvs E t):=by
 intro pins s σ H Q I h;refine wpAny_Call_Name_kw<|p4 I hg hm ?_ cx;refine ç (h₀:=X.base) I.ok.mod.oX hk (aJ (ha pos pins s σ H _ I h) λus s1 ⟨vs,H1,I1,r,q⟩=>⟨I1.cB,?_⟩) he bZ;exact Qq F hr hb hd hx I1 r q
end
def PK(X:Cx)(kws:Qa Keyword)(t:TA):Prop :=
 ∀ (pos:Pos) (pins:Qa (Qg×Obj)) (s:Qd) (σ:St) (H:Hp) (Q:Qa V->Hp->Prop),Inv X pins σ H s->t σ H Q->wpAny (model X.prog X.w) X.A (evalAll<|(backToKw pos<|keywordEach kws X.env).map (·.2)) (AP X pins σ Q) X.xe s
section
variable{X:Cx}{CX:jP}{k:Nat}{f C:Qg}{fd:FuncData}{ps ks:Qa Str}{sp:Sp}{E:XK}{x m:Str}{p pos apos kpos:Pos}{e o:Expr}{es:Qa Expr}{kws:Qa Keyword}{te ta:TE}{t tk:TA}{nm:Qb Str}
theorem Qp:PK X [] jo:=λ_ _ _ _ H Q I h=>wpAny_evalAll_nil ⟨[],H,I,.nil,h⟩
theorem So(ha:PE X e te)(hr:PK X kws t):PK X (⟨nm,e,kpos⟩::kws) (fP te t):=by
 intro pos pins s σ H Q I h;show wpAny _ _ (evalAll<|(do let v <-eval e X.env; standAt pos; pure v)::(backToKw pos<|keywordEach kws X.env).map (·.2)) _ _ s;refine wpAny_evalAll_cons<|qa<|aJ (ha pins s σ H _ I h) λu s1 ⟨x,H1,I1,r1,q1⟩=>qa<|wpAny_standAt<|qb ?_;exact aJ (hr pos pins s1 σ H1 _ I1 q1) λus s2 ⟨xs,H2,I2,r2,q2⟩=>⟨x::xs,H2,I2,.cons r1 r2,q2⟩
variable{g:Qa Qc->Qa Qc->Qa Qc}{gV:Qa V->Qa V->Qa V}
end
structure aQ (N P:Qa Str) (sc:Scope):Prop where
 kind:sc.kind=.function
 co:sc.isCoroutine=false
 gen:sc.isGenerator=false
 nd:N.Nodup
 pre:N.take P.length=P
 par:∀ x∈P,sc.names.lookup x=some .local\/sc.names.lookup x=some .cell
 qP:∀ y∈sc.names,y.2≠.free
theorem Jr{kindOf:Str->Qb NameKind}{x:Str}:∀ {binds:Qa (Str×Qc)} {m:Str->Qb Qc},(∀ v,(x,v)∉binds)->bindL kindOf binds m x=m x
 | [],_,_=>rfl
 | (n,v)::r,m,h=>by
  unfold bindL;rw[Jr λw hw=>h w<|qm _ hw];split
  .have:x≠n:=by rintro rfl; exact h v qo
   simp[this]
  .rfl
theorem Jq{kindOf:Str->Qb NameKind}{x:Str}:∀ {binds:Qa (Str×Qc)} {m:Str->Qb Qc},(∀ v,(x,v)∉binds)->bindC kindOf binds m x=m x
 | [],_,_=>rfl
 | (n,v)::r,m,h=>by
  unfold bindC;rw[Jq λw hw=>h w<|qm _ hw];split
  .rfl
  .have:x≠n:=by rintro rfl; exact h v qo
   simp[this]
theorem Jp{kindOf:Str->Qb NameKind}{x:Str}{v:Qc}:∀ {P:Qa Str} {vs:Qa Qc} {i:Nat} {m:Str->Qb Qc},P.Nodup->P[i]?=some x->vs[i]?=some v->kindOf x=some .local->
  bindL kindOf (P.zip vs) m x=some v
 | [],_,_,_,_,h,_,_=>by simp at h
 | _::_,[],_,_,_,_,h,_=>by simp at h
 | p::P,w::vs,0,m,nd,h1,h2,hk=>by
  simp at h1 h2; subst h1; subst h2;show bindL kindOf ((p,w)::P.zip vs) m p=_;unfold bindL;rw[Jr λv hv=>(List.nodup_cons.mp nd).1 (List.of_mem_zip hv).1,if_pos hk];simp
 | p::P,w::vs,i+1,m,nd,h1,h2,hk=>by
  show bindL kindOf ((p,w)::P.zip vs) m x=_;unfold bindL;exact Jp (i:=i) (List.nodup_cons.mp nd).2 (by simpa using h1) (by simpa using h2) hk
theorem Jo{kindOf:Str->Qb NameKind}{x:Str}{v:Qc}:∀ {P:Qa Str} {vs:Qa Qc} {i:Nat} {m:Str->Qb Qc},P.Nodup->P[i]?=some x->vs[i]?=some v->kindOf x≠some .local->
  bindC kindOf (P.zip vs) m x=some v
 | [],_,_,_,_,h,_,_=>by simp at h
 | _::_,[],_,_,_,_,h,_=>by simp at h
 | p::P,w::vs,0,m,nd,h1,h2,hk=>by
  simp at h1 h2; subst h1; subst h2;show bindC kindOf ((p,w)::P.zip vs) m p=_;unfold bindC;rw[Jq λv hv=>(List.nodup_cons.mp nd).1 (List.of_mem_zip hv).1,if_neg hk];simp
 | p::P,w::vs,i+1,m,nd,h1,h2,hk=>by
  show bindC kindOf ((p,w)::P.zip vs) m x=_;unfold bindC;exact Jo (i:=i) (List.nodup_cons.mp nd).2 (by simpa using h1) (by simpa using h2) hk
def ft(N:Qa Str)(vs:Qa V):St:=vs.map some++List.replicate (N.length - vs.length) none
def iE(CX:jP)(P:Qe)(w:Qh)(K:qc)(mg:Str->Qb Qc)(base:Heap)(N:Qa Str)(qual:Str)(scope:Scope)(f:Qg)(cd:Qc)(A:Qf)(outer:Qa Env)(s:Qd)(H:Hp)(E:XK):Cx where
 prog:=P
 w:=w
 K:=K
 mg:=mg
 base:=base
 A:=A.deeper (envOfC qual scope s.heap.objs.size f cd)
 N:=N
 bo:=s
 av:=H
 env:=envOfC qual scope s.heap.objs.size f cd
 outer:=outer
 stack:=envOfC qual scope s.heap.objs.size f cd::outer
 ex:=[]
 calm:=true
 fn:=λ_=>true
 pn:=[]
 xe:=λe s'=>wpAny (model P w) (A.deeper<|envOfC qual scope s.heap.objs.size f cd) (leaving (envOfC qual scope s.heap.objs.size f cd) e) (λ_ yY=>CX outer H s E e yY) (λe' yY=>CX outer H s E e' yY) s'
theorem Jc{sc:Scope}{n:Nat}{x:Str}(h:sc.names.lookup x=some .cell):∃ c,(cellsFrom n sc.names []).lookup x=some c:=by
 have q:=PySem.W.cellsFrom_some sc.names n [] (.inl h);exact Ø.mp q
theorem Vk{CX:jP}{P:Qe}{w:Qh}{K:qc}{mg:Str->Qb Qc}{base:Heap}{N ps:Qa Str}{qual:Str}{scope:Scope}{f:Qg}{cd:Qc}{A:Qf}{outer:Qa Env}{s s1:Qd}{H:Hp}{E:XK}{us:Qa Qc}{vs:Qa V}
  (S:aQ N ps scope) (hd:A.handled=none) (e0:ji P w K mg base A outer s H) (hl:vs.length=ps.length) (r:zH vs us)
  (x:InCallC s s.heap.objs.size (bindL (envOfC qual scope s.heap.objs.size f cd).kindOf (ps.zip us) λ_=>none) (cellsFrom (s.heap.objs.size+1) scope.names []) (bindC (envOfC qual scope s.heap.objs.size f cd).kindOf (ps.zip us) λ_=>none) s1):
  Inv (iE CX P w K mg base N qual scope f cd A outer s H E) [] (ft N vs) H s1:=by
 have bZ:ps.length<=N.length:=by have:=congrArg List.length S.pre; rw[List.length_take]at this; omega
 have(h1,tk,rfl,hk):=x.done;have vd:∀ b:Qg,b∉(iE CX P w K mg base N qual scope f cd A outer s H E).ex:=λb z=>absurd (show b∈([]:Qa Qg) from z) (by simp);refine⟨⟨e0.mod,S.kind,rfl,rfl,qe _,λy z c h1 h2=>?_,λy hy=>?_,λy c _ h=>?_,λ_=>hd,Around.frames_deeper e0.frames,.inr ⟨rfl,rfl⟩,λb z=>absurd z<|vd b,e0.bs,e0.kJ,λb _ _=>vd b,λb z=>absurd z<|vd b,e0.cS,e0.mR⟩,
  rfl,e0.bare,Un.kept hk,⟨_,x.toInCall.ns,λi y v h1 h2 h3=>?_⟩,λy c h=>⟨_,x.cell y c h⟩,e0.aD.fresh<|qe _,λy c h=>?_,λp hp=>absurd (show p∈([]:Qa (Qg×Obj)) from hp) (by simp),e0.aD.kept hk,?_⟩
 .exact name_of_addr x.apart (Ú h1) (Ú h2)
 .have hy:scope.names.lookup y=some .cell\/scope.names.lookup y=some .free:=hy
  rcases hy with hy|hy
  .exact Jc hy
  .exact absurd rfl (S.qP _<|Ú hy)
 .exact Nat.le_of_lt (x.above y c<|Ú h)
 .have hi:i < vs.length:=by
   unfold ft at h2
   by_cases hi:i < vs.length
   .exact hi
   .rw[List.getElem?_append_right (by simpa using hi)]at h2
    rw[List.getElem?_replicate]at h2;split at h2<;>cases h2
  have ha:vs[i]?=some v:=by
   unfold ft at h2;rw[List.getElem?_append_left (by simpa using hi),List.getElem?_map]at h2;cases e:vs[i]? with
   | none=>rw[e]at h2; cases h2
   | some a=>rw[e]at h2; cases h2; rfl
  have(u,hu,rv):=r.get ha;have hp:ps[i]?=some y:=by
   rw[<-S.pre,List.getElem?_take_of_lt (by omega)]; exact h1
  have KW:ps.Nodup:=by rw[<-S.pre]; exact S.nd.sublist<|List.take_sublist _ _
  refine⟨u,rv,?_⟩;rcases S.par y (Ð hp)with k|k
  .exact .inl ⟨k,Jp KW hp hu k⟩
  .have(c,e):=Jc (n:=s.heap.objs.size+1) k
   refine .inr ⟨.inl k,c,e,?_⟩;have q:=x.cell y c e;rw[Jo KW hp hu (by show scope.names.lookup y≠_; rw[k]; decide)]at q;exact q
 .exact e0.aD.fresh (Nat.le_of_lt<|x.above y c<|Ú h)
 .unfold ft
  show _=N.length;rw[qr,List.length_map,List.length_replicate];omega
theorem BX{CX:jP}{P:Qe}{w:Qh}{K:qc}{mg:Str->Qb Qc}{base:Heap}{k:Nat}{f:Qg}{name qual:Str}{params:Arguments}{body:Qa Stmt}{scope:Scope}{dV kV doc pm aO ct oc:Qc}{an od:Qb Qg}
  {iK:Array (Qb Qc)} {N ps:Qa Str} {sp:Sp} (lk:K.lookup f=some ⟨oc,od,.func<|PySem.W.fnOf name qual params body scope dV kV doc pm an aO ct,iK⟩) (gL:PySem.W.codeIn K aO qual=true) (S:aQ N ps scope)
  (len:∀ vs H Q E,sp vs H Q E->vs.length=ps.length)
  (aX:∀ (A:Qf) (outer:Qa Env) (s:Qd) (H:Hp) (vs:Qa V) (Q:VK) (E:XK),aE k (A.deeper<|envOfC qual scope s.heap.objs.size f aO)->sp vs H Q E->
   ∃ t,cW (iE CX P w K mg base N qual scope f aO A outer s H E) body t/\t {nx:=λ_ H'=>Q .aK H',rt:=Q} (ft N vs) H):
  bp P w K mg base CX (k+1) f (PySem.W.fnOf name qual params body scope dV kV doc pm an aO ct) ps sp:=by
 refine⟨len,λA outer s H args us vs Q E hr e0 hb r kE=>?_⟩;have hl:=len _ _ _ _ kE;have KX:K.In s.heap:=e0.mod.oX.keeps λb o e=>(e0.bs b o e).1;have lim:s.heap.NoLimit:=e0.mod.nolimit.keeps λb o e=>(e0.bs b o e).1;have vD:∀ y∈ps.zip us,scope.names.lookup y.1=some .local\/(scope.names.lookup y.1=some .cell/\((cellsFrom (s.heap.objs.size+1) scope.names []).lookup y.1).isSome=true):=λ⟨n,v⟩ hy=>by
  rcases S.par n (List.of_mem_zip hy).1 with q|q
  .exact .inl q
  .exact .inr ⟨q,PySem.W.cellsFrom_some _ _ _<|.inl q⟩
 refine codeAny_call_function hr.depth (KX _ _ lk) rfl S.co S.gen rfl (PySem.W.codeRec_of KX gL)<|hb _ _ _ _ ?_;refine wpAny_newFunctionEnv_cells S.kind vD λenv he s1 x=>?_;subst he;refine⟨lim.keeps x.toInCall.keep,codeAny_func ?_⟩;have(t,ht,hq):=aX A outer s H vs Q E (hr.deeper _) kE;have I:Inv (iE CX P w K mg base N qual scope f aO A outer s H E) [] (ft N vs) H s1:=Vk S hr.hd e0 hl r x;refine wpAny_mono (ht [] s1 (ft N vs) H _ I hq) (λfl s' hs=>?_) λe s' hs=>hs;have fin:∀ {aC:St} {H':Hp} {v:V} {u:Qc},Inv (iE CX P w K mg base N qual scope f aO A outer s H E) [] aC H' s'->zQ v u->Q v H'->CE outer P w K H s Q u s' :=
  λ{aC H' v u} J rv q=>⟨v,H',J.os,J.bare,J.base,J.aD,rv,q⟩
 cases fl with
 | ret u=>
  have(v,aC,H',J,rv,q):=hs;exact fin J rv q
 | next=>
  have(aC,H',J,q):=hs;exact fin (v:=V.aK) (u:=Value.none) J rfl q
 | brk=>
  have(_,_,_,q):=hs;exact False.elim q
 | cont=>
  have(_,_,_,q):=hs;exact False.elim q
section
variable{X:Cx}{x:Str}{p pos:Pos}{e:Expr}{es:Qa Expr}{t:TA}{id T:String}{r:Qa V->Hp->VK->Prop}
def lr(r:Qa V->Hp->VK->Prop)(t:TA):TE:=λσ H Q=>t σ H λvs H1=>r vs H1 Q
theorem UO(hc:fQ X (.builtin id) r)(hg:Gl X x)(hm:X.mg x=none)(hv:bootBuiltins x=some (.builtin id))(ha:PA X (e::es) t)(hn:x ≠ "__name__":=by decide)(cx:(x==("__debug__":Str))=false:=by decide)
  (he:starEach (e::es) X.env=(false,eval e X.env)::starEach es X.env:=by rfl) (bZ:(backTo pos<|starEach es X.env).any (·.1)=false:=by rfl):PE X (.Call (.Name x p) (e::es) [] pos) (lr r t):=by
 intro pins s σ H Q I h;refine wpAny_Call_Name_kw<|uh I hg hm hv ?_ hn cx;exact PyProof.Rows.callWith_builtin1 (aJ (ha pos pins s σ H _ I h) λus s1 ⟨vs,H1,I1,r1,q1⟩=>hc pins s1 σ H1 vs us Q I1 r1 q1) he bZ
theorem Vj(hc:fQ X (.type T) r)(hg:Gl X x)(hm:X.mg x=none)(hv:bootBuiltins x=some (.type T))(ha:PA X (e::es) t)(hn:x ≠ "__name__":=by decide)(cx:(x==("__debug__":Str))=false:=by decide)
  (he:starEach (e::es) X.env=(false,eval e X.env)::starEach es X.env:=by rfl) (bZ:(backTo pos<|starEach es X.env).any (·.1)=false:=by rfl):PE X (.Call (.Name x p) (e::es) [] pos) (lr r t):=by
 intro pins s σ H Q I h;refine wpAny_Call_Name_kw<|uh I hg hm hv ?_ hn cx;exact â (aJ (ha pos pins s σ H _ I h) λus s1 ⟨vs,H1,I1,r1,q1⟩=>hc pins s1 σ H1 vs us Q I1 r1 q1) he bZ
end
end L2
variable{E:L2.Qc->L2.Qd->Prop}{K:L2.qc}{H:L2.Hp}{i:Nat}{pins:L2.Qa (L2.Qg×Obj)}{A:L2.Qf}{w:L2.Qh}{n k:Nat}{α:Type}{σ:L2.St}{pn:L2.Qa Nat}{prog:L2.Qe}{a:L2.Qg}{x:Str}{js:L2.Qa Nat}{pos:Pos}{nt:Nat}{e:Expr}{tab:L2.Qa (Str×L2.Qa Str)}{H':L2.Hp}{mg:Str->L2.Qb L2.Qc}{es:Array DictEntry}{ps:L2.Qa Str}{j:Nat}{r:Keyed->Int}{h:Heap}{fd:FuncData}{te:L2.TE}{b:Int}{vs:L2.Qa (Str×L2.V)}{v:L2.V}{cl:L2.Qa (Str×L2.Qg)}{Q:L2.Qc->L2.Qd->Prop}{f:Str}{st:Stmt}{g:Array GenState}{t:L2.TA}{β:Type}{p:Pos}{N:L2.Qa Str}{o:Expr}{c:Str}{ta:L2.TE}{P:L2.Qe}{elts:L2.Qa Expr}{ah:Array Keyed}{q:Nat}{ns:L2.Qa Int}{scope:Scope}{aL:L2.Qa (L2.Qa L2.Key×L2.V)}{κ:SortKind}{sp:L2.Sp}{T:String}{aq:SortSt}{base:Heap}{it:L2.Qg}{os:OsState}{uU:Pos}{tg:Expr}{ep:Nat}{us:L2.Qa L2.Qc}{arr:Array Keyed}{tb:L2.TE}{apos:Pos}{qual:Str}{dx:L2.Qg}{name:Str}{pos':Pos}{iK:Array (L2.Qb L2.Qc)}{op:CmpOp}{u:L2.Qc}{tv:L2.TE}{av:L2.Hp}{bt:Pos}{td:L2.TE}{C':L2.Qg}{ai:L2.St}{aA:L2.Hp}{G:Array GenState->Array GenState->Prop}{env:Env}{y:Str}{ox:Obj}{outer:L2.Qa Env}{nn m hi:Nat}{tt:L2.TT}{h':Heap}{ask:Nat->StateT SortSt Sem (L2.Qb Bool)}{neg:Bool}{rk:Nat->Int}{fV:CmpOp}
namespace HT
open PySem PyProof.Rows
section
open PySem.SeqAt
open PySem.AutoSeq1 (wpAny_loadPart')
open PySem.MeetsSeq PySem.MeetsSeq2 PySem.MeetsSeq3
end
section
variable{prog:Program} {w:World} {A:Around} {E:Value->Shared->Prop} {s:Shared}
def aS(n d:Nat):Option Int->Nat
 | none=>d
 | some v=>if v < 0 then(v+(n:Int)).toNat else min v.toNat n
theorem gW(n d:Nat):aS n d none=d:=rfl
theorem jC(n d k:Nat):aS n d (some (k:Int))=min k n:=by
 show(if(k:Int) < 0 then((k:Int)+(n:Int)).toNat else min (k:Int).toNat n)=min k n;rw[if_neg (by omega),Int.toNat_natCast]
theorem Qo(n d:Nat)(hd:d<=n)(o:Option Int):aS n d o<=n:=by
 cases o with
 | none=>exact hd
 | some v=>
  show(if v < 0 then(v+(n:Int)).toNat else min v.toNat n)<=n
  by_cases hv:v < 0
  .rw[if_pos hv]; omega
  .rw[if_neg hv]; exact Nat.min_le_right _ _
theorem HZ(v:Int)(n d:Nat):(if v < 0 then max (v+(n:Int)) 0 else min v (n:Int))=((aS n d (some v):Nat):Int):=by
 show(if v < 0 then max (v+(n:Int)) 0 else min v (n:Int))=(((if v < 0 then(v+(n:Int)).toNat else min v.toNat n):Nat):Int)
 by_cases hv:v < 0
 .simp only[if_pos hv]; omega
 .simp only[if_neg hv]; omega
theorem W4(lo hi:Option Int)(n:Nat):Builtin.Slice.sliceAdjust lo hi 1 (n:Int)=(((aS n 0 lo:Nat):Int),((aS n n hi:Nat):Int)):=by
 have h1:¬((1:Int) < 0):=by omega
 unfold Builtin.Slice.sliceAdjust;simp only[h1,if_false];refine Prod.ext ?_ ?_
 .cases lo with
  | none=>rfl
  | some v=>exact HZ v n 0
 .cases hi with
  | none=>rfl
  | some v=>exact HZ v n n
theorem W3(i j:Nat):Builtin.Slice.slicePlaces (i:Int) (j:Int) 1=j - i:=by
 unfold Builtin.Slice.slicePlaces;have h1:(1:Int) > 0:=by omega
 simp only[h1,if_true,Int.ediv_one];split<;>omega
theorem JC{v:Value}{o:Option Int}{Q:Option Int->Shared->Prop}(p:IsPart v o)(h:Q o s):wpAny (model prog w) A (Builtin.Slice.slicePartIndex v) Q E s:=by
 cases p with
 | none=>exact slicePart_none h
 | int i t=>exact slicePart_int h
theorem Km{sl:Addr}{vl vu:Value}{lo hi:Option Int}{n:Nat}{Q:Int×Int×Nat->Shared->Prop}(hs:s.heap.IsSliceOf sl vl vu .none)(pl:IsPart vl lo)(pu:IsPart vu hi)
  (h:Q (((aS n 0 lo:Nat):Int),1,aS n n hi - aS n 0 lo) s):wpAny (model prog w) A (Builtin.Slice.sliceApplied (.ref sl)<|pure (n:Int)) Q E s:=by
 have(os,qX,Am,vE):=id hs;unfold Builtin.Slice.sliceApplied Builtin.Slice.sliceFields;refine wpAny_bind<|wpAny_bind<|wpAny_field qX vE (x:=vl) rfl<|wpAny_bind<|wpAny_field qX vE (x:=vu) rfl<|wpAny_bind<|wpAny_field qX vE (x:=.none) rfl<|wpAny_pure ?_;refine wpAny_bind<|slicePart_none ?_;show wpAny _ _ (if((1:Int)==0)=true then _ else _) _ _ s;rw[if_neg (by decide)];refine wpAny_bind<|JC pl<|wpAny_bind<|JC pu<|wpAny_bind<|wpAny_pure ?_;show wpAny _ _ (match Builtin.Slice.sliceAdjust lo hi 1 (n:Int)with | (lo,hi)=>pure (lo,(1:Int),Builtin.Slice.slicePlaces lo hi 1)) _ _ s;rw[W4 lo hi n];show wpAny _ _ (pure (((aS n 0 lo:Nat):Int),(1:Int),Builtin.Slice.slicePlaces ((aS n 0 lo:Nat):Int) ((aS n n hi:Nat):Int) 1)) _ _ s;rw[W3];exact wpAny_pure h
theorem UN(xs:Array Value)(i k:Nat):((List.range k).filterMap λ(m:Nat)=>xs[((i:Int)+(m:Int) * 1).toNat]?).toArray=((xs.toList.drop i).take k).toArray:=by
 have e:(λ(m:Nat)=>xs[((i:Int)+(m:Int) * 1).toNat]?)=λm=>xs[i+m]?:=by
  funext m
  have:((i:Int)+(m:Int) * 1).toNat=i+m:=by omega
  rw[this]
 rw[e];have:=pick_run xs i k;rw[List.filterMap_map]at this;have e2:((λx=>xs[x]?) ∘ λx=>i+x)=λm=>xs[i+m]?:=rfl;rw[e2]at this;rw[this]
theorem dh{t sl:Addr}{items:Array Value}{vl vu:Value}{lo hi:Option Int}{Q:Value->Shared->Prop}(ht:IsTup s.heap t items)(hs:s.heap.IsSliceOf sl vl vu .none)(pl:IsPart vl lo)(pu:IsPart vu hi)
  (hw:¬(aS items.size 0 lo=0/\aS items.size items.size hi=items.size))
  (h:Q (.ref s.heap.objs.size) {s with heap:=s.heap.push {cls:=.type "tuple",data:=.seq ((items.toList.drop<|aS items.size 0 lo).take<|aS items.size items.size hi - aS items.size 0 lo).toArray}})
  (o5:items.size<=sizeLine):wpAny (model prog w) A (getItem (.ref t)<|.ref sl) Q E s:=by
 have jH:sizeOk (.seq ((items.toList.drop<|aS items.size 0 lo).take<|aS items.size items.size hi - aS items.size 0 lo).toArray):=by
  show((items.toList.drop<|aS items.size 0 lo).take<|aS items.size items.size hi - aS items.size 0 lo).toArray.size<=sizeLine;rw[List.size_toArray,List.length_take,List.length_drop,Array.length_toList];omega
 have hj:aS items.size items.size hi<=items.size:=Qo _ _ (Nat.le_refl _) hi;have(os,qX,Am,vE):=id hs;have EW:s.TypeIs (.ref sl) "slice":=⟨os,qX,Am⟩;unfold getItem
 try with_reducible refine wpAny_holding ?_
 first|refine wpAny_bind (wpAny_pure ?_) | skip
 refine wpAny_bind<|wpAny_sequenceKey ht.typeIs (by decide) ?_;refine wpAny_bind (wpAny_callSpecial?_slot (name:=Str.ofString "__getitem__") ht.typeIs PyProof.Rows.slot_tuple_getitem
  (wpAny_call_entry PyProof.Rows.slot_tuple_getitem ht.typeIs entry_tuple_getitem ?_<|args_tuple_getitem _ _))
 show wpAny _ _ (Builtin.Tuple.tupleItemsOf (.ref t) >>= _) _ _ s;refine wpAny_bind<|tupleItemsOf_ ht ?_;refine wpAny_bind<|wpAny_typeOf EW ?_;rw[if_pos (by decide)];refine wpAny_bind<|Km hs pl pu ?_;have Y3:¬((((aS items.size 0 lo:Nat):Int)==0 && (1:Int)==1 && (aS items.size items.size hi - aS items.size 0 lo)==items.size)=true):=by
  intro q;rw[Bool.and_eq_true,Bool.and_eq_true]at q;have q1:((aS items.size 0 lo:Nat):Int)=0:=eq_of_beq q.1.1;have q2:aS items.size items.size hi - aS items.size 0 lo=items.size:=eq_of_beq q.2;exact hw ⟨by omega,by omega⟩
 show wpAny _ _ (if(((aS items.size 0 lo:Nat):Int)==0 && (1:Int)==1 && (aS items.size items.size hi - aS items.size 0 lo)==items.size)=true then _ else _) _ _ s;rw[if_neg Y3,UN]
 first
  | exact wpAny_bind (m:=Builtin.Tuple.tupleExact _)<|wpAny_newObj_type (wpAny_pure ⟨_,rfl,wpAny_pure h⟩) jH
  | exact wpAny_bind (m:=Builtin.Tuple.tupleExact _)<|wpAny_newObj_type (wpAny_bind<|wpAny_pure<|wpAny_pure ⟨_,rfl,wpAny_pure h⟩) jH
  | exact wpAny_bind<|wpAny_bind (m:=Builtin.Tuple.tupleExact _)<|wpAny_newObj_type (wpAny_pure<|wpAny_pure ⟨_,rfl,wpAny_pure h⟩) jH
  | exact wpAny_bind<|wpAny_bind (m:=Builtin.Tuple.tupleExact _)<|wpAny_newObj_type (wpAny_pure ⟨_,rfl,wpAny_pure h⟩) jH
end
end HT
namespace L2
open PySem PySem.Spec PyProof.Rows
abbrev TO:=St->Hp->(Qb Int->Hp->Prop)->Prop
def PO(X:Cx)(e:Qb Expr)(t:TO):Prop :=
 ∀ (pins:Qa (Qg×Obj)) (s:Qd) (σ:St) (H:Hp) (Q:Qb Int->Hp->Prop),Inv X pins σ H s->t σ H Q->
  wpAny (model X.prog X.w) X.A (evalPart e X.env) (λu s'=>∃ o H',Inv X pins σ H' s'/\IsPart u o/\Q o H') X.xe s
def CM:TO:=λ_ H Q=>Q none H
def BW(t:TE):TO:=λσ H Q=>t σ H λx H1=>∃ i,x=.int i/\Q (some i) H1
theorem JB:∀ {us:Qa Qc},zH (ns.map V.int) us->IntsAre us ns:=by
 induction ns with
 | nil=>intro us r; rw[List.map_nil]at r; cases r; exact .nil
 | cons n ns ih=>
  intro us r;rw[List.map_cons]at r;cases r with
  | cons r1 r2=>
   have(t,e):=r1;subst e;exact .cons n t<|ih r2
section
variable{X:Cx}{lo hi:Qb Expr}{tl th:TO}{p2:Pos}
theorem Sm:PO X none CM:=by
 intro pins s σ H Q I h;rw[evalPart_none];exact qb ⟨none,H,I,.none,h⟩
theorem Sl(h:PE X e te):PO X (some e) (BW te):=by
 intro pins s σ H Q I hw;rw[evalPart_some];refine aJ (h pins s σ H _ I hw) λu s1 hZ=>?_;have(x,H1,I1,r1,q1):=hZ;have(i,rfl,q):=q1;have(t,rfl):=r1;exact⟨some i,H1,I1,.int i t,q⟩
def tE(X:Cx)(r:V->Qb Int->Qb Int->Hp->VK->Prop):Prop :=
 ∀ (pins:Qa (Qg×Obj)) (s:Qd) (σ:St) (H:Hp) (x:V) (v vl vu:Qc) (lo hi:Qb Int) (sl:Qg) (Q:VK),Inv X pins σ H s->zQ x v->s.heap.IsSliceOf sl vl vu .none->IsPart vl lo->IsPart vu hi->r x lo hi H Q->
  ∃ T id,typeLookup (.type T) "__getitem__"=pure (some<|.builtin id)/\s.TypeIs v T/\wpAny (model X.prog X.w) X.A (getItem v<|.ref sl) (EP X pins σ Q) X.xe s
def DG(r:V->Qb Int->Qb Int->Hp->VK->Prop)(te:TE)(tl th:TO):TE:=λσ H Q=>te σ H λx H1=>tl σ H1 λl H2=>th σ H2 λu H3=>r x l u H3 Q
theorem UM{r:V->Qb Int->Qb Int->Hp->VK->Prop}(hr:tE X r)(he:PE X e te)(hl:PO X lo tl)(hu:PO X hi th):PE X (.Subscript e (.Slice lo hi none p2) pos) (DG r te tl th):=by
 intro pins s σ H Q I h;refine Subscript_<|aJ (he pins s σ H _ I h) λv s1 hZ=>?_;have(x,H1,I1,r1,q1):=hZ;refine wpAny_Slice<|aJ (hl pins s1 σ H1 _ I1 q1) λvl s2 ⟨l,H2,I2,pl,q2⟩=>aJ (hu pins s2 σ H2 _ I2 q2) λvu s3 hZ=>?_;have(u,H3,I3,pu,q3):=hZ;rw[evalPart_none];refine qb ?_;have I4:Inv X pins σ H3 {s3 with heap:=s3.heap.push {cls:=.type "slice",data:=.fields #[vl,vu,.none]}}:=I3.kept (t':=s3.toks) λb ob q=>qd _ q;have(T,id,hT,ht,hg):=hr pins {s3 with heap:=s3.heap.push {cls:=.type "slice",data:=.fields #[vl,vu,.none]}} σ H3 x v vl vu l u s3.heap.objs.size Q I4 r1 (Heap.IsSliceOf.new ..) pl pu q3;show wpAny (model X.prog X.w) X.A (subscriptTail e (.Slice lo hi none p2) v<|.ref s3.heap.objs.size) (EP X pins σ Q) X.xe {s3 with heap:=s3.heap.push {cls:=.type "slice",data:=.fields #[vl,vu,.none]}};exact tail_any (ops:=[.ref s3.heap.objs.size,v]) ht hT hg (by with_unfolding_all rfl)
def ko(xs:Qa V)(lo hi:Qb Int):Qa V:=(xs.drop<|HT.aS xs.length 0 lo).take (HT.aS xs.length xs.length hi - HT.aS xs.length 0 lo)
theorem JU(xs:Qa V)(lo hi:Qb Int):(ko xs lo hi).length<=xs.length:=by
 unfold ko;rw[List.length_take,List.length_drop];omega
def Mf(K:qc):V->Qb Int->Qb Int->Hp->VK->Prop:=λx lo hi H Q=>∃ a xs,x=.ref a/\cy K H a xs/\
 ¬(HT.aS xs.length 0 lo=0/\HT.aS xs.length xs.length hi=xs.length)/\∀ p,H p=none->Q (.ref p) (upd H p<|.tup<|ko xs lo hi)
theorem Qn:tE X (Mf X.K):=by
 intro pins s σ H x v vl vu lo hi sl Q I rx hs pl pu h;have(a,xs,rfl,hx,hw,q):=h;cases rx;have(aj,r,ht,hz):=I.tuple hx;have hlen:aj.toArray.size=xs.length:=by rw[List.size_toArray]; exact r.length.symm
 refine⟨"tuple",_,PyProof.Rows.slot_tuple_getitem.lookup,ht.typeIs,?_⟩;refine HT.dh ht hs pl pu (by rw[hlen]; exact hw) ?_ (by rw[hlen]; exact hz);rw[hlen];refine⟨.ref s.heap.objs.size,_,I.laid (t':=s.toks) (o:=.tup (ko xs lo hi)) (λb ob q=>qd _ q) (qe _) ?_,rfl,q _<|I.aD.fresh<|qe _⟩;exact⟨qx (JU xs lo hi) hz,_,(r.drop<|HT.aS xs.length 0 lo).take<|HT.aS xs.length xs.length hi - HT.aS xs.length 0 lo,nz.new _ _⟩
end
def fu(n:Nat)(i:Int):Qb Nat:=if 0<=i then(if i < n then some i.toNat else none)else if -(n:Int)<=i then some (i+n).toNat else none
def bM(xs:Qa α)(i:Int):Qb α:=(fu xs.length i).bind λj=>xs[j]?
theorem HY{i:Int}(h:fu n i=some j):seqIndex? i n=some j/\j < n/\-(n:Int)<=i/\i < n:=by
 unfold fu at h
 by_cases h0:0<=i
 .rw[if_pos h0]at h
  by_cases h1:i < n
  .rw[if_pos h1]at h
   have e:i.toNat=j:=qw h;exact⟨by rw[seqIndex_of h0 h1,e],by omega,by omega,h1⟩
  .rw[if_neg h1]at h; cases h
 .rw[if_neg h0]at h
  by_cases h1:-(n:Int)<=i
  .rw[if_pos h1]at h
   have e:(i+n).toNat=j:=qw h;exact⟨by rw[seqIndex_neg (by omega) h1,e],by omega,h1,by omega⟩
  .rw[if_neg h1]at h; cases h
theorem CL{xs:Qa α}{i:Int}{v:α}(h:bM xs i=some v):∃ j,seqIndex? i xs.length=some j/\xs[j]?=some v/\j < xs.length/\-(xs.length:Int)<=i/\i < xs.length:=by
 unfold bM at h;cases e:fu xs.length i with
 | none=>rw[e]at h; cases h
 | some j=>
  rw[e]at h;have(h1,h2,h3,h4):=HY e;exact⟨j,h1,h,h2,h3,h4⟩
theorem yn{xs:Qa α}{v:α}(h:xs[j]?=some v):bM xs (j:Int)=some v:=by
 have hj:j < xs.length:=(qk.mp h).1;have e:fu xs.length (j:Int)=some j:=by
  unfold fu;rw[if_pos (by omega),if_pos (by omega)]; simp
 unfold bM; rw[e]; exact h
def HX(b:Expr):Prop:=∀ o i,subscripted b false o i=operate [o,i] (getItem o i)
def rC(X:Cx)(r:R2):Prop :=
 ∀ (value slice:Expr) (pins:Qa (Qg×Obj)) (s:Qd) (σ:St) (H:Hp) (x y:V) (v u:Qc) (Q:VK),Inv X pins σ H s->zQ x v->zQ y u->r x y H Q->
  subscripted slice false v u=operate [v,u] (getItem v u)->wpAny (model X.prog X.w) X.A (subscriptTail value slice v u) (EP X pins σ Q) X.xe s
def LW(X:Cx)(id:String)(r:V->Qa V->Hp->VK->Prop):Prop :=
 ∀ (pins:Qa (Qg×Obj)) (s:Qd) (σ:St) (H:Hp) (x:V) (xs:Qa V) (v:Qc) (us:Qa Qc) (Q:VK),Inv X pins σ H s->zQ x v->zH xs us->r x xs H Q->
  wpAny (model X.prog X.w) X.A (call (.builtin id)<|v::us) (EP X pins σ Q) X.xe s
section
variable{X:Cx}{a b:Expr}
theorem Oz{r:R2}(hr:rC X r)(ha:PE X a ta)(hb:PE X b tb)(hs:HX b):PE X (.Subscript a b pos) (mq r ta tb):=by
 intro pins s σ H Q I h;exact Subscript_<|Bn ha hb I h λv u s2 x y H2 I2 rx ry q=>hr a b pins s2 σ H2 x y v u Q I2 rx ry q<|hs _ _
def Bj(K:qc):R2:=λx y H Q=>∃ p xs i v,x=.ref p/\y=.int i/\bE K H p xs/\bM xs i=some v/\Q v H
def Bi(K:qc):R2:=λx y H Q=>∃ p xs i v,x=.ref p/\y=.int i/\cy K H p xs/\bM xs i=some v/\Q v H
def FL:R2:=λx y H Q=>∃ z i c,x=.str z/\y=.int i/\z.length<=sizeLine/\bM z.cps.toList i=some c/\Q (.str ⟨#[c]⟩) H
theorem Sk:rC X (Bj X.K):=by
 intro value slice pins s σ H x y v u Q I rx ry h hs;have(p,xs,i,z,rfl,rfl,hq,he,q):=h;cases rx;have(t,rfl):=ry;have(aj,r,pl,hz):=I.list hq;have(j,h1,h2,h3,h4,h5):=CL he;have(w,ew,u0):=r.get h2;have hl:=r.length;have hn:=su;have fin:EP X pins σ Q w s:=⟨z,H,I,u0,q⟩
 by_cases h0:0<=i
 .have hj:i.toNat=j:=by
   rw[seqIndex_of h0 h5]at h1;exact qw h1
  exact item_listR pl.isList h0 (by omega) (by rw[hj]; simpa using ew) fin hs
 .have hj:(i+(aj.toArray.size:Int)).toNat=j:=by
   rw[seqIndex_neg (by omega) h4]at h1;rw[List.size_toArray,<-hl];exact qw h1
  exact subscriptTail_builtinR (x:=w) pl.isList.typeIs slot_list_getitem.lookup
   (wpAny_getItem_list_neg (Q:=λr s'=>r=w/\EP X pins σ Q r s') pl.isList (by omega) (by rw[List.size_toArray]<;>omega) (by omega) (by rw[hj]; simpa using ew) ⟨rfl,fin⟩) hs
theorem Qm:rC X (Bi X.K):=by
 intro value slice pins s σ H x y v u Q I rx ry h hs;have(p,xs,i,z,rfl,rfl,hq,he,q):=h;cases rx;have(t,rfl):=ry;have(aj,r,pl,hz):=I.tuple hq;have(j,h1,h2,h3,h4,h5):=CL he;have(w,ew,u0):=r.get h2;have hl:=r.length;have hn:=su;have fin:EP X pins σ Q w s:=⟨z,H,I,u0,q⟩;exact subscriptTail_builtinR (x:=w) pl.typeIs slot_tuple_getitem.lookup
  (getItem_tuple (j:=j) (Q:=λr s'=>r=w/\EP X pins σ Q r s') pl (by omega) (by omega) (by rw[List.size_toArray,<-hl]; exact h1) (by simpa using ew) ⟨rfl,fin⟩) hs
theorem Cs:rC X FL:=by
 intro value slice pins s σ H x y v u Q I rx ry h hs;have(z,i,c,rfl,rfl,hz,he,q):=h;have(t,rfl):=rx;have(t',rfl):=ry;have(j,h1,h2,h3,h4,h5):=CL he;have hl:z.cps.toList.length=z.length:=by simp[Str.length]
 rw[hl]at h1 h4 h5;have hn:=su;exact tail_any (typeIs_str s z t) slot_str_getitem.lookup (getItem_str (c:=c) (by
  have e1:decide (i < -(2^63:Int))=false:=decide_eq_false (by omega);have e2:decide (i>=2^63)=false:=decide_eq_false (by omega);rw[e1,e2,Bool.or_false]) (by rw[h1]; simpa using h2) ⟨.str ⟨#[c]⟩,H,I.tok _,⟨_,rfl⟩,q⟩) hs
theorem W2(aj:Qa Qc)(n j:Nat)(u:Qc):Obj.mapSeq (·.setIfInBounds j u) {cls:=.type "list",data:=.seq aj.toArray n}={cls:=.type "list",data:=.seq (aj.set j u).toArray n}:=by
 simp[Obj.mapSeq]
theorem Inv.lst{s:Qd}{p:Qg}{xs:Qa V}(I:Inv X pins σ H s)(h:H p=some (.lst xs)):
  ∃ (aj:Qa Qc) (n:Nat),zH xs aj/\s.heap.get? p=some {cls:=.type "list",data:=.seq aj.toArray n}/\xs.length<=sizeLine:=by
 have(z,aj,n,r,e):=I.aD p _ h;exact⟨aj,n,r,e,z⟩
theorem Inv.qT{s:Qd}{p:Qg}{xs ys:Qa V}{aj its':Qa Qc}{n':Nat}{f:Obj->Obj}(I:Inv X pins σ H s)(h:H p=some (.lst xs))
  (ho:s.heap.get? p=some {cls:=.type "list",data:=.seq aj.toArray n}) (hf:f {cls:=.type "list",data:=.seq aj.toArray n}={cls:=.type "list",data:=.seq its'.toArray n'}) (r:zH ys its') (hz:ys.length<=sizeLine) (t:Nat):
  Inv X pins σ (upd H p<|.lst ys) {s with heap:=s.heap.update p f,toks:=t}:=by
 have e:(s.heap.update p f).get? p=some {cls:=.type "list",data:=.seq its'.toArray n'}:=by
  rw[Heap.get?_update_self f ho (by rw[hf]<;>rfl),hf]
 refine I.write (x:=p) (e:=p) (by rw[h]; trivial) (.inl rfl) (λb u hb q=>(Æ _ _<|Ne.symm hb).trans q) ⟨_,e⟩ ?_;exact⟨hz,its',n',r,e⟩
def Gw:V->V->V->Hp->(Hp->Prop)->Prop:=λo i v H Q=>∃ p xs k j,o=.ref p/\i=.int k/\H p=some (.lst xs)/\fu xs.length k=some j/\Q (upd H p<|.lst<|xs.set j v)
theorem CS:Ba X Gw:=by
 intro pins s σ H o i v ov iv u Q I ro ri rv h;have(p,xs,k,j,rfl,rfl,hp,hj,q):=h;cases ro;have(t,rfl):=ri;have(aj,n,r,ho,hz):=I.lst hp;have(h1,h2,h3,h4):=HY hj;have hl:=r.length;have hn:=su;have I':Inv X pins σ (upd H p<|.lst<|xs.set j v) {s with heap:=s.heap.update p (Obj.mapSeq (·.setIfInBounds j u))}:=
  I.qT hp ho (W2 aj n j u) (r.set rv j) (by rw[List.length_set]; exact hz) s.toks
 by_cases h0:0<=k
 .have hk:k.toNat=j:=by
   rw[seqIndex_of h0 h4]at h1;exact qw h1
  exact PySem.W.ki_setAt ho h0 (by omega) (by rw[List.size_toArray,<-hl]; exact h4) (by rw[hk]; exact⟨_,I',q⟩)
 .have hk:(k+(aj.toArray.size:Int)).toNat=j:=by
   rw[seqIndex_neg (by omega) h3]at h1;rw[List.size_toArray,<-hl];exact qw h1
  exact PySem.W.ki_setBack ho (by omega) (by rw[List.size_toArray,<-hl]; exact h3) (by omega) (by rw[hk]; exact⟨_,I',q⟩)
theorem XR(lo hi:Qb Int)(n:Nat):(sliceBounds lo hi none n).1=((HT.aS n 0 lo:Nat):Int)/\(sliceBounds lo hi none n).2.1=((HT.aS n n hi:Nat):Int)/\(sliceBounds lo hi none n).2.2=1:=by
 refine⟨?_,?_,rfl⟩
 .cases lo with
  | none=>simp[sliceBounds,HT.aS]
  | some i=>
   simp only[sliceBounds,HT.aS,Option.getD_none,show(1:Int) > 0 by decide,if_true]
   by_cases h:i < 0
   .simp only[h,if_true]<;>omega
   .simp only[h,if_false]<;>omega
 .cases hi with
  | none=>simp[sliceBounds,HT.aS]
  | some i=>
   simp only[sliceBounds,HT.aS,Option.getD_none,show(1:Int) > 0 by decide,if_true]
   by_cases h:i < 0
   .simp only[h,if_true]<;>omega
   .simp only[h,if_false]<;>omega
theorem X1(aj:Qa Qc)(lo hi:Qb Int):slicePick aj.toArray lo hi none=((aj.drop<|HT.aS aj.length 0 lo).take<|HT.aS aj.length aj.length hi - HT.aS aj.length 0 lo).toArray:=by
 have(h1,h2,h3):=XR lo hi aj.toArray.size;unfold slicePick;rw[h1,h2,h3];simp only[sliceRange_one,pick_run,List.size_toArray]<;>rfl
def Bh(K:qc):V->Qb Int->Qb Int->Hp->VK->Prop:=λx lo hi H Q=>∃ a xs,x=.ref a/\bE K H a xs/\∀ p,H p=none->Q (.ref p) (upd H p<|.lst<|ko xs lo hi)
theorem Sj:tE X (Bh X.K):=by
 intro pins s σ H x v vl vu lo hi sl Q I rx hs pl pu h;have(a,xs,rfl,hx,q):=h;cases rx;have(aj,r,ht,hz):=I.list hx;have hlen:=r.length;refine⟨"list",_,slot_list_getitem.lookup,ht.isList.typeIs,?_⟩;refine wpAny_getItem_list_slice ht.isList hs pl pu .none (by simp) ?_ (by rw[List.size_toArray]<;>omega);rw[X1,<-hlen];refine⟨.ref s.heap.objs.size,_,I.laid (t':=s.toks) (o:=.lst (ko xs lo hi)) (λb ob q=>qd _ q) (qe _) ?_,rfl,q _<|I.aD.fresh<|qe _⟩;exact⟨qx (JU xs lo hi) hz,_,0,(r.drop<|HT.aS xs.length 0 lo).take<|HT.aS xs.length xs.length hi - HT.aS xs.length 0 lo,qg _ rfl⟩
def l5:V->Bool
 | .aK=>true
 | .bl _=>true
 | .int _=>true
 | .str _=>true
 | _=>false
def pq:V->V->Bool
 | .aK,.aK=>true
 | .bl a,.bl b=>a==b
 | .bl a,.int b=>(if a then 1 else 0)==b
 | .int a,.bl b=>a==(if b then 1 else 0)
 | .int a,.int b=>a==b
 | .str a,.str b=>a==b
 | _,_=>false
theorem Ql{s:Qd}{y x:V}{v:Qc}(ry:zQ y u)(rx:zQ x v)(fy:l5 y=true)(fx:l5 x=true):SeqAt.EqAt A s u v (pq y x):=by
 cases y with
 | aK=>
  cases ry;cases x with
  | aK=>cases rx; exact SeqAt.EqAt.same _
  | bl b=>cases rx; exact SeqAt.EqAt.none_bool b
  | int b=>have(t,rfl):=rx; exact SeqAt.EqAt.none_int b t
  | str b=>have(t,rfl):=rx; exact SeqAt.EqAt.none_str b t
  | _=>exact absurd (show false=true from fx) qf
 | bl a=>
  cases ry;cases x with
  | aK=>cases rx; exact SeqAt.EqAt.bool_none a
  | bl b=>cases rx; exact SeqAt.EqAt.bool_bool a b
  | int b=>have(t,rfl):=rx; exact SeqAt.EqAt.bool_int a b t
  | str b=>have(t,rfl):=rx; exact SeqAt.EqAt.bool_str a b t
  | _=>exact absurd (show false=true from fx) qf
 | int a=>
  have(t',rfl):=ry;cases x with
  | aK=>cases rx; exact SeqAt.EqAt.int_none a t'
  | bl b=>cases rx; exact SeqAt.EqAt.int_bool a t' b
  | int b=>have(t,rfl):=rx; exact SeqAt.EqAt.int_int a t' b t
  | str b=>have(t,rfl):=rx; exact SeqAt.EqAt.int_str a t' b t
  | _=>exact absurd (show false=true from fx) qf
 | str a=>
  have(t',rfl):=ry;cases x with
  | aK=>cases rx; exact SeqAt.EqAt.str_none a t'
  | bl b=>cases rx; exact SeqAt.EqAt.str_bool a t' b
  | int b=>have(t,rfl):=rx; exact SeqAt.EqAt.str_int a t' b t
  | str b=>have(t,rfl):=rx; exact SeqAt.EqAt.str_str a t' b t
  | _=>exact absurd (show false=true from fx) qf
 | _=>exact absurd (show false=true from fy) qf
def i9(x:V)(u:Qc):Bool:=match u with
 | .none=>pq .aK x
 | .bool b=>pq (.bl b) x
 | .int i _=>pq (.int i) x
 | .str z _=>pq (.str z) x
 | _=>false
theorem GZ{x y:V}(r:zQ y u)(f:l5 y=true):i9 x u=pq y x:=by
 cases y with
 | aK=>cases r; rfl
 | bl b=>cases r; rfl
 | int i=>have(t,rfl):=r; rfl
 | str z=>have(t,rfl):=r; rfl
 | _=>exact absurd (show false=true from f) qf
theorem uz{x:V}:∀ {xs:Qa V} {us:Qa Qc},zH xs us->xs.all l5=true->us.any (i9 x)=xs.any λy=>pq y x
 | _,_,.nil,_=>rfl
 | y::xs,u::us,.cons r t,f=>by
  rw[List.all_cons,Bool.and_eq_true]at f;rw[List.any_cons,List.any_cons,GZ r f.1,uz t f.2]
theorem uE{s:Qd}{x:V}{v:Qc}(rx:zQ x v)(fx:l5 x=true):∀ {xs:Qa V} {us:Qa Qc},zH xs us->xs.all l5=true->∀ u∈us,SeqAt.EqAt A s u v<|i9 x u
 | _,_,.nil,_=>λu hu=>by cases hu
 | y::xs,u::us,.cons r t,f=>λu' hu=>by
  rw[List.all_cons,Bool.and_eq_true]at f;rcases qu.mp hu with rfl|hu
  .rw[GZ r f.1]; exact Ql r rx f.1 fx
  .exact uE rx fx t f.2 u' hu
def Ek(x:V)(xs:Qa V):Bool:=xs.any λy=>pq y x
def u4(K:qc)(neg:Bool):R2:=λx y H Q=>∃ p xs,y=.ref p/\(bE K H p xs\/cy K H p xs)/\l5 x=true/\xs.all l5=true/\Q (.bl (if neg then !Ek x xs else Ek x xs)) H
theorem Vi:bK X (compareOp .In) (u4 X.K false):=by
 intro pins s σ H x y v u Q I rx ry h;have(p,xs,rfl,hq,fx,fs,q):=h;cases ry;rcases hq with hq|hq
 .have(aj,r,pl,hz):=I.list hq
  refine SeqAt.in_listAt (i9 x) pl.isList (λw hw=>uE rx fx r fs w (by simpa using hw)) ⟨.bl _,H,I,rfl,?_⟩;rw[show aj.toArray.any (i9 x)=aj.any (i9 x) by simp,uz r fs];exact q
 .have(aj,r,pl,hz):=I.tuple hq
  refine SeqAt.in_tupleAt (i9 x) pl (λw hw=>uE rx fx r fs w (by simpa using hw)) ⟨.bl _,H,I,rfl,?_⟩;rw[show aj.toArray.any (i9 x)=aj.any (i9 x) by simp,uz r fs];exact q
theorem XQ:bK X (compareOp .NotIn) (u4 X.K true):=by
 intro pins s σ H x y v u Q I rx ry h;have(p,xs,rfl,hq,fx,fs,q):=h;cases ry;rcases hq with hq|hq
 .have(aj,r,pl,hz):=I.list hq
  refine SeqAt.notIn_listAt (i9 x) pl.isList (λw hw=>uE rx fx r fs w (by simpa using hw)) ⟨.bl _,H,I,rfl,?_⟩;rw[show aj.toArray.any (i9 x)=aj.any (i9 x) by simp,uz r fs];exact q
 .have(aj,r,pl,hz):=I.tuple hq
  refine SeqAt.notIn_tupleAt (i9 x) pl (λw hw=>uE rx fx r fs w (by simpa using hw)) ⟨.bl _,H,I,rfl,?_⟩;rw[show aj.toArray.any (i9 x)=aj.any (i9 x) by simp,uz r fs];exact q
theorem XO:fQ X (.builtin "len") (λxs H Q=>∃ p ys,xs=[.ref p]/\(bE X.K H p ys\/cy X.K H p ys)/\Q (.int ys.length) H):=by
 intro pins s σ H xs us Q I r h;have(p,ys,rfl,hq,q):=h;have(u,rfl,rx):=oC r;cases rx;have hn:=su;rcases hq with hq|hq
 .have(aj,r',pl,hz):=I.list hq
  have hlen:=r'.length;exact Calls.call_len_list pl.isList (by simp only[List.size_toArray]<;>omega) ⟨.int ys.length,H,I.tok _,⟨s.toks+1,by rw[List.size_toArray,hlen]⟩,q⟩
 .have(aj,r',pl,hz):=I.tuple hq
  have hlen:=r'.length;exact len_tuple pl (by simp only[List.size_toArray]<;>omega) ⟨.int ys.length,H,I.tok _,⟨s.toks+1,by rw[List.size_toArray,hlen]⟩,q⟩
theorem XJ:fQ X (.type "list") (λxs H Q=>∃ p ys,xs=[.ref p]/\(bE X.K H p ys\/cy X.K H p ys)/\∀ l,H l=none->Q (.ref l) (upd H l<|.lst ys)):=by
 intro pins s σ H xs us Q I r h;have(p,ys,rfl,hq,q):=h;have(u,rfl,rx):=oC r;cases rx;have fin:∀ (aj:Qa Qc),zH ys aj->ys.length<=sizeLine->∀ (h':Heap) (c':Nat),(∀ b o',s.heap.get? b=some o'->h'.get? b=some o')->
   h'.get? s.heap.objs.size=some {cls:=.type "list",dict:=none,data:=.seq aj.toArray c',slots:=#[]}->EP X pins σ Q (.ref s.heap.objs.size) {s with heap:=h'}:=λaj r' hz h' c' kp e=>
  ⟨.ref s.heap.objs.size,_,I.laid (t':=s.toks) kp (qe _) (show cG X.prog X.w X.K _ h' _ (.lst ys) from⟨hz,aj,c',r',e⟩),rfl,q _<|I.aD.fresh<|qe _⟩
 rcases hq with hq|hq
 .have(aj,r',pl,hz):=I.list hq
  have hlen:=r'.length;have(o,ho,hc,n,hd):=pl.isList;exact call_list_seq p (.inl rfl) ho hc hd (λh' c' kp e=>fin aj r' hz h' c' kp e) (by simp only[List.size_toArray]<;>omega)
 .have(aj,r',pl,hz):=I.tuple hq
  have hlen:=r'.length;have(o,ho,hc,n,hd):=pl;exact call_list_seq p (.inr rfl) ho hc hd (λh' c' kp e=>fin aj r' hz h' c' kp e) (by simp only[List.size_toArray]<;>omega)
theorem X0:fQ X (.type "tuple") (λxs H Q=>∃ p ys,xs=[.ref p]/\((bE X.K H p ys/\∀ l,H l=none->Q (.ref l) (upd H l<|.tup ys))\/(cy X.K H p ys/\Q (.ref p) H))):=by
 intro pins s σ H xs us Q I r h;have(p,ys,rfl,h):=h;have(u,rfl,rx):=oC r;cases rx;rcases h with⟨hq,q⟩|⟨hq,q⟩
 .have(aj,r',pl,hz):=I.list hq
  have hlen:=r'.length;refine call_tuple_list pl.isList (λh' kp=>?_) (by simp only[List.size_toArray]<;>omega);have I1:Inv X pins σ H {s with heap:=h'}:=I.kept (t':=s.toks) kp;have I2:Inv X pins σ (upd H h'.objs.size<|.tup ys) {s with heap:=h'.push {cls:=.type "tuple",data:=.seq aj.toArray}}:=
   I1.laid (t':=s.toks) (λb o e=>qd _ e) (qe _) (show cG X.prog X.w X.K _ _ _ (.tup ys) from⟨hz,aj,r',nz.new _ _⟩)
  exact⟨.ref h'.objs.size,_,I2,rfl,q _<|I1.aD.fresh<|qe _⟩
 .have(aj,r',pl,hz):=I.tuple hq
  exact call_tuple_same pl ⟨.ref p,H,I,rfl,q⟩
def uQ(K:qc)(T:String)(x:V)(H:Hp):Prop:=match x with
 | .str _=>T = "str"
 | .int _=>T = "int"
 | .ref p=>(T = "list"/\∃ xs,bE K H p xs)\/(T = "tuple"/\∃ o,K.lookup p=some o/\o.cls=.type "tuple"/\o.dict=none)\/
   (T = "dict"/\((∃ aL,H p=some (.dK aL))\/∃ aL,H p=some (.dT aL)))\/(T = "set"/\∃ S n,H p=some (.set S n))
 | _=>False
theorem GY{s:Qd}{x:V}{v:Qc}(I:Inv X pins σ H s)(r:zQ x v)(ty:uQ X.K T x H):
  s.TypeIs v T/\∀ a,v=.ref a->∃ ob,s.heap.get? a=some ob/\ob.dict=none:=by
 cases x with
 | str z=>
  have(t,rfl):=r;cases(show T = "str" from ty);exact⟨typeIs_str s z t,λ_ e=>nomatch e⟩
 | int i=>
  have(t,rfl):=r;cases(show T = "int" from ty);exact⟨typeIs_int s i t,λ_ e=>nomatch e⟩
 | ref p=>
  cases r;rcases ty with⟨rfl,xs,hq⟩|⟨rfl,o,hk,hc,hd⟩|⟨rfl,hk⟩|⟨rfl,S,n,hk⟩
  .have(aj,_,pl,_):=I.list hq
   refine⟨pl.isList.typeIs,λa e=>?_⟩;cases e;have(o,n,e,c,hd,_):=pl;exact⟨o,e,hd⟩
  .refine⟨⟨o,I.cB p o hk,hc⟩,λa e=>?_⟩
   cases e;exact⟨o,I.cB _ o hk,hd⟩
  .have z:∃ o,s.heap.get? p=some o/\o.ExactDict:=by
    rcases hk with⟨aL,hk⟩|⟨aL,hk⟩
    .have(_,_,_,_,o,_,_,e,ex,_):=I.aD p _ hk
     exact⟨o,e,ex⟩
    .have(_,_,_,_,o,_,_,e,ex,_):=I.aD p _ hk
     exact⟨o,e,ex⟩
   have(o,e,ex):=z;refine⟨⟨o,e,ex.1⟩,λa e2=>?_⟩;cases e2;exact⟨o,e,ex.2.1⟩
  .have(o,_,_,_,e,ex,_):=I.aD p _ hk
   refine⟨⟨o,e,ex.1⟩,λa e2=>?_⟩;cases e2;exact⟨o,e,ex.2.1⟩
 | _=>exact False.elim ty
def Bg(K:qc)(T:String)(r:V->Qa V->Hp->VK->Prop)(to:TE):TE:=λσ H Q=>to σ H λx H1=>uQ K T x H1/\r x [] H1 Q
def yW(K:qc)(T:String)(r:V->Qa V->Hp->VK->Prop)(to:TE)(t:TA):TE:=λσ H Q=>to σ H λx H1=>uQ K T x H1/\t σ H1 λxs H2=>r x xs H2 Q
variable{es:Qa Expr}{to:TE}{id:String}{r:V->Qa V->Hp->VK->Prop}
theorem Qk(pa:PlainAttrs T)(slot:Slot T name id)(nL:typeOf (.builtin id)=pure (.type "method_descriptor"))(hm:LW X id r)(ho:PE X o to)
  (eX:attributeBase o name X.env (eval o X.env)=eval o X.env:=by rfl) (eW:(apos.endLine==bt.line)=true:=by rfl):PE X (.Call (.Attribute o name apos) [] [] bt) (Bg X.K T r to):=by
 intro pins s σ H Q I h;refine wpAny_Call_method0_late eX eW<|aJ (ho pins s σ H _ I h) λv s1 hZ=>?_;have(x,H1,I1,r1,ty,q1):=hZ;have(h1,h2):=GY I1 r1 ty;exact⟨T,id,pa,slot,nL,h1,h2,Calls.callWith_builtin rfl<|PySem.evalArgs_none<|hm pins s1 σ H1 x [] v [] Q I1 r1 .nil q1⟩
theorem Oy(pa:PlainAttrs T)(slot:Slot T name id)(nL:typeOf (.builtin id)=pure (.type "method_descriptor"))(hm:LW X id r)(ho:PE X o to)(ha:PA X (e::es) t)
  (eX:attributeBase o name X.env (eval o X.env)=eval o X.env:=by rfl)
  (q9:((backTo bt<|starEach (e::es) X.env).all (λx=>!x.1) && (backToKw bt<|keywordEach [] X.env).all (λx=>x.1.isSome)
   && decide ((e::es).length+([]:Qa Keyword).length+(if([]:Qa Keyword).isEmpty then 0 else 1) < 30))=true:=by rfl)
  (eW:(apos.endLine==bt.line)=true:=by rfl) (hs:starEach (e::es) X.env=(false,eval e X.env)::starEach es X.env:=by rfl) (qW:(backTo bt<|starEach es X.env).any (·.1)=false:=by rfl):
  PE X (.Call (.Attribute o name apos) (e::es) [] bt) (yW X.K T r to t):=by
 intro pins s σ H Q I h;refine wpAny_Call_method_late eX q9 eW rfl<|aJ (ho pins s σ H _ I h) λv s1 hZ=>?_;have(x,H1,I1,r1,ty,q1):=hZ;have(h1,h2):=GY I1 r1 ty;refine⟨T,id,pa,slot,nL,h1,h2,?_⟩;have hA:=ha bt pins s1 σ H1 _ I1 q1;rw[hs]at hA ⊢;refine Calls.callWith_builtin (by show(false || (backTo bt<|starEach es X.env).any (·.1))=false; rw[qW]<;>rfl)<|Calls.evalArgs_plain ?_;exact aJ hA λus s2 ⟨vs,H2,I2,r2,q2⟩=>hm pins s2 σ H2 x vs v us Q I2 r1 r2 q2
end
def wj(X:Cx)(id:String)(r:V->Qa V->Hp->VK->Prop):Prop :=
 ∀ (pins:Qa (Qg×Obj)) (s:Qd) (σ:St) (H:Hp) (x:V) (xs:Qa V) (v:Qc) (us:Qa Qc) (Q:VK),Inv X pins σ H s->zQ x v->zH xs us->r x xs H Q->
  wpAny (model X.prog X.w) X.A (call (.builtin id)<|v::us) (EP X pins σ Q) X.xe s
theorem zH.one{x:V}(h:zH [x] us):∃ u,us=[u]/\zQ x u:=by
 cases h with
 | cons r t=>cases t; exact⟨_,rfl,r⟩
theorem zH.zero:∀ {us:Qa Qc},zH [] us->us=[]
 | _,.nil=>rfl
theorem zH.dropLast{xs:Qa V}(h:zH xs us):zH xs.dropLast us.dropLast:=by
 induction h with
 | nil=>exact .nil
 | cons r t ih=>
  cases t with
  | nil=>exact .nil
  | cons q t'=>exact .cons r ih
theorem Xh(l:Qa α):l.eraseIdx (l.length - 1)=l.dropLast:=by
 induction l with
 | nil=>rfl
 | cons a r ih=>
  cases r with
  | nil=>rfl
  | cons b r=>
   have e:(a::b::r).length - 1=((b::r).length - 1)+1:=by
    have h1:(a::b::r).length=r.length+2:=rfl;have h2:(b::r).length=r.length+1:=rfl;omega
   rw[e,List.eraseIdx_cons_succ,ih]
   all_goals rfl
section
variable{X:Cx}{s:Qd}{l b:Qg}{xs ys zs:Qa V}
theorem Inv.vk{aj its':Qa Qc}{f:Array Qc->Array Qc}{t':Nat}(I:Inv X pins σ H s)(hH:H l=some (.lst xs))
  (e:s.heap.get? l=some {cls:=.type "list",data:=.seq aj.toArray n}) (hf:f aj.toArray=its'.toArray) (hv:zH ys its') (hz:ys.length<=sizeLine):
  Inv X pins σ (upd H l<|.lst ys) {s with heap:=s.heap.update l (Obj.mapSeq f),toks:=t'}:=by
 have q:=PySem.IsL.update e f;rw[hf]at q;refine I.write (x:=l) (e:=l) (by rw[hH]; exact trivial) (.inl rfl) (λb' u hb hu=>(Æ s.heap (Obj.mapSeq f)<|Ne.symm hb).trans hu) ⟨_,q⟩ ?_;exact⟨hz,its',_,hv,q⟩
theorem Inv.vj(I:Inv X pins σ H s)(hH:H l=some (.lst xs)):xs.length<=sizeLine/\∃ (aj:Qa Qc) (n:Nat),zH xs aj/\xs.length=aj.length/\s.heap.get? l=some {cls:=.type "list",data:=.seq aj.toArray n}:=by
 have(z,aj,n,r,e):=I.aD l _ hH;exact⟨z,aj,n,r,r.length,e⟩
end
section
variable{X:Cx}
def HW:V->Qa V->Hp->VK->Prop:=λx vs H Q=>∃ l xs y,x=.ref l/\vs=[y]/\H l=some (.lst xs)/\xs.length < sizeLine/\Q .aK (upd H l<|.lst<|xs++[y])
theorem zI:wj X "list.append" HW:=by
 intro pins s σ H x vs v us Q I rx rv h;have(l,xs,y,rfl,rfl,hH,hz,q):=h;cases rx;have(u,rfl,ru):=rv.one;have(z,aj,n,r,hl,e):=I.vj hH;refine call_meets F.slot_list_append ⟨_,e,rfl⟩ F.entry_list_append (F.args_list_append_2 _ _) (PySem.list_append l aj.toArray n u (by rw[List.size_toArray]; omega)) ⟨e,?_⟩;refine⟨.aK,_,I.vk (its':=aj++[u]) hH e (by simp) (r.append<|.cons ru .nil) ?_,rfl,q⟩;rw[qr,List.length_singleton];omega
def FK:V->Qa V->Hp->VK->Prop:=λx vs H Q=>∃ l xs y,x=.ref l/\vs=[]/\H l=some (.lst xs)/\xs[xs.length - 1]?=some y/\Q y (upd H l<|.lst xs.dropLast)
theorem QL:wj X "list.pop" FK:=by
 intro pins s σ H x vs v us Q I rx rv h;have(l,xs,y,rfl,rfl,hH,hy,q):=h;cases rx;have YO:=rv.zero;subst YO;have(z,aj,n,r,hl,e):=I.vj hH;have(u,hu,ru):=r.get hy;have sT:aj.toArray[aj.toArray.size - 1]?=some u:=by
  show aj.toArray[aj.length - 1]?=some u;rw[<-Array.getElem?_toList,<-hl];exact hu
 refine call_meets F.slot_list_pop ⟨_,e,rfl⟩ F.entry_list_pop (F.args_list_pop_1 _) (MeetsSeq.list_pop_last l aj.toArray n u sT (by rw[List.size_toArray]; omega)) ⟨e,?_⟩;refine⟨y,_,I.vk (its':=aj.dropLast) hH e ?_ r.dropLast ?_,ru,q⟩
 .show aj.toArray.eraseIdxIfInBounds (aj.toArray.size - 1)=aj.dropLast.toArray
  rw[List.size_toArray,List.eraseIdxIfInBounds_toArray,Xh]
 .rw[List.length_dropLast]
  omega
end
section
variable{s:Qd}
end
section
variable{X:Cx}
end
section
variable{κ:Type}[DecidableEq κ]
end
section
end
section
variable{X:Cx}{s:Qd}{y:V}{r:Qc}{o:Qb V}
end
section
variable{X:Cx}{s:Qd}{aL:Qa (Key×V)}{k:Key}
end
section
variable{X:Cx}{i value:Expr}{ty:TE}
end
def QK:TE:=λ_ H Q=>∀ p,H p=none->Q (.ref p) (upd H p<|.dT [])
section
variable{X:Cx}
end
structure M1 (X:Cx) (o:Expr) (m:Str) (apos:Pos) (e:Expr) (bt:Pos):Prop where
 base:attributeBase o m X.env (eval o X.env)=eval o X.env
 ZL:((backTo bt<|starEach [e] X.env).all (λx=>!x.1) && (backToKw bt<|keywordEach [] X.env).all (λx=>x.1.isSome)
  && decide (([e]:Qa Expr).length+([]:Qa Keyword).length+(if([]:Qa Keyword).isEmpty then 0 else 1) < 30))=true
 line:(apos.endLine==bt.line)=true
 trees:backTo bt (starEach [e] X.env)=[(false,eval e X.env)]
structure M2 (X:Cx) (o:Expr) (m:Str) (apos:Pos) (e f:Expr) (bt:Pos):Prop where
 base:attributeBase o m X.env (eval o X.env)=eval o X.env
 ZL:((backTo bt<|starEach [e,f] X.env).all (λx=>!x.1) && (backToKw bt<|keywordEach [] X.env).all (λx=>x.1.isSome)
  && decide (([e,f]:Qa Expr).length+([]:Qa Keyword).length+(if([]:Qa Keyword).isEmpty then 0 else 1) < 30))=true
 line:(apos.endLine==bt.line)=true
 trees:backTo bt (starEach [e,f] X.env)=[(false,eval e X.env),(false,eval f X.env)]
section
variable{X:Cx}{s:Qd}{y d:V}{r:Qc}{o:Qb V}
end
section
variable{X:Cx}{f:Expr}{ty tx:TE}
end
section
variable{X:Cx}{s:Qd}{aL:Qa (Key×V)}
end
section
variable{X:Cx}{s:Qd}{y:V}
end
end L2
namespace L8
open PySem PySem.W PySem.Calls PyProof.Rows
theorem X4{P:Params}{h:Heap}:∀ (ns:List Int) (vs:List Value),WellAll P h vs (ns.map WData.int)->IntsAre vs ns:=by
 intro ns
 induction ns with
 | nil=>
  intro vs w;rw[List.map_nil]at w;cases w;exact .nil
 | cons n ns ih=>
  intro vs w;rw[List.map_cons]at w;cases w with
  | cons a b=>
   cases a;exact .cons _ _<|ih _ b
theorem Vh{l:OpenLaw}{n:Nat}(hn:l.most=some n){P:Params}{h:Heap}{args:List WData}{vals:List Value}
  (nN:l.row.toRowW.claim.pre args=true) (Eu:WellAll P h vals args):
  ∃ a vs ns,vals=[Value.ref a]/\args=[WData.list<|ns.map WData.int]/\h.get? a=some {cls:=.type "list",data:=.seq vs.toArray}/\IntsAre vs ns/\ns.length<=n:=by
 have YU:WShape.hasAll [] args [.list .int]=true:=(pre_splitW nN).1;have hc:l.pre.holds [] {args:=args}=true:=(pre_splitW nN).2;have(d,r,rfl,h1,h2):=hasAllW_cons YU;obtain rfl:=hasAllW_nil h2;have(xs,rfl,h3):=hasW_list h1;have(ns,rfl):=items_int h3;have hlen:ns.length<=n:=by
  unfold OpenLaw.pre at hc;have h4:(WTm.not<|.lt (.lit<|.int (n:Int))<|.len<|.arg 0).holds [] {args:=[.list<|ns.map .int]}=true:=by
   have h4:=(holds_andW hc).1;rw[hn]at h4;exact h4
  have h5:=condW_of h4 (w_not<|w_lt w_lit<|w_len_list<|w_arg rfl);rw[List.length_map]at h5;refine Nat.le_of_not_lt λq=>?_;have q':(n:Int) < ((ns.length:Nat):Int):=by omega
  first
   | (rw[decide_eq_true q']at h5; exact absurd h5 (by decide))
   | (simp at h5; omega)
 cases Eu with
 | cons w1 w2=>
  cases w2;cases w1 with
  | list ho rl=>exact⟨_,_,ns,rfl,rfl,ho,X4 ns _ rl,hlen⟩
theorem Vg(l:OpenLaw)(args:List WData):l.row.toRowW.claim.post args (.bool true) args=true :=
 postW_of (r:=l.row.toRowW) (X:=(true==true))
  (show WShape.has [] (.bool true) .bool=true by first|rfl|decide|simp[WShape.has,WShape.arms,WShape.armsAll])
  (show(WTm.eq .res<|.lit<|.bool true).value [] {args:=args,res:=some (.bool true),after:=args}=some (.bool<|true==true) from w_eq_bool (w_res rfl) w_lit) rfl
theorem iq{l:OpenLaw}{n:Nat}{q:Program}{loose:List Str}{XP:(Str->Option Value)->Heap->Prop}{YP:World->Heap->Prop}{d:DefRec}
  (hn:l.most=some n) (vF:d.params.defaults=[])
  (call:∀ (w:World) (bo aH:Shared) (mg mb:Str->Option Value) (fa:Addr) (o:Obj) (pm cd doc:Value) (a:Addr) (vs:List Value) (ns:List Int),
   Ground q loose [] XP w bo mg mb aH.heap->YP w aH.heap->
   aH.heap.get? fa=some o->o.data=.func (docDef d.name d.params d.body d.scope pm cd doc)->aH.heap.CodeRec cd d.name->mg d.name=some (.ref fa)->
   aH.heap.get? a=some {cls:=.type "list",data:=.seq vs.toArray}->IntsAre vs ns->ns.length<=n->aH.gens=#[]->
   codeAny (model l.prog w) callerA (.call (.ref fa) ⟨[.ref a],[]⟩) (λr s'=>r=.ok (.ret<|.bool true)/\OldK aH.heap s'.heap/\s'.os=aH.os/\AllBare s'.gens) aH):
  WalkO q loose XP YP l.row.toRowW d [] (λf vs=>PySem.call f vs):=by
 intro w bo aH mg mb G Y fa o pm cd doc dV kV ho hd gL hD vB hg args vals as nN Y7 hrd Eu q0;obtain rfl:dV=.none:=Dflts.none hD vF;obtain rfl:kV=.none:=Dflts.noKw hD;have(a,vs,ns,rfl,rfl,qY,hints,hlen):=Vh hn nN Eu;refine enter_call<|codeAny_mono (call w bo aH mg mb fa o pm cd doc a vs ns G Y ho (fd_plain hd) gL vB qY hints hlen hg) λr s' hq=>?_;have(rfl,h2,h3,h4):=hq;exact⟨.inl ⟨.bool true,.bool true,[],rfl,λ_=>rfl,.bool true,Vg l _,λ_=>⟨List.Pairwise.nil,λ_ hm=>(nomatch hm)⟩⟩,h2,h3,h4⟩
section
variable{prog:Program} {w:World} {A:Around} {E:Value->Shared->Prop} {s:Shared} {K:Frag}
end
end L8
namespace L2
open PySem PySem.Spec PyProof.Rows
theorem Jn:∀ {vs:Qa Qc} {ns:Qa Int},IntsAre vs ns->zH (ns.map V.int) vs
 | _,_,.nil=>.nil
 | _,_,.cons n t h=>.cons ⟨t,rfl⟩<|Jn h
def wN(H:Hp):Prop:=∀ b,H b=none\/∃ o xs,H b=some (.bu o<|.lst xs)
theorem UL{mb:Str->Qb Qc}{CX:jP}{fa:Qg}{aH:Qd}{vs:Qa Qc}
  (KX:K.In aH.heap) (Lc:aH.heap.Ns mainGlobals mg) (hb:aH.heap.Ns builtinsNs mb) (Zn:∀ x:Str,x ≠ "__name__"->mb x=bootBuiltins x) (EC:aH.heap.NoLimit) (hg:aH.gens=#[])
  (ha:aH.heap.get? a=some {cls:=.type "list",data:=.seq vs.toArray}) (hi:IntsAre vs ns) (hl:ns.length<=sizeLine) (hr:aE k callerA)
  (F:∀ base:Heap,K.In base->base.Ns mainGlobals mg->bp P w K mg base CX k fa fd [x] sp) (vK:∀ (s:Qd) (u:Qc),BindsTo s fd ⟨[u],[]⟩ [(x,u)])
  (kE:∀ H:Hp,wN H->bE K H a (ns.map V.int)->sp [.ref a] H (λv _=>v=.bl true) λ_ _ _=>False)
  (E3:∀ H e s',CX [] H aH (λ_ _ _=>False) e s'->False):
  codeAny (model P w) callerA (.call (.ref fa) ⟨[.ref a],[]⟩) (λr s'=>r=.ok (.ret<|.bool true)/\OldK aH.heap s'.heap/\s'.os=aH.os/\AllBare s'.gens) aH:=by
 have rv:=Jn hi;have Ea:=hi.length;have core:∀ H:Hp,wN H->bE K H a (ns.map V.int)->cZ P w K H aH.heap->(∀ b,H b≠none->b=a)->(H a≠none->K.lookup a=none)->
   codeAny (model P w) callerA (.call (.ref fa) ⟨[.ref a],[]⟩) (λr s'=>r=.ok (.ret<|.bool true)/\OldK aH.heap s'.heap/\s'.os=aH.os/\AllBare s'.gens) aH:=by
  intro H hO hS aD hA hK;have jM:∀ {b:Qg} {o:Obj},aH.heap.get? b=some o->H b=none->(m6 aH.heap H).get? b=some o:=λe n=>VP e n;have vd:∀ {b:Qg} {o:Obj} {es:Array DictEntry} {ep:Nat},aH.heap.get? b=some o->o.data=.dict es ep->H b=none:=λ{b o es ep} e d=>by
   cases q:H b with
   | none=>rfl
   | some u=>
    have e':b=a:=hA b (by rw[q]; simp);subst e';rw[ha]at e; cases e;have d':Data.seq vs.toArray _=Data.dict es ep:=d;cases d'
  have y0:∀ {b:Qg} {m:Str->Qb Qc},aH.heap.Ns b m->(m6 aH.heap H).Ns b m:=λ{b m} ⟨o,es,ep,e,d,r⟩=>⟨o,es,ep,jM e<|vd e d,d,r⟩;have Ls:K.In (m6 aH.heap H):=λb o e=>jM (KX b o e) (by
   cases q:H b with
   | none=>rfl
   | some u=>
    have e':b=a:=hA b (by rw[q]; simp);subst e';rw[hK (by rw[q]; simp)]at e; cases e)
  have hM:Mod K mg (m6 aH.heap H):=⟨Ls,y0 Lc,⟨mb,y0 hb,Zn⟩,let ⟨mc,h1,h2⟩:=EC; ⟨mc,y0 h1,h2⟩⟩;have e0:ji P w K mg (m6 aH.heap H) callerA [] aH H:=⟨rfl,hM,λb o e=>TH e,Nat.le_of_eq<|Vq _ _,trivial,λb hb=>absurd (show b∈([]:Qa Qg) from hb) (by simp),aD,.of_eq hg⟩;refine codeAny_mono ((F _ Ls<|y0 Lc).run callerA [] aH H ⟨[.ref a],[]⟩ [.ref a] [.ref a] _ _ hr e0 (vK aH<|.ref a) (.cons rfl .nil)<|kE H hO hS) λr s' h=>?_;cases r with
  | error e=>exact(E3 H e s' h).elim
  | ok fl=>
   cases fl with
   | next=>exact False.elim h
   | brk=>exact False.elim h
   | cont=>exact False.elim h
   | ret u=>
    have(v,H',os,bare,un,Ey,r',q):=h;have q':v=.bl true:=q;subst q';obtain rfl:u=Value.bool true:=r';refine⟨rfl,OldK.of_keep λb o e=>?_,os,bare⟩;cases q:H b with
    | none=>exact un.keep b o e q (by intro z; exact absurd (show b∈([]:Qa Qg) from z) (by simp)) (by simp)
    | some u=>
     rcases hO b with z|⟨ob,xs,z⟩
     .rw[q]at z; cases z
     .have z2:=un.cT b ob _ z
      have(e1,_):=aD b _ z;have(e2,_):=Ey b _ z2;rw[e]at e1; cases e1;exact e2
 cases hk:K.lookup a with
 | some o=>
  have e:=KX a o hk;rw[ha]at e;cases e;refine core (λ_=>none) (λ_=>.inl rfl) (.inr ⟨_,vs.toArray,_,hk,rfl,rfl,rfl,by rw[List.size_toArray,Ea]; exact hl,by simpa using rv⟩) (λb u z=>by have z':(none:Qb HO)=some u:=z; cases z') (λb z=>absurd rfl z) λz=>absurd rfl z
 | none=>
  refine core (λb=>if b=a then some (.bu {cls:=.type "list",data:=.seq vs.toArray}<|.lst<|ns.map V.int)else none) (λb=>?_) (.inl<|.inr ⟨{cls:=.type "list",data:=.seq vs.toArray},if_pos rfl⟩) (λb u z=>?_) (λb z=>?_) λ_=>hk
  .by_cases hb:b=a
   .exact .inr ⟨_,_,if_pos hb⟩
   .exact .inl (if_neg hb)
  .by_cases hb:b=a
   .have z':=(if_pos hb).symm.trans z
    cases z';subst hb;exact⟨ha,by rw[List.length_map]; exact hl,vs,_,rv,ha⟩
   .have z':=(if_neg hb).symm.trans z
    cases z'
  .by_cases hb:b=a
   .exact hb
   .exact absurd (if_neg hb) z
theorem nE{l:PySem.W.OpenLaw}{q:Qe}{loose:Qa Str}{XP:(Str->Qb Qc)->Heap->Prop}{YP:Qh->Heap->Prop}{d:DefRec}{K:Params->qc}{CX:Qh->jP}{sp:Qh->Sp}
  (hn:l.most=some n) (Y4:n<=sizeLine) (vF:d.params.defaults=[]) (hr:aE k callerA)
  (hY:∀ (w:Qh) (h:Heap),YP w h->(K w.params).In h)
  (F:∀ (w:Qh) (mg:Str->Qb Qc) (fa:Qg) (h:Heap),(K w.params).In h->h.Ns mainGlobals mg->mg d.name=some (.ref fa)->
   ∃ fd:FuncData,(∀ (s:Qd) (u:Qc),BindsTo s fd ⟨[u],[]⟩ [(x,u)])/\
    ∀ base:Heap,(K w.params).In base->base.Ns mainGlobals mg->bp l.prog w (K w.params) mg base (CX w) k fa fd [x] (sp w))
  (kE:∀ (w:Qh) (H:Hp) (a:Qg) (ns:Qa Int),ns.length<=n->wN H->bE (K w.params) H a (ns.map V.int)->sp w [.ref a] H (λv _=>v=.bl true) λ_ _ _=>False)
  (E3:∀ (w:Qh) (H:Hp) (s:Qd) (e:Qc) (s':Qd),CX w [] H s (λ_ _ _=>False) e s'->False):
  PySem.W.WalkO q loose XP YP l.row.toRowW d [] (λf vs=>PySem.call f vs):=by
 refine L8.iq hn vF λw bo aH mg mb fa o pm cd doc a vs ns G Y ho hd gL vB qY hints hlen hg=>?_;have KX:=hY w _ Y;have(fd,hb,hF):=F w mg fa _ KX G.T.g vB;exact UL KX G.T.g G.T.b G.T.builtins G.T.nolimit hg qY hints (qx hlen Y4) hr hF hb (λH hO hS=>kE w H a ns hlen hO hS) λH e s'=>E3 w H aH e s'
def jx(s:Stmt):Arguments:=match s with
 | .FunctionDef _ a _ _ _ _ _ _ _ _=>a
 | _=>{posonlyargs:=[],args:=[],vararg:=none,kwonlyargs:=[],kw_defaults:=[],kwarg:=none,defaults:=[]}
def fE(s:Stmt):Qa Stmt:=match s with
 | .FunctionDef _ _ b _ _ _ _ _ _ _=>b
 | _=>[]
def zo(s:Stmt):Scope:=match s with
 | .FunctionDef _ _ _ _ _ _ sc _ _ _=>sc
 | _=>{kind:=.function,names:=[],isGenerator:=false,isCoroutine:=false}
abbrev gN:jP:=λ_ _ _ _ _ _=>False
abbrev E0:XK:=λ_ _ _=>False
theorem Gv{X:Cx}:ue gN X E0:=λ_ _ _ _ _ _ _ h=>h.elim
structure jh (K:qc) (x qual:Str) (st:Stmt) (f:Qg) (fd:FuncData):Prop where
 ex:∃ (oc:Qc) (od:Qb Qg) (kV doc pm:Qc) (an:Qb Qg) (aO ct:Qc) (iK:Array (Qb Qc)),
  fd=PySem.W.fnOf x qual (jx st) (fE st) (zo st) .none kV doc pm an aO ct/\K.lookup f=some ⟨oc,od,.func fd,iK⟩/\PySem.W.codeIn K aO qual=true
 kp:PySem.W.keepIn K (.ref f)=true
section
theorem jh.ok{f:Qg}(F:jh K x qual st f fd)(S:aQ N ps (zo st))(len:∀ vs H Q E,sp vs H Q E->vs.length=ps.length)
  (aX:∀ (aO:Qc) (A:Qf) (outer:Qa Env) (s:Qd) (H:Hp) (vs:Qa V) (Q:VK) (E:XK),aE k (A.deeper<|envOfC qual (zo st) s.heap.objs.size f aO)->sp vs H Q E->
   ∃ t,cW (iE gN P w K mg base N qual (zo st) f aO A outer s H E).qO (fE st) t/\t {nx:=λ_ H'=>Q .aK H',rt:=Q} (ft N vs) H):bp P w K mg base gN (k+1) f fd ps sp:=by
 have(oc,od,kV,doc,pm,an,aO,ct,iK,rfl,lk,gL):=F.ex;refine BX lk gL S len λA outer s H vs Q E hr kE=>?_;have(t,h,q):=aX aO A outer s H vs Q E hr kE;exact⟨t,h.qO,q⟩
theorem jh.binds{f:Qg}(F:jh K x qual st f fd)
  (h:∀ (kV doc pm:Qc) (an:Qb Qg) (aO ct:Qc) (us:Qa Qc),us.length=ps.length->bindArgs (PySem.W.fnOf x qual (jx st) (fE st) (zo st) .none kV doc pm an aO ct) ⟨us,[]⟩=pure (ps.zip us)):jY K fd ps []:=by
 have(oc,od,kV,doc,pm,an,aO,ct,iK,rfl,lk,gL):=F.ex;exact .all<|h kV doc pm an aO ct
theorem CC{f:Qg}{oc:Qc}{od an:Qb Qg}{kV doc pm aO ct:Qc}(l:K.lookup f=some ⟨oc,od,.func<|PySem.W.fnOf x qual (jx st) (fE st) (zo st) .none kV doc pm an aO ct,iK⟩)
  (c:PySem.W.codeIn K aO qual=true) (k:PySem.W.keepIn K (.ref f)=true):jh K x qual st f (PySem.W.fnOf x qual (jx st) (fE st) (zo st) .none kV doc pm an aO ct):=⟨⟨oc,od,kV,doc,pm,an,aO,ct,iK,rfl,l,c⟩,k⟩
end
theorem Ox(hr:aE k A):A.units+1 < cLine:=Nat.lt_of_le_of_lt (Nat.add_le_add_left (by decide:1<=64) _) hr.units
section
variable{X:Cx}
theorem pv(i:Nat)(hN:X.N[i]?=some x:=by rfl)(hv:AA X.env.scope x:=by first|exact Or.inl rfl|exact Or.inr (Or.inl rfl) | exact Or.inr<|Or.inr rfl)(hd:(x==("__debug__":Str))=false:=by decide)
  (gL:(x==("__classdict__":Str))=false:=by decide):PE X (.Name x pos) (kO i):=P6 hN hv hd gL
end
def cK(H H':Hp):Prop:=∀ b o,H b=some o->H' b=some o
theorem cK.refl(H:Hp):cK H H:=λ_ _ h=>h
theorem cK.seq{xs:Qa V}(e:cK H H')(h:bE K H a xs):bE K H' a xs:=by
 rcases h with (h|⟨o,h⟩) | h
 .exact .inl (.inl<|e _ _ h)
 .exact .inl (.inr ⟨o,e _ _ h⟩)
 .exact .inr h
section
variable{X:Cx}
end
section
variable{κ:Type}[DecidableEq κ]
end
end L2
set_option maxHeartbeats 4000000
namespace L2
open PySem PySem.Spec PyProof.Rows
inductive bU (X:Cx):Qa (Str×Qg)->Qa Str->Qa Nat->Prop where
 | nil:bU X [] [] []
 | cons {x:Str} {c:Qg} {j:Nat} {cl:Qa (Str×Qg)} {xs:Qa Str} {js:Qa Nat} (hN:X.N[j]?=some x) (hk:X.env.scope.names.lookup x=some .cell\/X.env.scope.names.lookup x=some .free)
   (hc:X.env.cells.lookup x=some c) (t:bU X cl xs js):bU X ((x,c)::cl) (x::xs) (j::js)
def gk(X:Cx)(scope:Scope)(cl:Qa (Str×Qg))(Nc:Qa Str)(C:Qg)(s:Qd)(H:Hp)(ex:Qa Qg):Cx :=
 {X with bo:=s,av:=H,env:=compEnvC scope (cellsFrom (C+1) scope.names cl) C X.env,N:=Nc,outer:=X.stack,stack:=X.stack,ex:=ex,fn:=λx=>scope.names.lookup x==some .cell,pn:=[],xe:=λ_ _=>False}
def c0(nt:Nat)(js:Qa Nat)(σ:St):St:=List.replicate nt none++js.map λj=>σ.getD j none
def Wk(a b:St):Prop:=a.length=b.length/\∀ (i:Nat) (v:V),a[i]?=some (some v)->b[i]?=some (some v)
theorem QH{a:St}{x:Qb V}(h:a[i]?=some none):Wk a (a.set i x):=by
 refine⟨by simp,λj v e=>?_⟩;have ne:i≠j:=by intro z; rw[z,e]at h; cases h
 rw[qB ne];exact e
theorem CK(h:i < nt):(c0 nt js σ)[i]?=some none:=by
 unfold c0;rw[List.getElem?_append_left (by simpa using h),List.getElem?_replicate,if_pos h]
theorem oJ{X:Cx}{xs:Qa Str}(f:bU X cl xs js):∀ x c,cl.lookup x=some c->X.env.cells.lookup x=some c:=by
 induction f with
 | nil=>intro x c e; cases e
 | @cons y d j cl xs js hN hk hc t ih=>
  intro x c e;rw[List.lookup_cons]at e
  by_cases q:x=y
  .subst q
   rw[beq_self_eq_true]at e;injection e with e1;rw[<-e1];exact hc
  .rw[beq_eq_false_iff_ne.mpr q]at e
   exact ih x c e
theorem Jm{X:Cx}{xs:Qa Str}(f:bU X cl xs js):∀ x,x∈xs->∃ c,cl.lookup x=some c:=by
 induction f with
 | nil=>intro x m; cases m
 | @cons y d j cl xs js hN hk hc t ih=>
  intro x m;rw[List.lookup_cons]
  by_cases q:x=y
  .subst q
   rw[beq_self_eq_true];exact⟨d,rfl⟩
  .rw[beq_eq_false_iff_ne.mpr q]
   rcases qu.mp m with z|z
   .exact absurd z q
   .exact ih x z
theorem UK{X:Cx}{xs:Qa Str}(f:bU X cl xs js):∀ (i:Nat) (x:Str) (σ:St) (v:V),xs[i]?=some x->(js.map λj=>σ.getD j none)[i]?=some (some v)->
  ∃ j:Nat,X.N[j]?=some x/\σ[j]?=some (some v)/\(X.env.scope.names.lookup x=some .cell\/X.env.scope.names.lookup x=some .free)/\(∃ c,X.env.cells.lookup x=some c):=by
 induction f with
 | nil=>intro i x σ v e; simp at e
 | @cons y d j cl xs js hN hk hc t ih=>
  intro i x σ v e1 e2;cases i with
  | zero=>
   simp only[List.getElem?_cons_zero,Option.some.injEq]at e1;subst e1;refine⟨j,hN,?_,hk,d,hc⟩;simp only[List.map_cons,List.getElem?_cons_zero,Option.some.injEq]at e2;rw[qA]at e2;cases q:σ[j]? with
   | none=>rw[q]at e2; cases e2
   | some o=>rw[q]at e2; simp at e2; rw[e2]
  | succ i=>
   exact ih i x σ v (by simpa using e1) (by simpa using e2)
theorem Dp:∀ {names:Qa (Str×NameKind)} {x:Str} {k:NameKind},
  (names.map λ(n,k)=>if(k==NameKind.free && env.scope.kind==.function && env.kindOf n==some .cell)then(n,NameKind.cell)else(n,k)).lookup x=some k->
  ∃ k0,names.lookup x=some k0/\(x,k0)∈names/\(k=k0\/(k0=.free/\k=.cell)):=by
 intro names
 induction names with
 | nil=>intro x k e; cases e
 | cons p r ih=>
  intro x k e;have(n,kn):=p
  by_cases q:x=n
  .subst q
   refine⟨kn,by rw[List.lookup_cons,beq_self_eq_true],qo,?_⟩;rw[List.map_cons]at e;change List.lookup x ((if(kn==NameKind.free && env.scope.kind==.function && env.kindOf x==some .cell)=true then(x,NameKind.cell)else(x,kn))::_)=_ at e
   by_cases hh:(kn==NameKind.free && env.scope.kind==.function && env.kindOf x==some .cell)=true
   .rw[if_pos hh,List.lookup_cons,beq_self_eq_true]at e
    injection e with e1;refine .inr ⟨?_,e1.symm⟩;simp only[Bool.and_eq_true]at hh;exact by simpa using hh.1.1
   .rw[if_neg hh,List.lookup_cons,beq_self_eq_true]at e
    injection e with e1;exact .inl e1.symm
  .rw[List.map_cons]at e
   change List.lookup x ((if(kn==NameKind.free && env.scope.kind==.function && env.kindOf n==some .cell)=true then(n,NameKind.cell)else(n,kn))::_)=_ at e;have e':(r.map λ(n,k)=>if(k==NameKind.free && env.scope.kind==.function && env.kindOf n==some .cell)then(n,NameKind.cell)else(n,k)).lookup x=some k:=by
    by_cases hh:(kn==NameKind.free && env.scope.kind==.function && env.kindOf n==some .cell)=true
    .rw[if_pos hh,List.lookup_cons,beq_eq_false_iff_ne.mpr q]at e
     exact e
    .rw[if_neg hh,List.lookup_cons,beq_eq_false_iff_ne.mpr q]at e
     exact e
   have(k0,h1,h2,h3):=ih e';refine⟨k0,by rw[List.lookup_cons,beq_eq_false_iff_ne.mpr q]; exact h1,qm _ h2,h3⟩
theorem Vf{X:Cx}{xs:Qa Str}(f:bU X cl xs js):js.length=xs.length:=by
 induction f with
 | nil=>rfl
 | cons _ _ _ _ ih=>simp[ih]
structure AF (scope:Scope) (xs:Qa Str):Prop where
 kind:scope.kind=.function
 cell:∀ y∈scope.names,y.2=.cell->scope.names.lookup y.1=some .cell
 names:∀ y∈scope.names,y.2=.local->scope.names.lookup y.1=some .local
 free:∀ y∈scope.names,y.2=.free->y.1∈xs
 fk:∀ x∈xs,scope.names.lookup x=some .free
theorem l9:∀ (ns:Qa (Str×NameKind)) (n:Nat) (acc:Qa (Str×Qg)),cellsFrom n ns acc=cellsFrom n ns []++acc
 | [],_,_=>rfl
 | (x,k)::r,n,acc=>by
  unfold cellsFrom;split
  .rw[l9 r (n+1)<|(x,n)::acc,l9 r (n+1) [(x,n)],List.append_assoc]
   rfl
  .exact l9 r n acc
theorem CB:∀ (ns:Qa (Str×NameKind)) (n:Nat) {x:Str} {c:Qg},(x,c)∈cellsFrom n ns []->(x,NameKind.cell)∈ns
 | [],_,_,_,h=>by cases h
 | (y,k)::r,n,x,c,h=>by
  unfold cellsFrom at h;split at h
  .rename_i hk
   rw[l9,List.mem_append]at h;rcases h with h|h
   .exact qm _ (CB r _ h)
   .cases qp.mp h
    cases eq_of_beq hk;exact qo
  .exact qm _ (CB r _ h)
theorem xH:∀ (ns:Qa (Str×NameKind)) (n:Nat) {x:Str},(x,NameKind.cell)∈ns->∃ c,(cellsFrom n ns []).lookup x=some c
 | [],_,_,h=>by cases h
 | (y,k)::r,n,x,h=>by
  unfold cellsFrom;rcases qu.mp h with e|h'
  .cases e
   rw[if_pos (by rfl:(NameKind.cell==NameKind.cell)=true),l9,List.lookup_append];cases(cellsFrom (n+1) r []).lookup y with
   | none=>exact⟨n,by rw[List.lookup_cons,beq_self_eq_true]; rfl⟩
   | some c=>exact⟨c,rfl⟩
  .split
   .have(c,e):=xH r (n+1) h'
    rw[l9,List.lookup_append,e];exact⟨c,rfl⟩
   .exact xH r n h'
theorem sL{ns:Qa (Str×NameKind)}{acc:Qa (Str×Qg)}{c:Qg}(h:(cellsFrom n ns acc).lookup x=some c):(cellsFrom n ns []).lookup x=some c\/(acc.lookup x=some c/\(cellsFrom n ns []).lookup x=none):=by
 rw[l9,List.lookup_append]at h;cases e:(cellsFrom n ns []).lookup x with
 | none=>rw[e]at h; exact .inr ⟨h,rfl⟩
 | some d=>rw[e]at h; exact .inl h
theorem Gu{ns:Qa (Str×NameKind)}{acc:Qa (Str×Qg)}{c:Qg}(h:(cellsFrom n ns []).lookup x=some c):(cellsFrom n ns acc).lookup x=some c:=by
 rw[l9,List.lookup_append,h];rfl
theorem Va{M:Model}{s:Qd}{globals:Qg}{bs:Qg}{Q:Env->Qd->Prop}
  (hQ:∀ h1,h1.Ns s.heap.objs.size (λ_=>none)->(∀ b o,s.heap.get? b=some o->h1.get? b=some o)->CellsOk h1 (s.heap.objs.size+1) (cellsFrom (s.heap.objs.size+1) scope.names [])->
   Q (newEnv scope s.heap.objs.size globals (cellsFrom (s.heap.objs.size+1) scope.names cl) qual none .none (some env) bs) {s with heap:=h1}):
  wpAny M A (newFunctionEnv scope globals cl [] qual none .none (some env) bs) Q E s:=by
 simp only[newFunctionEnv,Option.isSome_some,if_true];refine qa<|wpAny_alloc ?_;refine qa<|wpAny_layCells _ (λname kind cells=>by cases Y8:kind==NameKind.cell<;>simp[Y8]) _ _ _ _ ?_;have ok:=cellsFrom_ok scope.names (s.heap.push {cls:=.type "dict",data:=.dict #[]}) (s.heap.objs.size+1) [] ⟨λ_ _ hm=>(nomatch hm),List.Pairwise.nil⟩ (by rw[Heap.size_push]; exact qe _);rw[Heap.size_push]at ok;rw[show({s with heap:=s.heap.push {cls:=.type "dict",data:=.dict #[]}}:Qd).heap.objs.size=s.heap.objs.size+1 from Heap.size_push ..];rw[List.forIn_nil];exact qa<|qb<|qb<|hQ _ ((Heap.Ns.new s.heap<|.type "dict").keeps<|pushCells_keeps _ _) (λb o e=>pushCells_keeps _ _ b o<|qd _ e) ok
section
variable{X:Cx}{s:Qd}{xs:Qa Str}{ts:Qa Str}{fp:Qa Qg}{C:Qg}
theorem HV{hx:Heap}(I:Inv X pins σ H s)(S:AF scope xs)(f:bU X cl xs js)(ck:CellsOk hx (C+1) (cellsFrom (C+1) scope.names []))(hC:s.heap.objs.size<=C)(hf:∀ b∈fp,jU X pins H b)(hl:∀ b∈fp,b < s.heap.objs.size):
  (gk X scope cl (ts++xs) C s H fp).Ok where
 mod:=I.ok.mod
 kind:=S.kind
 glob:=I.ok.glob
 blt:=I.ok.blt
 above:=hC
 inj:=λx y c e1 e2=>by
  have no:∀ {x y:Str},(cellsFrom (C+1) scope.names []).lookup x=some c->cl.lookup y=some c->False:=λz1 z2=>by
   have(v,o,q,_):=I.cell _ c (oJ f _ c z2);have q1:=qh q;have q2:=(ck.empty _ _<|mem_of_lookup z1).2;exact Í _<|qi q1<|qx hC<|qx (å C) q2
  rcases sL e1 with z1|⟨z1,_⟩<;>rcases sL e2 with z2|⟨z2,_⟩
  .exact name_of_addr ck.apart (mem_of_lookup z1) (mem_of_lookup z2)
  .exact(no z1 z2).elim
  .exact(no z2 z1).elim
  .exact I.ok.inj x y c (oJ f x c z1) (oJ f y c z2)
 has:=λx h=>by
  have z:∃ k0,scope.names.lookup x=some k0/\(x,k0)∈scope.names/\(k0=NameKind.free\/k0=NameKind.cell):=by
   rcases h with h|h
   .have(k0,h1,h2,h3):=Dp (env:=X.env) (names:=scope.names) h
    rcases h3 with h3|h3
    .exact⟨k0,h1,h2,.inr h3.symm⟩
    .exact⟨k0,h1,h2,.inl h3.1⟩
   .have(k0,h1,h2,h3):=Dp (env:=X.env) (names:=scope.names) h
    rcases h3 with h3|h3
    .exact⟨k0,h1,h2,.inl h3.symm⟩
    .cases h3.2
  have(k0,_,h2,h3):=z;show ∃ c,(cellsFrom (C+1) scope.names cl).lookup x=some c;rcases h3 with h3|h3
  .have(c,e):=Jm f x (S.free _ h2 h3)
   rw[l9,List.lookup_append,e];cases(cellsFrom (C+1) scope.names []).lookup x with
   | none=>exact⟨c,rfl⟩
   | some d=>exact⟨d,rfl⟩
  .subst h3
   have(c,e):=xH scope.names (C+1) h2;exact⟨c,Gu e⟩
 pC:=λx c h e=>by
  have(d,q):=xH scope.names (C+1) (mem_of_lookup<|eq_of_beq h);have e':(cellsFrom (C+1) scope.names cl).lookup x=some c:=e;rw[Gu q]at e';cases e';have:=(ck.empty _ _<|mem_of_lookup q).2;show s.heap.objs.size<=c;omega
 hd:=I.ok.hd
 frames:=I.ok.frames
 qG:=.inl rfl
 tu:=λb hb=>⟨qj<|qi (hl b hb) hC,λx c e=>by
  rcases sL e with z|⟨z,_⟩
  .have q1:=(ck.empty _ _<|mem_of_lookup z).2
   exact æ<|qi (hl b hb)<|qx hC<|qx (å C) q1
  .exact(hf b hb).2.2.2.2.1 x c (oJ f x c z)⟩
 bs:=I.bs
 kJ:=qx I.ok.kJ I.sz
 g8:=λb o e hb=>by
  rcases(hf b hb).2.2.2.1 with z|z
  .exact I.ok.g8 b o e z
  .exact absurd (qi (qh (I.ok.bs b o e).1) z) (Í _)
 i8:=λb hb z=>by
  rcases qu.mp (I.eR b z)with q|q
  .exact(hf b hb).2.1 q
  .exact(hf b hb).2.2.1 q
 cS:=I.stack
 mR:=I.eG
theorem U9{m:Str->Qb Qc}{h1:Heap}{tk:Nat}(I:Inv X pins σ H s)(S:AF scope xs)(f:bU X cl xs js)(sU:ts.length=nt)(hC:s.heap.objs.size<=C)(hf:∀ b∈fp,jU X pins H b)(hl:∀ b∈fp,b < s.heap.objs.size)
  (hk:∀ b o,s.heap.get? b=some o->h1.get? b=some o) (hn:h1.Ns C m) (ck:CellsOk h1 (C+1) (cellsFrom (C+1) scope.names [])):Inv (gk X scope cl (ts++xs) C s H fp) [] (c0 nt js σ) H {s with heap:=h1,toks:=tk} where
 ok:=HV I S f ck hC hf hl
 os:=rfl
 bare:=I.bare
 base:=Un.kept hk
 loc:=by
  refine⟨m,hn,λi x v e1 e2 e3=>?_⟩;have hi:nt<=i:=by
   rcases Nat.lt_or_ge i nt with z|z
   .rw[CK z]at e2; cases e2
   .exact z
  have Aw:xs[i - nt]?=some x:=by
   have z:(ts++xs)[i]?=some x:=e1;rw[List.getElem?_append_right (by omega),sU]at z;exact z
  have ZT:(js.map λj=>σ.getD j none)[i - nt]?=some (some v):=by
   unfold c0 at e2;rw[List.getElem?_append_right (by simpa using hi),List.length_replicate]at e2;exact e2
  have(j,hN,YJ,Lf,c,hc):=UK f (i - nt) x σ v Aw ZT;have(m0,_,ED):=I.loc;have(u,r,lk):=ED j x v hN YJ (.inr Lf);refine⟨u,r,.inr ⟨?_,?_⟩⟩
  .rcases e3 with z|z|z
   .have hx:x∈xs:=Ð Aw
    have(k0,h1,h2,h3):=Dp (env:=X.env) (names:=scope.names) z;have q:=S.fk x hx;rw[h1]at q;cases q;rcases h3 with h3|h3
    .cases h3
    .cases h3.2
   .exact .inl z
   .exact .inr z
  .have(c',fH):=Jm f x (Ð Aw)
   have no:(cellsFrom (C+1) scope.names []).lookup x=none:=by
    cases e:(cellsFrom (C+1) scope.names []).lookup x with
    | none=>rfl
    | some d=>
     have z:=S.cell _ (CB _ _<|mem_of_lookup e) rfl;rw[S.fk x<|List.mem_of_getElem? Aw]at z;cases z
   refine⟨c',?_,?_⟩
   .show(cellsFrom (C+1) scope.names cl).lookup x=some c'
    rw[l9,List.lookup_append,no,fH];rfl
   have q:=oJ f x c' fH;rcases lk with⟨l1,_⟩|⟨_,Z0,l2,l3⟩
   .exfalso
    have Eb:X.env.scope.names.lookup x=some .local:=l1;rcases Lf with z|z<;>rw[z]at Eb<;>cases Eb
   .rw[q]at l2
    cases l2;exact l3.keeps hk
 cell:=λx c e=>by
  rcases sL e with z|⟨z,_⟩
  .exact⟨_,(ck.empty _ _<|mem_of_lookup z).1⟩
  .have(v,z):=I.cell x c (oJ f x c z)
   exact⟨v,z.keeps hk⟩
 free:=I.aD.fresh hC
 aY:=λx c e=>by
  rcases sL e with z|⟨z,_⟩
  .exact I.aD.fresh (by have:=(ck.empty _ _<|mem_of_lookup z).2; omega)
  .exact I.aY x c (oJ f x c z)
 pin:=λp hp=>by cases hp
 aD:=I.aD.kept hk
 len:=by
  show(c0 nt js σ).length=(ts++xs).length;unfold c0;rw[qr,qr,List.length_replicate,List.length_map,sU];rw[Vf f]
theorem Jl{o:HO}(x:cZ P w K H h)(hn:H a=none)(new:cG P w K (upd H a o) h a o):cZ P w K (upd H a o) h:=λb u e=>by
 by_cases hb:b=a
 .subst hb; rw[zt]at e; cases e; exact new
 .rw[zp hb]at e
  exact(x b u e).de (λ_ _ _ q=>q) (λc q=>(zp<|zV q hn).trans q) λc ys q=>(zp<|zV q hn).trans q
theorem Ja{fs ex:Qa Qg}{H1:Hp}{h1:Heap}{o:HO}(u:Un fs ex H H1 h h1)(hn:H1 a=none)(ha:h.objs.size<=a):Un fs ex H (upd H1 a o) h h1 where
 keep:=u.keep
 slot:=u.slot
 free:=λb ob q n hx=>(zp<|qj<|qi (qh q) ha).trans (u.free b ob q n hx)
 there:=u.there
 c9:=λb ys q=>(zp<|zV (u.c9 b ys q) hn).trans (u.c9 b ys q)
 cT:=λb ob ys q=>(zp<|zV (u.cT b ob ys q) hn).trans (u.cT b ob ys q)
 dF:=λb ps q=>by
  have(more,e):=u.dF b ps q;exact⟨more,(zp<|zV e hn).trans e⟩
def rG(X:Cx)(ifs:Qa Expr)(t:TT):Prop :=
 ∀ (pins:Qa (Qg×Obj)) (s:Qd) (σ:St) (H:Hp) (Q:Bool->Hp->Prop),Inv X pins σ H s->t σ H Q->
  wpAny (model X.prog X.w) X.A (forIn ifs true λc r=>if r=true then do let ok <-isTrue c X.env (eval c X.env); pure (ForInStep.yield ok)else pure (ForInStep.yield r)) (TP X pins σ Q) X.xe s
def Bv:TT:=λ_ H Q=>Q true H
theorem U8{X:Cx}:rG X [] Bv:=λ_ _ _ H _ I h=>wpAny_tests_nil ⟨H,I,h⟩
theorem U7{X:Cx}{c:Expr}{t:TT}(h:PT X c t):rG X [c] t:=λpins s σ H Q I q=>wpAny_tests_one<|h pins s σ H Q I q
theorem Bu{t:Sem α}{Q Q':α->Qd->Prop}{M:Model}{s:Qd}(h:wpAny M A t Q (λ_ _=>False) s)(hQ:∀ a s,Q a s->Q' a s):wpAny M A t Q' E s:=wpAny_mono h hQ λ_ _ x=>x.elim
theorem Xg{R:Result->Qd->Prop}{s:Qd}{elt target iter:Expr}{ifs:Qa Expr}{it acc:Qc}(I:Nat->Qd->Prop)
  (turn:∀ n s,I n s->∀ E,wpAny (model prog w) A (pyNext it) (λr s1=>match r with
   | none=>R (.ok .next) s1
   | some v=>wpAny (model prog w) A (letOwnedTupleGo target it v) (λ_ s2=>wpAny (model prog w) A (assign target env v) (λ_ s3=>
     wpAny (model prog w) A (forIn ifs true λc r=>if r=true then do let ok <-isTrue c env (eval c env); pure (ForInStep.yield ok)else pure (ForInStep.yield r)) (λok s4=>
      (ok=true->wpAny (model prog w) A (eval elt env) (λx s5=>wpAny (model prog w) A (call (.builtin "list.append") [acc,x]) (λ_ s6=>∃ m,m < n/\I m s6) E s5) E s4)/\
      (ok=false->∃ m,m < n/\I m s4)) E s3) E s2) E s1) E s)
  (n:Nat) (h:I n s):codeAny (model prog w) A (.compLoop (.ListComp elt [⟨target,iter,ifs,0⟩] scope pos) 0 it acc env) R s:=by
 refine codeAny_loop rfl I (λn s hI=>?_) n h;show wpAny _ A ((compTurn _ 0 it acc env).onRaise (λx=>do noteFrame x env; theTreesLotGoes x)) _ _ s;refine wpAny_noted ?_;rw[compTurn_list];refine qa<|wpAny_standAt<|qa<|wpAny_mono (turn n s hI _) (λr s1 h1=>?_) λ_ _ z=>z;cases r with
 | none=>exact qb h1
 | some v=>
  refine qa<|wpAny_mono h1 (λ_ s2 h2=>?_) λ_ _ z=>z;refine qa<|wpAny_mono h2 (λ_ s3 h3=>?_) λ_ _ z=>z;refine qa<|wpAny_mono h3 (λok s4 h4=>?_) λ_ _ z=>z;cases ok with
  | false=>exact qb ⟨rfl,h4.2 rfl⟩
  | true=>
   refine qa<|qa<|wpAny_mono (h4.1 rfl) (λx s5 h5=>?_) λ_ _ z=>z;exact qa<|wpAny_mono h5 (λ_ s6 h6=>qb<|qb ⟨rfl,h6⟩) λ_ _ z=>z
def FJ(J:It)(kg:St)(g:TG)(tt:TT)(te:TE)(Z:Qa V->Hp->Prop)(H1:Hp):Prop :=
 ∃ W:Nat->Nat->Qa V->Hp->Prop,(∃ m,W 0 m [] H1)/\∀ i m ys H,W i m ys H->
  (J.stop i H/\Z ys H)\/(J.go i H/\ys.length < sizeLine/\∃ N:Qa V->Hp->Prop,(∀ jy H',N jy H'->∃ m',m' < m/\W (i+1) m' jy H')/\
   ∀ x H',J.uM i H x H'->g x kg H' λfZ H2=>tt fZ H2 λb H3=>if b=true then te fZ H3 λy H4=>N (ys++[y]) H4 else N ys H3)
def GW(kg:St)(g:TG):Prop:=∀ x H (Q:St->Hp->Prop),g x kg H Q->g x kg H λfZ H2=>Wk kg fZ/\Q fZ H2
theorem Xf{elt iter:Expr}{ifs:Qa Expr}{J:It}{tn:Nat->Heap->Prop}{g:TG}{Z:Qa V->Hp->Prop}{RR:Qc->Qg->Result->Qd->Prop}
  (hc:X.calm=true) (I:Inv X pins σ H s) (S:AF scope xs) (f:bU X cl xs js) (sU:ts.length=nt) (T:Turn X.prog X.w X.K tg J fp it tn) (st:tn 0 s.heap) (hf:∀ b∈fp,jU X pins H b)
  (hg:∀ C s H ex,PG (gk X scope cl (ts++xs) C s H ex) tg g) (ht:∀ C s H ex,rG (gk X scope cl (ts++xs) C s H ex) ifs tt) (he:∀ C s H ex,PE (gk X scope cl (ts++xs) C s H ex) elt te)
  (gw:GW (c0 nt js σ) g) (h:FJ J (c0 nt js σ) g tt te Z H)
  (Zt:∀ (D C:Qg) (m:Str->Qb Qc) (s':Qd) (ys:Qa V) (H':Hp),Z ys H'->H' D=none->Inv X pins σ (upd H' D<|.lst ys) s'->s'.heap.Ns C m->upd H' D (.lst ys) C=none->C≠X.env.locals->
   (∀ x c,X.env.cells.lookup x=some c->c≠C)->X.bo.heap.objs.size<=C->(∀ p∈X.pn++pins,p.1≠C)->RR (.ref D) C (.ok .next) s'):
  wpAny (model X.prog X.w) X.A (newList []) (λacc s3=>wpAny (model X.prog X.w) X.A (newFunctionEnv scope X.env.globals cl [] X.env.qual none .none<|some X.env) (λwa s4=>
   codeAny (model X.prog X.w) X.A (.compStart (.ListComp elt [⟨tg,iter,ifs,0⟩] scope pos) 0 (.ref it) acc {wa with scope:=relabel scope X.env}) (RR acc wa.locals) s4) E s3) E s:=by
 refine qy<|Va λh1 vA nM ck=>?_;dsimp only at vA nM ck ⊢;generalize E2:s.heap.push {cls:=.type "list",dict:=none,data:=.seq ([]:Qa Qc).toArray}=G at vA nM ck ⊢;have An:G.objs.size=s.heap.objs.size+1:=by rw[<-E2,Heap.size_push]
 have hC:s.heap.objs.size<=G.objs.size:=by rw[An]; exact å _
 have Lu:s.heap.objs.size≠G.objs.size:=by rw[An]; exact qj<|Nat.lt_succ_self _
 have hl:∀ b∈fp,b < s.heap.objs.size:=λb hb=>by
  have(o,e,_):=T.obj _ _ st b hb;exact qh e
 have old:∀ b o,s.heap.get? b=some o->h1.get? b=some o:=λb o e=>
  nM b o (E2▸qd _ e)
 have Zv:h1.get? s.heap.objs.size=some {cls:=.type "list",data:=.seq ([]:Qa Qc).toArray}:=nM _ _ (E2▸qg _ rfl);have J0:Inv (gk X scope cl (ts++xs) G.objs.size s H fp) [] (c0 nt js σ) H {s with heap:=h1}:=U9 (tk:=s.toks) I S f sU hC hf hl old vA ck;obtain⟨W,⟨m0,w0⟩,turn⟩:=h;have DN:tn 0 h1:=T.keep _ _ _ st λb hb o e=>old b o e;have Zu:H s.heap.objs.size=none:=I.aD.fresh (qe _);have wy:∀ b∈fp,s.heap.objs.size≠b:=λb hb z=>absurd (hl b hb) (by rw[<-z]; exact Í _);have E7:∀ {H':Hp} {pl:Qa (Qg×Obj)},(∀ b∈fp,H' b=none)->(∀ p∈pl,p.1=s.heap.objs.size)->∀ b∈fp,jU (gk X scope cl (ts++xs) G.objs.size s H fp) pl H' b:=λ{H' pl} hn hp b hb=>by
  refine⟨hn b hb,qj<|qi (hl b hb) hC,λz=>?_,.inl hb,λx c e=>((HV I S f ck hC hf hl (ts:=ts)).tu b hb).2 x c e,λp YV z=>?_⟩
  .rcases qu.mp (I.eR b z)with q|q
   .exact(hf b hb).2.1 q
   .exact(hf b hb).2.2.1 q
  .rcases Ò.mp YV with q|q
   .cases q
   .exact wy b hb ((hp p q).symm.trans z)
 have loop:codeAny (model X.prog X.w) X.A (.compLoop (.ListComp elt [⟨tg,iter,ifs,0⟩] scope pos) 0 (.ref it) (.ref s.heap.objs.size)<|compEnvC scope (cellsFrom (G.objs.size+1) scope.names cl) G.objs.size X.env) (RR (.ref s.heap.objs.size) G.objs.size)
   {s with heap:=h1}:=by
  refine Xg (λn s'=>∃ i ys aj nn H',Inv (gk X scope cl (ts++xs) G.objs.size s H fp) [] (c0 nt js σ) H' s'/\tn i s'.heap/\(∀ b∈fp,H' b=none)/\H' s.heap.objs.size=none/\
   s'.heap.get? s.heap.objs.size=some {cls:=.type "list",data:=.seq (List.toArray aj) nn}/\zH ys aj/\ys.length<=sizeLine/\W i n ys H') ?_ m0
   ⟨0,[],[],0,H,J0,DN,λb hb=>(hf b hb).1,Zu,Zv,.nil,Ä _,w0⟩
  rintro n s3 ⟨i,ys,aj,nn,H3,I3,lA,vQ,d3,o3,r3,z3,w3⟩ E';have kI:s.heap.objs.size≠(gk X scope cl (ts++xs) G.objs.size s H fp).env.locals:=Lu;have LY:Inv (gk X scope cl (ts++xs) G.objs.size s H fp) [(s.heap.objs.size,{cls:=.type "list",data:=.seq aj.toArray nn})] (c0 nt js σ) H3 s3:=I3.eH λp hp=>by
   have e:p=(s.heap.objs.size,{cls:=.type "list",data:=.seq aj.toArray nn}):=by simpa using hp
   subst e;refine⟨o3,d3,kI,λz=>?_,λv z=>by cases z⟩;have(_,ob,e,_):=I.stack.mem z;exact absurd (qh e)<|Í _
  have DW:∀ p∈[(s.heap.objs.size,({cls:=.type "list",data:=.seq aj.toArray nn}:Obj))],p.1=s.heap.objs.size:=λp hp=>by
   have e:p=(s.heap.objs.size,{cls:=.type "list",data:=.seq aj.toArray nn}):=by simpa using hp
   rw[e]
  rcases turn i n ys H3 w3 with⟨stop,qz⟩|⟨go,o5,N,hN,step⟩
  .refine aJ (T.done (gk X scope cl (ts++xs) G.objs.size s H fp) rfl rfl rfl hc i _ s3 _ H3 E' LY (E7 vQ DW) lA stop) λr s4 hZ=>?_
   have(hr,I4):=hZ;subst hr;have o4:s4.heap.get? s.heap.objs.size=some {cls:=.type "list",data:=.seq aj.toArray nn}:=(I4.pin _<|qv _ qo).1;have(m4,n4,_):=I4.loc;have Y9:cZ X.prog X.w X.K (upd H3 s.heap.objs.size<|.lst ys) s4.heap:=Jl I4.aD d3 ⟨z3,aj,nn,r3,o4⟩;have Yc:Un (hU X.stack) fp H (upd H3 s.heap.objs.size<|.lst ys) s.heap s4.heap:=Ja I4.base d3 (qe _);refine Zt _ _ m4 s4 ys H3 qz d3 (I.wc I4.os Yc Y9 I4.bare λb hb=>⟨(hf b hb).2.2.2.1,(hf b hb).2.1,(hf b hb).2.2.2.2.1,λp hp=>(hf b hb).2.2.2.2.2 p hp⟩) n4 ?_ ?_ ?_ ?_ ?_
   .rw[zp<|Ne.symm Lu]
    exact I4.free
   .exact λz=>absurd I.lt (by rw[<-z]; exact Nat.not_lt.mpr hC)
   .intro x c e z
    have(v,ob,q,_):=I.cell x c e;exact absurd (qh q) (by rw[z]; exact Nat.not_lt.mpr hC)
   .exact qx I.sz hC
   .intro p hp z
    have q:=(I.pin p hp).1;exact absurd (qh q) (by rw[z]; exact Nat.not_lt.mpr hC)
  .refine aJ (T.item (gk X scope cl (ts++xs) G.objs.size s H fp) rfl rfl rfl hc i _ s3 _ H3 E' LY (E7 vQ DW) lA go) λr s4 hZ=>?_
   have(u,hr,h4):=hZ;subst hr;refine aJ h4 λ_ s5 hZ=>?_;have(x,H5,I5,r5,y5,mD,E6):=hZ;have Fq:=I5.pinned (E7 E6 DW) (T.obj _ _ mD);refine Bu (hg _ _ _ _ _ s5 _ H5 x u _ Fq r5<|gw _ _ _<|step x H5 y5) λ_ s6 hZ=>?_;have(tI,H6,I6,KG,q6):=hZ;refine Bu (ht _ _ _ _ _ s6 tI H6 _ I6 q6) λok s7 hZ=>?_;have(H7,I7,q7):=hZ;have after:∀ {H8:Hp} {s8:Qd},Inv (gk X scope cl (ts++xs) G.objs.size s H fp) ([(s.heap.objs.size,({cls:=.type "list",data:=.seq aj.toArray nn}:Obj))]++ug fp s5.heap) tI H8 s8->
     tn (i+1) s8.heap/\(∀ b∈fp,H8 b=none)/\H8 s.heap.objs.size=none/\s8.heap.get? s.heap.objs.size=some {cls:=.type "list",data:=.seq aj.toArray nn}/\
      Inv (gk X scope cl (ts++xs) G.objs.size s H fp) [] (c0 nt js σ) H8 s8:=λ{H8 s8} I8=>by
    have dd:=I8.pin (s.heap.objs.size,({cls:=.type "list",data:=.seq aj.toArray nn}:Obj)) (qv _<|Ö _ qo);refine⟨T.keep _ _ _ mD λb hb o e=>(I8.pin (b,o)<|qv _<|qv _<|yC hb e).1,λb hb=>?_,dd.2.1,dd.1,?_⟩
    .have(o,e,d):=T.obj _ _ mD b hb
     exact(I8.pin (b,o)<|qv _<|qv _<|yC hb e).2.1
    .exact(I8.weak KG.1 KG.2).eH λp hp=>by cases hp
   refine⟨λaD=>?_,λaD=>?_⟩
   .subst aD
    rw[if_pos rfl]at q7;refine Bu (he _ _ _ _ _ s7 tI H7 _ I7 q7) λv s8 hZ=>?_;have(y,H8,I8,ry,q8):=hZ;have(Yh,ZH,d8,o8,Z6):=after I8;have(m',hm,w8):=hN _ _ q8;refine call_meets F.slot_list_append ⟨_,o8,rfl⟩ F.entry_list_append (F.args_list_append_2 _ _) (PySem.list_append s.heap.objs.size aj.toArray nn v (by rw[List.size_toArray,<-r3.length]; omega)) ⟨o8,?_⟩;have(_,f1,_,f3,f4,_):=(⟨d8,kI,trivial,.inr<|qe _,λx c e=>by
     rcases sL e with z|⟨z,_⟩
     .exact æ (qi (Nat.lt_of_le_of_lt hC<|Nat.lt_succ_self _) (ck.empty _ _<|mem_of_lookup z).2)
     .have(v0,ob,q,_):=I.cell x c (oJ f x c z)
      exact æ (qh q) |>.symm,trivial⟩:H8 s.heap.objs.size=none/\s.heap.objs.size≠(gk X scope cl (ts++xs) G.objs.size s H fp).env.locals/\True/\(s.heap.objs.size∈fp\/s.heap.objs.size<=s.heap.objs.size)/\
      (∀ x c,(cellsFrom (G.objs.size+1) scope.names cl).lookup x=some c->c≠s.heap.objs.size)/\True)
    have q:=PySem.IsL.update o8 (λx=>x.push v);have hp:aj.toArray.push v=(aj++[v]).toArray:=by simp
    rw[hp]at q;refine⟨m',hm,i+1,ys++[y],aj++[v],_,H8,Z6.turned (t':=s8.toks) (it:=s.heap.objs.size) (λb o hb e=>(Æ s8.heap _<|Ne.symm hb).trans e) d8 f1 f3 f4 (λp hp=>by cases hp),?_,ZH,d8,q,r3.append<|.cons ry .nil,?_,w8⟩
    .exact T.keep _ _ _ Yh λb hb o e=>(Æ s8.heap _<|wy b hb).trans e
    .rw[qr,List.length_singleton]
     omega
   .subst aD
    rw[if_neg qf]at q7;have(Yi,ZI,d7,o7,Z7):=after I7;have(m',hm,w7):=hN _ _ q7;exact⟨m',hm,i+1,ys,aj,nn,H7,Z7,Yi,ZI,d7,o7,r3,z3,w7⟩
 exact codeAny_compStart_list loop<|T.self _ _ _ _ _ DN loop
def DI(wi:TI)(nt:Nat)(js:Qa Nat)(g:TG)(tt:TT)(te:TE):TE:=λσ H Q=>wi σ H λJ H1=>
 FJ J (c0 nt js σ) g tt te (λys H2=>∀ D,H2 D=none->Q (.ref D) (upd H2 D<|.lst ys)) H1
end
section
variable{X:Cx}
def t8(_ j:Int):Prop:=0 < j/\j.natAbs.log2 < 9000
theorem I9:bK X (binaryOp .FloorDiv) (rI t8 λi j=>.int<|i / j):=u5 λi j _ _ _ _ _ hc q=>by
 have h1:(0:Int) < j:=hc.1;exact floordiv_int (by omega) (by rw[Int.fdiv_eq_ediv_of_nonneg i (by omega)]; exact q)<|.inl<|PyProof.noPylong_of_log2 hc.2
def rT(_ j:Int):Prop:=j≠0/\j.natAbs.log2 < 9000
theorem I0:bK X (binaryOp .FloorDiv) (rI rT λi j=>.int<|i.fdiv j):=u5 λi j _ _ _ _ _ hc q=>
 floordiv_int hc.1 q (.inl<|PyProof.noPylong_of_log2 hc.2)
theorem JA(hk:0 < k)(h:n < 2^k):n.log2 < k:=by
 by_cases hn:n=0
 .subst hn; exact hk
 .exact(Nat.log2_lt hn).mpr h
theorem SY{i j:Int}(h:0 < j)(h2:j<=2^128):t8 i j:=⟨h,Nat.lt_trans (JA (k:=129) (by decide) (by omega)) (by decide)⟩
def Bt(K:qc):Qa V->Hp->VK->Prop:=λxs H Q=>∃ x t T b,xs=[x,.ty T]/\dn K H x t/\PySem.W.kitOne K t (.type T)=some b/\Q (.bl b) H
theorem U6:fQ X (.builtin "isinstance") (Bt X.K):=by
 intro pins s σ H xs us Q I r h;have(x,t,T,b,rfl,ty,e,q):=h;have(u,u',rfl,rx,rt):=xx r;cases rt;exact Vl I rx ty e λtk=>⟨.bl b,H,I.tok tk,rfl,q⟩
end
theorem SX(h:i < nt):∀ σ:St,GW (c0 nt js σ) (jv i):=λσ x H Q q=>⟨QH<|CK h,q⟩
def SameBut(p:Qg)(H H':Hp):Prop:=∀ b o,b≠p->H b=some o->H' b=some o
theorem lg{p:Qg}(h:H p=none)(o:HO):cK H (upd H p o):=λb u q=>by rw[zp<|zV q h]; exact q
def Bl(mg:Str->Qb Qc)(xs:Qa Str):Prop:=∀ x,x∈xs->mg x=none
theorem Bl.nil:Bl mg []:=λ_ h=>by cases h
theorem Bl.cons{xs:Qa Str}(h:mg x=none)(t:Bl mg xs):Bl mg (x::xs):=λy m=>by
 rcases qu.mp m with e|e
 .rw[e]; exact h
 .exact t y e
def zN:Expr->Bool
 | .Starred _ _=>false
 | _=>true
theorem iW{es:Qa Expr}(h:zN e=true):starEach (e::es) env=(false,eval e env)::starEach es env:=by
 cases e<;>first|rfl|cases h
theorem oI:∀ {es:Qa Expr},es.all zN=true->(backTo pos<|starEach es env).any (·.1)=false
 | [],_=>rfl
 | e::es,h=>by
  rw[List.all_cons,Bool.and_eq_true]at h;rw[iW h.1];show(false || (backTo pos<|starEach es env).any (·.1))=false;rw[Bool.false_or];exact oI h.2
section
variable{X:Cx}{es:Qa Expr}{r:Qa V->Hp->VK->Prop}{id:String}
theorem Me(ha:PE X e te)(hr:PA X es t)(hs:zN e=true:=by rfl):PA X (e::es) (fP te t):=CN ha hr (iW hs)
theorem Ov(hc:fQ X (.builtin id) r)(hg:Gl X x)(hm:X.mg x=none)(hv:bootBuiltins x=some (.builtin id))(ha:PA X (e::es) t)(hn:x ≠ "__name__":=by decide)(cx:(x==("__debug__":Str))=false:=by decide)
  (he:zN e=true:=by rfl) (bZ:es.all zN=true:=by rfl):PE X (.Call (.Name x p) (e::es) [] pos) (lr r t):=UO hc hg hm hv ha hn cx (iW he) (oI bZ)
theorem Ou(hc:fQ X (.type T) r)(hg:Gl X x)(hm:X.mg x=none)(hv:bootBuiltins x=some (.type T))(ha:PA X (e::es) t)(hn:x ≠ "__name__":=by decide)(cx:(x==("__debug__":Str))=false:=by decide)
  (he:zN e=true:=by rfl) (bZ:es.all zN=true:=by rfl):PE X (.Call (.Name x p) (e::es) [] pos) (lr r t):=Vj hc hg hm hv ha hn cx (iW he) (oI bZ)
end
structure Fs (P:Qe) (w:Qh) (K:qc) (mg:Str->Qb Qc) (base:Heap) (x:Str) (k:Nat) (ps:Qa Str) (sp:Sp):Prop where
 ex:∃ (f:Qg) (fd:FuncData),bp P w K mg base gN k f fd ps sp/\jY K fd ps []/\PySem.W.keepIn K (.ref f)=true/\mg x=some (.ref f)
def Br(sp:Sp)(t:TA):TE:=λσ H Q=>t σ H λvs H1=>sp vs H1 Q E0
section
variable{X:Cx}{es:Qa Expr}
theorem QD(C:Fs X.prog X.w X.K X.mg X.base x k ps sp)(hr:aE k X.A)(hg:Gl X x)(ha:PA X (e::es) t)(cx:(x==("__debug__":Str))=false:=by decide)
  (he:zN e=true:=by rfl) (bZ:es.all zN=true:=by rfl):PE X (.Call (.Name x p) (e::es) [] pos) (Br sp t):=by
 have(f,fd,F,hb,hk,hm):=C.ex;intro pins s σ H Q I h;refine Sq (dvs:=[]) (E:=E0) F hr hg hm hk hb .nil Gv ha cx (iW he) (oI bZ) pins s σ H Q I ?_;show t σ H λvs H1=>sp (vs++[]) H1 Q E0;have z:(λ(vs:Qa V) (H1:Hp)=>sp (vs++[]) H1 Q E0)=λvs H1=>sp vs H1 Q E0:=by
  funext vs H1
  rw[List.append_nil]
 rw[z];exact h
end
def B8(t:TS):TS:=λD σ H=>∃ J:St->Hp->Prop,t {D with nx:=J} σ H/\∀ aC H',J aC H'->D.nx aC H'
theorem SW{X:Cx}{t:TS}(h:PS X st t):PS X st (B8 t):=by
 intro pins s σ H D I ⟨J,q,z⟩;refine aJ (h pins s σ H _ I q) λf s' r=>?_;cases f with
 | next=>have(aC,H',I',j):=r; exact⟨aC,H',I',z _ _ j⟩
 | brk=>exact r
 | cont=>exact r
 | ret u=>exact r
theorem U5(x y:Int)(hx:0<=x)(hy:0 < y):Int.gcd y (x % y)=Int.gcd x y:=by
 have(a,rfl):=Int.eq_ofNat_of_zero_le hx;have(b,rfl):=Int.eq_ofNat_of_zero_le (Int.le_of_lt hy);rw[<-Int.natCast_emod];show Nat.gcd b (a % b)=Nat.gcd a b;rw[Nat.gcd_comm a b,Nat.gcd_comm b<|a % b];exact(Nat.gcd_rec b a).symm
theorem SV(x y:Int):Int.gcd (if x < 0 then -x else x) y=Int.gcd x y:=by
 split
 .exact Int.neg_gcd
 .rfl
structure Wr (p:Prop):Prop where
 run:p
theorem t7{xs:Qa Str}(h:Bl mg xs)(m:x∈xs):mg x=none:=h x m
theorem ym{X:Cx}{C:Qg}{s:Qd}{ex:Qa Qg}(h:decide N.Nodup=true):(gk X scope cl N C s H ex).N.Nodup:=of_decide_eq_true h
def rF(X:Cx)(js:Qa Nat):Qa Str:=js.map λj=>X.N.getD j ""
def tQ(X:Cx)(js:Qa Nat):Qa (Str×Qg):=(rF X js).map λx=>(x,(X.env.cells.lookup x).getD 0)
def yU:Expr->Qa Str
 | .Name x _=>[x]
 | .Tuple es _ _=>es.flatMap λe=>match e with
  | .Name x _=>[x]
  | .Tuple fs _ _=>fs.filterMap λe=>match e with
   | .Name x _=>some x
   | _=>none
  | _=>[]
 | _=>[]
def AJ(nt:Nat)(g:TG):Prop:=∀ (js:Qa Nat) (σ eh:St),Wk (c0 nt js σ) eh->∀ x H (Q:St->Hp->Prop),g x eh H Q->g x eh H λfZ H2=>Wk (c0 nt js σ) fZ/\Q fZ H2
def rQ(nt:Nat)(g:iM):Prop:=∀ (js:Qa Nat) (σ eh:St),Wk (c0 nt js σ) eh->∀ x H (Q:St->Hp->Prop),g x eh H Q->g x eh H λfZ H2=>Wk (c0 nt js σ) fZ/\Q fZ H2
theorem U4(h:i < nt):AJ nt (jv i):=by
 intro js σ eh w x H Q q;refine⟨⟨by rw[List.length_set]; exact w.1,λj v e=>?_⟩,q⟩;have ne:i≠j:=by
  rintro rfl;rw[CK h]at e;cases e
 rw[qB ne];exact w.2 j v e
theorem U3:rQ nt wX:=λjs σ eh w x H Q q=>⟨q.1,w,q.2⟩
theorem VN{g:TG}{gs:iM}(h1:AJ nt g)(h2:rQ nt gs)(mono:∀ v σ H (Q Q':St->Hp->Prop),(∀ aC H',Q aC H'->Q' aC H')->g v σ H Q->g v σ H Q'):rQ nt (t9 g gs):=by
 intro js σ eh w x H Q q;have(v,r,e,k):=q;refine⟨v,r,e,mono _ _ _ _ _ (λaC H' hZ=>?_)<|h1 js σ eh w v H _ k⟩;have(w',q'):=hZ;exact h2 js σ aC w' r H' Q q'
theorem SU{gs:iM}(h:rQ nt gs):AJ nt (wW K n gs):=by
 intro js σ eh w x H Q q;have(a,xs,e,s,l,k):=q;exact⟨a,xs,e,s,l,h js σ eh w xs H Q k⟩
theorem Ot{g:TG}(h:AJ nt g):∀ σ:St,GW (c0 nt js σ) g:=λσ x H Q q=>h js σ _ ⟨rfl,λ_ _ e=>e⟩ x H Q q
theorem VM:∀ v σ H (Q Q':St->Hp->Prop),(∀ aC H',Q aC H'->Q' aC H')->jv i v σ H Q->jv i v σ H Q':=λv σ H Q Q' h q=>h _ _ q
theorem VL{gs:iM}(h:i < nt)(h2:rQ nt gs):rQ nt (t9 (jv i) gs):=VN (U4 h) h2 VM
section
variable{X:Cx}{a b c:Expr}{es rest:Qa Expr}{r:Qa V->Hp->VK->Prop}{rd:R2}{id:String}{tA mw:TT}{DM body:Qa Stmt}{ts us:TS}{g:TG}{gs:iM}{wi:TI}
theorem ae(hN:X.N[i]?=some x:=by rfl)(hv:AA X.env.scope x:=by first|exact Or.inl rfl|exact Or.inr (Or.inl rfl) | exact Or.inr<|Or.inr rfl)(hd:(x==("__debug__":Str))=false:=by decide)
  (gL:(x==("__classdict__":Str))=false:=by decide):Wr (PE X (.Name x pos)<|kO i):=⟨pv i hN hv hd gL⟩
theorem zg{n:Int}:Wr (PE X (.Constant (.int n) j pos)<|tC<|.int n):=⟨P5⟩
theorem iR{n:Bool}:Wr (PE X (.Constant (.bool n) j pos)<|tC<|.bl n):=⟨OF⟩
theorem jX:Wr (PE X (.Constant .none j pos)<|tC .aK):=⟨P4⟩
theorem zD{n:Str}:Wr (PE X (.Constant (.str n) j pos)<|tC<|.str n):=⟨P2⟩
theorem ku(hv:bootBuiltins x=some u)(r:zQ v u)(hg:Gl X x:=by exact rfl)(hm:X.mg x=none:=by exact t7 ‹Bl _ _› (by decide))(hn:x ≠ "__name__":=by decide)(hd:(x==("__debug__":Str))=false:=by decide):Wr (PE X (.Name x pos)<|tC v):=⟨TC hg hm hv r hn hd⟩
theorem zJ{op:Operator}(ho:bK X (binaryOp op) rd)(ha:Wr (PE X a ta))(hb:Wr (PE X b tb)):Wr (PE X (.BinOp a op b pos)<|mq rd ta tb):=⟨OC ho ha.run hb.run⟩
theorem lU{op:UnaryOp}{r:V->Hp->VK->Prop}(ho:AD X (unaryOp op) r)(ha:Wr (PE X a ta)):Wr (PE X (.UnaryOp op a pos)<|yV r ta):=⟨OB ho ha.run⟩
theorem w_not(ha:Wr (PE X a ta)):Wr (PE X (.UnaryOp .Not a pos)<|B9 ta):=⟨PR ha.run⟩
theorem nj(ho:bK X (compareOp op) rd)(ha:Wr (PE X a ta))(hb:Wr (PE X b tb))(hm:behindInMarks op b=false:=by first|exact G0 _|rfl):Wr (PE X (.Compare a [op] [b] pos)<|mq rd ta tb):=⟨Sv ho ha.run hb.run hm⟩
theorem zv(ho:bK X (compareOp op) rd)(ha:Wr (PE X a ta))(hb:Wr (PE X b tb))(hm:behindInMarks op b=false:=by first|exact G0 _|rfl):Wr (PT X (.Compare a [op] [b] pos)<|pO<|mq rd ta tb):=⟨Su ho ha.run hb.run hm⟩
theorem SR{KL:R2}{tc:TE}(ho:bK X (compareOp op) rd)(dZ:bK X (compareOp fV) KL)(ha:Wr (PE X a ta))(hb:Wr (PE X b tb))(hc:Wr (PE X c tc))(hm:lastMarks [op,fV] [b,c]=false:=by rfl):
  Wr (PE X (.Compare a [op,fV] [b,c] pos)<|uf rd KL ta tb tc):=⟨UR ho dZ ha.run hb.run hc.run hm⟩
theorem xw{op}(h:Wr (PE X a te)):Wr (PE X (.BoolOp op [a] pos) te):=⟨PX h.run⟩
theorem t6(ha:Wr (PE X a ta))(hb:Wr (PE X (.BoolOp .And (b::rest) pos) tb)):Wr (PE X (.BoolOp .And (a::b::rest) pos)<|Ca ta tb):=⟨PV ha.run hb.run⟩
theorem CQ(ha:Wr (PT X a tA)):Wr (PW X (.BoolOp .And [a] pos) tA):=⟨TB ha.run⟩
theorem jZ(ha:Wr (PT X a tA)):Wr (PW X (.BoolOp .Or [a] pos) tA):=⟨P0 ha.run⟩
theorem CA(ha:Wr (PT X a tA))(hb:Wr (PW X (.BoolOp .And (b::rest) pos) mw)):Wr (PW X (.BoolOp .And (a::b::rest) pos)<|Bf tA mw):=⟨PZ ha.run hb.run⟩
theorem gF(ha:Wr (PT X a tA))(hb:Wr (PW X (.BoolOp .Or (b::rest) pos) mw)):Wr (PW X (.BoolOp .Or (a::b::rest) pos)<|DH tA mw):=⟨OE ha.run hb.run⟩
theorem iD(h:Wr (PW X e tA)):Wr (PT X e tA):=⟨h.run.pt⟩
theorem gK(ha:Wr (PT X a tA)):Wr (PT X (.UnaryOp .Not a pos)<|Be tA):=⟨PY ha.run⟩
theorem gJ(h:Wr (PE X e te))(he:∀ whole,isTrue e X.env whole=(do let v <-whole; standAt e.pos; holding [v] (truthy v)):=by intro _; rfl):Wr (PT X e<|tB te):=⟨P1 h.run he⟩
def FI(K:qc)(ta:TE):TT:=λσ H Q=>ta σ H λx H'=>∃ k,Bk K x H' k/\Q k H'
theorem Gs(hc:Wr (PT X c tA))(ha:Wr (PE X a ta))(hb:Wr (PE X b tb)):Wr (PE X (.IfExp c a b pos)<|DJ tA ta tb):=⟨UX hc.run ha.run hb.run⟩
theorem zd:Wr (PA X [] jo):=⟨Ct⟩
theorem aa(ha:Wr (PE X e te))(hr:Wr (PA X es t))(hs:zN e=true:=by rfl):Wr (PA X (e::es)<|fP te t):=⟨Me ha.run hr.run hs⟩
theorem zK{x1}(h:Wr (PA X es t)):Wr (PE X (.Tuple es x1 pos)<|wQ t):=⟨Qs h.run⟩
theorem iH(h:Wr (PA X es t)):Wr (PE X (.List es pos)<|wO t):=⟨Qr h.run⟩
theorem b8(hc:fQ X (.builtin id) r)(hv:bootBuiltins x=some (.builtin id))(ha:Wr (PA X (e::es) t))(hg:Gl X x:=by exact rfl)(hm:X.mg x=none:=by exact t7 ‹Bl _ _› (by decide))(hn:x ≠ "__name__":=by decide)(cx:(x==("__debug__":Str))=false:=by decide)
  (he:zN e=true:=by rfl) (bZ:es.all zN=true:=by rfl):Wr (PE X (.Call (.Name x p) (e::es) [] pos)<|lr r t):=⟨Ov hc hg hm hv ha.run hn cx he bZ⟩
theorem lT(hc:fQ X (.type T) r)(hv:bootBuiltins x=some (.type T))(ha:Wr (PA X (e::es) t))(hg:Gl X x:=by exact rfl)(hm:X.mg x=none:=by exact t7 ‹Bl _ _› (by decide))(hn:x ≠ "__name__":=by decide)(cx:(x==("__debug__":Str))=false:=by decide)
  (he:zN e=true:=by rfl) (bZ:es.all zN=true:=by rfl):Wr (PE X (.Call (.Name x p) (e::es) [] pos)<|lr r t):=⟨Ou hc hg hm hv ha.run hn cx he bZ⟩
theorem zF(ha:Wr (PA X (e::es) t))(C:Fs X.prog X.w X.K X.mg X.base x k ps sp:=by assumption)(hr:aE k X.A:=by exact aE.mono ‹aE _ _› (by decide))(hg:Gl X x:=by exact rfl)(cx:(x==("__debug__":Str))=false:=by decide)
  (he:zN e=true:=by rfl) (bZ:es.all zN=true:=by rfl):Wr (PE X (.Call (.Name x p) (e::es) [] pos)<|Br sp t):=⟨QD C hr hg ha.run cx he bZ⟩
theorem zw(hr:rC X rd)(ha:Wr (PE X a ta))(hb:Wr (PE X b tb))(hs:HX b:=by exact λ_ _=>rfl):Wr (PE X (.Subscript a b pos)<|mq rd ta tb):=⟨Oz hr ha.run hb.run hs⟩
theorem sI:Wr (PO X none CM):=⟨Sm⟩
theorem sF(h:Wr (PE X e te)):Wr (PO X (some e)<|BW te):=⟨Sl h.run⟩
theorem sE{r:V->Qb Int->Qb Int->Hp->VK->Prop}{lo hi:Qb Expr}{tl th:TO}{p2:Pos}(hr:tE X r)(he:Wr (PE X e te))(hl:Wr (PO X lo tl))(hu:Wr (PO X hi th)):Wr (PE X (.Subscript e (.Slice lo hi none p2) pos)<|DG r te tl th):=⟨UM hr he.run hl.run hu.run⟩
theorem yw{ta:TA}(ha:Wr (PA X [a] ta))(hg:Gl X "range":=by exact rfl)(hm:X.mg "range"=none:=by exact t7 ‹Bl _ _› (by decide))(hs:zN a=true:=by rfl):Wr (PI X tg (.Call (.Name "range" p) [a] [] pos)<|BZ ta):=⟨Vp hg hm ha.run<|iW hs⟩
theorem zR(hN:X.N.Nodup:=by first|assumption|exact ym rfl)(hi:X.N[i]?=some x:=by rfl)(hx:Loc X.env.scope x:=by first|exact Or.inl rfl|exact Or.inr rfl)(hf:X.fn x=true\/X.env.scope.names.lookup x=some .local:=by first|exact .inl rfl|exact .inr rfl|assumption):Wr (PG X (.Name x pos)<|jv i):=⟨Sz hN hi hx hf⟩
theorem so:Wr (pE X [] wX):=⟨Sy⟩
theorem jz(h1:Wr (PG X e g))(h2:Wr (pE X es gs))(hs:(assignEach (e::es) X.env).map (·.2)=assign e X.env::(assignEach es X.env).map (·.2):=by rfl):Wr (pE X (e::es)<|t9 g gs):=⟨UU h1.run h2.run hs⟩
theorem Cz{ti:TE}{uS:wY}(ho:Wr (PE X o ta))(hi:Wr (PE X e ti))(hs:Ba X uS)
  (hh:∀ v,assign (.Subscript o e pos) X.env v=(do
   let ov <-holding [v] (eval o X.env)
   let iv <-holding [v,ov] (eval e X.env)
   standAt pos
   holding [v,ov,iv] (setItem ov iv v)
   release [v,ov,iv] []):=by intro _; rfl):Wr (PG X (.Subscript o e pos)<|A9 ta ti uS):=⟨QB ho.run hi.run hs hh⟩
theorem QC:Wr (rG X [] Bv):=⟨U8⟩
theorem G8(h:Wr (PT X c tA)):Wr (rG X [c] tA):=⟨U7 h.run⟩
def FG(K:qc):Qa V->Hp->VK->Prop:=λxs H Q=>∃ p ys,xs=[.ref p]/\(bE K H p ys\/cy K H p ys)/\Q (.int ys.length) H
def HU(K:qc):Qa V->Hp->VK->Prop:=λxs H Q=>∃ p ys,xs=[.ref p]/\(bE K H p ys\/cy K H p ys)/\∀ l,H l=none->Q (.ref l) (upd H l<|.lst ys)
def IZ(K:qc):Qa V->Hp->VK->Prop:=λxs H Q=>∃ p ys,xs=[.ref p]/\((bE K H p ys/\∀ l,H l=none->Q (.ref l) (upd H l<|.tup ys))\/(cy K H p ys/\Q (.ref p) H))
theorem kW(hK:X.K=K:=by rfl):fQ X (.builtin "isinstance") (Bt K):=hK▸U6
theorem gf(hK:X.K=K:=by rfl):fQ X (.builtin "len") (FG K):=hK▸XO
theorem U2(hK:X.K=K:=by rfl):fQ X (.type "list") (HU K):=hK▸XJ
theorem yr(hK:X.K=K:=by rfl):fQ X (.type "tuple") (IZ K):=hK▸X0
theorem dW(hK:X.K=K:=by rfl):rC X (Bj K):=hK▸Sk
theorem zz(hK:X.K=K:=by rfl):rC X (Bi K):=hK▸Qm
theorem Bq(hK:X.K=K:=by rfl):bK X (compareOp .In) (u4 K false):=hK▸Vi
theorem HS(hK:X.K=K:=by rfl):bK X (compareOp .NotIn) (u4 K true):=hK▸XQ
theorem xu(hK:X.K=K:=by rfl):tE X (Bh K):=hK▸Sj
theorem yk{l:Expr}{tl:TE}(hl:Wr (PE X l tl))(hK:X.K=K:=by rfl):Wr (PI X tg l<|B0 K tl):=hK▸⟨Sx hl.run⟩
theorem G7{l:Expr}{tl:TE}(hl:Wr (PE X l tl))(hK:X.K=K:=by rfl):Wr (PI X tg l<|Bo K tl):=hK▸⟨Qw hl.run⟩
theorem si(h:Wr (pE X es gs))(hK:X.K=K:=by rfl)(hc:X.calm=true:=by rfl)(hn:(assignEach es X.env).length=n:=by rfl)(i7:(assignEach es X.env).findIdx? (·.1)=none:=by rfl):Wr (PG X (.Tuple es k pos)<|wW K n gs):=hK▸⟨PN hc h.run hn i7⟩
theorem Oq(ha:Wr (PE X a ta))(hK:X.K=K:=by rfl)(he:∀ whole,isTrue a X.env whole=(do let v <-whole; standAt a.pos; holding [v] (truthy v)):=by intro _; rfl):Wr (PT X a<|FI K ta):=hK▸⟨UP ha.run he⟩
theorem zL:Wr (cW X [] B4):=⟨SD⟩
theorem aG(h1:Wr (PS X st ts))(h2:Wr (cW X DM us)):Wr (cW X (st::DM)<|Bc ts us):=⟨UW h1.run h2.run⟩
theorem zC(h1:Wr (PS X st ts)):Wr (cW X [st] ts):=⟨CO h1.run⟩
theorem Xe:Wr (PS X (.Continue pos) B3):=⟨Xi⟩
theorem fO(he:Wr (PE X e te))(hs:swapsWith e none pos.line X.env=pure false:=by rfl):Wr (PS X (.Expr e pos)<|B2 te):=⟨SA he.run hs⟩
theorem zU(he:Wr (PE X e te)):Wr (PS X (.Return (some e) pos)<|wZ te):=⟨PQ he.run⟩
theorem bY{sa sb:Qa Stmt}(hc:Wr (PT X c tA))(ha:Wr (cW X sa ts))(hb:Wr (cW X sb us)):Wr (PS X (.If c sa sb pos)<|Bb tA ts us):=⟨OD hc.run ha.run hb.run⟩
theorem pZ(h:Wr (PS X st ts)):Wr (PS X st<|B8 ts):=⟨SW h.run⟩
theorem HR(hc:Wr (PT X c tA))(hb:Wr (cW X body ts))(hp:PassesOwn (model X.prog X.w) X.A X.env X.xe:=by first|exact PassesOwn.never|exact PassesOwn.leaving):Wr (PS X (.While c body [] pos)<|Cv tA ts):=⟨UT hp hc.run hb.run⟩
theorem l0{iter:Expr}(hi:Wr (PI X tg iter wi))(hg:Wr (PG X tg g))(hb:Wr (cW X body ts))(hp:PassesOwn (model X.prog X.w) X.A X.env X.xe:=by first|exact PassesOwn.never|exact PassesOwn.leaving)(hc:X.calm=true:=by rfl)(hs:∀ x,foldedSetIterable iter X.env x=pure x:=by intro _; rfl):
  Wr (PS X (.For tg iter body [] pos)<|wV wi g ts):=⟨Qv hp hc hi.run hg.run hb.run hs⟩
theorem zA(he:Wr (PE X e te))(hN:X.N.Nodup:=by first|assumption|exact ym rfl)(hi:X.N[i]?=some x:=by rfl)(hx:Loc X.env.scope x:=by first|exact Or.inl rfl|exact Or.inr rfl)(hs:swapsWith e (some<|.Name x pos') pos.line X.env=pure false:=by rfl)(hf:X.fn x=true\/X.env.scope.names.lookup x=some .local:=by first|exact .inl rfl|exact .inr rfl|assumption):
  Wr (PS X (.Assign [.Name x pos'] e pos)<|lV te<|jv i):=⟨Qy hN hi hx he.run hs hf⟩
theorem pN(he:Wr (PE X e te))(hg:Wr (PG X tg g))(hs:swapsWithSole [tg] e pos.line X.env=pure false:=by rfl)(hw:swappedStores [tg] e X.env=pure none:=by rfl)(h1:(assignEach [tg] X.env).map (·.2)=[assign tg X.env]:=by rfl):
  Wr (PS X (.Assign [tg] e pos)<|lV te g):=⟨Qz he.run hg.run hs hw h1⟩
theorem Oo{ta:TA}{px py pt:Pos}{kt k2 qK}(ha:Wr (PA X [a,b] ta))(hc:X.calm=true:=by rfl)(hN:X.N.Nodup:=by first|assumption|exact ym rfl)(hi:X.N[i]?=some x:=by rfl)(hj:X.N[j]?=some y:=by rfl)(d0:i≠j:=by decide)
  (hx:X.env.scope.names.lookup x=some .local:=by rfl) (hy:X.env.scope.names.lookup y=some .local:=by rfl)
  (hw:swappedStores [.Tuple [.Name x px,.Name y py] kt pt] (.Tuple [a,b] k2 qK) X.env=pure (some [x,y]):=by rfl)
  (hs:swapsWithSole [.Tuple [.Name x px,.Name y py] kt pt] (.Tuple [a,b] k2 qK) pos.line X.env=pure false:=by rfl):
  Wr (PS X (.Assign [.Tuple [.Name x px,.Name y py] kt pt] (.Tuple [a,b] k2 qK) pos)<|Bp i j ta):=⟨Qx hc hN hi hj d0 hx hy ha.run hw hs⟩
end
theorem jh.Ys{f:Qg}(F:jh K x qual st f fd)(S:aQ N ps (zo st))(len:∀ vs H Q E,sp vs H Q E->vs.length=ps.length)
  (aX:∀ (aO:Qc) (A:Qf) (outer:Qa Env) (s:Qd) (H:Hp) (vs:Qa V) (Q:VK) (E:XK),aE k (A.deeper<|envOfC qual (zo st) s.heap.objs.size f aO)->sp vs H Q E->
   ∃ t,Wr (cW (iE gN P w K mg base N qual (zo st) f aO A outer s H E).qO (fE st) t)/\t {nx:=λ_ H'=>Q .aK H',rt:=Q} (ft N vs) H):bp P w K mg base gN (k+1) f fd ps sp :=
 F.ok S len λaO A outer s H vs Q E hr h=>let ⟨t,w,q⟩:=aX aO A outer s H vs Q E hr h; ⟨t,w.run,q⟩
mutual
inductive DV (K:qc) (H:Hp):V->PyData->Prop
 | aK:DV K H .aK .none
 | bl (b:Bool):DV K H (.bl b) (.bool b)
 | int (i:Int):DV K H (.int i) (.int i)
 | str (x:Str):DV K H (.str x) (.str x)
 | lst {a:Qg} {xs:Qa V} {ds:Qa PyData} (h:bE K H a xs) (t:gM K H xs ds):DV K H (.ref a) (.list ds)
 | tup {a:Qg} {xs:Qa V} {ds:Qa PyData} (h:cy K H a xs) (t:gM K H xs ds):DV K H (.ref a) (.tuple ds)
inductive gM (K:qc) (H:Hp):Qa V->Qa PyData->Prop
 | nil:gM K H [] []
 | cons {v:V} {d:PyData} {vs:Qa V} {ds:Qa PyData} (h:DV K H v d) (t:gM K H vs ds):gM K H (v::vs) (d::ds)
end
theorem cK.DQ{xs:Qa V}(e:cK H H')(h:cy K H a xs):cy K H' a xs:=by
 rcases h with (h|⟨o,h⟩) | h
 .exact .inl (.inl<|e _ _ h)
 .exact .inl (.inr ⟨o,e _ _ h⟩)
 .exact .inr h
mutual
theorem DV.same(e:cK H H'):∀ {v:V} {d:PyData},DV K H v d->DV K H' v d
 | _,_,.aK=>.aK
 | _,_,.bl b=>.bl b
 | _,_,.int i=>.int i
 | _,_,.str x=>.str x
 | _,_,.lst h t=>.lst (e.seq h)<|gM.same e t
 | _,_,.tup h t=>.tup (e.DQ h)<|gM.same e t
theorem gM.same(e:cK H H'):∀ {v:Qa V} {d:Qa PyData},gM K H v d->gM K H' v d
 | _,_,.nil=>.nil
 | _,_,.cons h t=>.cons (DV.same e h)<|gM.same e t
end
section
variable{X:Cx}{s:Qd}
mutual
theorem DV.reads(I:Inv X pins σ H s):∀ {v:V} {d:PyData} {u:Qc},DV X.K H v d->zQ v u->∃ as,Reads s.heap u d as
 | _,_,_,.aK,r=>by cases r; exact⟨_,.none⟩
 | _,_,_,.bl b,r=>by cases r; exact⟨_,.bool b⟩
 | _,_,_,.int i,r=>by have(t,rfl):=r; exact⟨_,.int i t⟩
 | _,_,_,.str x,r=>by have(t,rfl):=r; exact⟨_,.str x t⟩
 | _,_,_,.lst h t,r=>by
  cases r;obtain⟨aj,rv,⟨o,n,e1,e2,e3,e4⟩,hz⟩:=I.list h;have(as,q):=gM.reads I t rv;exact⟨_,.list e1 e2 e4 q⟩
 | _,_,_,.tup h t,r=>by
  cases r;obtain⟨aj,rv,⟨o,e1,e2,n,e4⟩,hz⟩:=I.tuple h;have(as,q):=gM.reads I t rv;exact⟨_,.tuple e1 e2 e4 q⟩
theorem gM.reads(I:Inv X pins σ H s):∀ {v:Qa V} {d:Qa PyData} {u:Qa Qc},gM X.K H v d->zH v u->∃ as,ReadsAll s.heap u d as
 | _,_,_,.nil,r=>by cases r; exact⟨_,.nil⟩
 | _,_,_,.cons h t,r=>by
  cases r with
  | cons r1 r2=>
   have(a1,q1):=DV.reads I h r1;have(a2,q2):=gM.reads I t r2;exact⟨_,.cons q1 q2⟩
end
end
section
variable{X:Cx}{a b c:Expr}{es rest:Qa Expr}{r:Qa V->Hp->VK->Prop}{rd:R2}{id:String}{tA mw:TT}{DM body:Qa Stmt}{ts us:TS}{g:TG}{gs:iM}{wi:TI}
theorem B7{py uW:Pos}{elt iter:Expr}{ifs:Qa Expr}(hi:Wr (PI X tg iter wi))(hg:∀ {C s H ex},Wr<|PG (gk X scope (tQ X js) (yU tg++rF X js) C s H ex) tg g)(ht:∀ {C s H ex},Wr<|rG (gk X scope (tQ X js) (yU tg++rF X js) C s H ex) ifs tt)
  (he:∀ {C s H ex},Wr<|PE (gk X scope (tQ X js) (yU tg++rF X js) C s H ex) elt te)
  (hN:X.N.Nodup:=by first|assumption|exact ym rfl) (hG:X.N[i]?=some y:=by rfl) (hy:Loc X.env.scope y:=by first|exact Or.inl rfl|exact Or.inr rfl)
  (f:bU X (tQ X js) (rF X js) js:=by repeat (first|exact bU.nil|refine bU.cons rfl (by first|exact Or.inl rfl|exact Or.inr rfl) rfl ?_)) (vI:closureFor scope X.env=pure (tQ X js):=by rfl) (S:AF scope (rF X js):=by exact⟨rfl,of_decide_eq_true rfl,of_decide_eq_true rfl,of_decide_eq_true rfl,of_decide_eq_true rfl⟩) (sU:(yU tg).length=nt:=by rfl) (hc:X.calm=true:=by rfl) (gw:∀ σ:St,GW (c0 nt js σ) g:=by first|exact SX (by decide) | exact Ot<|SU (by repeat (first|exact U3|refine VL (by decide) ?_))) (hs:∀ x,foldedSetIterable iter X.env x=pure x:=by intro _; rfl)
  (YS:swapsWith (.ListComp elt [⟨tg,iter,ifs,0⟩] scope pos) (some<|.Name y py) uW.line X.env=pure true:=by rfl)
  (hf:X.fn y=true\/X.env.scope.names.lookup y=some .local:=by first|exact .inl rfl|exact .inr rfl|assumption):
  Wr (PS X (.Assign [.Name y py] (.ListComp elt [⟨tg,iter,ifs,0⟩] scope pos) uW)<|lV (DI wi nt js g tt te)<|jv i):=by
 refine⟨?_⟩;intro pins s σ H D I h;rw[exec_Assign_Name_used _ _ _ _ YS];refine qa<|wpAny_standAt<|qa ?_;show wpAny _ X.A (do let _ <-comprehension (.ListComp elt [⟨tg,iter,ifs,0⟩] scope pos) scope X.env _ (newList []) false (eval iter X.env) (some<|assign (.Name y py) X.env)) _ _ s;refine qa<|wpAny_mono (wpAny_comprehension_free (use:=some (assign (.Name y py) X.env)) (Q:=λ_ s'=>SP X pins D .next s') rfl hs vI S.kind S.names
  (aJ (hi.run pins s σ H _ I h) λv s1 h1=>aJ h1 λEh s2 h2=>?_)) (λ_ s' hq=>qb<|qb hq) λ_ _ e=>e
 have(it,fp,tn,J,H2,e,I2,T,bz,f2,q):=h2;subst e;refine Xf (RR:=λacc C=>compPost (model X.prog X.w) X.A X.xe (some<|assign (.Name y py) X.env) (λ_ s'=>SP X pins D .next s') acc C) hc I2 S f sU T bz f2 (λC s H ex=>hg.run) (λC s H ex=>ht.run) (λC s H ex=>he.run) (gw σ) q ?_;intro D' C m s' ys H' z hD I' hn Zx Lw Lv An Zw;show wpAny _ _ (assign (.Name y py) X.env<|.ref D') _ _ _;refine wpAny_assign_Name<|Jt (v:=.ref D') I' hN hG hy rfl (λyY Z8 hZ=>?_) hf;have(a,sb,ha):=hZ;have ne:C≠a:=by
  rcases ha with rfl|ha
  .exact Lw
  .exact(Lv _ _ ha).symm
 exact⟨m,hn.sameBut sb ne,λh' dJ=>⟨_,_,Z8.turned (it:=C) (λb o hb e=>dJ.extBut b o hb e) Zx Lw (.inr An) Lv Zw,z D' hD⟩⟩
theorem fq{r:V->Qa V->Hp->VK->Prop}(K:qc)(hK:X.K=K)(pa:PlainAttrs T)(slot:Slot T name id)(nL:typeOf (.builtin id)=pure (.type "method_descriptor"))(hm:wj X id r)(ho:Wr (PE X o te))(ha:Wr (PA X (e::es) t))
  (eX:attributeBase o name X.env (eval o X.env)=eval o X.env:=by rfl)
  (q9:((backTo bt<|starEach (e::es) X.env).all (λx=>!x.1) && (backToKw bt<|keywordEach [] X.env).all (λx=>x.1.isSome)
   && decide ((e::es).length+([]:Qa Keyword).length+(if([]:Qa Keyword).isEmpty then 0 else 1) < 30))=true:=by rfl)
  (eW:(apos.endLine==bt.line)=true:=by rfl) (hs:zN e=true:=by rfl) (bZ:es.all zN=true:=by rfl):
  Wr (PE X (.Call (.Attribute o name apos) (e::es) [] bt)<|yW K T r te t):=hK▸⟨Oy pa slot nL hm ho.run ha.run eX q9 eW (iW hs)<|oI bZ⟩
theorem Om{r:V->Qa V->Hp->VK->Prop}(K:qc)(hK:X.K=K)(pa:PlainAttrs T)(slot:Slot T name id)(nL:typeOf (.builtin id)=pure (.type "method_descriptor"))(hm:wj X id r)(ho:Wr (PE X o te))
  (eX:attributeBase o name X.env (eval o X.env)=eval o X.env:=by rfl) (eW:(apos.endLine==bt.line)=true:=by rfl):
  Wr (PE X (.Call (.Attribute o name apos) [] [] bt)<|Bg K T r te):=hK▸⟨Qk pa slot nL hm ho.run eX eW⟩
theorem Cy(hg:Gl X x)(hm:X.mg x=some u)(r:zQ v u)(hd:(x==("__debug__":Str))=false:=by decide):Wr (PE X (.Name x pos)<|tC v):=⟨Ic hg hm r hd⟩
theorem HQ:∀ {ys:Qa Str} {us:Qa Qc},zH (ys.map V.str) us->StrsAre us ys
 | [],_,r=>by cases r; exact .nil
 | y::ys,_,r=>by
  cases r with
  | cons r1 r2=>
   have(t,rfl):=r1;exact .cons y t<|HQ r2
def Gr(K:qc):V->Qa V->Hp->VK->Prop:=λx vs H Q=>∃ sep a ys,x=.str sep/\vs=[.ref a]/\bE K H a (ys.map V.str)/\(ys.map (·.length)).sum+ys.length * sep.length<=16777216/\Q (.str<|Txt.join sep ys) H
theorem Ip(K:qc)(hK:X.K=K:=by rfl):wj X "str.join" (Gr K):=by
 intro pins s σ H x vs v us Q I rx rv h;have(sep,a,ys,rfl,rfl,hS,hz,q):=h;have(t,rfl):=rx;have(u,rfl,ru):=rv.one;cases ru;subst hK;have(aj,r,pl,_):=I.list hS;exact join_list pl.isList (by simpa using HQ r) hz λt' k=>⟨.str _,H,I.tok _,⟨_,rfl⟩,q⟩
def rP(x:Str)(n:Int):Str:=if n < 1 then Str.empty else if(n==1 || x.length==0)=true then x else⟨(List.replicate n.toNat x.cps).foldl (·++·) #[]⟩
theorem Xd:bK X (binaryOp .Mult) (λx y H Q=>∃ z n,x=.str z/\y=.int n/\0<=n/\n<=1/\Q (.str<|rP z n) H):=by
 intro pins s σ H x y v u Q I rx ry h;have(z,n,rfl,rfl,h0,h1,q):=h;have(t,rfl):=rx;have(t',rfl):=ry;rcases(by omega:n=0\/n=1)with rfl|rfl
 .exact PySem.P.mul_str_none (by decide) (by decide) ⟨.str _,H,I.tok _,⟨_,rfl⟩,q⟩
 .refine PySem.P.mul_str (by decide) (λ_ z=>by simp at z) (λ_ z=>by simp at z) ?_
  rw[if_neg (by decide),if_pos (by rfl)];exact⟨.str _,H,I,⟨_,rfl⟩,q⟩
end
structure Kp (H H':Hp):Prop where
 tup:∀ b xs,H b=some (.tup xs)->H' b=some (.tup xs)
 bu:∀ b o u,H b=some (.bu o u)->H' b=some (.bu o u)
 own:∀ b x,H b=some (.own x)->H' b=some (.own x)
theorem Kp.refl(H:Hp):Kp H H:=⟨λ_ _ h=>h,λ_ _ _ h=>h,λ_ _ h=>h⟩
theorem Kp.trans{H1 H2:Hp}(a:Kp H H1)(b:Kp H1 H2):Kp H H2:=⟨λx y h=>b.tup x y<|a.tup x y h,λx y z h=>b.bu x y z<|a.bu x y z h,λx y h=>b.own x y<|a.own x y h⟩
theorem cK.kp(s:cK H H'):Kp H H':=⟨λ_ _ h=>s _ _ h,λ_ _ _ h=>s _ _ h,λ_ _ h=>s _ _ h⟩
end L2
namespace HT
open PySem PyProof.Rows
open PySem.SeqAt
open PySem.MeetsSeq PySem.MeetsSeq2 PySem.MeetsSeq3
section
variable{prog:Program} {w:World} {A:Around} {E:Value->Shared->Prop} {s:Shared}
theorem di{t sl:Addr}{items:Array Value}{vl vu:Value}{lo hi:Option Int}{Q:Value->Shared->Prop}(ht:IsTup s.heap t items)(hs:s.heap.IsSliceOf sl vl vu .none)(pl:IsPart vl lo)(pu:IsPart vu hi)
  (hw:aS items.size 0 lo=0/\aS items.size items.size hi=items.size) (h:Q (.ref t) s):wpAny (model prog w) A (getItem (.ref t)<|.ref sl) Q E s:=by
 have(os,qX,Am,vE):=id hs;have EW:s.TypeIs (.ref sl) "slice":=⟨os,qX,Am⟩;unfold getItem
 try with_reducible refine wpAny_holding ?_
 first|refine wpAny_bind (wpAny_pure ?_) | skip
 refine wpAny_bind<|wpAny_sequenceKey ht.typeIs (by decide) ?_;refine wpAny_bind (wpAny_callSpecial?_slot (name:=Str.ofString "__getitem__") ht.typeIs PyProof.Rows.slot_tuple_getitem
  (wpAny_call_entry PyProof.Rows.slot_tuple_getitem ht.typeIs entry_tuple_getitem ?_<|args_tuple_getitem _ _))
 show wpAny _ _ (Builtin.Tuple.tupleItemsOf (.ref t) >>= _) _ _ s;refine wpAny_bind<|tupleItemsOf_ ht ?_;refine wpAny_bind<|wpAny_typeOf EW ?_;rw[if_pos (by decide)];refine wpAny_bind<|Km hs pl pu ?_;have Ep:(((aS items.size 0 lo:Nat):Int)==0 && (1:Int)==1 && (aS items.size items.size hi - aS items.size 0 lo)==items.size)=true:=by
  rw[hw.1,hw.2];simp
 show wpAny _ _ (if(((aS items.size 0 lo:Nat):Int)==0 && (1:Int)==1 && (aS items.size items.size hi - aS items.size 0 lo)==items.size)=true then _ else _) _ _ s;rw[if_pos Ep];refine wpAny_bind (m:=Builtin.Tuple.tupleIsExact _)<|wpAny_bind<|wpAny_typeOf ht.typeIs<|wpAny_pure ?_;rw[if_pos (by decide)];exact wpAny_bind<|wpAny_rule<|wpAny_pure ⟨_,rfl,wpAny_pure h⟩
end
end HT
namespace L2
open PySem PySem.Spec PyProof.Rows
section
variable{X:Cx}
end
section
variable{X:Cx}
end
section
variable{X:Cx}
end
section
variable{X:Cx}
end
section
variable{R:Result->Qd->Prop}{fp wr:Qa Qg}{P:Nat->Qc->Prop}{St:Nat->Heap->Prop}
end
section
variable{s:Qd}
end
section
variable{X:Cx}
end
section
variable{s:Qd}
theorem WG{t:Qg}{items:Array Qc}{x:Qc}(hi:s.heap.IsTupleIter it t i)(ht:s.heap.IsTuple t items)(hx:items[i]?=some x)
  (q:∀ h',h'.IsTupleIter it t (i+1)->Heap.SameBut it s.heap h'->Q x {s with heap:=h'}):wpAny (model prog w) A (Builtin.SmallTypes.nextOf<|.ref it) Q E s:=by
 have(oi,e1,e2,e3):=id hi;have(ot,f1,f2,nt,f3):=ht;unfold Builtin.SmallTypes.nextOf;refine qa (wpAny_callSpecial?_slot (name:=Str.ofString "__next__") hi.typeIs slot_tupleiter_next
  (wpAny_call_entry slot_tupleiter_next hi.typeIs entry_tupleiter_next ?_<|args_tupleiter_next _))
 show wpAny _ _ (field (.ref it) 0 >>= _) _ _ s;refine qa<|wpAny_field e1 e3 (x:=.ref t) rfl ?_;show wpAny _ _ (if(Value.ref t==Value.none)=true then _ else _) _ _ s;rw[if_neg (show ¬((Value.ref t==Value.none)=true) from qf)];show wpAny _ _ (field (.ref it) 1 >>= _) _ _ s;refine qa<|wpAny_field e1 e3 (x:=.int i 0) rfl ?_;show wpAny _ _ (seqItems? (.ref t) >>= _) _ _ s;refine qa<|wpAny_seqItems f1 f3 ?_;simp only[Int.toNat_natCast,hx];refine qa<|wpAny_setField e1 e3 (by simp)<|qb ⟨x,rfl,qb<|q _ ?_<|Heap.SameBut.update ..⟩;refine⟨_,Ô _ e1<|Õ<|Ü e3 _,(Obj.cls_mapFields ..).trans e2,?_⟩;rw[Obj.data_mapFields e3];simp[rawInt]
theorem VJ{t:Qg}{items:Array Qc}(hh:A.handled=none)(hi:s.heap.IsTupleIter it t i)(ht:s.heap.IsTuple t items)(hx:items[i]?=none)
  (q:∀ h' e,Heap.ExtBut it s.heap h'->(∃ o,h'.get? e=some o/\o.cls=.type "StopIteration")->E (.ref e) {s with heap:=h'}):wpAny (model prog w) A (Builtin.SmallTypes.nextOf<|.ref it) Q E s:=by
 have(oi,e1,e2,e3):=id hi;have(ot,f1,f2,nt,f3):=ht;unfold Builtin.SmallTypes.nextOf;refine qa (wpAny_callSpecial?_slot (name:=Str.ofString "__next__") hi.typeIs slot_tupleiter_next
  (wpAny_call_entry slot_tupleiter_next hi.typeIs entry_tupleiter_next ?_<|args_tupleiter_next _))
 show wpAny _ _ (field (.ref it) 0 >>= _) _ _ s;refine qa<|wpAny_field e1 e3 (x:=.ref t) rfl ?_;show wpAny _ _ (if(Value.ref t==Value.none)=true then _ else _) _ _ s;rw[if_neg (show ¬((Value.ref t==Value.none)=true) from qf)];show wpAny _ _ (field (.ref it) 1 >>= _) _ _ s;refine qa<|wpAny_field e1 e3 (x:=.int i 0) rfl ?_;show wpAny _ _ (seqItems? (.ref t) >>= _) _ _ s;refine qa<|wpAny_seqItems f1 f3 ?_;simp only[Int.toNat_natCast,hx];refine qa<|wpAny_rule<|qa<|wpAny_setField e1 e3 (by simp) ?_;show wpAny _ _ (newExc (.type "StopIteration") [] >>= _) _ _ _;refine qa ?_;simp only[newExc,newTuple];refine qa<|qy ?_ (by show(0:Nat)<=sizeLine; exact Ä _);refine qa (m:=firstArgMember _ _)<|wpAny_of_eq (a:=Value.none) (by first|rfl | (simp only[firstArgMember]; rfl)) ?_;refine qy ?_ (by first|trivial|size_fits);simp only[raiseNew];refine qa (wpAny_handled ?_)
 first|rw[show A.in1.handled=none from hh] | rw[hh]
 refine qa<|qb<|wpAny_throw ?_;exact q _ _ (((Heap.SameBut.update ..).extBut.push _).push _) ⟨_,qg _ rfl,rfl⟩
end
theorem JT(hh:A.handled=none)(it t:Qg)(ne:t≠it)(items:Array Qc):
  Draws prog w A it [it,t] items.size (λi v=>items[i]?=some v) (λi h=>h.IsTupleIter it t i/\h.IsTuple t items) where
 live:=λ_ _ st=>let ⟨o,ho,_⟩:=st.1; ⟨o,ho⟩
 frame:=λ_ _ _ st hk=>by
  obtain⟨⟨o,a1,a2,a3⟩,⟨o2,b1,b2⟩⟩:=st;exact⟨⟨o,hk it (by simp) o a1,a2,a3⟩,⟨o2,hk t (by simp) o2 b1,b2⟩⟩
 item:=λi s Q E hi st q=>by
  refine WG st.1 st.2 (x:=items[i]) (by simp[hi]) λh' EH dJ=>?_;exact q _ h' s.toks (by simp[hi]) ⟨EH,st.2.extBut dJ.extBut ne⟩ dJ
 done:=λs Q E st q=>VJ hh st.1 st.2 (by simp) q
theorem VH(t:Qg)(items:Array Qc)(n:Nat)(kH:Qb Qg)(sl:Array (Qb Qc)):
  Meets (Builtin.«enumerate.__new__» ⟨[.type "enumerate",.ref t],[]⟩) (λ_ R s=>s.heap.get? t=some {cls:=.type "tuple",dict:=kH,data:=.seq items n,slots:=sl}/\
   R (.ok<|.ret<|.ref (s.heap.push {cls:=.type "tuple_iterator",data:=.fields #[.ref t,.int 0 0]}).objs.size)
    {s with heap:=(s.heap.push {cls:=.type "tuple_iterator",data:=.fields #[.ref t,.int 0 0]}).push {cls:=.type "enumerate",data:=.fields #[.none,.bool false,.ref s.heap.objs.size,rawInt 0,.none,.none]}}):=
 .of_wp λprog w A R s h=>by
  have(hp,g,d,tk,os):=s;have(hl,h):=h;have YT:=sub_enumerate;have hT:Heap.IsTuple (Shared.heap ⟨hp,g,d,tk,os⟩) t items:=⟨_,hl,rfl,n,rfl⟩
  wp_walk using PySem.AutoSeq1.wpAny_loadPart' hl
  refine wpAny_stack_any λst=>qb ?_;split
  .rename_i c _ _ _ _ _
   cases(c==Value.type "enumerate")
   .wp_walk using PySem.AutoSeq1.wpAny_loadPart' hl,wpAny_pyIter_tuple hT
    exact⟨_,rfl,h⟩
   .wp_walk using PySem.AutoSeq1.wpAny_loadPart' hl,wpAny_pyIter_tuple hT
    exact⟨_,rfl,h⟩
  .wp_walk using PySem.AutoSeq1.wpAny_loadPart' hl,wpAny_pyIter_tuple hT
   exact⟨_,rfl,h⟩
section
variable{s:Qd}
theorem WE{t:Qg}{items:Array Qc}(hT:s.heap.IsTuple t items)
  (h:∀ h',IsEnum h' (s.heap.objs.size+1) s.heap.objs.size 0 .none->h'.IsTupleIter s.heap.objs.size t 0->(∀ b o,s.heap.get? b=some o->h'.get? b=some o)->Q (.ref<|s.heap.objs.size+1) {s with heap:=h'}):
  wpAny (model prog w) A (call (.type "enumerate") [.ref t]) Q E s:=by
 obtain⟨⟨c,kH,dt,sl⟩,hl,hc,n,hd⟩:=hT;replace hc:c=.type "tuple":=hc;replace hd:dt=.seq items n:=hd;subst hc hd;refine callType_new F.called_enumerate (by decide) (F.typeCall_enumerate_1 _) (F.newCall_enumerate_1 _) (λobj=>F.args_object_init_2 obj _) F.entry_enumerate_new
  (VH t items n kH sl) ⟨hl,?_⟩
 have hz:(s.heap.push {cls:=.type "tuple_iterator",data:=.fields #[.ref t,.int 0 0]}).objs.size=s.heap.objs.size+1:=Heap.size_push ..;show _/\_;rw[hz];have he:IsEnum ((s.heap.push {cls:=.type "tuple_iterator",data:=.fields #[.ref t,.int 0 0]}).push
   {cls:=.type "enumerate",data:=.fields #[.none,.bool false,.ref s.heap.objs.size,rawInt 0,.none,.none]}) (s.heap.objs.size+1) s.heap.objs.size 0 .none:=by
  have z:=qg (s.heap.push {cls:=.type "tuple_iterator",data:=.fields #[.ref t,.int 0 0]})
   (o:={cls:=.type "enumerate",data:=.fields #[.none,.bool false,.ref s.heap.objs.size,rawInt 0,.none,.none]}) rfl
  rw[hz]at z;exact z
 exact⟨⟨_,he,rfl⟩,h _ he ⟨_,qd _<|qg _ rfl,rfl,rfl⟩ λb o x=>qd _<|qd _ x⟩
end
section
variable{X:Cx}{s:Qd}
theorem Inv.jA{t':Nat}{wr:Qa Qg}(I:Inv X pins σ H s)(k:∀ b o,b∉wr->s.heap.get? b=some o->h'.get? b=some o)(hf:∀ b∈wr,jU X pins H b):Inv X pins σ H {s with heap:=h',toks:=t'}:=by
 have ve:∀ b u,H b=some u->b∉wr:=λb u e z=>by rw[(hf b z).1]at e; cases e
 refine I.step (g':=s.gens) (d':=s.drawn) (ch:=wr) (λb hb=>?_) (λb o _ _ hc e _=>k b o hc e) (λb o _ _ hc e _=>⟨o.slots,k b o hc e⟩) (λ_ _ _ _ n=>n)
  (λb o hc e=>⟨o,k b o hc e⟩) (λ_ _ e=>e) (λ_ _ _ e=>e) (λb ps e=>⟨#[],by rw[e]; simp⟩) (λm hm=>?_) (λb u e=>?_) I.bare
 .have(_,z1,_,z3,z4,z5):=hf b hb
  exact⟨z3,z1,z4,z5⟩
 .have(o,es,ep,ho,r):=hm
  exact⟨o,es,ep,k _ o (λz=>(hf _ z).2.1 rfl) ho,r⟩
 .refine(I.aD b u e).de (λc v hc q=>k c v ?_ q) (λ_ q=>q) λ_ _ q=>q
  rcases hc with z|z
  .rw[z]; exact ve b u e
  .exact ve c _ z
theorem Inv.uT{o:HO}(I:Inv X pins σ H s)(f:jU X pins H a)(ha:X.bo.heap.objs.size<=a)(new:cG X.prog X.w X.K (upd H a o) s.heap a o):Inv X pins σ (upd H a o) s:=by
 have(f0,f1,f2,f3,f4,f5):=f;refine⟨I.ok,I.os,I.bare,Ja I.base f0 ha,I.loc,I.cell,?_,λx c e=>?_,λp hp=>?_,Jl I.aD f0 new,I.len⟩
 .rw[zp<|Ne.symm f1]
  exact I.free
 .rw[zp<|f4 x c e]
  exact I.aY x c e
 .have(p1,p2,p3):=I.pin p hp
  refine⟨p1,?_,p3⟩;rw[zp<|f5 p hp];exact p2
end
def LX(K:qc)(a:Qg):It :=
 ⟨λi H=>∃ xs x,cy K H a xs/\xs[i]?=some x,λi H x H'=>∃ T,H T=none/\x=.ref T/\∀ xs v,cy K H a xs->xs[i]?=some v->H'=upd H T (.tup [.int i,v]),λi H=>∃ xs,cy K H a xs/\xs.length=i⟩
theorem VG(e it t:Qg)(Ak:e≠it)(K6:t≠e)(K5:t≠it):
  Turn P w K (.Tuple elts k pos) (LX K t) [e,it] e (λi h=>(∃ old,IsEnum h e it i old)/\h.IsTupleIter it t i) where
 mem:=by simp
 obj:=λi h st b hb=>by
  obtain⟨⟨old,he⟩,⟨o,ho,_,hd⟩⟩:=st;rcases qu.mp hb with z|z
  .subst z
   exact⟨_,he,λv q=>by
    have q':Data.fields _=Data.cell v:=q;cases q'⟩
  .rw[qp.mp z]
   exact⟨o,ho,λv q=>by rw[hd]at q; cases q⟩
 keep:=λi h h' st kk=>by
  obtain⟨⟨old,he⟩,⟨o,ho,hc,hd⟩⟩:=st;exact⟨⟨old,kk e (by simp) _ he⟩,⟨o,kk it (by simp) _ ho,hc,hd⟩⟩
 item:=by
  intro X hP hw hK hc i pins s σ H E I hf st hg;subst hP hw hK;have(xs,x,hq,hx):=hg;have(aj,rv,ht,hz):=I.tuple hq;have hi:i < aj.toArray.size:=by
   rw[List.size_toArray,<-rv.length];exact(qk.mp hx).1
  have W:=WalksT.enumerateD (JT (prog:=X.prog) (w:=X.w) (A:=X.A.in1) (I.ok.hd hc) it t K5 aj.toArray) e Ak (by simp[Ak,Ne.symm K6]) (by simp);refine W.item i s _ _ hi ⟨st.1,st.2,ht⟩ λT vals h1 tk hP hT oZ mid kk=>?_;refine⟨_,rfl,W.go elts k pos i T {s with heap:=h1,toks:=tk} _ _ mid λh2 bz K0=>?_⟩;have(tt,u,hu,rfl):=hP;have apart:=W.apart _ _ _ mid;have I2:Inv X pins σ H {s with heap:=h2,toks:=tk}:=I.jA (wr:=[e,it]) (λb o hb q=>K0 b o hb<|kk b o hb q) hf;have fT:jU X pins H T:=I.hV hT (I.aD.fresh hT);have ru:zQ x u:=by
   have(u',eu,r):=rv.get hx;have:u'=u:=by
    have z:aj[i]?=some u:=by simpa using hu
    rw[eu]at z;exact qw z
   rw[<-this];exact r
  have(oT,g1,g2,nT,g3):=oZ;have I3:Inv X pins σ (upd H T<|.tup [.int i,x]) {s with heap:=h2,toks:=tk}:=I2.uT fT (qx I.sz hT) ⟨by show 2<=sizeLine; decide,[.int i tt,u],.cons ⟨tt,rfl⟩<|.cons ru .nil,oT,K0 T oT apart g1,g2,⟨nT,g3⟩,.inr ⟨_,_,_,rfl⟩⟩;refine⟨.ref T,_,I3,rfl,⟨T,I.aD.fresh hT,rfl,λmn v qV hv=>?_⟩,⟨?_,bz.2.1⟩,λb hb=>?_⟩
  .have:=I.fS hq qV
   subst this;rw[hx]at hv;cases hv;rfl
  .exact bz.1
  .have ne:b≠T:=λz=>apart (by rw[<-z]; exact hb)
   rw[zp ne];exact(hf b hb).1
 done:=by
  intro X hP hw hK hc i pins s σ H E I hf st hg;subst hP hw hK;have(xs,hq,hl):=hg;have(aj,rv,ht,hz):=I.tuple hq;have hi:i=aj.toArray.size:=by
   rw[List.size_toArray,<-rv.length];exact hl.symm
  have W:=WalksT.enumerateD (JT (prog:=X.prog) (w:=X.w) (A:=X.A.in1) (I.ok.hd hc) it t K5 aj.toArray) e Ak (by simp[Ak,Ne.symm K6]) (by simp);refine W.done s _ _ ?_ λh1 tk kk=>⟨rfl,I.jA (wr:=[e,it]) kk hf⟩;rw[<-hi];exact⟨st.1,st.2,ht⟩
 self:=λ_ _ _ _ _ st h=>by
  obtain⟨⟨old,he⟩,_⟩:=st;exact wpAny_pyIter_enum he h
section
variable{X:Cx}
def Gq(K:qc)(ta:TA):TI:=λσ H R=>ta σ H λvs H1=>∃ a,vs=[.ref a]/\(∃ xs,cy K H1 a xs)/\R (LX K a) H1
theorem Io{a:Expr}{ta:TA}(ha:Wr (PA X [a] ta))(hK:X.K=K:=by rfl)(hg:Gl X "enumerate":=by exact rfl)(hm:X.mg "enumerate"=none:=by exact t7 ‹Bl _ _› (by decide))(hs:zN a=true:=by rfl):
  Wr (PI X (.Tuple elts k uU) (.Call (.Name "enumerate" p) [a] [] pos)<|Gq K ta):=by
 subst hK;refine⟨?_⟩;intro pins s σ H R I h;refine Call_<|uh I hg hm boot_enumerate<|â (aJ (ha.run pos pins s σ H _ I h) λus s1 hZ=>?_) (iW hs) rfl;have(vs,H1,I1,r1,q1):=hZ;obtain⟨t,e,⟨xs,hq⟩,q⟩:=q1;subst e;have(u,rfl,ru):=oC r1;cases ru;have(aj,rv,ht,hz):=I1.tuple hq;have tl:t < s1.heap.objs.size:=by
  have(o,e,_):=ht;exact qh e
 refine WE (show s1.heap.IsTuple t aj.toArray from ht) λh' he hit kk=>?_;have I2:Inv X pins σ H1 {s1 with heap:=h'}:=I1.kept (t':=s1.toks) kk;refine wpAny_pyIter_enum he ?_;refine⟨s1.heap.objs.size+1,[s1.heap.objs.size+1,s1.heap.objs.size],_,_,H1,rfl,I2,VG (s1.heap.objs.size+1) s1.heap.objs.size t (Nat.succ_ne_self _) (qj<|Nat.lt_succ_of_lt tl)<|qj tl,⟨⟨_,he⟩,hit⟩,λb hb=>?_,q⟩;rcases qu.mp hb with z|z
 .subst z
  exact I1.hV (å _)<|I1.aD.fresh<|å _
 .rw[qp.mp z]
  exact I1.hV (qe _)<|I1.aD.fresh<|qe _
end
section
variable{X:Cx}
end
section
variable{X:Cx}{i v:Expr}{ty:TE}
end
end L2
namespace L2
open PySem PySem.W PyProof.Rows
section
end
section
def KR(rk:Nat->Int)(p:Array Nat)(i:Nat):Int:=rk (p.getD i 0)
def KY(rk:Nat->Int)(i j:Nat):Bool:=decide (rk i < rk j)
def Pm(n:Nat)(p:Array Nat):Prop:=p.Perm (List.range n).toArray
theorem Pm.size{p:Array Nat}(h:Pm n p):p.size=n:=by
 have:=h.size_eq;simpa using this
def Up(rk:Nat->Int)(p:Array Nat)(m:Nat):Prop:=∀ i j,i<=j->j < m->KR rk p i<=KR rk p j
end
end L2
namespace L2
open PySem PySem.Spec PyProof.Rows
open PySem.AutoSeq1 (wpAny_loadPart')
open MeetsSeq MeetsSeq2 MeetsSeq3 SeqRoads2
def cN:Qa Int->Qa Int->Bool
 | [],[]=>false
 | [],_::_=>true
 | _::_,[]=>false
 | a::as,b::bs=>if a=b then cN as bs else decide (a < b)
theorem VF{s:Qd}{a:Int}{t u:Tok}(h:Q (.bool<|decide<|a < b) s):wpAny (model prog w) A (richCompare .Lt (.int a t)<|.int b u) Q E s:=wpAny_lt_int h
end L2
namespace L2
open PySem PySem.Spec PySem.W PyProof.Rows
section
variable{s:Qd}
def FF(prog:Qe)(w:Qh)(A:Qf)(rk:Nat->Int)(vs:Qa Qc)(κ:SortKind)(s:Qd):Prop :=
 ∀ i j (C:Bool->Qd->Prop),i < vs.length->j < vs.length->C (KY rk i j) s->wpAny (model prog w) A (keyLt' κ (vs.getD i Value.none)<|vs.getD j Value.none) C (λ_ _=>False) s
end
theorem yj:∀ a:Qa Int,cN a a=false
 | []=>rfl
 | a::as=>by unfold cN; rw[if_pos rfl]; exact yj as
theorem Dl:∀ {a b c:Qa Int},cN a b=true->cN b c=true->cN a c=true
 | [],[],_,h,_=>by cases h
 | [],_::_,[],_,h=>by cases h
 | [],_::_,_::_,_,_=>rfl
 | _::_,[],_,h,_=>by cases h
 | _::_,_::_,[],_,h=>by cases h
 | a::as,b::bs,c::cs,h1,h2=>by
  unfold cN at h1 h2 ⊢
  by_cases e1:a=b
  .subst e1
   rw[if_pos rfl]at h1
   by_cases e2:a=c
   .rw[if_pos e2]at h2 ⊢
    exact Dl h1 h2
   .rw[if_neg e2]at h2 ⊢
    exact h2
  .rw[if_neg e1]at h1
   have l1:=of_decide_eq_true h1
   by_cases e2:b=c
   .subst e2
    rw[if_neg e1];exact h1
   .rw[if_neg e2]at h2
    have l2:=of_decide_eq_true h2;rw[if_neg (by omega)];exact decide_eq_true (by omega)
theorem yq:∀ {a b:Qa Int},a≠b->cN a b=true\/cN b a=true
 | [],[],h=>absurd rfl h
 | [],_::_,_=>.inl rfl
 | _::_,[],_=>.inr rfl
 | a::as,b::bs,h=>by
  unfold cN
  by_cases e:a=b
  .subst e
   rw[if_pos rfl,if_pos rfl];exact yq λz=>h (by rw[z])
  .rw[if_neg e,if_neg λz=>e z.symm]
   rcases(by omega:a < b\/b < a)with z|z
   .exact .inl (decide_eq_true z)
   .exact .inr (decide_eq_true z)
theorem IY{p q:α->Bool}:∀ {l:Qa α} {x:α},(∀ y∈l,p y=true->q y=true)->x∈l->q x=true->p x=false->l.countP p < l.countP q
 | y::l,x,h,m,hq,hp=>by
  rw[List.countP_cons,List.countP_cons];have le:l.countP p<=l.countP q:=List.countP_mono_left λz hz=>h z<|qm _ hz;rcases qu.mp m with e|m
  .subst e
   rw[hp,hq];simp;omega
  .have:=IY (λz hz=>h z<|qm _ hz) m hq hp
   by_cases c:p y=true
   .rw[c,h y qo c]
    simp;omega
   .rw[if_neg c]
    split<;>omega
def lS(ps:Qa (Qa Int))(i:Nat):Int:=((List.range ps.length).countP λk=>cN (ps.getD k []) (ps.getD i []):Nat)
theorem uD{ps:Qa (Qa Int)}(hi:i < ps.length)(h:cN (ps.getD i []) (ps.getD j [])=true):lS ps i < lS ps j:=by
 unfold lS;have:=IY (p:=λk=>cN (ps.getD k [])<|ps.getD i []) (q:=λk=>cN (ps.getD k [])<|ps.getD j []) (l:=List.range ps.length) (x:=i) (λy _ hy=>Dl hy h) (Î.mpr hi) h (yj _);omega
theorem uJ{ps:Qa (Qa Int)}(h:ps.Nodup)(hi:i < ps.length)(hj:j < ps.length)(ne:i≠j):ps.getD i []≠ps.getD j []:=by
 have e:∀ k (hk:k < ps.length),ps.getD k []=ps[k]:=λk hk=>by simp[hk]
 rw[e i hi,e j hj];intro z;rcases Nat.lt_or_gt_of_ne ne with l|l
 .exact Ï.mp h i j hi hj l z
 .exact Ï.mp h j i hj hi l z.symm
theorem SQ{ps:Qa (Qa Int)}(h:ps.Nodup)(hi:i < ps.length)(hj:j < ps.length):KY (lS ps) i j=cN (ps.getD i []) (ps.getD j []):=by
 cases c:cN (ps.getD i []) (ps.getD j [])with
 | true=>exact decide_eq_true<|uD hi c
 | false=>
  refine decide_eq_false λz=>?_
  by_cases e:i=j
  .subst e; omega
  .rcases yq (uJ h hi hj e)with y|y
   .rw[c]at y; cases y
   .have:=uD hj y
    omega
theorem Pm.list{p:Array Nat}(h:Pm n p):p.toList.Perm (List.range n):=by
 have:=h.toList;simpa using this
theorem Pa{ps:Qa (Qa Int)}(h:ps.Nodup){p:Array Nat}(hp:Pm ps.length p)(hu:Up (lS ps) p ps.length):(p.toList.map λi=>ps.getD i []).Pairwise λa b=>cN a b=true:=by
 have hs:=hp.size;have hl:=hp.list;have nd:p.toList.Nodup:=hl.nodup_iff.mpr List.nodup_range;refine List.pairwise_map.mpr<|Ï.mpr λi j hi hj d0=>?_;have e:∀ k (hk:k < p.toList.length),KR (lS ps) p k=lS ps p.toList[k]:=λk hk=>by
  unfold KR;have EF:k < p.size:=by simpa using hk
  congr 1;simp[Array.getD,EF]
 have m:∀ k (hk:k < p.toList.length),p.toList[k] < ps.length:=λk hk=>Î.mp<|hl.mem_iff.mp<|List.getElem_mem hk;have le:=hu i j (by omega) (by rw[Array.length_toList]at hj; omega);rw[e i hi,e j hj]at le;have ne:p.toList[i]≠p.toList[j]:=Ï.mp nd i j hi hj d0;rcases yq (uJ h (m i hi) (m j hj) ne)with z|z
 .exact z
 .have:=uD (m j hj) z
  omega
theorem U1{aj:Array Qc}(t:IsTup h a aj)(k:∀ o,h.get? a=some o->h'.get? a=some o):IsTup h' a aj:=by
 have(o,e,r):=t;exact⟨o,k o e,r⟩
section
variable{s:Qd}
end
theorem Jk{vs:Qa V}(r:zH vs us):∀ is:Qa Nat,(∀ i∈is,i < vs.length)->zH (is.map λi=>vs.getD i .aK) (is.map λi=>us.getD i Value.none)
 | [],_=>.nil
 | i::is,h=>by
  have hi:=h i qo;have(u,e,ru):=r.get (ql hi);refine .cons ?_<|Jk r is λj hj=>h j<|qm _ hj;show zQ (vs.getD i .aK) (us.getD i Value.none);rw[qA,qA,ql hi,e];exact ru
section
variable{X:Cx}
end
end L2
namespace L2
open PySem PySem.Spec PyProof.Rows
section
variable{s:Qd}{d:Qg}
end
section
variable{X:Cx}
theorem Inv.freeze{s:Qd}(I:Inv X pins σ H s)(e:H a=some (.dT aL)):∃ o,s.heap.get? a=some o/\Inv X pins σ (upd H a<|.bu o<|.dT aL) s:=by
 have ok:=(show cG X.prog X.w X.K H s.heap a (.dT aL) from I.aD a _ e);have(z,y,xs,r,o,es,ep,h1,h2):=id ok;refine⟨o,h1,?_⟩;have D2:cG X.prog X.w X.K (upd H a<|.bu o<|.dT aL) s.heap a (.dT aL):=ok.de (λ_ _ _ q=>q) (λb q=>by rw[zp<|Cb q e (by intro z; cases z)]; exact q) λb ys q=>by rw[zp<|Cb q e (by intro z; cases z)]; exact q
 exact I.write (t':=s.toks) (h':=s.heap) (by rw[e]; trivial) (.inl rfl) (λ_ _ _ q=>q) ⟨o,h1⟩ ⟨h1,D2⟩
end
end L2
namespace L2
open PySem PySem.Spec PyProof.Rows
open PySem.W (Looks)
def Gp(r:Qa Qc):Obj:={cls:=.type "tuple",data:=.seq r.toArray}
def km(C p:Qg):Obj:={cls:=.ref C,data:=.fields #[.ref p,.none,.none,.none,.bool false,.none]}
def ni(h:Heap)(C:Qg)(r:Qa Qc):Heap:=(h.push<|Gp r).push (km C h.objs.size)
theorem Jj{C:Qg}{r:Qa Qc}{b:Qg}{o:Obj}(e:h.get? b=some o):(ni h C r).get? b=some o:=qd _ (qd _ e)
theorem Dk{C:Qg}{r:Qa Qc}:(ni h C r).get? (h.objs.size+1)=some (km C h.objs.size):=by
 have:=qg (h.push<|Gp r) (o:=km C h.objs.size) rfl
 rwa[Heap.size_push]at this
section
variable{d:Drawn}{t:Nat}
variable{nm q:Str}{C N:Qg}{bs bm LF:Qa Qc}{nS:Bool}{sn:Qa Str}{sub:Qa Qc}{ab:Bool}{col:Qb Bool}{dd:Qb Qg}{k0 k1 k2 k3 k5:Qb Qc}{B newId qU:String}
theorem Xu{rest:Qa Qc}{f:Qc}{Q:Fin->Qd->Prop}(F:ExcBaseFacts B newId qU LF)(T:OwnTail h LF bm)
  (hC:h.get? C=some (excClassObj nm q C N bs bm nS sn sub ab col dd k0 k1 k2 k3 k5 newId))
  (li:Looks (model prog w) h (typeLookup (.ref C) "__init__") (some f)) (lb:∀ v,Looks (model prog w) h (bindSpecial f v) (f,[v])) (hl:rest.length<=sizeLine)
  (k:wpAny (model prog w) A (call f<|.ref (h.objs.size+1)::rest) (λr s'=>r=.none/\Q (.done<|.ret<|.ref<|h.objs.size+1) s') E ⟨ni h C rest,g,d,t,os⟩):
  wpAny (model prog w) A (Builtin.«type.__call__» ⟨.ref C::rest,[]⟩) Q E ⟨h,g,d,t,os⟩:=by
 have up:∀ b o,h.get? b=some o->(ni h C rest).get? b=some o:=λb o e=>Jj e;have Zy:=up _ _ hC;have hx:(ni h C rest).get? (h.objs.size+1)=some (km C h.objs.size):=Dk;have Yz:=li.keeps up;have YA:=(lb<|.ref<|h.objs.size+1).keeps up;have is:(Value.ref C::bm).contains (.ref C)=true:=by simp
 repeat (first|with_reducible refine wpAny_loadPart_at hC ?_|with_reducible refine wpAny_madeBy_exc hC ?_|wp_step)
 refine codeAny_call_builtin_code (Code.quiet_builtin _ F.quiet)<|wpAny_check_new_subT F T hC<|codeAny_exc_new_subT F T hC ?_ hl;change wpAny (model prog w) _ _ _ _ ⟨ni h C rest,g,d,t,os⟩;unfold isInstance
 repeat (first | (with_reducible refine wpAny_loadPart_at hx ?_; rw[show(km C h.objs.size).cls=.ref C from rfl]) | (with_reducible refine wpAny_isSubtype_exc Zy ?_; rw[is]) | wp_step)
 show wpAny _ _ (typeLookup (.ref C) _) _ _ _;refine Yz.at ?_;refine wpAny_holding<|qa<|YA.at ?_;refine qa<|wpAny_mono k (λr s' z=>?_) λ_ _ z=>z;have(rfl,z):=z
 wp_walk
 exact z
end
abbrev oM:Qa Qc:=[.type "ValueError",.type "Exception",.type "BaseException",.type "object"]
structure XC (K:qc) (C:Qg):Prop where
 at_:∃ nm q N bs bm sn sub ab col dd k0 k1 k2 k3 k5,K.lookup C=some (excClassObj nm q C N bs bm true sn sub ab col dd k0 k1 k2 k3 k5 "ValueError.__new__")/\PySem.W.tailIn K oM bm=true
 ga:PySem.W.findIn K (.ref C) "__getattribute__"=some (some<|.builtin "BaseException.__getattribute__")
 gh:PySem.W.findIn K (.ref C) "__getattr__"=some none
 sa:PySem.W.findIn K (.ref C) "__setattr__"=some (some<|.builtin "object.__setattr__")
section
variable{C x:Qg}{s:Qd}{R:Result->Qd->Prop}
theorem O9{f:Qg}{rest:Qa Qc}(X:XC K C)(I:K.In s.heap)(hi:PySem.W.findIn K (.ref C) "__init__"=some (some<|.ref f))(hf:PySem.W.typeIn K (.ref f)=some (.type "function"))(hl:rest.length<=sizeLine)
  (k:codeAny (model prog w) (A.under<|.builtin "type.__call__" ⟨.ref C::rest,[]⟩) (.call (.ref f) ⟨.ref (s.heap.objs.size+1)::rest,[]⟩) (PySem.W.InitBack (s.heap.objs.size+1) R) {s with heap:=ni s.heap C rest}):
  codeAny (model prog w) A (.call (.ref C) ⟨rest,[]⟩) R s:=by
 have(hh,g,d,t,os):=s;have(nm,q,N,bs,bm,sn,sub,ab,col,dd,k0,k1,k2,k3,k5,e,tl):=X.at_;have hC:=I _ _ e;have c1:=tc_lookup;have c2:=tc_bind (.ref C);have hT:(⟨hh,g,d,t,os⟩:Qd).TypeIs (.ref C) "type":=⟨_,hC,rfl⟩;refine codeAny_of_tree ?_;change wpAny _ _ (callAny (.ref C) _) _ _ _
 repeat (any_goals (first|assumption|with_reducible refine wpAny_loadPart_at hC ?_|wp_step))
 refine And.intro rfl<|codeAny_call_builtin_at (Code.quiet_builtin _ (by decide +kernel)) entry_typeCall<|wpAny_check_type_call_sub hC ?_;refine Xu PySem.F.excBase_ValueError (PySem.W.tail_of_in I tl) hC (Ñ I hi) (λv=>PySem.W.bind_fn I v hf) hl ?_;refine wpAny_call<|codeAny_mono k λr s' z=>?_;rcases r with e | (v|_|_|_)<;>first|exact z|exact z.elim
end
end L2
namespace L2
open PySem PySem.Spec PyProof.Rows
open PySem.W (Looks InstAt)
section
variable{C x:Qg}{s:Qd}{R:Result->Qd->Prop}
theorem IX(self:Qc):∀ {l:Qa Qc},PySem.W.tailIn K oM l=true->refuseLoop self "__setattr__" l=pure ()
 | [],e=>by cases e
 | v::r,e=>by
  unfold PySem.W.tailIn at e;rcases Bool.or_eq_true_iff.mp e with q|q
  .rw[beq_iff_eq.mp q]; exact PySem.F.store_ValueError.passes self
  .split at q
   .split at q
    .simp only[Bool.and_eq_true]at q
     rw[refuseLoop_ref];exact IX self q.2
    .cases q
   .cases q
theorem XC.cls(X:XC K C):∃ cd bm,PySem.W.clsIn K C=some cd/\cd.mro=.ref C::bm/\PySem.W.tailIn K oM bm=true/\cd.hasDict=true:=by
 have(nm,q,N,bs,bm,sn,sub,ab,col,dd,k0,k1,k2,k3,k5,e,tl):=X.at_;refine⟨{name:=nm,bases:=bs,mro:=.ref C::bm,ns:=N,qualname:=q,hasDict:=true,slotNames:=sn,subclasses:=sub,abstract:=ab,collection:=col,hasDel:=false},bm,?_,rfl,tl,rfl⟩;unfold PySem.W.clsIn;rw[e]
theorem XC.up(X:XC K C){M:Model}(I:K.In h){n:String}(hn:oM.contains (.type n)=true):Looks M h (isSubtype (.ref C)<|.type n) true:=by
 have(cd,bm,hc,hm,tl,_):=X.cls;refine PySem.W.looks_mroIn I ?_;unfold PySem.W.mroIn;rw[hc,Option.bind_some,hm,if_neg (by simp),List.contains_cons,(PySem.W.tail_of_in I tl).hasType hn,Bool.or_true]
theorem Md{v:Qc}{tk:Tok}{d:Drawn}{t:Nat}(L1:Looks (model prog w) h (typeOf<|.ref x) (.ref C))(L5:Looks (model prog w) h (isInstance (.ref x)<|.type "BaseException") true)
  (L4:Looks (model prog w) h (Builtin.ObjectAttr.find (.ref x) (.ref C) name) (.value v)) (k:R (.ok<|.ret v) ⟨h,g,d,t,os⟩):
  codeAny (model prog w) A (.call (.builtin "BaseException.__getattribute__") ⟨[.ref x,.str name tk],[]⟩) R ⟨h,g,d,t,os⟩:=by
 have hk:builtinKind "BaseException.__getattribute__"=some .slot:=by decide +kernel
 have hs:splitId "BaseException.__getattribute__"=some ("BaseException", "__getattribute__"):=by decide +kernel
 refine codeAny_call_builtin PySem.F.attr_ValueError.ga.plain PySem.F.entry_bexc_ga<|@PySem.W.check_slot (model prog w) _ _ _ "BaseException.__getattribute__" "BaseException" "__getattribute__" (.ref x) [.str name tk] [] _ hk hs L5 (PySem.F.args_bexc_ga _ _) ?_;unfold Builtin.«object.__getattribute__»
 repeat (first|with_reducible refine L1.at ?_|with_reducible refine L4.at ?_|wp_step)
 exact k
theorem Ol{od:Obj}{v:Qc}{b:Bool}(X:XC K C)(I:K.In s.heap)(Z:InstAt s.heap x ox C (some od))(n:k8 K C name)(l:PySem.W.lookIn name od=some (some v))(hh:handedOut v=pure v)
  (k:∀ t,Q v {s with toks:=t}):wpAny (model prog w) A (getAttr (.ref x) name b) Q E s:=by
 have(Lg,g,d,t,os):=s;have(cd,bm,hc,hm,tl,hd):=X.cls;have L1:Looks (model prog w) Lg (typeOf<|.ref x) (.ref C):=Z.type;have L2:=Ñ (M:=model prog w) I X.ga;have L3:=Ñ (M:=model prog w) I X.gh;have F1:PySem.W.findObj K C (some od) name=some (.value v):=by
  unfold PySem.W.findObj PySem.W.ownOf;rw[hc,Option.bind_some,show PySem.W.findIn K (.ref C) name=some none from n,Option.bind_some,hd];simp[l]
 have L4:=PySem.W.looks_find (M:=model prog w) I Z F1;have L5:Looks (model prog w) Lg (isInstance (.ref x)<|.type "BaseException") true:=L1.andThen (X.up I (by decide));have G:=PySem.F.attr_ValueError.ga;have e0:(onTheHeap (Value.ref C) && Value.builtin "BaseException.__getattribute__"==Value.builtin "object.__getattribute__")=false:=by
  rw[show(Value.builtin "BaseException.__getattribute__"==Value.builtin "object.__getattribute__")=false from by decide +kernel]; rfl
 have e1:(b && onTheHeap (Value.builtin "BaseException.__getattribute__"))=false:=by cases b<;>rfl
 unfold getAttr;refine qa<|wpAny_mkText ?_;unfold getAttrBy;refine wpAny_holding<|qa<|L1.at<|qa<|L2.at ?_;dsimp only;rw[e0,if_neg (by decide)];unfold getAttrByItsOwn hookBefore callGetattribute boundAndCalled;rw[if_pos (show onTheHeap (Value.ref C)=true from rfl),e1,if_neg (by decide),G.bind<|.ref x];refine qa<|L3.at<|qa<|wpAny_attempt<|wpAny_holding<|qa<|qb<|wpAny_call ?_;refine Md L1 L5 L4 ?_;change wpAny _ _ (handedOut v) _ _ _;rw[hh];exact qb<|k _
theorem Mc{v:Qc}{tk:Tok}{d:Drawn}{t:Nat}(X:XC K C)(I:K.In h)(hx:h.get? x=some ox)(hc:ox.cls=.ref C)(hd:ox.dict=none)(hn:∀ c,ox.data≠.cls c)
  (n:k8 K C name) (k:∀ h' t,h'.get? x=some {ox with dict:=some h.objs.size}->h'.Ns1 h.objs.size (λy=>if y=name then some v else none)->
   (∀ b o,b≠x->h.get? b=some o->h'.get? b=some o)->R (.ok<|.ret .none) ⟨h',g,d,t,os⟩):
  codeAny (model prog w) A (.call (.builtin "object.__setattr__") ⟨[.ref x,.str name tk,v],[]⟩) R ⟨h,g,d,t,os⟩:=by
 have(cd,bm,fH,hm,tl,jJ):=X.cls;have Z:InstAt h x ox C none:=⟨hx,hc,by have(_,_,dt,_):=ox; cases dt<;>first|rfl|exact absurd rfl<|hn _,by rw[hd]; trivial⟩;have L1:Looks (model prog w) h (typeOf<|.ref x) (.ref C):=Z.type;have LC:=PySem.W.looks_clsIn (M:=model prog w) I fH;have LM:Looks (model prog w) h (mroOf<|.ref C) cd.mro:=LC.andThen .now;have LN:=Ñ (M:=model prog w) I n;have LO:Looks (model prog w) h (isInstance (.ref x)<|.type "object") true:=L1.andThen (X.up I (by decide));have SF:=PySem.F.store_ValueError;have rf:refuseLoop (.ref x) "__setattr__" cd.mro=pure ():=by rw[hm,refuseLoop_ref]; exact IX _ tl
 refine codeAny_call_builtin SF.slot.plain SF.entry<|@PySem.W.check_slot (model prog w) _ _ _ "object.__setattr__" "object" "__setattr__" (.ref x) [.str name tk,v] [] _ SF.kind SF.split LO (SF.args (.ref x) (.str name tk) v) ?_;rw[PySem.W.osa_eq,refuse_eq];refine qa<|qa<|L1.at<|qa<|LM.at ?_;rw[rf];refine qb<|qa<|L1.at<|qa<|LN.at<|qa<|qb ?_;change wpAny _ _ (Builtin.ObjectAttr.storeInOwnDict (.ref x) (.ref C) (.str name tk) name v false) _ _ _;refine qa<|qb<|qa ?_;change wpAny _ _ (instanceDict x true) _ _ _;have(oc,od,dt,sl):=ox;dsimp only at hc hd hn;subst hc hd;unfold instanceDict;refine qa<|wpAny_loadPart hx ?_;dsimp only;refine qa<|LC.at ?_;rw[jJ];rw[if_neg (by decide),if_neg (by simp[typeHasDict])];split
 .exact absurd rfl (hn _)
 have nx:x≠h.objs.size:=qj (qh hx);have x1:(h.push PySem.W.emptyDict).get? x=some ⟨.ref C,none,dt,sl⟩:=qd _ hx;refine qa<|wpAny_alloc'<|qa<|wpAny_update' x1<|qb ?_;change wpAny _ _ (Builtin.ObjectAttr.storeInDict h.objs.size (.str name tk) name v) _ _ _;have d2:((h.push PySem.W.emptyDict).update x λo=>{o with dict:=some h.objs.size}).get? h.objs.size=some PySem.W.emptyDict:=(Heap.get?_update_ne _ _ _ _ nx.symm).trans (Heap.get?_push_at rfl rfl);have n2:((h.push PySem.W.emptyDict).update x λo=>{o with dict:=some h.objs.size}).Ns h.objs.size (λ_=>none):=⟨_,#[],_,d2,rfl,λe he=>absurd he (by simp),λ_=>rfl⟩;have x2:((h.push PySem.W.emptyDict).update x λo=>{o with dict:=some h.objs.size}).get? x=some ⟨.ref C,some h.objs.size,dt,sl⟩:=by
  refine Ô _ x1 ?_;have fr:=(Heap.get?_some_iff.mp hx).2;cases dt<;>first|rfl|exact fr
 unfold Builtin.ObjectAttr.storeInDict Builtin.ObjectAttr.newKeyGuard;refine qa<|qb<|qa<|wpAny_nsSet1 (Heap.Ns1.of_empty n2) λh' n' sm=>?_;have(oD,esD,epD,Y2,Zi,Zj):=n'.count (Within.cons name v Within.nil);refine qa<|wpAny_lookBehind Y2 (by rw[Zi]; exact pastItsLine_dict<|qx Zj (by rw[qt,List.length_nil,sizeLine_eq]; omega)) ?_;refine qb<|k h' _ ((sm.2 x nx).trans x2) n' λb o nb e=>?_;exact(sm.2 b<|qj<|qh e).trans<|(Heap.get?_update_ne _ _ _ _ nb).trans<|qd _ e
theorem OP{v:Qc}{Q:Unit->Qd->Prop}(X:XC K C)(I:K.In s.heap)(hx:s.heap.get? x=some ox)(hc:ox.cls=.ref C)(hd:ox.dict=none)(hn:∀ c,ox.data≠.cls c)(n:k8 K C name)
  (k:∀ h' t,h'.get? x=some {ox with dict:=some s.heap.objs.size}->h'.Ns1 s.heap.objs.size (λy=>if y=name then some v else none)->
   (∀ b o,b≠x->s.heap.get? b=some o->h'.get? b=some o)->Q () {s with heap:=h',toks:=t}):
  wpAny (model prog w) A (setAttr (.ref x) name v) Q E s:=by
 have(h,g,d,t,os):=s;have L1:Looks (model prog w) h (typeOf<|.ref x) (.ref C):=(Looks.ld (part:=some headPart) hx).andThen (Looks.of_pure (by rw[hc]));have LS:=Ñ (M:=model prog w) I X.sa;unfold setAttr callSpecial? specialOf;refine qa<|wpAny_mkText<|qa<|qa<|qa<|L1.at<|LS.at ?_;dsimp only;refine wpAny_holding ?_;rw[PySem.F.store_ValueError.slot.bind];refine qa<|qb<|qa<|wpAny_call ?_;refine Mc X I hx hc hd hn n λh' t' a b c=>?_;exact qb<|qb<|k h' t' a b c
end
end L2
namespace L2
open PySem PySem.Spec PyProof.Rows
open PySem.W (Looks InstAt)
structure XI (K:qc) (C:Qg):Prop where
 cl:XC K C
 ca:PySem.W.findIn K (.ref C) "__class__"=some (some<|.builtin "object.__class__")
 cg:PySem.W.specialIn K (.builtin "object.__class__") "__get__"=some (some<|.builtin "getset_descriptor.__get__")
 ct:PySem.W.takesIn K (.builtin "object.__class__")=some true
 cm:PySem.W.mroIn K C (.type "object")=some true
section
variable{C x:Qg}{s:Qd}{R:Result->Qd->Prop}
theorem O8{od:Qb Obj}{tk:Tok}{d:Drawn}{t:Nat}(Y:XI K C)(I:K.In h)(Z:InstAt h x ox C od)(k:R (.ok<|.ret<|.ref C) ⟨h,g,d,t,os⟩):
  codeAny (model prog w) A (.call (.builtin "BaseException.__getattribute__") ⟨[.ref x,.str "__class__" tk],[]⟩) R ⟨h,g,d,t,os⟩:=by
 have L1:Looks (model prog w) h (typeOf<|.ref x) (.ref C):=Z.type;have L5:Looks (model prog w) h (isInstance (.ref x)<|.type "BaseException") true:=L1.andThen (Y.cl.up I (by decide));have(cd,bm,hc,hm,tl,hd):=Y.cl.cls;have F1:PySem.W.findObj K C od "__class__"=some (.bind (.builtin "getset_descriptor.__get__")<|.builtin "object.__class__"):=by
  unfold PySem.W.findObj;rw[hc,Option.bind_some,Y.ca,Option.bind_some];simp[Y.cg,Y.ct]
 have L4:=PySem.W.looks_find (M:=model prog w) I Z F1;have hk:builtinKind "BaseException.__getattribute__"=some .slot:=by decide +kernel
 have hs:splitId "BaseException.__getattribute__"=some ("BaseException", "__getattribute__"):=by decide +kernel
 refine codeAny_call_builtin PySem.F.attr_ValueError.ga.plain PySem.F.entry_bexc_ga<|@PySem.W.check_slot (model prog w) _ _ _ "BaseException.__getattribute__" "BaseException" "__getattribute__" (.ref x) [.str "__class__" tk] [] _ hk hs L5 (PySem.F.args_bexc_ga _ _) ?_;unfold Builtin.«object.__getattribute__»
 repeat (first|with_reducible refine L1.at ?_|with_reducible refine L4.at ?_|with_reducible refine wpAny_call ?_|wp_step)
 exact PySem.W.class_get I Z Y.cm<|qb k
theorem SO{od:Qb Obj}{Q:Qb Qc->Qd->Prop}(Y:XI K C)(I:K.In s.heap)(Z:InstAt s.heap x ox C od)(k:Q (some<|.ref C) {s with toks:=s.toks+1}):wpAny (model prog w) A (getAttr? (.ref x) "__class__") Q E s:=by
 have(h,g,d,t,os):=s;have L1:Looks (model prog w) h (typeOf<|.ref x) (.ref C):=Z.type;have L2:=Ñ (M:=model prog w) I Y.cl.ga;have L3:=Ñ (M:=model prog w) I Y.cl.gh;have e0:(onTheHeap (Value.ref C) && Value.builtin "BaseException.__getattribute__"==Value.builtin "object.__getattribute__")=false:=by
  rw[show(Value.builtin "BaseException.__getattribute__"==Value.builtin "object.__getattribute__")=false from by decide +kernel]; rfl
 unfold getAttr? getAttrBy? getAttrBy;refine qa<|wpAny_mkText<|qa<|wpAny_attempt<|wpAny_holding<|qa<|L1.at<|qa<|L2.at ?_;dsimp only;rw[e0,if_neg (by decide)];unfold getAttrByItsOwn hookBefore callGetattribute boundAndCalled;rw[if_pos (show onTheHeap (Value.ref C)=true from rfl),if_neg (by decide),PySem.F.attr_ValueError.ga.bind<|.ref x];refine qa<|L3.at<|qa<|wpAny_attempt<|wpAny_holding<|qa<|qb<|wpAny_call ?_;refine O8 Y I Z ?_;change wpAny _ _ (handedOut<|.ref C) _ _ _;exact qb<|qb k
theorem XI.at_(Y:XI K C):∃ c d cd sl,K.lookup C=some ⟨c,d,.cls cd,sl⟩:=by
 have(nm,q,N,bs,bm,sn,sub,ab,col,dd,k0,k1,k2,k3,k5,e,tl):=Y.cl.at_;exact⟨_,_,_,_,e⟩
theorem IW{od:Qb Obj}(Y:XI K C):PySem.W.KitX K (.ref x) (.ref C) (λh=>InstAt h x ox C od) where
 ty:=λ_ _ _ Z=>Z.type
 it:=λM h I _=>by
  have(c,d,cd,sl,e):=Y.at_;intro A' Q' E' s' k q;unfold isType loadHead;exact qa (wpAny_loadPart (k _ _<|I _ _ e)<|qb q)
 ne:=λh tp dd aj n sl I YR=>by
  have(c,d,cd,uY,e):=Y.at_;refine Bool.eq_false_iff.mpr λq=>?_;have z:C=tp:=Value.ref.inj (beq_iff_eq.mp q);subst z;cases(I _ _ e).symm.trans YR
 ca:=λI Z k=>SO Y I Z k
end
end L2
namespace L2
open PySem PySem.Spec PyProof.Rows
open PySem.W (Looks InstAt)
def pL(a C p:Qg):HO:=.ext λh=>h.get? a=some (km C p)
def XV(H:Hp)(a C:Qg)(fs:Qa (Str×V)):Prop:=∃ ox,H a=some (.bu ox<|.own 0)/\ox.cls=.ref C/\PySem.W.notCls ox=true/\
 ((fs=[]/\ox.dict=none)\/∃ od dx,ox.dict=some dx/\H dx=some (.bu od<|.xd fs))
section
variable{X:Cx}{s:Qd}{C:Qg}{fs:Qa (Str×V)}{value:Expr}
def OO(K:qc)(ta:TE)(f:Str):TE:=λσ H Q=>ta σ H λx H1=>∃ a C fs v,x=.ref a/\XV H1 a C fs/\XC K C/\k8 K C f/\fs.lookup f=some v/\Q v H1
theorem SN(he:PE X e ta)(hb:attributeBase e f X.env (eval e X.env)=eval e X.env):PE X (.Attribute e f pos) (OO X.K ta f):=by
 intro pins s σ H Q I h;refine Sr hb<|aJ (he pins s σ H _ I h) λu s1 hZ=>?_;have(x,H1,I1,rx,a,C,fs,v,ex,xv,c,n,l,q):=hZ;subst ex;obtain rfl:u=Value.ref a:=rx;have(ox,ea,ec,en,z):=xv;rcases z with⟨rfl,_⟩|⟨od,dx,ed,vW⟩
 .cases l
 have(ha,_):=I1.aD a _ ea;have(nQ,mA,ns,rel):=I1.aD dx _ vW;have(Yw,dZ,hl):=Dm ns;obtain rfl:od=Yw:=qw (nQ.symm.trans dZ);have(u,hu,ru):=pM.some_of (v:=v) (o:=mA f) (by rw[<-l]; exact rel f);have Z:InstAt s1.heap a ox C (some od):=⟨ha,ec,en,by rw[ed]; exact nQ⟩;exact Ol c I1.cB Z n (by rw[hl,hu]) (PySem.W.handedOut_of<|Vm ru) λt=>⟨v,H1,I1.tok _,ru,q⟩
def Gn(K:qc)(ta tv:TE)(f:Str):TS:=λD σ H=>tv σ H λy H1=>ta σ H1 λx H2=>∃ a C p,x=.ref a/\H2 a=some (pL a C p)/\XC K C/\k8 K C f/\
 ∀ dx ox od,H2 dx=none->dx≠a->ox.cls=.ref C->ox.dict=some dx->PySem.W.notCls ox=true->ox={km C p with dict:=some dx}->D.nx σ (upd (upd H2 dx<|.bu od<|.xd [(f,y)]) a<|.bu ox<|.own 0)
theorem Im(ha:PE X o ta)(hv:PE X value tv)(hs:swapsWith value (some<|.Attribute o f pos') pos.line X.env=pure false):PS X (.Assign [.Attribute o f pos'] value pos) (Gn X.K ta tv f):=by
 intro pins s σ H D I h;refine plainObj_wpAny_Assign_Attribute (aJ (hv pins s σ H _ I h) λu s1 ⟨y,H1,I1,ry,q⟩=>aJ (ha pins s1 σ H1 _ I1 q) λov s2 hZ=>?_) hs;have(x,H2,I2,rx,a,C,p,ex,ea,c,n,q2):=hZ;subst ex;obtain rfl:ov=Value.ref a:=rx;have(hx,_,_):=I2.aD a _ ea;have lt:a < s2.heap.objs.size:=qh hx;refine OP (ox:=km C p) c I2.cB hx rfl rfl (λ_ z=>nomatch z) n λh' t kD pe keep=>?_;have(od,Ez,_):=Dm pe;have fr:od.isFreed=false:=(Heap.get?_some_iff.mp Ez).2;have hm:(s2.heap.push od).get? s2.heap.objs.size=some od:=qg s2.heap fr;have nd:s2.heap.objs.size≠a:=æ lt;have I3:=I2.laid (a:=s2.heap.objs.size) (o:=.bu od (.xd [(f,y)])) (h':=s2.heap.push od) (t':=s2.toks) (λb w e=>qd _ e) (qe _)
  ⟨hm,λz=>if z=f then some u else none,?_,λg=>?_⟩
 .have I4:=I3.write (x:=a) (e:=a) (o:=.bu {km C p with dict:=some s2.heap.objs.size} (.own 0)) (h':=h') (t':=t) (by rw[zp nd.symm,ea]; trivial) (.inl rfl) (λb w nb e=>?_) ⟨_,kD⟩ ⟨kD,_,kD⟩
  .exact⟨σ,_,I4,q2 _ _ od (I2.aD.fresh<|qe _) nd rfl rfl rfl rfl⟩
  .by_cases eb:b=s2.heap.objs.size
   .subst eb
    rw[hm]at e;cases e;exact Ez
   .refine keep b w nb ?_
    rcases Heap.get?_push_cases e with⟨z,_⟩|z
    .exact absurd z eb
    .exact z
 .have(o1,es,ep,e1,r):=pe
  obtain rfl:od=o1:=qw (Ez.symm.trans e1);exact⟨od,es,ep,hm,r⟩
 .show pM ([(f,y)].lookup g) (if g=f then some u else none)
  rw[List.lookup_cons]
  by_cases q:g=f
  .subst q; simp only[beq_self_eq_true,if_true]; exact ry
  .rw[if_neg q,show(g==f)=false from beq_eq_false_iff_ne.mpr q]; trivial
end
section
variable{X:Cx}{CX:jP}{f C:Qg}{E:XK}{es:Qa Expr}
def Cq(C:Qg)(sp:Sp)(E:XK)(t:TA):TE:=λσ H Q=>t σ H λvs H1=>vs.length<=1000/\∀ a p,H1 a=none->sp (.ref a::vs) (upd H1 a<|pL a C p) (λv H2=>v=.aK/\Q (.ref a) H2) E
theorem Inv.uN{s:Qd}{r:Qa Qc}(I:Inv X pins σ H s):Inv X pins σ (upd H (s.heap.objs.size+1)<|pL (s.heap.objs.size+1) C s.heap.objs.size) {s with heap:=ni s.heap C r}:=
 I.laid (a:=s.heap.objs.size+1) (t':=s.toks) (λb u q=>Jj q) (å _) ⟨Dk,⟨_,Dk⟩,λh1 h2 z k=>k _ z⟩
theorem VD{s:Qd}{Q:VK}{vs:Qa V}(Y:XC X.K C)(hi:PySem.W.findIn X.K (.ref C) "__init__"=some (some<|.ref f))(fn:PySem.W.isFn X.K (.ref f)=true)
  (F:bp X.prog X.w X.K X.mg X.base CX k f fd ps sp) (hr:aE (k+1) X.A) (hb:jY X.K fd ps []) (hx:ue CX X E) (I:Inv X pins σ H s) (r:zH vs us) (hl:vs.length<=1000)
  (h:∀ a p,H a=none->sp (.ref a::vs) (upd H a<|pL a C p) (λv H2=>v=.aK/\Q (.ref a) H2) E):wpAny (model X.prog X.w) X.A (call (.ref C) us) (EP X pins σ Q) X.xe s:=by
 have hq:=h (s.heap.objs.size+1) s.heap.objs.size (I.aD.fresh<|å _);have I2:=Inv.uN (C:=C) (r:=us) I;have r2:zH (V.ref (s.heap.objs.size+1)::vs) (Value.ref (s.heap.objs.size+1)::us):=.cons rfl r;have ln:(Value.ref (s.heap.objs.size+1)::us++[]).length=ps.length:=by
  have z:=r2.length;rw[F.len _ _ _ _ hq]at z;rw[List.append_nil];exact z.symm
 have rh:=hb {s with heap:=ni s.heap C us} (Value.ref (s.heap.objs.size+1)::us) I2.cB ln;rw[List.append_nil]at rh;refine wpAny_call<|O9 Y I.cB hi (beq_iff_eq.mp fn) (by rw[<-r.length,sizeLine_eq]; omega)<|codeAny_mono (F.run _ X.stack _ _ ⟨Value.ref (s.heap.objs.size+1)::us,[]⟩ (Value.ref (s.heap.objs.size+1)::us) _ _ E (hr.make C us [])
  (I2.nY.make C us []) rh r2 hq) λr s' qV=>?_
 cases r with
 | error e=>exact hx pins σ _ _ e s' I2 qV
 | ok fl=>
  cases fl with
  | ret u=>
   have(v,H',I3,rv,ev,q3):=I2.after qV;subst ev;exact⟨rv,⟨V.ref<|s.heap.objs.size+1,H',I3,rfl,q3⟩⟩
  | next=>exact False.elim qV
  | brk=>exact False.elim qV
  | cont=>exact False.elim qV
theorem U0(Y:XC X.K C)(hi:PySem.W.findIn X.K (.ref C) "__init__"=some (some<|.ref f))(fn:PySem.W.isFn X.K (.ref f)=true)(kp:PySem.W.keepIn X.K (.ref C)=true)(F:bp X.prog X.w X.K X.mg X.base CX k f fd ps sp)(hr:aE (k+1) X.A)
  (hg:Gl X x) (hm:X.mg x=some (.ref C)) (hb:jY X.K fd ps []) (hx:ue CX X E) (ha:PA X (e::es) t) (cx:(x==("__debug__":Str))=false:=by decide)
  (he:starEach (e::es) X.env=(false,eval e X.env)::starEach es X.env:=by rfl) (bZ:(backTo pos<|starEach es X.env).any (·.1)=false:=by rfl):PE X (.Call (.Name x p) (e::es) [] pos) (Cq C sp E t):=by
 intro pins s σ H Q I h;refine wpAny_Call_Name_kw<|p4 I hg hm ?_ cx;refine ç (h₀:=X.base) I.ok.mod.oX kp (aJ (ha pos pins s σ H _ I h) λus s1 ⟨vs,H1,I1,r,hl,q⟩=>⟨I1.cB,?_⟩) he bZ;exact VD Y hi fn F hr hb hx I1 r hl q
end
end L2
namespace L2
open PySem PySem.Spec PyProof.Rows
open PySem.W (Looks InstAt)
section
variable{C x:Qg}{s:Qd}{R:Result->Qd->Prop}
end
section
variable{X:Cx}{C:Qg}
theorem O7{s:Qd}{fs:Qa (Str×V)}{c:Qc}{b:Bool}(I:Inv X pins σ H s)(xv:XV H a C fs)(Y:XI X.K C)
  (e:PySem.W.kitOne X.K (.ref C) c=some b) (h:∀ tk,Q (.bool b) {s with toks:=tk}):wpAny (model X.prog X.w) A (call (.builtin "isinstance") [.ref a,c]) Q E s:=by
 have(ox,ea,ec,en,z):=xv;have(ha,_):=I.aD a _ ea;have Z:∃ od,InstAt s.heap a ox C od:=by
  rcases z with⟨_,ed⟩|⟨od,dx,ed,vW⟩
  .exact⟨none,ha,ec,en,by rw[ed]; trivial⟩
  .have(nQ,_):=I.aD dx _ vW
   exact⟨some od,ha,ec,en,by rw[ed]; exact nQ⟩
 have(od,Z):=Z;exact Ê (IW Y) I.cB Z e (λz=>nomatch z) h
end
end L2
namespace L2
open PySem PySem.Spec PyProof.Rows
open PySem.W (Looks InstAt)
def FT(a C:Qg)(d tb:Qb Qg)(h:Heap):Prop:=∃ oe vs,h.get? a=some oe/\oe.cls=.ref C/\oe.dict=d/\oe.data=.fields vs/\vs[1]?=some (tb.elim .none .ref)/\(tb=none->∃ p,oe={km C p with dict:=d})
def KQ(T:Qg)(h:Heap):Prop:=∃ oT ts,h.get? T=some oT/\oT.data=.fields ts/\ts[3]?=some .none
def m9(a C:Qg)(d tb:Qb Qg):HO:=.ext (FT a C d tb)
def oN(T:Qg):HO:=.ext (KQ T)
def m8(H:Hp)(a C:Qg)(fs:Qa (Str×V)):Prop:=∃ d tb,H a=some (m9 a C d tb)/\(∀ T,tb=some T->H T=some (oN T)/\T≠a)/\
 ((fs=[]/\d=none)\/∃ od dx,d=some dx/\H dx=some (.bu od<|.xd fs))
theorem Il{C:Qg}{d tb:Qb Qg}(x:FT a C d tb h):cG P w K H h a (m9 a C d tb):=by
 have(oe,vs,h1,h2):=x;exact⟨⟨oe,vs,h1,h2⟩,⟨oe,h1⟩,λh1 h2 ⟨oe,vs,z1,z2⟩ k=>⟨oe,vs,k _ z1,z2⟩⟩
theorem Cp(x:KQ a h):cG P w K H h a (oN a):=by
 have(oe,vs,h1,h2):=x;exact⟨⟨oe,vs,h1,h2⟩,⟨oe,h1⟩,λh1 h2 ⟨oe,vs,z1,z2⟩ k=>⟨oe,vs,k _ z1,z2⟩⟩
section
variable{X:Cx}{s:Qd}
theorem Inv.slots(I:Inv X pins σ H s)(z:Heap.SlotsOnly (hU X.stack) s.heap h'):Inv X pins σ H {s with heap:=h'}:=by
 have(z1,z2,z3):=z;have sub:=I.eR;have uZ:=I.eG;have qE:∀ b u,H b=some u->h'.get? b=s.heap.get? b:=λb u e=>z2 b λhb=>by rw[uZ b hb]at e; cases e
 have old:∀ b o,X.bo.heap.get? b=some o->b∉X.fs->b∉hU X.stack:=λb o e hn hb=>by
  rcases qu.mp (sub b hb)with q|q
  .have h1:=qh e
   have h2:=I.ok.above;rw[q]at h1;exact absurd (qi h1 h2)<|Í _
  .exact hn q
 refine⟨I.ok,I.os,I.bare,⟨λb o e n hc hx=>?_,λb o e n hc hx=>?_,I.base.free,λb o e hx=>?_,I.base.c9,I.base.cT,I.base.dF⟩,?_,λx c e=>?_,I.free,I.aY,λp hp=>?_,λb u e=>?_,I.len⟩
 .exact(z2 b<|old b o e hc).trans (I.base.keep b o e n hc hx)
 .have(sl,q):=I.base.slot b o e n hc hx
  have(uY,q'):=z3 b _ q;exact⟨uY,q'⟩
 .have(o',q):=I.base.there b o e hx
  have(uY,q'):=z3 b _ q;exact⟨_,q'⟩
 .obtain⟨m,⟨o,es,ep,ho,hd,r⟩,hl⟩:=I.loc
  have(sl,hs):=z3 _ _ ho;refine⟨m,⟨_,es,ep,hs,hd,r⟩,λi x v e1 e2 e3=>?_⟩;have(u,ru,lk):=hl i x v e1 e2 e3;refine⟨u,ru,?_⟩;rcases lk with lk|⟨k,c,ec,oc,sW,EM⟩
  .exact .inl lk
  .have(sl,hs):=z3 _ _ sW
   exact .inr ⟨k,c,ec,_,hs,EM⟩
 .have(v,oc,sW,EM):=I.cell x c e
  have(sl,hs):=z3 _ _ sW;exact⟨v,_,hs,EM⟩
 .have(h1,h2,h3,h4,h5):=I.pin p hp
  refine⟨(z2 _ λhb=>?_).trans h1,h2,h3,h4,h5⟩;rcases qu.mp (sub _ hb)with q|q
  .exact h3 q
  .exact h4 q
 .refine(I.aD b u e).de (λc v hc r=>?_) (λ_ r=>r) λ_ _ r=>r
  rcases hc with rfl|hc
  .exact(qE _ _ e).trans r
  .exact(qE _ _ hc).trans r
theorem Ji{M:Model}{E':Qc->Qd->Prop}{Q:Unit->Qd->Prop}{C:Qg}{fs:Qa (Str×V)}(I:Inv X pins σ H s)(hA:A.frames=some X.stack)(i7:X.stack=X.env::outer)(hf:X.env.frame=some X.env.locals)(fl:m8 H a C fs)
  (k:∀ h' H',Inv X pins σ H' {s with heap:=h'}->m8 H' a C fs->(∀ b o,b≠a->H b=some o->H' b=some o)->(∀ b,H' b=none->H b=none)->Q () {s with heap:=h'}):
  wpAny M A (noteFrame (.ref a) X.env) (λ_ s1=>wpAny M A (setFlight (.ref a) none) Q E' s1) E s:=by
 have(d,tb,ea,et,ed):=fl;obtain⟨⟨oe,vs,he,hc,jJ,hv,h1,_⟩,_⟩:=I.aD a _ ea;have o5:1 < vs.size:=(Ç.mp h1).1;have nf:∀ {b u} {H2:Hp} {s2:Qd},Inv X pins σ H2 s2->H2 b=some u->b∉hU X.stack:=λI2 e hb=>by rw[I2.eG _ hb]at e; cases e
 have main:∀ (s2:Qd) (head:Qc) (hn:Bool),s2={s with heap:=s2.heap}->Inv X pins σ H s2->s2.heap.get? a=some oe->
   wpAny M A (do let b <-frameOf X.env; let pl <-entryPlaceOf X.env.locals hn; let c <-EntryCells.newEntry head b .none (rawInt X.env.locals) .none pl; setField (.ref a) 1 c) (λ_ s1=>wpAny M A (setFlight (.ref a) none) Q E' s1) E s2:=by
  intro s2 head hn ZN I2 Zg;refine qa<|wpAny_frameOf_fun (base:=X.base) (by rw[hA,i7]) (by rw[<-i7]; exact I2.stack) hf λaM lG=>?_;rw[show((X.env::outer).filterMap (·.frame))=hU X.stack by rw[i7]; rfl]at lG;have I3:=I2.slots lG;have Lj:aM.get? a=some oe:=(lG.2.1 a<|nf I2 ea).trans Zg;refine qa<|wpAny_entryPlaceOf λpl bZ=>?_;unfold EntryCells.newEntry newFields;refine qa<|qy ?_<|bZ.sizeOk5 _ _ _ _ _;generalize Y1:(({cls:=.type "traceback",dict:=none,data:=.fields ([head,.ref X.env.locals,.none,rawInt X.env.locals,.none]++(if pl.isEmpty then List.replicate 6 Value.none else pl)).toArray}):Obj)=oT;have EY:oT.data=.fields ([head,.ref X.env.locals,.none,rawInt X.env.locals,.none]++(if pl.isEmpty then List.replicate 6 Value.none else pl)).toArray:=by rw[<-Y1]
  have Zq:oT.isFreed=false:=Õ EY;have sZ:=qd (h:=aM) oT Lj;refine wpAny_setField sZ hv o5 ?_;have tj:aM.objs.size≠a:=æ (qh Lj);have EN:=Ü hv (·.setIfInBounds 1 (Value.ref aM.objs.size));have Al:=Ô (Obj.mapFields (·.setIfInBounds 1 (Value.ref aM.objs.size))) sZ (Õ EN);have EZ:(aM.push oT).get? aM.objs.size=some oT:=qg aM Zq;have Lq:=(Æ (aM.push oT) (Obj.mapFields (·.setIfInBounds 1 (Value.ref aM.objs.size)))<|Ne.symm tj).trans EZ;unfold setFlight;refine qa<|wpAny_field Al EN (x:=.ref aM.objs.size) (by simp[o5]) ?_;rw[if_pos (show(Value.ref aM.objs.size != Value.none)=true from by simp)];refine wpAny_setField Lq EY (by simp only[List.size_toArray,qr,qt,List.length_nil]<;>omega) ?_;have Lk:=Ü EY (·.setIfInBounds 3 ((none:Qb Qg).elim Value.none λf=>rawInt f));have Lp:=Ô (Obj.mapFields (·.setIfInBounds 3 ((none:Qb Qg).elim Value.none λf=>rawInt f))) Lq (Õ Lk);have he6:=(Æ ((aM.push oT).update a<|Obj.mapFields (·.setIfInBounds 1 (Value.ref aM.objs.size))) (Obj.mapFields (·.setIfInBounds 3 ((none:Qb Qg).elim Value.none λf=>rawInt f))) tj).trans Al;have Zp:H aM.objs.size=none:=I3.aD.fresh (qe _);have I4:=I3.laid (a:=aM.objs.size) (o:=.ext λh=>∃ o,h.get? aM.objs.size=some o) (h':=aM.push oT) (t':=s2.toks) (λb u e=>qd _ e) (qe _) ⟨⟨_,EZ⟩,⟨_,EZ⟩,λx y ⟨o,z⟩ k=>⟨o,k _ z⟩⟩;have I5:=I4.write (x:=a) (e:=a) (o:=m9 a C d (some aM.objs.size)) (h':=(aM.push oT).update a (Obj.mapFields (·.setIfInBounds 1 (Value.ref aM.objs.size)))) (t':=s2.toks) (by rw[zp<|Ne.symm tj,ea]; trivial) (.inl rfl)
   (λb u nb e=>(Æ _ _<|Ne.symm nb).trans e) ⟨_,Al⟩ (Il ⟨_,_,Al,(Obj.cls_mapFields _ _).trans hc,by have(c1,c2,c3,c4):=oe; cases c3<;>exact jJ,EN,by simp[o5],λz=>nomatch z⟩)
  have I6:=I5.write (x:=aM.objs.size) (e:=aM.objs.size) (o:=oN aM.objs.size) (h':=((aM.push oT).update a<|Obj.mapFields (·.setIfInBounds 1 (Value.ref aM.objs.size))).update aM.objs.size (Obj.mapFields (·.setIfInBounds 3 ((none:Qb Qg).elim Value.none λf=>rawInt f)))) (t':=s2.toks)
   (by rw[zp tj,zt]; trivial) (.inl rfl) (λb u nb e=>(Æ _ _<|Ne.symm nb).trans e) ⟨_,Lp⟩ (Cp ⟨_,_,Lp,Lk,by simp⟩)
  have ee:({s2 with heap:=((aM.push oT).update a<|Obj.mapFields (·.setIfInBounds 1 (Value.ref aM.objs.size))).update aM.objs.size (Obj.mapFields (·.setIfInBounds 3 ((none:Qb Qg).elim Value.none λf=>rawInt f)))}:Qd) =
    {s with heap:=((aM.push oT).update a<|Obj.mapFields (·.setIfInBounds 1 (Value.ref aM.objs.size))).update aM.objs.size (Obj.mapFields (·.setIfInBounds 3 ((none:Qb Qg).elim Value.none λf=>rawInt f)))}:=by rw[ZN]
  have kk:∀ b o,b≠a->H b=some o->upd (upd (upd H aM.objs.size (.ext λh=>∃ o,h.get? aM.objs.size=some o)) a<|m9 a C d<|some aM.objs.size) aM.objs.size (oN aM.objs.size) b=some o:=λb o nb e=>by
   have nT:b≠aM.objs.size:=λz=>by rw[z,Zp]at e; cases e
   rw[zp nT,zp nb,zp nT]; exact e
  have fin:=k _ _ (by rw[<-ee]; exact I6) ⟨d,some aM.objs.size,by rw[zp<|Ne.symm tj,zt],λT eT=>by cases eT; exact⟨zt,tj⟩,?_⟩ kk (λb e=>?_)
  .rw[<-ee]at fin; exact fin
  .rcases ed with ed|⟨od,dx,e1,e2⟩
   .exact .inl ed
   .exact .inr ⟨od,dx,e1,kk dx _ (λz=>by rw[z,ea]at e2; cases e2) e2⟩
  .by_cases b1:b=aM.objs.size
   .rw[b1,zt]at e; cases e
   .rw[zp b1]at e
    by_cases b2:b=a
    .rw[b2,zt]at e; cases e
    .rw[zp b2,zp b1]at e; exact e
 unfold noteFrame;simp only[hf];cases tb with
 | none=>
  refine qa<|wpAny_field (x:=.none) he hv h1 ?_;rw[if_neg (by decide)];exact main s .none _ rfl I he
 | some T=>
  have(eT,nT):=et T rfl;obtain⟨⟨oT,ts,hT,s9,h3⟩,_⟩:=I.aD T _ eT;refine qa<|wpAny_field (x:=.ref T) he hv h1 ?_;rw[if_pos (show(Value.ref T != Value.none)=true from by simp)];refine qa<|wpAny_field hT s9 h3 ?_;rw[if_neg (show ¬((Value.none==rawInt X.env.locals)=true) from by simp[rawInt])];refine qa<|wpAny_setField hT s9 (Ç.mp h3).1 ?_;have vH:=Ü s9 (·.setIfInBounds 3 Value.none);have vL:=Ô (Obj.mapFields (·.setIfInBounds 3 Value.none)) hT (Õ vH);have I7:=I.write (x:=T) (e:=T) (o:=oN T) (h':=s.heap.update T (Obj.mapFields (·.setIfInBounds 3 Value.none))) (t':=s.toks) (by rw[eT]; trivial) (.inl rfl) (λb u nb e=>(Æ _ _<|Ne.symm nb).trans e) ⟨_,vL⟩
   (Cp ⟨_,_,vL,vH,by have:=(Ç.mp h3).1; simp[this]⟩)
  have eu:upd H T (oN T)=H:=by
   funext b
   unfold upd;split
   .rename_i z; rw[z,eT]
   .rfl
  rw[eu]at I7;exact main {s with heap:=s.heap.update T (Obj.mapFields (·.setIfInBounds 3 Value.none))} (.ref T) _ rfl I7<|(Æ _ _ nT).trans he
end
end L2
namespace L2
open PySem PySem.Spec PyProof.Rows
open PySem.W (Looks InstAt)
abbrev cJ:=St->Qg->Hp->Prop
def iS(X:Cx)(EX:cJ):Prop:=∀ (pins:Qa (Qg×Obj)) (σ:St) (H:Hp) (s:Qd) (a:Qg),Inv X pins σ H s->EX σ a H->X.xe (.ref a) s
section
variable{X:Cx}{EX:cJ}
def Cn(K:qc)(EX:cJ)(te:TE):TS:=λ_ σ H=>te σ H λv H1=>∃ a C d,v=.ref a/\H1 a=some (m9 a C d none)/\XC K C/\EX σ a H1
theorem UZ(hx:iS X EX)(hh:X.A.handled=none)(he:PE X e te):PS X (.Raise (some e) none pos) (Cn X.K EX te):=by
 intro pins s σ H D I h;rw[arm_exec_Raise];simp only[evalOpt,Option.map];refine qa<|wpAny_standAt ?_;unfold raiseStmt;refine qa<|qa<|aJ (he pins s σ H _ I h) λu s1 ⟨v,H1,I1,rv,a,C,d,ev,ea,xc,q⟩=>qa<|wpAny_standAt<|qb ?_;subst ev;obtain rfl:u=Value.ref a:=rv;obtain⟨⟨oe,vs,EK,_,_,_,_,hp⟩,_⟩:=I1.aD a _ ea;have(p,rfl):=hp rfl;replace EK:s1.heap.get? a=some {cls:=.ref C,dict:=d,data:=.fields #[.ref p,.none,.none,.none,.bool false,.none]}:=EK;have(nm,qn,N,bs,bm,sn,sub,ab,col,dd,k0,k1,k2,k3,k5,eC,tl):=xc.at_;have hC:=I1.cB _ _ eC;have ER:oM.contains (.type "BaseException")=true:=by decide
 have Zl:(Value.ref C::bm).contains (.type "BaseException")=true:=by rw[List.contains_cons,(PySem.W.tail_of_in I1.cB tl).hasType ER,Bool.or_true]
 have fin:=hx pins σ H1 s1 a I1 q;have(hp1,g,dr,tk,os):=s1
 repeat (first|with_reducible refine wpAny_loadPart_at EK ?_|with_reducible refine wpAny_loadPart_at hC ?_ | (with_reducible refine wpAny_isSubtype_exc hC ?_; rw[Zl]) | wp_step)
 exact wpAny_raiseNew_none hh fin
end
def AZ(K:qc)(f:Str):Sp:=λvs H Q _=>∃ a C p v,vs=[.ref a,v]/\H a=some (pL a C p)/\XC K C/\k8 K C f/\
 ∀ dx od,H dx=none->dx≠a->Q .aK (upd (upd H dx<|.bu od<|.xd [(f,v)]) a<|m9 a C (some dx) none)
theorem SM{fs:Qa Qg}{φ:Heap->Prop}{o u:HO}(un:Un fs [] H H' h h')(aD:cZ P w K H' h')(ea:H a=some (.ext φ))(fW:H' a=some o)(no:∀ xs,o≠.tup xs)(nw:∀ x,o≠.own x)(new:cG P w K (upd H' a u) h' a u):
  Un fs [] H (upd H' a u) h h'/\cZ P w K (upd H' a u) h':=by
 have ne:∀ b,(∀ ψ,H b≠some (.ext ψ))->b≠a:=λb q z=>by subst z; exact q _ ea
 refine⟨⟨un.keep,un.slot,λb ob q n hx=>?_,un.there,λb xs q=>?_,λb ob v q=>?_,λb ps q=>?_⟩,λb v q=>?_⟩
 .rw[zp (ne b λψ z=>by rw[n]at z; cases z)]; exact un.free b ob q n hx
 .rw[zp (ne b λψ z=>by rw[q]at z; cases z)]; exact un.c9 b xs q
 .rw[zp (ne b λψ z=>by rw[q]at z; cases z)]; exact un.cT b ob v q
 .have(m,e):=un.dF b ps q
  exact⟨m,by rw[zp (ne b λψ z=>by rw[q]at z; cases z)]; exact e⟩
 .by_cases hb:b=a
  .subst hb
   rw[zt]at q;cases q;exact new
  .rw[zp hb]at q
   refine(aD b v q).de (λ_ _ _ r=>r) (λc r=>?_) λc xs r=>?_
   .rw[zp λz=>by subst z; rw[fW]at r; cases r; exact nw _ rfl]; exact r
   .rw[zp λz=>by subst z; rw[fW]at r; cases r; exact no _ rfl]; exact r
section
variable{X:Cx}{C:Qg}
end
def jO(P:Qe)(w:Qh)(K:qc):jP:=λouter H s E e s'=>∃ a H',e=.ref a/\s'.os=s.os/\AllBare s'.gens/\Un (hU outer) [] H H' s.heap s'.heap/\cZ P w K H' s'.heap/\E e none H'
section
variable{X:Cx}{EX:cJ}{f:Qg}{es:Qa Expr}
def oh(EX:cJ)(σ:St):XK:=λu _ H'=>∃ a,u=.ref a/\EX σ a H'
def ud(sp:Sp)(EX:cJ)(t:TA):TE:=λσ H Q=>t σ H λvs H1=>sp vs H1 Q<|oh EX σ
theorem SK{s:Qd}{Q:VK}{vs:Qa V}(F:bp X.prog X.w X.K X.mg X.base (jO X.prog X.w X.K) k f fd ps sp)(hr:aE k X.A)(hb:jY X.K fd ps [])(hx:iS X EX)
  (I:Inv X pins σ H s) (r:zH vs us) (h:sp vs H Q (oh EX σ)):wpAny (model X.prog X.w) X.A (call (.ref f) us) (EP X pins σ Q) X.xe s:=by
 have hl:(us++[]).length=ps.length:=by rw[List.append_nil,<-r.length]; exact F.len _ _ _ _ h
 have rh:=hb s us I.cB hl;rw[List.append_nil]at rh;refine wpAny_call<|codeAny_mono (F.run X.A X.stack s H ⟨us,[]⟩ us vs Q (oh EX σ) hr I.nY rh r h) λr s' hq=>?_;cases r with
 | error e=>
  have(a,H',rfl,os,bare,un,aD,a',ea,q):=hq;cases ea;have(hh,g,d,t,oU):=s';obtain rfl:oU=s.os:=os;exact hx pins σ H' _ a (I.call (h':=hh) (g':=g) (d':=d) (t':=t) (ch:=[]) un aD bare (λb z=>absurd z (by simp))) q
 | ok fl=>
  cases fl with
  | ret u=>exact I.after hq
  | next=>exact False.elim hq
  | brk=>exact False.elim hq
  | cont=>exact False.elim hq
theorem UY(F:bp X.prog X.w X.K X.mg X.base (jO X.prog X.w X.K) k f fd ps sp)(hr:aE k X.A)(hg:Gl X x)(hm:X.mg x=some (.ref f))(hk:PySem.W.keepIn X.K (.ref f)=true)(hb:jY X.K fd ps [])(hx:iS X EX)
  (ha:PA X (e::es) t) (cx:(x==("__debug__":Str))=false:=by decide) (he:starEach (e::es) X.env=(false,eval e X.env)::starEach es X.env:=by rfl) (bZ:(backTo pos<|starEach es X.env).any (·.1)=false:=by rfl):
  PE X (.Call (.Name x p) (e::es) [] pos) (ud sp EX t):=by
 intro pins s σ H Q I h;refine wpAny_Call_Name_kw<|p4 I hg hm ?_ cx;refine ç (h₀:=X.base) I.ok.mod.oX hk (aJ (ha pos pins s σ H _ I h) λus s1 ⟨vs,H1,I1,r,q⟩=>⟨I1.cB,?_⟩) he bZ;exact SK F hr hb hx I1 r q
def rD(E:XK):cJ:=λ_ a H=>∃ C fs,m8 H a C fs/\∀ H',m8 H' a C fs->(∀ b o,b≠a->H b=some o->H' b=some o)->(∀ b,H' b=none->H b=none)->E (.ref a) none H'
theorem Gm{f:Qg}{cd:Qc}{s:Qd}{E:XK}:
  iS (iE (jO P w K) P w K mg base N qual scope f cd A outer s H E) (rD E):=by
 intro pins σ H1 s1 a I ⟨C,fs,fl,q⟩;show wpAny _ _ (leaving _ _) _ _ _;unfold leaving;refine qa<|Ji (outer:=outer) I I.ok.frames rfl rfl fl λh' H' I' ZK k1 k2=>?_;exact⟨a,H',rfl,I'.os,I'.bare,I'.base,I'.aD,q H' ZK k1 k2⟩
end
end L2
namespace L2
open PySem PySem.Spec PyProof.Rows
open PySem.W (Looks InstAt)
abbrev Cx.body(X:Cx)(pn:Qa (Qg×Obj))(E:Qc->Qd->Prop):Cx:={X with pn:=pn,xe:=E}
abbrev Cx.held(X:Cx)(a:Qg):Cx:={X with A:=X.A.mark (some<|.ref a),calm:=false,xe:=λ_ _=>False}
section
variable{X:Cx}{s:Qd}{pn:Qa (Qg×Obj)}
theorem Cx.Ok.body(ok:X.Ok):(X.body pn E).Ok:=⟨ok.mod,ok.kind,ok.glob,ok.blt,ok.above,ok.inj,ok.has,ok.pC,ok.hd,ok.frames,ok.qG,ok.tu,ok.bs,ok.kJ,ok.g8,ok.i8,ok.cS,ok.mR⟩
theorem Cx.Ok.held(ok:X.Ok):(X.held a).Ok:=⟨ok.mod,ok.kind,ok.glob,ok.blt,ok.above,ok.inj,ok.has,ok.pC,(λz=>by cases z),ok.frames,ok.qG,ok.tu,ok.bs,ok.kJ,ok.g8,ok.i8,ok.cS,ok.mR⟩
theorem Inv.body(I:Inv X pins σ H s):Inv (X.body (X.pn++pins) E) [] σ H s:=⟨I.ok.body,I.os,I.bare,I.base,I.loc,I.cell,I.free,I.aY,λp hp=>I.pin p (by simpa using hp),I.aD,I.len⟩
theorem Inv.eQ{gZ:Qa (Qg×Obj)}(ok:X.Ok)(I:Inv (X.body (X.pn++pins) E) gZ σ H s):Inv X pins σ H s:=⟨ok,I.os,I.bare,I.base,I.loc,I.cell,I.free,I.aY,λp hp=>I.pin p<|Ö _ hp,I.aD,I.len⟩
theorem Inv.held(I:Inv X pins σ H s):Inv (X.held a) pins σ H s:=⟨I.ok.held,I.os,I.bare,I.base,I.loc,I.cell,I.free,I.aY,I.pin,I.aD,I.len⟩
theorem Inv.gm(ok:X.Ok)(I:Inv (X.held a) pins σ H s):Inv X pins σ H s:=⟨ok,I.os,I.bare,I.base,I.loc,I.cell,I.free,I.aY,I.pin,I.aD,I.len⟩
theorem WD{M:Model}{Q:Unit->Qd->Prop}{C:Qg}{fs:Qa (Str×V)}(I:Inv X pins σ H s)(fl:m8 H a C fs)(k:∀ h',Inv X pins σ H {s with heap:=h'}->Q () {s with heap:=h'}):
  wpAny M A (setFlight (.ref a) none) Q E s:=by
 have(d,tb,ea,et,ed):=fl;obtain⟨⟨oe,vs,he,hc,jJ,hv,h1,_⟩,_⟩:=I.aD a _ ea;unfold setFlight;cases tb with
 | none=>
  refine qa<|wpAny_field (x:=.none) he hv h1 ?_;rw[if_neg (by decide)];exact qb<|k s.heap I
 | some T=>
  have(eT,nT):=et T rfl;obtain⟨⟨oT,ts,hT,s9,h3⟩,_⟩:=I.aD T _ eT;refine qa<|wpAny_field (x:=.ref T) he hv h1 ?_;rw[if_pos (show(Value.ref T != Value.none)=true from by simp)];refine wpAny_setField hT s9 (Ç.mp h3).1 ?_;have vH:=Ü s9 (·.setIfInBounds 3 ((none:Qb Qg).elim Value.none λf=>rawInt f));have vL:=Ô (Obj.mapFields (·.setIfInBounds 3 ((none:Qb Qg).elim Value.none λf=>rawInt f))) hT (Õ vH);have I7:=I.write (x:=T) (e:=T) (o:=oN T) (h':=s.heap.update T (Obj.mapFields (·.setIfInBounds 3 ((none:Qb Qg).elim Value.none λf=>rawInt f)))) (t':=s.toks) (by rw[eT]; trivial) (.inl rfl) (λb u nb e=>(Æ _ _<|Ne.symm nb).trans e) ⟨_,vL⟩
   (Cp ⟨_,_,vL,vH,by have:=(Ç.mp h3).1; simp[this]⟩)
  have eu:upd H T (oN T)=H:=by
   funext b
   unfold upd;split
   .rename_i z; rw[z,eT]
   .rfl
  rw[eu]at I7;exact k _ I7
theorem yp{M:Model}{Q:Unit->Qd->Prop}{n:Str}(I:Inv X pins σ H s)(hN:X.N.Nodup)(hi:X.N[i]?=some n)(hx:X.env.scope.names.lookup n=some .local)
  (h:∀ s',Inv X pins (σ.set i none) H s'->Q () s'):wpAny M A (do bindName X.env n .none; unbindBehindTheSuite X.env n pos) Q E s:=by
 have(m,hn,hl):=id I.loc;have lI:(X.env.scope.kind==.class || (X.env.scope.kind==.module && X.env.locals != X.env.globals))=false:=by rw[I.ok.kind]; rfl
 have nP:i < σ.length:=by rw[I.len]; exact(qk.mp hi).1
 refine wpAny_nameGoes_keeps hx hn lI λh' v pe hs=>h _ ?_;refine Inv.tok (s:={s with heap:=h'}) ?_ _;refine⟨I.ok,I.os,I.bare,⟨λb o e n hb hx=>?_,λb o e n hb hx=>?_,I.base.free,λb o e hx=>?_,I.base.c9,I.base.cT,I.base.dF⟩,⟨_,pe,λj y v' e1 e2 e3=>?_⟩,λy c e=>?_,I.free,I.aY,λp hp=>?_,λb u e=>?_,by simpa using I.len⟩
 .exact(hs.2 b<|qj<|qi (qh e) I.ok.above).trans (I.base.keep b o e n hb hx)
 .have(sl,e1):=I.base.slot b o e n hb hx
  exact⟨sl,(hs.2 b<|qj<|qi (qh e) I.ok.above).trans e1⟩
 .have(o',e1):=I.base.there b o e hx
  exact⟨o',(hs.2 b<|qj<|qi (qh e) I.ok.above).trans e1⟩
 .by_cases hj:j=i
  .subst hj
   rw[List.getElem?_set_self nP]at e2;cases e2
  .rw[qB<|Ne.symm hj]at e2
   have(u',r',q):=hl j y v' e1 e2 e3;refine⟨u',r',?_⟩;rcases q with⟨k,e⟩|⟨k,c,e,z⟩
   .refine .inl ⟨k,?_⟩
    have:y≠n:=λe=>hj<|CT hN e1<|e▸hi;simp[this,e]
   .exact .inr ⟨k,c,e,z.sameBut hs<|I.kI y c e⟩
 .have(w',z):=I.cell y c e
  exact⟨w',z.sameBut hs<|I.kI y c e⟩
 .have(e,n,ne,nf,d):=I.pin p hp
  exact⟨(hs.2 p.1 ne).trans e,n,ne,nf,d⟩
 .refine(I.aD b u e).de (λc w' hc q=>(hs.2 c ?_).trans q) (λ_ q=>q) λ_ _ q=>q
  rintro rfl;rcases hc with rfl|hc
  .rw[I.free]at e; cases e
  .rw[I.free]at hc; cases hc
end
def ON(D:Ends)(i:Nat):Ends:={nx:=λσ H=>D.nx (σ.set i none) H,rt:=D.rt,bk:=λσ H=>D.bk (σ.set i none) H,ct:=λσ H=>D.ct (σ.set i none) H}
def LZ(K:qc)(C':Qg)(i:Nat)(th:TS)(D:Ends):cJ:=λσ a H=>∃ C fs,m8 H a C fs/\XC K C/\PySem.W.mroIn K C (.ref C')=some true/\
 ∀ H',XV H' a C fs->(∀ b o,b≠a->H b=some o->H' b=some o)->(∀ b,H' b=none->H b=none)->th (ON D i) (σ.set i<|some<|.ref a) H'
def AY(K:qc)(C':Qg)(i:Nat)(tb:cJ->TS)(th:TS):TS:=λD σ H=>tb (LZ K C' i th D) D σ H
section
variable{C:Qg}
theorem VB{d:Drawn}{t:Nat}{e:Qg}{oe:Obj}{Q:Bool->Qd->Prop}(I:K.In h)(X:XC K C)(X':XC K C')(he:h.get? e=some oe)(lI:oe.cls=.ref C)(hm:PySem.W.mroIn K C (.ref C')=some true)
  (hq:Q true ⟨h,g,d,t,os⟩):wpAny (model prog w) A (excMatches (.ref e)<|.ref C') Q E ⟨h,g,d,t,os⟩:=by
 have(nm,qn,N,bs,bm,sn,sub,ab,col,dd,k0,k1,k2,k3,k5,eC,tl):=X.at_;have(nm',qn',N',bs',Z1,sn',Yg,ab',ZW,dd',k0',k1',k2',k3',k5',ZS,Ye):=X'.at_;have hC:=I _ _ eC;have tm:=I _ _ ZS;have ER:oM.contains (.type "BaseException")=true:=by decide
 have ES:(Value.ref C'::Z1).contains (.type "BaseException")=true:=by rw[List.contains_cons,(PySem.W.tail_of_in I Ye).hasType ER,Bool.or_true]
 have Zk:(Value.ref C::bm).contains (.ref C')=true:=by
  unfold PySem.W.mroIn PySem.W.clsIn at hm;rw[eC]at hm;simpa [excClassObj] using hm
 have f:=tc_notTuple;unfold excMatches
 repeat (first | (with_reducible refine wpAny_loadPart_at he ?_; rw[lI]) | with_reducible refine wpAny_loadPart_at tm ?_ | (with_reducible refine wpAny_isSubtype_exc tm ?_; rw[ES]) | (with_reducible refine wpAny_isSubtype_exc hC ?_; rw[Zk]) | wp_step)
 exact hq
end
section
variable{X:Cx}{n cls:Str}{body fU:Qa Stmt}{kc:Stmt}{tb:cJ->TS}{th:TS}{np nO:Pos}
theorem O6(i7:X.stack=X.env::outer)(hf:X.env.frame=some X.env.locals)(hN:X.N.Nodup)(hi:X.N[i]?=some n)(hl:X.env.scope.names.lookup n=some .local)(hg:Gl X cls)(hm:X.mg cls=some (.ref C'))(tm:XC X.K C')
  (hb:∀ (pn:Qa (Qg×Obj)) (E:Qc->Qd->Prop) (EX:cJ),iS (X.body pn E) EX->cW (X.body pn E) body (tb EX))
  (hs:∀ a,cW (X.held a) (kc::fU) th) (cx:(cls==("__debug__":Str))=false:=by decide):
  PS X (.Try body [.ExceptHandler (some<|.Name cls np) (some n) (kc::fU) nO] [] [] pos) (AY X.K C' i tb th):=by
 intro pins s σ H D I h;refine wpAny_Try_except ?_;have run:=hb (X.pn++pins) (λe aH=>wpAny (model X.prog X.w) X.A (noteFrame e X.env) (λ_ lz=>wpAny (model X.prog X.w) X.A (setFlight e none) (λ_ DL=>
  wpAny (model X.prog X.w) X.A (handleBy e X.env [.ExceptHandler (some<|.Name cls np) (some n) (kc::fU) nO]) (SP X pins D) X.xe DL) X.xe lz) X.xe aH) (LZ X.K C' i th D) ?_ [] s σ H D I.body h
 .refine wpAny_mono run (λf s1 q=>?_) λ_ _ z=>z
  cases f with
  | next=>have(aC,H',I',q):=q; exact wpAny_execs_nil ⟨aC,H',I'.eQ I.ok,q⟩
  | brk=>have(aC,H',I',q):=q; exact⟨aC,H',I'.eQ I.ok,q⟩
  | cont=>have(aC,H',I',q):=q; exact⟨aC,H',I'.eQ I.ok,q⟩
  | ret u=>have(v,aC,H',I',r,q):=q; exact⟨v,aC,H',I'.eQ I.ok,r,q⟩
 .intro gZ aC H1 s1 a I1 ⟨C,fs,fl,xc,Y5,q⟩
  have J1:=I1.eQ I.ok;refine Ji (outer:=outer) J1 I.ok.frames i7 hf fl λh2 H2 J2 Ly k1 k2=>?_;have(d2,tb2,Av,et2,ZR):=id Ly;obtain⟨⟨oe,vs,he,hc,jJ,hv,h1,_⟩,_⟩:=J2.aD a _ Av;refine wpAny_handleBy_cons (codeAny_handlers_test<|p4 (J2.held (a:=a)) hg hm ?_ cx) (by intro q; cases q);refine VB J2.cB xc tm he hc Y5<|codeAny_handlers_suite_as ?_;refine WD J2 Ly λh3 J3=>?_;refine uF (v:=.ref a) J3 hN hi (.inl hl) rfl (λs4 Z5=>?_)<|.inr hl;have J4:=Z5.held (a:=a);obtain⟨⟨sR,vs4,sZ,Zm,Ll,YM,_⟩,_⟩:=J4.aD a _ Av;have(YW,g4,dr4,Yf,os4):=s4;have J6:=J4.write (x:=a) (e:=a) (o:=.bu sR (.own 0)) (h':=YW) (t':=Yf) (by rw[Av]; trivial) (.inl rfl) (λb u nb e=>e) ⟨sR,sZ⟩ ⟨sZ,_,sZ⟩;have kk:∀ b o,b≠a->H1 b=some o->upd H2 a (.bu sR<|.own 0) b=some o:=λb o nb e=>by rw[zp nb]; exact k1 b o nb e
  have Yl:=q (upd H2 a<|.bu sR<|.own 0) ⟨sR,zt,Zm,by have(c1,c2,c3,c4):=sR; cases YM; rfl,?_⟩ kk (λb e=>?_)
  .refine wpAny_mono (hs a pins _ _ _ _ J6 Yl) (λf s5 q5=>?_) λ_ _ z=>z.elim
   cases f with
   | next=>have(AN,H5,J7,q7):=q5; exact yp (J7.gm I.ok) hN hi hl λs6 J8=>⟨_,H5,J8,q7⟩
   | brk=>have(AN,H5,J7,q7):=q5; exact yp (J7.gm I.ok) hN hi hl λs6 J8=>⟨_,H5,J8,q7⟩
   | cont=>have(AN,H5,J7,q7):=q5; exact yp (J7.gm I.ok) hN hi hl λs6 J8=>⟨_,H5,J8,q7⟩
   | ret u=>have(v,AN,H5,J7,r7,q7):=q5; exact yp (J7.gm I.ok) hN hi hl λs6 J8=>⟨v,_,H5,J8,r7,q7⟩
  .rcases ZR with⟨e1,e2⟩|⟨od,dx,e1,e2⟩
   .exact .inl ⟨e1,Ll.trans e2⟩
   .exact .inr ⟨od,dx,Ll.trans e1,by rw[zp λz=>by rw[z,Av]at e2; cases e2]; exact e2⟩
  .by_cases b2:b=a
   .rw[b2,zt]at e; cases e
   .rw[zp b2]at e; exact k2 b e
end
end L2
namespace L2
open PySem PySem.Spec PyProof.Rows
abbrev D:=PyData
def YD:Key->D
 | .inl i=>.int i
 | .inr x=>.str x
def Ed(ks:Qa Key):D:=.tuple (ks.map YD)
def PL(K:qc)(H:Hp)(a:Qg)(xs:Qa V):Prop :=
 (∃ o,H a=some (.bu o<|.lst xs))\/∃ (o:Obj) (aj:Array Qc) (n:Nat),K.lookup a=some o/\o.cls=.type "list"/\o.dict=none/\o.data=.seq aj n/\aj.size<=sizeLine/\zH xs aj.toList
def XN(K:qc)(n:Str)(C:Qg):Prop:=PySem.W.nsIn K mainGlobals n=some (some<|.ref C)
theorem cq.sq{xs:Qa V}(h:cq K H a xs):cy K H a xs:=h.imp .inl λ⟨o,i,n,a,b,c,d,e,_⟩=>⟨o,i,n,a,b,c,d,e⟩
theorem cq.kp{xs:Qa V}(e:Kp H H')(h:cq K H a xs):cq K H' a xs:=h.keeps e.tup
mutual
inductive DF (K:qc) (H:Hp):V->D->Prop
 | aK:DF K H .aK .none
 | bl (b:Bool):DF K H (.bl b) (.bool b)
 | int (i:Int):DF K H (.int i) (.int i)
 | str (x:Str):DF K H (.str x) (.str x)
 | tup {a:Qg} {xs:Qa V} {ds:Qa D} (h:cq K H a xs) (t:aR K H xs ds):DF K H (.ref a) (.tuple ds)
 | lst {a:Qg} {xs:Qa V} {ds:Qa D} (h:PL K H a xs) (t:aR K H xs ds):DF K H (.ref a) (.list ds)
 | kH {a:Qg} {o:Obj} {ws:Qa (Qa Key×V)} {aL:Qa (D×D)} (h:H a=some (.bu o<|.dT ws)) (t:mX K H ws aL):DF K H (.ref a) (.dict aL)
 | exc {a C:Qg} {n:Str} {fs:Qa (Str×V)} {ds:Qa (D×D)} (h:XV H a C fs) (e:XN K n C) (t:iO K H fs ds):DF K H (.ref a) (.dict<|(.none,.str n)::ds)
 | obj {a C dx:Qg} {o:Obj} {n:Str} {fs:Qa (Str×V)} {ds:Qa (D×D)} (h:H a=some (.bu o<|.ins C dx fs)) (e:XN K n C) (t:iO K H fs ds):DF K H (.ref a) (.dict<|(.bool true,.str n)::ds)
inductive aR (K:qc) (H:Hp):Qa V->Qa D->Prop
 | nil:aR K H [] []
 | cons {v:V} {d:D} {vs:Qa V} {ds:Qa D} (h:DF K H v d) (t:aR K H vs ds):aR K H (v::vs) (d::ds)
inductive mX (K:qc) (H:Hp):Qa (Qa Key×V)->Qa (D×D)->Prop
 | nil:mX K H [] []
 | cons {k:Qa Key} {v:V} {d:D} {vs:Qa (Qa Key×V)} {ds:Qa (D×D)} (h:DF K H v d) (t:mX K H vs ds):mX K H ((k,v)::vs) ((Ed k,d)::ds)
inductive iO (K:qc) (H:Hp):Qa (Str×V)->Qa (D×D)->Prop
 | nil:iO K H [] []
 | cons {k:Str} {v:V} {d:D} {vs:Qa (Str×V)} {ds:Qa (D×D)} (h:DF K H v d) (t:iO K H vs ds):iO K H ((k,v)::vs) ((.str k,d)::ds)
end
theorem XV.kp{C:Qg}{fs:Qa (Str×V)}(e:Kp H H')(h:XV H a C fs):XV H' a C fs:=by
 have(ox,h1,h2,h3,h4):=h;refine⟨ox,e.bu _ _ _ h1,h2,h3,?_⟩;rcases h4 with h4|⟨od,dx,h5,h6⟩
 .exact .inl h4
 .exact .inr ⟨od,dx,h5,e.bu _ _ _ h6⟩
theorem PL.kp{xs:Qa V}(e:Kp H H')(h:PL K H a xs):PL K H' a xs:=by
 rcases h with⟨o,h⟩|h
 .exact .inl ⟨o,e.bu _ _ _ h⟩
 .exact .inr h
theorem PL.sq{xs:Qa V}(h:PL K H a xs):bE K H a xs:=by
 rcases h with⟨o,h⟩|h
 .exact .inl (.inr ⟨o,h⟩)
 .exact .inr h
mutual
theorem DF.kp(e:Kp H H'):∀ {v:V} {d:D},DF K H v d->DF K H' v d
 | _,_,.aK=>.aK
 | _,_,.bl b=>.bl b
 | _,_,.int i=>.int i
 | _,_,.str x=>.str x
 | _,_,.tup h t=>.tup (h.keeps e.tup)<|aR.kp e t
 | _,_,.lst h t=>.lst (h.kp e)<|aR.kp e t
 | _,_,.kH h t=>.kH (e.bu _ _ _ h)<|mX.kp e t
 | _,_,.exc h n t=>.exc (h.kp e) n<|iO.kp e t
 | _,_,.obj h n t=>.obj (e.bu _ _ _ h) n<|iO.kp e t
theorem aR.kp(e:Kp H H'):∀ {v:Qa V} {d:Qa D},aR K H v d->aR K H' v d
 | _,_,.nil=>.nil
 | _,_,.cons h t=>.cons (DF.kp e h)<|aR.kp e t
theorem mX.kp(e:Kp H H'):∀ {v:Qa (Qa Key×V)} {d:Qa (D×D)},mX K H v d->mX K H' v d
 | _,_,.nil=>.nil
 | _,_,.cons h t=>.cons (DF.kp e h)<|mX.kp e t
theorem iO.kp(e:Kp H H'):∀ {v:Qa (Str×V)} {d:Qa (D×D)},iO K H v d->iO K H' v d
 | _,_,.nil=>.nil
 | _,_,.cons h t=>.cons (DF.kp e h)<|iO.kp e t
end
section
theorem aR.snoc{d:D}(h:DF K H v d):∀ {vs:Qa V} {ds:Qa D},aR K H vs ds->aR K H (vs++[v]) (ds++[d])
 | _,_,.nil=>.cons h .nil
 | _,_,.cons a t=>.cons a<|aR.snoc h t
theorem aR.len:∀ {vs:Qa V} {ds:Qa D},aR K H vs ds->vs.length=ds.length
 | _,_,.nil=>rfl
 | _,_,.cons _ t=>congrArg (·+1)<|aR.len t
theorem aR.get:∀ {vs:Qa V} {ds:Qa D} {i:Nat} {d:D},aR K H vs ds->ds[i]?=some d->∃ v,vs[i]?=some v/\DF K H v d
 | _,_,0,_,.cons h _,e=>by
  cases(show some _=some _ from e);exact⟨_,rfl,h⟩
 | _,_,i+1,_,.cons _ t,e=>aR.get (i:=i) t e
 | _,_,0,_,.nil,e=>by cases e
 | _,_,_+1,_,.nil,e=>by cases e
theorem aR.get':∀ {vs:Qa V} {ds:Qa D} {i:Nat} {v:V},aR K H vs ds->vs[i]?=some v->∃ d,ds[i]?=some d/\DF K H v d
 | _,_,0,_,.cons h _,e=>by
  cases(show some _=some _ from e);exact⟨_,rfl,h⟩
 | _,_,i+1,_,.cons _ t,e=>aR.get' (i:=i) t e
 | _,_,0,_,.nil,e=>by cases e
 | _,_,_+1,_,.nil,e=>by cases e
theorem aR.take:∀ {vs:Qa V} {ds:Qa D} (n:Nat),aR K H vs ds->aR K H (vs.take n) (ds.take n)
 | _,_,0,_=>by simpa using aR.nil
 | _,_,n+1,.nil=>by simpa using aR.nil
 | _,_,n+1,.cons h t=>.cons h<|aR.take n t
theorem aR.drop:∀ {vs:Qa V} {ds:Qa D} (n:Nat),aR K H vs ds->aR K H (vs.drop n) (ds.drop n)
 | _,_,0,q=>q
 | _,_,n+1,.nil=>by simpa using aR.nil
 | _,_,n+1,.cons h t=>aR.drop n t
theorem aR.set{d:D}(h:DF K H v d):∀ {vs:Qa V} {ds:Qa D} (n:Nat),aR K H vs ds->aR K H (vs.set n v) (ds.set n d)
 | _,_,_,.nil=>.nil
 | _,_,0,.cons _ t=>.cons h t
 | _,_,n+1,.cons a t=>.cons a<|aR.set h n t
end
inductive PU where
 | d (x:D) | l (xs:Qa D) | t (aL:Qa (Qa Key×D)) | x (aL:Qa (Qa K3×D))
inductive U where
 | d (x:D)
 | l (xs:Qa D) | t (aL:Qa (Qa Key×D)) | k (aL:Qa (Key×D))
 | o (c:Str) (fs:Qa (Str×PU))
def U.own:U->Bool
 | .d _=>false
 | _=>true
def mV{κ:Type}(K:qc)(H:Hp):Qa (κ×V)->Qa (κ×D)->Prop:=Paired λp q=>p.1=q.1/\DF K H p.2 q.2
def vZ(C dx:Qg)(vs:Qa (Str×V)):Qa (Qg×HO)->HO
 | []=>.ins C dx vs
 | (b,p)::r=>.sub b p<|vZ C dx vs r
inductive FO (K:qc) (H:Hp):Qa (Str×V)->Qa (Qg×HO)->Qa (Str×PU)->Prop
 | nil:FO K H [] [] []
 | d {n:Str} {v:V} {x:D} {vs:Qa (Str×V)} {ps:Qa (Qg×HO)} {fs:Qa (Str×PU)} (h:DF K H v x) (t:FO K H vs ps fs):FO K H ((n,v)::vs) ps ((n,.d x)::fs)
 | l {n:Str} {b:Qg} {us:Qa V} {xs:Qa D} {vs:Qa (Str×V)} {ps:Qa (Qg×HO)} {fs:Qa (Str×PU)} (h:aR K H us xs) (t:FO K H vs ps fs):FO K H ((n,.ref b)::vs) ((b,.lst us)::ps) ((n,.l xs)::fs)
 | t {n:Str} {b:Qg} {us:Qa (Qa Key×V)} {xs:Qa (Qa Key×D)} {vs:Qa (Str×V)} {ps:Qa (Qg×HO)} {fs:Qa (Str×PU)} (h:mV K H us xs) (t:FO K H vs ps fs):FO K H ((n,.ref b)::vs) ((b,.dT us)::ps) ((n,.t xs)::fs)
 | x {n:Str} {b:Qg} {us:Qa (Qa K3×V)} {xs:Qa (Qa K3×D)} {vs:Qa (Str×V)} {ps:Qa (Qg×HO)} {fs:Qa (Str×PU)} (h:mV K H us xs) (t:FO K H vs ps fs):FO K H ((n,.ref b)::vs) ((b,.dX us)::ps) ((n,.x xs)::fs)
def Rp(K:qc)(H:Hp)(v:V):U->Prop
 | .d x=>DF K H v x
 | .l xs=>∃ a us,v=.ref a/\H a=some (.lst us)/\aR K H us xs
 | .t aL=>∃ a ws,v=.ref a/\H a=some (.dT ws)/\mV K H ws aL
 | .k aL=>∃ a ws,v=.ref a/\H a=some (.dK ws)/\mV K H ws aL
 | .o c fs=>∃ a C dx vs ps,v=.ref a/\H a=some (vZ C dx vs ps)/\ps≠[]/\XN K c C/\(ps.map (·.1)).Nodup/\FO K H vs ps fs/\dx∉ps.map (·.1)/\∀ q∈ps,H q.1=some (.own a)
def Mo:HO->Prop
 | .lst _=>True
 | .dT _=>True
 | .dK _=>True
 | .sub _ _ _=>True
 | _=>False
theorem Mo.vZ{C:Qg}{ps:Qa (Qg×HO)}(h:ps≠[]):Mo (vZ C dx vs ps):=by
 cases ps with
 | nil=>exact absurd rfl h
 | cons p r=>trivial
theorem Rp.own{u:U}(h:Rp K H v u)(o:u.own=true):∃ a c,v=.ref a/\H a=some c/\Mo c:=by
 cases u with
 | d x=>cases o
 | l xs=>have(a,us,e,q,_):=h; exact⟨a,_,e,q,trivial⟩
 | t xs=>have(a,us,e,q,_):=h; exact⟨a,_,e,q,trivial⟩
 | k xs=>have(a,us,e,q,_):=h; exact⟨a,_,e,q,trivial⟩
 | o c fs=>have(a,C,dx,vs,ps,e,q,n,_):=h; exact⟨a,_,e,q,Mo.vZ n⟩
theorem mV.kp{κ:Type}(e:Kp H H'){ws:Qa (κ×V)}{aL:Qa (κ×D)}(h:mV K H ws aL):mV K H' ws aL:=Paired.j8 h λ_ _ z=>⟨z.1,z.2.kp e⟩
theorem FO.kp(e:Kp H H'){ps:Qa (Qg×HO)}{fs:Qa (Str×PU)}(h:FO K H vs ps fs):FO K H' vs ps fs:=by
 induction h with
 | nil=>exact .nil
 | d h _ ih=>exact .d (h.kp e) ih
 | l h _ ih=>exact .l (h.kp e) ih
 | t h _ ih=>exact .t (h.kp e) ih
 | x h _ ih=>exact .x (h.kp e) ih
theorem Rp.kp{u:U}(h:Rp K H v u)(e:Kp H H')(o:u.own=true->∀ a c,v=.ref a->H a=some c->H' a=some c):Rp K H' v u:=by
 cases u with
 | d x=>exact DF.kp e h
 | l xs=>have(a,us,ev,q,t):=h; exact⟨a,us,ev,o rfl a _ ev q,t.kp e⟩
 | t xs=>have(a,us,ev,q,t):=h; exact⟨a,us,ev,o rfl a _ ev q,t.kp e⟩
 | k xs=>have(a,us,ev,q,t):=h; exact⟨a,us,ev,o rfl a _ ev q,t.kp e⟩
 | o c fs=>have(a,C,dx,vs,ps,ev,q,n,x,nd,t,d,w):=h; exact⟨a,C,dx,vs,ps,ev,o rfl a _ ev q,n,x,nd,t.kp e,d,λz hz=>e.own _ _<|w z hz⟩
abbrev En:=Qa (Qb U)
def Ow(ρ:En)(σ:St)(a:Qg):Prop:=∃ (i:Nat) (u:U),ρ[i]?=some (some u)/\u.own=true/\σ[i]?=some (some<|.ref a)
structure Rs (K:qc) (ρ:En) (σ:St) (H:Hp):Prop where
 len:ρ.length=σ.length
 rep:∀ (i:Nat) (u:U),ρ[i]?=some (some u)->∃ v,σ[i]?=some (some v)/\Rp K H v u
 apart:∀ (i j:Nat) (u w:U),ρ[i]?=some (some u)->ρ[j]?=some (some w)->u.own=true->w.own=true->σ[i]?=σ[j]?->i=j
def wq(A:Qg->Prop)(H H':Hp):Prop:=∀ a o,H a=some o->¬A a->H' a=some o
structure gx (ρ af:En):Prop where
 len:af.length=ρ.length
 own:∀ (i:Nat) (u:U),af[i]?=some (some u)->u.own=true->∃ w,ρ[i]?=some (some w)/\w.own=true
 live:∀ (i:Nat) (u:U),ρ[i]?=some (some u)->∃ w,af[i]?=some (some w)
def Nw(H:Hp)(v:V)(u:U):Prop:=u.own=true->∃ a,v=.ref a/\H a=none
structure Go (K:qc) (ρ:En) (σ:St) (H:Hp) (af:En) (H':Hp):Prop where
 rs:Rs K af σ H'
 fr:wq (Ow ρ σ) H H'
 shr:gx ρ af
 dm:∀ a,H' a=none->H a=none
section
variable{ρ af c8:En}{wm:Hp}
theorem Rs.ow(r:Rs K ρ σ H)(o:Ow ρ σ a):∃ c,H a=some c/\Mo c:=by
 have(i,u,e,ou,es):=o;have(v,ev,p):=r.rep i u e;rw[es]at ev;cases ev;have(b,c,eb,q,m):=p.own ou;cases eb;exact⟨c,q,m⟩
theorem wq.kp(r:Rs K ρ σ H)(f:wq (Ow ρ σ) H H'):Kp H H':=by
 refine⟨λb xs h=>f b _ h λo=>?_,λb ob u h=>f b _ h λo=>?_,λb x h=>f b _ h λo=>?_⟩
 all_goals
  have(c,q,m):=r.ow o;rw[h]at q;cases q;exact m
theorem gx.refl(ρ:En):gx ρ ρ:=⟨rfl,λi u e o=>⟨u,e,o⟩,λi u e=>⟨u,e⟩⟩
theorem gx.trans(a:gx ρ af)(b:gx af c8):gx ρ c8:=⟨b.1.trans a.1,λi u e o=>let ⟨w,e',o'⟩:=b.2 i u e o; a.2 i w e' o',λi u e=>let ⟨w,e'⟩:=a.3 i u e; b.3 i w e'⟩
theorem gx.ow(s:gx ρ af)(o:Ow af σ a):Ow ρ σ a:=by
 have(i,u,e,ou,es):=o;have(w,e',o'):=s.2 i u e ou;exact⟨i,w,e',o',es⟩
theorem Go.refl(r:Rs K ρ σ H):Go K ρ σ H ρ H:=⟨r,λ_ _ h _=>h,gx.refl _,λ_ h=>h⟩
theorem Go.trans(a:Go K ρ σ H af H')(b:Go K af σ H' c8 wm):Go K ρ σ H c8 wm :=
 ⟨b.rs,λc o h n=>b.fr c o (a.fr c o h n) λz=>n<|a.shr.ow z,a.shr.trans b.shr,λc h=>a.dm c<|b.dm c h⟩
theorem Go.kp(r:Rs K ρ σ H)(g:Go K ρ σ H af H'):Kp H H':=g.fr.kp r
theorem Go.de{u:U}(r:Rs K ρ σ H)(g:Go K ρ σ H af H')(h:Rp K H v u)(n:u.own=true->∃ a,v=.ref a/\¬Ow ρ σ a):Rp K H' v u:=by
 refine h.kp (g.kp r) λo a c ev q=>?_;have(b,eb,nb):=n o;cases ev;cases eb;exact g.fr _ _ q nb
theorem Nw.out{u:U}(r:Rs K ρ σ H)(n:Nw H v u):u.own=true->∃ a,v=.ref a/\¬Ow ρ σ a:=λo=>by
 have(a,e,h):=n o;refine⟨a,e,λz=>?_⟩;have(c,q,_):=r.ow z;rw[h]at q;cases q
theorem cK.dm(s:cK H H'):∀ a,H' a=none->H a=none:=λa h=>by
 cases e:H a with
 | none=>rfl
 | some o=>rw[s a o e]at h; cases h
theorem Go.grow(r:Rs K ρ σ H)(s:cK H H'):Go K ρ σ H ρ H' :=
 ⟨⟨r.len,λi u e=>let ⟨v,ev,p⟩:=r.rep i u e; ⟨v,ev,p.kp s.kp λ_ a c _ q=>s a c q⟩,r.apart⟩,λa o h _=>s a o h,gx.refl _,s.dm⟩
end
inductive Ar where
 | s (i:Nat) | u (x:U)
def Ar.get(ρ:En):Ar->Qb U
 | .s i=>(ρ[i]?).join
 | .u x=>some x
def lR(K:qc)(ρ:En)(σ:St)(H H':Hp)(v:V):Ar->Prop
 | .s i=>σ[i]?=some (some v)/\∃ u,ρ[i]?=some (some u)
 | .u x=>Rp K H' v x/\Nw H v x
abbrev ME:=En->Qb (Ar×En)
abbrev MA:=En->Qb (Qa Ar×En)
abbrev MT:=En->Qb (Bool×En)
def VE(K:qc)(t:TE)(m:ME):Prop :=
 ∀ (ρ:En) (σ:St) (H:Hp) (a:Ar) (af:En) (Q:VK),Rs K ρ σ H->m ρ=some (a,af)->(∀ v H',Go K ρ σ H af H'->lR K af σ H H' v a->Q v H')->t σ H Q
def VT(K:qc)(t:TT)(m:MT):Prop :=
 ∀ (ρ:En) (σ:St) (H:Hp) (b:Bool) (af:En) (Q:Bool->Hp->Prop),Rs K ρ σ H->m ρ=some (b,af)->(∀ H',Go K ρ σ H af H'->Q b H')->t σ H Q
structure AM (K:qc) (ρ:En) (σ:St) (H H':Hp) (vs:Qa V) (as:Qa Ar):Prop where
 len:vs.length=as.length
 ar:∀ (i:Nat) (a:Ar),as[i]?=some a->∃ v,vs[i]?=some v/\lR K ρ σ H H' v a
 ap:∀ (i j:Nat) (x y:U),as[i]?=some (.u x)->as[j]?=some (.u y)->x.own=true->y.own=true->vs[i]?=vs[j]?->i=j
def kM(K:qc)(t:TA)(m:MA):Prop :=
 ∀ (ρ:En) (σ:St) (H:Hp) (as:Qa Ar) (af:En) (Q:Qa V->Hp->Prop),Rs K ρ σ H->m ρ=some (as,af)->(∀ vs H',Go K ρ σ H af H'->AM K af σ H H' vs as->Q vs H')->t σ H Q
section
variable{ρ af c8:En}{wm:Hp}{a:Ar}{u:U}
theorem Nw.mono(n:Nw H' v u)(h:∀ a,H' a=none->H a=none):Nw H v u:=λo=>let ⟨a,e,q⟩:=n o; ⟨a,e,h a q⟩
theorem Nw.nG(r:Rs K ρ σ H)(g:Go K ρ σ H af H')(n:Nw H v u):u.own=true->∃ a,v=.ref a/\¬Ow af σ a:=λo=>by
 have(b,e,q):=n.out r o;exact⟨b,e,λz=>q<|g.shr.ow z⟩
theorem lR.later(r:Rs K ρ σ H)(g1:Go K ρ σ H af H')(g2:Go K af σ H' c8 wm)(h:lR K af σ H H' v a)(e:a.get c8=some u):Rp K wm v u:=by
 cases a with
 | s i=>
  have(es,_):=h;have e':c8[i]?=some (some u):=by
   cases q:c8[i]? with
   | none=>rw[show Ar.get c8 (.s i)=(c8[i]?).join from rfl,q]at e; cases e
   | some o=>
    rw[show Ar.get c8 (.s i)=(c8[i]?).join from rfl,q]at e;cases o with
    | none=>cases e
    | some x=>cases e; rfl
  have(w,ew,p):=g2.rs.rep i u e';rw[es]at ew;cases ew;exact p
 | u x=>
  cases(show some x=some u from e);exact g2.de g1.rs h.1<|h.2.nG r g1
theorem lR.now(r:Rs K ρ σ H)(g1:Go K ρ σ H af H')(h:lR K af σ H H' v a)(e:a.get af=some u):Rp K H' v u:=h.later r g1 (Go.refl g1.rs) e
theorem Nw.data{x:D}:Nw H v (.d x):=λo=>by cases o
def ze(i:Nat):ME:=λρ=>match ρ[i]? with
 | some (some _)=>some (.s i,ρ)
 | _=>none
theorem zc:VE K (kO i) (ze i):=by
 intro ρ σ H a af Q r e q;unfold ze at e;split at e
 .rename_i u eu
  cases e;have(v,ev,p):=r.rep i u eu;exact⟨v,ev,q v H (Go.refl r) ⟨ev,u,eu⟩⟩
 .cases e
def mC(x:D):ME:=λρ=>some (.u<|.d x,ρ)
theorem yT{c:V}{x:D}(h:∀ H,DF K H c x):VE K (tC c) (mC x):=by
 intro ρ σ H a af Q r e q;cases e;exact q _ _ (Go.refl r) ⟨h H,Nw.data⟩
theorem zf{n:Int}:VE K (tC<|.int n) (mC<|.int n):=yT λ_=>.int n
theorem zE{n:Str}:VE K (tC<|.str n) (mC<|.str n):=yT λ_=>.str n
theorem iQ{n:Bool}:VE K (tC<|.bl n) (mC<|.bool n):=yT λ_=>.bl n
theorem jW:VE K (tC .aK) (mC .none):=yT λ_=>.aK
def VO(K:qc)(r:R2)(f:U->U->Qb U):Prop :=
 ∀ (x y:V) (a b u:U) (H:Hp) (Q:VK),Rp K H x a->Rp K H y b->f a b=some u->(∀ v H',cK H H'->Rp K H' v u->Nw H v u->Q v H')->r x y H Q
def ao(f:U->U->Qb U)(ma mb:ME):ME:=λρ=>(ma ρ).bind λp=>(mb p.2).bind λq=>(p.1.get q.2).bind λx=>(q.1.get q.2).bind λy=>(f x y).bind λu=>some (.u u,q.2)
theorem bQ{o:Qb α}{f:α->Qb β}{b:β}(h:o.bind f=some b):∃ a,o=some a/\f a=some b:=Option.bind_eq_some_iff.mp h
theorem zi{r:R2}{f:U->U->Qb U}{ma mb:ME}(h:VO K r f)(ha:VE K ta ma)(hb:VE K tb mb):VE K (mq r ta tb) (ao f ma mb):=by
 intro ρ σ H a af Q rs e q;obtain⟨⟨a1,au⟩,e1,e⟩:=bQ e;obtain⟨⟨b1,aB⟩,e2,e⟩:=bQ e;have(x,ex,e):=bQ e;have(y,ey,e):=bQ e;have(u,eu,e):=bQ e;cases e;refine ha ρ σ H a1 au _ rs e1 λv1 H1 g1 k1=>hb au σ H1 b1 aB _ g1.rs e2 λv2 H2 g2 k2=>?_;refine h _ _ x y u H2 _ (k1.later rs g1 g2 ex) (k2.now g1.rs g2 ey) eu λv H3 s p n=>?_;exact q v H3 ((g1.trans g2).trans<|Go.grow g2.rs s) ⟨p,n.mono (g1.trans g2).dm⟩
def VU(K:qc)(r:V->Hp->VK->Prop)(f:U->Qb U):Prop :=
 ∀ (x:V) (a u:U) (H:Hp) (Q:VK),Rp K H x a->f a=some u->(∀ v H',cK H H'->Rp K H' v u->Nw H v u->Q v H')->r x H Q
def cn(f:U->Qb U)(ma:ME):ME:=λρ=>(ma ρ).bind λp=>(p.1.get p.2).bind λx=>(f x).bind λu=>some (.u u,p.2)
theorem kl{r:V->Hp->VK->Prop}{f:U->Qb U}{ma:ME}(h:VU K r f)(ha:VE K ta ma):VE K (yV r ta) (cn f ma):=by
 intro ρ σ H a af Q rs e q;obtain⟨⟨a1,au⟩,e1,e⟩:=bQ e;have(x,ex,e):=bQ e;have(u,eu,e):=bQ e;cases e;refine ha ρ σ H a1 au _ rs e1 λv1 H1 g1 k1=>?_;refine h _ x u H1 _ (k1.now rs g1 ex) eu λv H3 s p n=>?_;exact q v H3 (g1.trans<|Go.grow g1.rs s) ⟨p,n.mono g1.dm⟩
def zk:MA:=λρ=>some ([],ρ)
def zb(me:ME)(ma:MA):MA:=λρ=>(me ρ).bind λp=>(ma p.2).bind λq=>some (p.1::q.1,q.2)
theorem zh:kM K jo zk:=by
 intro ρ σ H as af Q r e q;cases e;exact q [] H (Go.refl r) ⟨rfl,λi a e=>by simp at e,λi j x y e=>by simp at e⟩
theorem za{me:ME}{ma:MA}(he:VE K te me)(ha:kM K t ma):kM K (fP te t) (zb me ma):=by
 intro ρ σ H as af Q r e q;obtain⟨⟨a1,au⟩,e1,e⟩:=bQ e;obtain⟨⟨Ay,aB⟩,e2,e⟩:=bQ e;cases e;refine he ρ σ H a1 au _ r e1 λv1 H1 g1 k1=>ha au σ H1 Ay _ _ g1.rs e2 λvs H2 g2 s2=>?_;have DX:∀ x,a1=.u x->x.own=true->∃ b c,v1=.ref b/\H1 b=some c:=λx ea o=>by
  subst ea;have(b,c,eb,hb,_):=k1.1.own o;exact⟨b,c,eb,hb⟩
 have Yr:∀ (j:Nat) (y:U),Ay[j]?=some (.u y)->y.own=true->∃ b,vs[j]?=some (.ref b)/\H1 b=none:=λj y ej o=>by
  have(v,ev,k):=s2.ar j _ ej;have(b,eb,hb):=k.2 o;subst eb;exact⟨b,ev,hb⟩
 have ne:∀ (x:U) (j:Nat) (y:U),a1=.u x->x.own=true->Ay[j]?=some (.u y)->y.own=true->some v1≠vs[j]?:=λx j y ea ox ej oy z=>by
  have(b,c,e1,h1):=DX x ea ox;have(b',e2,h2):=Yr j y ej oy;rw[e2,e1]at z;cases z;rw[h1]at h2;cases h2
 refine q (v1::vs) H2 (g1.trans g2) ⟨by simp[s2.len],λi a ei=>?_,λi j x y ei ej ox oy ev=>?_⟩
 .cases i with
  | zero=>
   cases(show some a1=some a from ei);refine⟨v1,rfl,?_⟩;cases a1 with
   | s k=>
    have(es,w,ew):=k1;exact⟨es,g2.shr.live k w ew⟩
   | u x=>exact⟨g2.de g1.rs k1.1<|k1.2.nG r g1,k1.2⟩
  | succ i=>
   have(v,ev,k):=s2.ar i a ei;refine⟨v,ev,?_⟩;cases a with
   | s k'=>exact k
   | u x=>exact⟨k.1,k.2.mono g1.dm⟩
 .cases i with
  | zero=>
   cases j with
   | zero=>rfl
   | succ j=>exact absurd ev<|ne x j y (qw ei) ox ej oy
  | succ i=>
   cases j with
   | zero=>exact absurd ev.symm<|ne y i x (qw ej) oy ei ox
   | succ j=>exact congrArg (·+1)<|s2.ap i j x y ei ej ox oy ev
end
end L2
namespace L2
open PySem PySem.Spec PyProof.Rows
open Classical in
def nV(c:Int->Int->Prop)(g:Int->Int->D):U->U->Qb U
 | .d (.int i),.d (.int j)=>if c i j then some (.d<|g i j)else none
 | _,_=>none
def fI(g:Int->Int->D):U->U->Qb U
 | .d (.int i),.d (.int j)=>some<|.d<|g i j
 | _,_=>none
section
theorem DF.int_inv{i:Int}(h:DF K H v (.int i)):v=.int i:=by cases h; rfl
theorem DF.str_inv(h:DF K H v (.str x)):v=.str x:=by cases h; rfl
theorem DF.bJ{b:Bool}(h:DF K H v (.bool b)):v=.bl b:=by cases h; rfl
theorem DF.aV{ds:Qa D}(h:DF K H v (.tuple ds)):∃ a xs,v=.ref a/\cq K H a xs/\aR K H xs ds:=by cases h with|tup h t=>exact⟨_,_,rfl,h,t⟩
theorem DF.lst_inv{ds:Qa D}(h:DF K H v (.list ds)):∃ a xs,v=.ref a/\PL K H a xs/\aR K H xs ds:=by cases h with|lst h t=>exact⟨_,_,rfl,h,t⟩
theorem t5{c:Int->Int->Prop}{g:Int->Int->V}{gd:Int->Int->D}(h:∀ i j H,DF K H (g i j)<|gd i j):VO K (rI c g) (nV c gd):=by
 intro x y a b u H Q ha hb e q;unfold nV at e;split at e
 .rename_i i j
  split at e
  .rename_i hc
   cases e;exact⟨i,j,DF.int_inv ha,DF.int_inv hb,hc,q _ _ (λ_ _ z=>z) (h i j H) Nw.data⟩
  .cases e
 .cases e
theorem rO{g:Int->Int->V}{gd:Int->Int->D}(h:∀ i j H,DF K H (g i j)<|gd i j):VO K (iY g) (fI gd):=by
 intro x y a b u H Q ha hb e q;unfold fI at e;split at e
 .rename_i i j
  cases e;exact⟨i,j,DF.int_inv ha,DF.int_inv hb,q _ _ (λ_ _ z=>z) (h i j H) Nw.data⟩
 .cases e
def cY:=fI λi j=>.int<|i+j
def iC:=fI λi j=>.int<|i - j
def jT:=nV rH λi j=>.int<|i * j
def jn:=nV (λ_ j=>0 < j) λi j=>.int<|i % j
def t4:=nV t8 λi j=>.int<|i / j
def xC:=nV rT λi j=>.int<|i.fdiv j
def xi:=nV wR λi j=>.int<|i^j.toNat
def mT:=fI λi j=>.bool<|decide<|i < j
def tq:=fI λi j=>.bool<|decide<|i<=j
def nW:=fI λi j=>.bool<|decide<|j < i
def vS:=fI λi j=>.bool<|decide<|j<=i
theorem dC:VO K (iY λi j=>.int<|i+j) cY:=rO λi j H=>.int _
theorem jt:VO K (iY λi j=>.int<|i - j) iC:=rO λi j H=>.int _
theorem nB:VO K (rI rH λi j=>.int<|i * j) jT:=t5 λi j H=>.int _
theorem k7:VO K (rI (λ_ j=>0 < j) λi j=>.int<|i % j) jn:=t5 λi j H=>.int _
theorem Ik:VO K (rI t8 λi j=>.int<|i / j) t4:=t5 λi j H=>.int _
theorem Ij:VO K (rI rT λi j=>.int<|i.fdiv j) xC:=t5 λi j H=>.int _
theorem O5:VO K (rI wR λi j=>.int<|i^j.toNat) xi:=t5 λi j H=>.int _
theorem oB:VO K (iY λi j=>.bl<|decide<|i < j) mT:=rO λi j H=>.bl _
theorem xB:VO K (iY λi j=>.bl<|decide<|i<=j) tq:=rO λi j H=>.bl _
theorem pU:VO K (iY λi j=>.bl<|decide<|j < i) nW:=rO λi j H=>.bl _
theorem B6:VO K (iY λi j=>.bl<|decide<|j<=i) vS:=rO λi j H=>.bl _
def jS:U->Qb U
 | .d (.int i)=>some<|.d<|.int (-i)
 | _=>none
theorem l8:VU K (rU λi=>.int (-i)) jS:=by
 intro x a u H Q ha e q;unfold jS at e;split at e
 .rename_i i
  cases e;exact⟨i,DF.int_inv ha,q _ _ (λ_ _ z=>z) (.int _) Nw.data⟩
 .cases e
def U.py:U->Qb D
 | .d x=>some x
 | .l xs=>some<|.list xs
 | _=>none
mutual
theorem DF.dv:∀ {v:V} {d:D},DF K H v d->d.hasDict=false->DV K H v d
 | _,_,.aK,_=>.aK
 | _,_,.bl b,_=>.bl b
 | _,_,.int i,_=>.int i
 | _,_,.str x,_=>.str x
 | _,_,.tup h t,q=>.tup ((cq.sq h))<|aR.dv t (by simpa [PyData.hasDict] using q)
 | _,_,.lst h t,q=>.lst h.sq<|aR.dv t (by simpa [PyData.hasDict] using q)
 | _,_,.kH h t,q=>by simp[PyData.hasDict]at q
 | _,_,.exc h n t,q=>by simp[PyData.hasDict]at q
 | _,_,.obj h n t,q=>by simp[PyData.hasDict]at q
theorem aR.dv:∀ {v:Qa V} {d:Qa D},aR K H v d->PyData.hasDictAll d=false->gM K H v d
 | _,_,.nil,_=>.nil
 | _,_,.cons h t,q=>by
  simp only[PyData.hasDictAll,Bool.or_eq_false_iff]at q;exact .cons (DF.dv h q.1)<|aR.dv t q.2
end
theorem Rp.dv{u:U}{x:D}(h:Rp K H v u)(e:u.py=some x)(q:x.hasDict=false):DV K H v x:=by
 cases u with
 | d y=>cases e; exact DF.dv h q
 | l xs=>
  cases e;have(a,us,rfl,h1,h2):=h;exact .lst (bE.of h1)<|aR.dv h2 (by simpa [PyData.hasDict] using q)
 | t=>cases e
 | k=>cases e
 | o=>cases e
mutual
theorem yE:∀ (x:D),x.canLay0=true->x.hasDict=false
 | .none,_=>rfl
 | .bool _,_=>rfl
 | .int _,_=>rfl
 | .str _,_=>rfl
 | .list xs,h=>by simp only[PyData.hasDict]; exact bN xs (by simpa [PyData.canLay0] using h)
 | .tuple xs,h=>by simp only[PyData.hasDict]; exact bN xs (by simpa [PyData.canLay0] using h)
 | .dict _,h=>by simp[PyData.canLay0]at h
theorem bN:∀ (xs:Qa D),PyData.canLayAll0 xs=true->PyData.hasDictAll xs=false
 | [],_=>rfl
 | x::xs,h=>by
  simp only[PyData.canLayAll0,Bool.and_eq_true]at h;simp only[PyData.hasDictAll,yE x h.1,bN xs h.2];rfl
end
def xh(K:qc)(neg:Bool):R2:=λx y H Q=>∃ a b,DV K H x a/\DV K H y b/\SeqAt.shaped a=true/\SeqAt.shaped b=true/\Q (.bl (if neg=true then !PyData.eqv a b else PyData.eqv a b)) H
theorem Cm{X:Cx}(K:qc)(hK:X.K=K)(hr:aE k X.A):bK X (compareOp .Eq) (xh K false):=by
 subst hK;intro pins s σ H x y v u Q I rx ry h;have(a,b,da,db,sa,sb,q):=h;have(as,ra):=DV.reads I da rx;have(bs,rb):=DV.reads I db ry;exact SeqAt.compareEq_shaped ra rb sa sb hr.units ⟨.bl _,H,I,rfl,q⟩
theorem G6{X:Cx}(K:qc)(hK:X.K=K)(hr:aE k X.A):bK X (compareOp .NotEq) (xh K true):=by
 subst hK;intro pins s σ H x y v u Q I rx ry h;have(a,b,da,db,sa,sb,q):=h;have(as,ra):=DV.reads I da rx;have(bs,rb):=DV.reads I db ry;exact SeqAt.compareNe_shaped ra rb sa sb hr.units ⟨.bl _,H,I,rfl,q⟩
def lQ(neg:Bool)(a b:U):Qb U:=a.py.bind λx=>b.py.bind λy=>if SeqAt.shaped x=true/\SeqAt.shaped y=true then some (.d<|.bool (if neg=true then !PyData.eqv x y else PyData.eqv x y))else none
theorem xP(neg:Bool):VO K (xh K neg) (lQ neg):=by
 intro x y a b u H Q ha hb e q;have(dx,ex,e):=bQ e;have(dy,ey,e):=bQ e;split at e
 .rename_i hs
  cases e;exact⟨dx,dy,ha.dv ex<|yE _<|SeqAt.canLay_of_shaped hs.1,hb.dv ey<|yE _<|SeqAt.canLay_of_shaped hs.2,hs.1,hs.2,q _ _ (λ_ _ z=>z) (.bl _) Nw.data⟩
 .cases e
theorem aR.bM{xs:Qa V}{ds:Qa D}{i:Int}{d:D}(h:aR K H xs ds)(e:L2.bM ds i=some d):∃ v,L2.bM xs i=some v/\DF K H v d:=by
 unfold L2.bM at e ⊢;have(j,ej,e):=bQ e;have(v,ev,k):=h.get e;refine⟨v,?_,k⟩;rw[h.len,ej];exact ev
def cX:U->U->Qb U
 | .l ds,.d (.int i)=>(bM ds i).map .d
 | .d (.list ds),.d (.int i)=>(bM ds i).map .d
 | _,_=>none
def zY:U->U->Qb U
 | .d (.tuple ds),.d (.int i)=>(bM ds i).map .d
 | _,_=>none
theorem dU:VO K (Bj K) cX:=by
 intro x y a b u H Q ha hb e q;unfold cX at e;split at e
 .rename_i ds i
  have(d,ed,rfl):=qq.mp e;have(p,us,rfl,h1,h2):=ha;have(v,ev,k):=h2.bM ed;exact⟨p,us,i,v,rfl,DF.int_inv hb,bE.of h1,ev,q _ _ (λ_ _ z=>z) k Nw.data⟩
 .rename_i ds i
  have(d,ed,rfl):=qq.mp e;have(p,us,rfl,h1,h2):=DF.lst_inv ha;have(v,ev,k):=h2.bM ed;exact⟨p,us,i,v,rfl,DF.int_inv hb,h1.sq,ev,q _ _ (λ_ _ z=>z) k Nw.data⟩
 .cases e
theorem zr:VO K (Bi K) zY:=by
 intro x y a b u H Q ha hb e q;unfold zY at e;split at e
 .rename_i ds i
  have(d,ed,rfl):=qq.mp e;have(p,us,rfl,h1,h2):=DF.aV ha;have(v,ev,k):=h2.bM ed;exact⟨p,us,i,v,rfl,DF.int_inv hb,(cq.sq h1),ev,q _ _ (λ_ _ z=>z) k Nw.data⟩
 .cases e
end
end L2
namespace L2
open PySem PySem.Spec PyProof.Rows
section
variable{ρ af:En}
theorem pY{c:HO}(h:H a=some c)(m:Mo c)(o:HO):Kp H (upd H a o):=by
 refine⟨λb xs e=>?_,λb ob u e=>?_,λb x e=>?_⟩
 all_goals
  rw[zp<|Cb e h (by rintro rfl; exact m)];exact e
theorem Go.own{u u':U}{o:HO}(r:Rs K ρ σ H)(e:ρ[i]?=some (some u))(ou:u.own=true)(es:σ[i]?=some (some<|.ref a))(p:Rp K (upd H a o) (.ref a) u'):Go K ρ σ H (ρ.set i<|some u') (upd H a o):=by
 have hi:i < ρ.length:=(qk.mp e).1;have(c,hc,mc):=r.ow ⟨i,u,e,ou,es⟩;have kp:=pY hc mc o;refine⟨⟨by rw[List.length_set]; exact r.len,λj w ej=>?_,λj k w w' ej ek oj ok vU=>?_⟩,λb ob hb n=>?_,⟨List.length_set,λj w ej oj=>?_,λj w ej=>?_⟩,λb hb=>?_⟩
 .by_cases hj:i=j
  .subst hj
   rw[List.getElem?_set_self hi]at ej;cases ej;exact⟨_,es,p⟩
  .rw[qB hj]at ej
   have(v,ev,q):=r.rep j w ej;refine⟨v,ev,q.kp kp λow b c' eb hb=>?_⟩;have ne:b≠a:=by
    rintro rfl;exact hj<|r.apart i j u w e ej ou ow (by rw[es,ev,eb])
   rw[zp ne];exact hb
 .have own:∀ (j:Nat) (w:U),(ρ.set i<|some u')[j]?=some (some w)->w.own=true->∃ w',ρ[j]?=some (some w')/\w'.own=true:=λj w ej oj=>by
   by_cases hj:i=j
   .subst hj; exact⟨u,e,ou⟩
   .rw[qB hj]at ej; exact⟨w,ej,oj⟩
  have(x,ex,ox):=own j w ej oj;have(y,ey,oy):=own k w' ek ok;exact r.apart j k x y ex ey ox oy vU
 .have ne:b≠a:=by
   rintro rfl;exact n ⟨i,u,e,ou,es⟩
  rw[zp ne];exact hb
 .by_cases hj:i=j
  .subst hj; exact⟨u,e,ou⟩
  .rw[qB hj]at ej; exact⟨w,ej,oj⟩
 .by_cases hj:i=j
  .subst hj; exact⟨u',ß hi⟩
  .exact⟨w,by rw[qB hj]; exact ej⟩
 .by_cases jK:b=a
  .subst jK; rw[zt]at hb; cases hb
  .rw[zp jK]at hb; exact hb
theorem Rp.jD{u:U}(h:Rp K H v u)(o:u.own=true):∃ a,v=.ref a:=let ⟨a,_,e,_⟩:=h.own o; ⟨a,e⟩
def Fz(K:qc)(H:Hp)(v:V)(H':Hp):Prop :=
 (∃ a xs o,v=.ref a/\K.lookup a=none/\H a=some (.lst xs)/\H'=upd H a (.bu o<|.lst xs))\/(∃ a xs o,v=.ref a/\K.lookup a=none/\H a=some (.dT xs)/\H'=upd H a (.bu o<|.dT xs))\/
  ((∀ a,v=.ref a->(∀ xs,H a≠some (.lst xs))/\∀ xs,H a≠some (.dT xs))/\H'=H)
def DK(K:qc)(t:TE):TE:=λσ H Q=>t σ H λv H1=>∀ H2,Fz K H1 v H2->Q v H2
theorem Inv.nU{X:Cx}{s:Qd}{xs:Qa V}(I:Inv X pins σ H s)(e:H a=some (.lst xs)):∃ o,s.heap.get? a=some o/\Inv X pins σ (upd H a<|.bu o<|.lst xs) s:=by
 have ok:=(show cG X.prog X.w X.K H s.heap a (.lst xs) from I.aD a _ e);have(z,aj,n,r,h1):=id ok;refine⟨_,h1,?_⟩;have D2:cG X.prog X.w X.K (upd H a<|.bu {cls:=.type "list",data:=.seq aj.toArray n}<|.lst xs) s.heap a (.lst xs):=⟨z,aj,n,r,h1⟩;exact I.write (t':=s.toks) (h':=s.heap) (by rw[e]; trivial) (.inl rfl) (λ_ _ _ q=>q) ⟨_,h1⟩ ⟨h1,D2⟩
theorem OM{X:Cx}{t:TE}(h:PE X e t):PE X e (DK X.K t):=by
 intro pins s σ H Q I q;refine aJ (h pins s σ H _ I q) λu s1 hZ=>?_;have(v,H1,I1,r,k):=hZ;have nk:∀ a c,H1 a=some c->X.K.lookup a=none:=λa c ea=>by
  cases q:X.K.lookup a with
  | none=>rfl
  | some o=>rw[(I1.bs a o<|I1.ok.mod.oX a o q).2]at ea; cases ea
 by_cases c1:∃ a xs,v=.ref a/\H1 a=some (.lst xs)
 .have(a,xs,ev,ea):=c1
  have(o,_,I2):=I1.nU ea;exact⟨v,_,I2,r,k _<|.inl ⟨a,xs,o,ev,nk a _ ea,ea,rfl⟩⟩
 .by_cases c2:∃ a xs,v=.ref a/\H1 a=some (.dT xs)
  .have(a,xs,ev,ea):=c2
   have(o,_,I2):=I1.freeze ea;exact⟨v,_,I2,r,k _<|.inr<|.inl ⟨a,xs,o,ev,nk a _ ea,ea,rfl⟩⟩
  .exact⟨v,H1,I1,r,k _<|.inr<|.inr ⟨λa ev=>⟨λxs z=>c1 ⟨a,xs,ev,z⟩,λxs z=>c2 ⟨a,xs,ev,z⟩⟩,rfl⟩⟩
theorem xg{X:Cx}{t:TE}(h:Wr (PE X e t))(hK:X.K=K:=by rfl):Wr (PE X e<|DK K t):=hK▸⟨OM h.run⟩
def U.fz:U->Qb D
 | .d x=>some x
 | .l xs=>some<|.list xs
 | .t aL=>some<|.dict<|aL.map λp=>(Ed p.1,p.2)
 | .k _=>none
 | .o _ _=>none
def oW(me:ME):ME:=λρ=>(me ρ).bind λp=>(p.1.get p.2).bind λu=>u.fz.bind λx=>some (.u<|.d x,match p.1 with | .s i=>p.2.set i (some<|.d x) | .u _=>p.2)
theorem O4{ws:Qa (Qa Key×V)}{aL:Qa (Qa Key×D)}(h:mV K H ws aL):mX K H ws (aL.map λp=>(Ed p.1,p.2)):=by
 induction h with
 | nil=>exact .nil
 | @cons p q ps qs hq t ih=>
  have(k,v):=p;have(k',d):=q;have(e,hd):=hq;cases(show k=k' from e);exact .cons hd ih
theorem Fz.rp{u:U}{x:D}(h:Fz K H v H')(p:Rp K H v u)(e:u.fz=some x):DF K H' v x/\(u.own=false->H'=H)/\(u.own=true->∃ a o,v=.ref a/\H'=upd H a o):=by
 cases u with
 | d y=>
  cases e;have k:H'=H:=by
   rcases h with⟨a,xs,o,rfl,nk,ea,_⟩|⟨a,xs,o,rfl,nk,ea,_⟩|⟨_,rfl⟩
   .exfalso
    cases(show DF K H _ _ from p)with
    | tup h _=>
     rcases h with h|⟨ob,aj,n,hk,_⟩
     .rw[ea]at h; cases h
     .rw[nk]at hk; cases hk
    | lst h _=>
     rcases h with⟨o,h⟩|⟨ob,aj,n,hk,_⟩
     .rw[ea]at h; cases h
     .rw[nk]at hk; cases hk
    | kH h _=>rw[ea]at h; cases h
    | exc h _ _=>have(_,h,_):=h; rw[ea]at h; cases h
    | obj h _ _=>rw[ea]at h; cases h
   .exfalso
    cases(show DF K H _ _ from p)with
    | tup h _=>
     rcases h with h|⟨ob,aj,n,hk,_⟩
     .rw[ea]at h; cases h
     .rw[nk]at hk; cases hk
    | lst h _=>
     rcases h with⟨o,h⟩|⟨ob,aj,n,hk,_⟩
     .rw[ea]at h; cases h
     .rw[nk]at hk; cases hk
    | kH h _=>rw[ea]at h; cases h
    | exc h _ _=>have(_,h,_):=h; rw[ea]at h; cases h
    | obj h _ _=>rw[ea]at h; cases h
   .rfl
  subst k;exact⟨p,λ_=>rfl,λz=>by cases z⟩
 | l xs=>
  cases e;have(a,us,rfl,ea,ds):=p;rcases h with⟨a',mn,o,ev,_,fW,rfl⟩|⟨a',mn,o,ev,_,fW,_⟩|⟨z,_⟩
  .cases ev
   rw[ea]at fW;cases fW;exact⟨.lst (.inl ⟨o,zt⟩)<|ds.kp<|pY ea trivial _,(λz=>by cases z),λ_=>⟨a,_,rfl,rfl⟩⟩
  .cases ev
   rw[ea]at fW;cases fW
  .exact absurd ea ((z a rfl).1 us)
 | t xs=>
  cases e;have(a,us,rfl,ea,ds):=p;rcases h with⟨a',mn,o,ev,_,fW,_⟩|⟨a',mn,o,ev,_,fW,rfl⟩|⟨z,_⟩
  .cases ev
   rw[ea]at fW;cases fW
  .cases ev
   rw[ea]at fW;cases fW;exact⟨.kH zt<|O4<|ds.kp<|pY ea trivial _,(λz=>by cases z),λ_=>⟨a,_,rfl,rfl⟩⟩
  .exact absurd ea ((z a rfl).2 us)
 | k xs=>cases e
 | o=>cases e
theorem xf{t:TE}{m:ME}(h:VE K t m):VE K (DK K t) (oW m):=by
 intro ρ σ H a af Q r e q;obtain⟨⟨b,au⟩,e1,e⟩:=bQ e;have(u,eu,e):=bQ e;have(x,ex,e):=bQ e;cases e;refine h ρ σ H b au _ r e1 λv H1 g1 k1=>λH2 fz=>?_;have p:=k1.now r g1 eu;have(d,f1,f2):=fz.rp p ex;cases b with
 | s i=>
  have ei:au[i]?=some (some u):=by
   have z:(au[i]?).join=some u:=eu;cases q:au[i]? with
   | none=>rw[q]at z; cases z
   | some o=>rw[q]at z; cases o with
    | none=>cases z
    | some w=>cases z; rfl
  have hi:i < au.length:=(qk.mp ei).1
  by_cases ou:u.own=true
  .have(a,o,rfl,rfl):=f2 ou
   exact q _ _ (g1.trans<|Go.own (u':=.d x) g1.rs ei ou k1.1 d) ⟨d,Nw.data⟩
  .have nH:u.own=false:=by simpa using ou
   cases f1 nH;cases u with
   | d y=>
    cases ex;have es:au.set i (some<|.d x)=au:=by
     apply à;intro j
     by_cases hj:i=j
     .subst hj; rw[List.getElem?_set_self hi,ei]
     .rw[qB hj]
    show Q v H1;refine q v H1 ?_ ⟨d,Nw.data⟩;show Go K ρ σ H (au.set i<|some<|.d x) H1;rw[es];exact g1
   | l=>cases nH
   | t=>cases nH
   | k=>cases nH
   | o=>cases nH
 | u w=>
  cases(show some w=some u from eu)
  by_cases ou:u.own=true
  .have(a,o,rfl,rfl):=f2 ou
   have(a',fW,D8):=k1.2 ou;cases fW;obtain⟨c,hc,mc⟩:∃ c,H1 a=some c/\Mo c:=by
    have(b,c,eb,hb,m):=p.own ou;cases eb;exact⟨c,hb,m⟩
   have nw:¬Ow au σ a:=by
    have(b,eb,nb):=k1.2.nG r g1 ou;cases eb;exact nb
   have kp:=pY hc mc o;refine q _ _ ⟨⟨g1.rs.len,λj y ej=>?_,g1.rs.apart⟩,λb ob hb n=>?_,g1.shr,λb hb=>?_⟩ ⟨d,Nw.data⟩
   .have(v,ev,p'):=g1.rs.rep j y ej
    refine⟨v,ev,p'.kp kp λoy b c' eb hb=>?_⟩;have ne:b≠a:=by
     rintro rfl;subst eb;exact nw ⟨j,y,ej,oy,ev⟩
    rw[zp ne];exact hb
   .have ne:b≠a:=by
     rintro rfl;rw[D8]at hb;cases hb
    rw[zp ne];exact g1.fr b ob hb n
   .by_cases jK:b=a
    .subst jK; exact D8
    .rw[zp jK]at hb; exact g1.dm b hb
  .have nH:u.own=false:=by simpa using ou
   cases f1 nH;exact q v H1 g1 ⟨d,Nw.data⟩
end
section
variable{ρ af:En}
def bO(ρ:En):Qa Ar->Qb (Qa U)
 | []=>some []
 | a::as=>(a.get ρ).bind λu=>(bO ρ as).bind λus=>some<|u::us
def gQ:Qa U->Qb (Qa D)
 | []=>some []
 | .d x::us=>(gQ us).bind λxs=>some<|x::xs
 | _::_=>none
def AG(K:qc)(H:Hp):Qa V->Qa U->Prop:=Paired λv u=>Rp K H v u
theorem O3{vs:Qa V}{as:Qa Ar}{us:Qa U}(len:vs.length=as.length)(h:∀ (i:Nat) (a:Ar),as[i]?=some a->∃ v,vs[i]?=some v/\∀ u,a.get ρ=some u->Rp K H v u)(e:bO ρ as=some us):AG K H vs us:=by
 induction as generalizing vs us with
 | nil=>
  cases e;cases vs with
  | nil=>exact .nil
  | cons=>simp at len
 | cons a as ih=>
  have(u,eu,e):=bQ e;have(kA,vT,e):=bQ e;cases e;cases vs with
  | nil=>simp at len
  | cons v vs=>
   have(v',ev,k):=h 0 a rfl;cases(show some v=some v' from ev);exact .cons (k u eu)<|ih (by simpa using len) (λi b eb=>h (i+1) b eb) vT
theorem AM.oS{vs:Qa V}{as:Qa Ar}{us:Qa U}(r:Rs K ρ σ H)(g:Go K ρ σ H af H')(s:AM K af σ H H' vs as)(e:bO af as=some us):AG K H' vs us :=
 O3 s.len (λi a ea=>let ⟨v,ev,k⟩:=s.ar i a ea; ⟨v,ev,λu eu=>k.now r g eu⟩) e
theorem Ck{vs:Qa V}{us:Qa U}{ds:Qa D}(h:AG K H vs us)(e:gQ us=some ds):aR K H vs ds:=by
 induction h generalizing ds with
 | nil=>cases e; exact .nil
 | @cons v u vs us hv t ih=>
  cases u with
  | d x=>
   have(xs,ex,e):=bQ (show(gQ us).bind (λxs=>some<|x::xs)=some ds from e);cases e;exact .cons hv<|ih ex
  | l=>cases e
  | t=>cases e
  | k=>cases e
  | o=>cases e
def bG(ma:MA):ME:=λρ=>(ma ρ).bind λp=>(bO p.2 p.1).bind λus=>(gQ us).bind λds=>if ds.length<=sizeLine then some (.u<|.d<|.tuple ds,p.2)else none
def f7(ma:MA):ME:=λρ=>(ma ρ).bind λp=>(bO p.2 p.1).bind λus=>(gQ us).bind λds=>if ds.length<=sizeLine then some (.u<|.l ds,p.2)else none
theorem zO{m:MA}(h:kM K t m):VE K (wQ t) (bG m):=by
 intro ρ σ H a af Q r e q;obtain⟨⟨as,au⟩,e1,e⟩:=bQ e;have(us,eu,e):=bQ e;have(ds,ed,e):=bQ e;split at e
 .rename_i hz
  cases e;refine h ρ σ H as _ _ r e1 λvs H1 g1 s1=>?_;have dd:=Ck (s1.oS r g1 eu) ed;refine⟨by rw[dd.len]; exact hz,λp hp=>?_⟩;have sm:=lg hp (.tup vs);exact q _ _ (g1.trans<|Go.grow g1.rs sm) ⟨.tup (.inl zt)<|dd.kp sm.kp,Nw.data⟩
 .cases e
theorem iG{m:MA}(h:kM K t m):VE K (wO t) (f7 m):=by
 intro ρ σ H a af Q r e q;obtain⟨⟨as,au⟩,e1,e⟩:=bQ e;have(us,eu,e):=bQ e;have(ds,ed,e):=bQ e;split at e
 .rename_i hz
  cases e;refine h ρ σ H as _ _ r e1 λvs H1 g1 s1=>?_;have dd:=Ck (s1.oS r g1 eu) ed;refine⟨by rw[dd.len]; exact hz,λp hp=>?_⟩;have sm:=lg hp (.lst vs);exact q _ _ (g1.trans<|Go.grow g1.rs sm) ⟨⟨p,_,rfl,zt,dd.kp sm.kp⟩,λ_=>⟨p,rfl,g1.dm p hp⟩⟩
 .cases e
def VC(K:qc)(r:Qa V->Hp->VK->Prop)(f:Qa U->Qb U):Prop :=
 ∀ (vs:Qa V) (us:Qa U) (u:U) (H:Hp) (Q:VK),AG K H vs us->f us=some u->(∀ v H',cK H H'->Rp K H' v u->Nw H v u->Q v H')->r vs H Q
def cw(f:Qa U->Qb U)(ma:MA):ME:=λρ=>(ma ρ).bind λp=>(bO p.2 p.1).bind λus=>(f us).bind λu=>some (.u u,p.2)
theorem cM{r:Qa V->Hp->VK->Prop}{f:Qa U->Qb U}{m:MA}(hc:VC K r f)(h:kM K t m):VE K (lr r t) (cw f m):=by
 intro ρ σ H a af Q rs e q;obtain⟨⟨as,au⟩,e1,e⟩:=bQ e;have(us,eu,e):=bQ e;have(u,ef,e):=bQ e;cases e;refine h ρ σ H as _ _ rs e1 λvs H1 g1 s1=>hc vs us u H1 _ (s1.oS rs g1 eu) ef λv H2 s p n=>?_;exact q v H2 (g1.trans<|Go.grow g1.rs s) ⟨p,n.mono g1.dm⟩
def f1(f:U->Qb U):Qa U->Qb U
 | [u]=>f u
 | _=>none
theorem rN{r:Qa V->Hp->VK->Prop}{f:U->Qb U}(h:∀ (v:V) (a u:U) (H:Hp) (Q:VK),Rp K H v a->f a=some u->(∀ v H',cK H H'->Rp K H' v u->Nw H v u->Q v H')->r [v] H Q):VC K r (f1 f):=by
 intro vs us u H Q hr e q;cases hr with
 | nil=>cases e
 | cons h1 t=>
  cases t with
  | nil=>exact h _ _ _ _ _ h1 e q
  | cons=>cases e
def U.items:U->Qb (Qa D)
 | .d (.tuple xs)=>some xs
 | .d (.list xs)=>some xs
 | .l xs=>some xs
 | _=>none
theorem Rp.items{u:U}{xs:Qa D}(h:Rp K H v u)(e:u.items=some xs):∃ p ys,v=.ref p/\(bE K H p ys\/cy K H p ys)/\aR K H ys xs:=by
 cases u with
 | d x=>
  cases x with
  | tuple ds=>cases e; have(a,ys,rfl,h1,h2):=DF.aV h; exact⟨a,ys,rfl,.inr<|(cq.sq h1),h2⟩
  | list ds=>cases e; have(a,ys,rfl,h1,h2):=DF.lst_inv h; exact⟨a,ys,rfl,.inl h1.sq,h2⟩
  | _=>cases e
 | l ds=>cases e; have(a,ys,rfl,h1,h2):=h; exact⟨a,ys,rfl,.inl<|bE.of h1,h2⟩
 | t=>cases e
 | k=>cases e
 | o=>cases e
def eL(u:U):Qb U:=u.items.map λxs=>.d<|.int xs.length
theorem gg:VC K (FG K) (f1 eL):=rN λv a u H Q h e q=>by
 have(xs,ex,rfl):=qq.mp e;have(p,ys,rfl,s,d):=h.items ex;exact⟨p,ys,rfl,s,q _ _ (λ_ _ z=>z) (by rw[d.len]; exact .int _) Nw.data⟩
def sf(u:U):Qb U:=u.items.map λxs=>.d<|.tuple xs
theorem yu:VC K (IZ K) (f1 sf):=rN λv a u H Q h e q=>by
 have(xs,ex,rfl):=qq.mp e;cases a with
 | d x=>
  cases x with
  | tuple ds=>
   cases ex;have(a,ys,rfl,h1,h2):=DF.aV h;exact⟨a,ys,rfl,.inr ⟨(cq.sq h1),q _ _ (λ_ _ z=>z) (.tup h1 h2) Nw.data⟩⟩
  | list ds=>
   cases ex;have(a,ys,rfl,h1,h2):=DF.lst_inv h;refine⟨a,ys,rfl,.inl ⟨h1.sq,λl hl=>?_⟩⟩;have sm:=lg hl (.tup ys);exact q _ _ sm (.tup (.inl zt)<|h2.kp sm.kp) Nw.data
  | _=>cases ex
 | l ds=>
  cases ex;have(a,ys,rfl,h1,h2):=h;refine⟨a,ys,rfl,.inl ⟨bE.of h1,λl hl=>?_⟩⟩;have sm:=lg hl (.tup ys);exact q _ _ sm (.tup (.inl zt)<|h2.kp sm.kp) Nw.data
 | t=>cases ex
 | k=>cases ex
 | o=>cases ex
def B5(u:U):Qb U:=u.items.map λxs=>.l xs
theorem SJ:VC K (HU K) (f1 B5):=rN λv a u H Q h e q=>by
 have(xs,ex,rfl):=qq.mp e;have(p,ys,rfl,s,d):=h.items ex;refine⟨p,ys,rfl,s,λl hl=>?_⟩;have sm:=lg hl (.lst ys);exact q _ _ sm ⟨l,ys,rfl,zt,d.kp sm.kp⟩ λ_=>⟨l,rfl,hl⟩
def tP:U->Qb U
 | .d (.int i)=>some<|.d<|.int (if i < 0 then -i else i)
 | _=>none
theorem G5:VC K (λxs H Q=>∃ i,xs=[.int i]/\Q (.int (if i < 0 then -i else i)) H) (f1 tP):=rN λv a u H Q h e q=>by
 unfold tP at e;split at e
 .rename_i i
  cases e;cases DF.int_inv h;exact⟨i,rfl,q _ _ (λ_ _ z=>z) (.int _) Nw.data⟩
 .cases e
def kU:U->Qb U
 | .d (.int i)=>some<|.d<|.int i
 | .d (.bool k)=>some<|.d<|.int (if k then 1 else 0)
 | _=>none
theorem uy:VC K (λxs H Q=>(∃ i,xs=[.int i]/\Q (.int i) H)\/∃ k,xs=[.bl k]/\Q (.int (if k then 1 else 0)) H) (f1 kU):=rN λv a u H Q h e q=>by
 unfold kU at e;split at e
 .rename_i i
  cases e;cases DF.int_inv h;exact .inl ⟨i,rfl,q _ _ (λ_ _ z=>z) (.int _) Nw.data⟩
 .rename_i i
  cases e;cases DF.bJ h;exact .inr ⟨i,rfl,q _ _ (λ_ _ z=>z) (.int _) Nw.data⟩
 .cases e
def mB(me:ME):MT:=λρ=>(me ρ).bind λp=>(p.1.get p.2).bind λu=>match u with | .d (.bool b)=>some (b,p.2) | _=>none
theorem fD{t:TE}{m:ME}(h:VE K t m):VT K (tB t) (mB m):=by
 intro ρ σ H b af Q r e q;obtain⟨⟨a,au⟩,e1,e⟩:=bQ e;have(u,eu,e):=bQ e;split at e
 .cases e
  refine h ρ σ H a _ _ r e1 λv H1 g1 k1=>?_;exact⟨_,DF.bJ<|k1.now r g1 eu,q _ g1⟩
 .cases e
theorem zq{t:TE}{m:ME}(h:VE K t m):VT K (pO t) (mB m):=fD h
def rM(ma mb:MT):MT:=λρ=>(ma ρ).bind λp=>if p.1=true then mb p.2 else some (false,p.2)
def fG(ma mb:MT):MT:=λρ=>(ma ρ).bind λp=>if p.1=true then some (true,p.2)else mb p.2
def fC(ma:MT):MT:=λρ=>(ma ρ).bind λp=>some (!p.1,p.2)
theorem Cj{ta tb:TT}{ma mb:MT}(ha:VT K ta ma)(hb:VT K tb mb):VT K (Bf ta tb) (rM ma mb):=by
 intro ρ σ H b af Q r e q;obtain⟨⟨c,au⟩,e1,e⟩:=bQ e;refine ha ρ σ H c au _ r e1 λH1 g1=>?_;dsimp only at e;split at e
 .rename_i hc
  rw[if_pos hc];exact hb au σ H1 b af _ g1.rs e λH2 g2=>q H2<|g1.trans g2
 .rename_i hc
  rw[if_neg hc];cases e;exact q H1 g1
theorem gE{ta tb:TT}{ma mb:MT}(ha:VT K ta ma)(hb:VT K tb mb):VT K (DH ta tb) (fG ma mb):=by
 intro ρ σ H b af Q r e q;obtain⟨⟨c,au⟩,e1,e⟩:=bQ e;refine ha ρ σ H c au _ r e1 λH1 g1=>?_;dsimp only at e;split at e
 .rename_i hc
  rw[if_pos hc];cases e;exact q H1 g1
 .rename_i hc
  rw[if_neg hc];exact hb au σ H1 b af _ g1.rs e λH2 g2=>q H2<|g1.trans g2
theorem gI{ta:TT}{ma:MT}(ha:VT K ta ma):VT K (Be ta) (fC ma):=by
 intro ρ σ H b af Q r e q;obtain⟨⟨c,au⟩,e1,e⟩:=bQ e;cases e;exact ha ρ σ H c _ _ r e1 λH1 g1=>q H1 g1
def oA(ma mb:ME):ME:=λρ=>(mB ma ρ).bind λp=>if p.1=true then mb p.2 else some (.u<|.d<|.bool false,p.2)
theorem AX{a:Ar}{H1 H2:Hp}{au aB:En}(g1:Go K ρ σ H au H1)(h:lR K aB σ H1 H2 v a):lR K aB σ H H2 v a:=by
 cases a with
 | s i=>exact h
 | u x=>exact⟨h.1,h.2.mono g1.dm⟩
theorem uw{ma mb:ME}(ha:VE K ta ma)(hb:VE K tb mb):VE K (Ca ta tb) (oA ma mb):=by
 intro ρ σ H a af Q r e q;obtain⟨⟨c,au⟩,e1,e⟩:=bQ e;refine fD ha ρ σ H c au (λc H1=>if c=true then tb σ H1 Q else Q (.bl false) H1) r e1 λH1 g1=>?_;dsimp only at e;split at e
 .rename_i hc
  rw[if_pos hc];exact hb au σ H1 a af _ g1.rs e λv H2 g2 k=>q v H2 (g1.trans g2)<|AX g1 k
 .rename_i hc
  rw[if_neg hc];cases e;exact q _ H1 g1 ⟨.bl _,Nw.data⟩
def tZ(ma:ME):ME:=λρ=>(mB ma ρ).bind λp=>some (.u<|.d<|.bool (!p.1),p.2)
theorem G4{ma:ME}(ha:VE K ta ma):VE K (B9 ta) (tZ ma):=by
 intro ρ σ H a af Q r e q;obtain⟨⟨c,au⟩,e1,e⟩:=bQ e;cases e;exact fD ha ρ σ H c _ (λc H1=>Q (.bl (!c)) H1) r e1 λH1 g1=>q _ H1 g1 ⟨.bl _,Nw.data⟩
def vi(mt:MT)(ma mb:ME):ME:=λρ=>(mt ρ).bind λp=>if p.1=true then ma p.2 else mb p.2
theorem FR{mt:MT}{ma mb:ME}(ht:VT K tt mt)(ha:VE K ta ma)(hb:VE K tb mb):VE K (DJ tt ta tb) (vi mt ma mb):=by
 intro ρ σ H a af Q r e q;obtain⟨⟨c,au⟩,e1,e⟩:=bQ e;refine ht ρ σ H c au _ r e1 λH1 g1=>?_;dsimp only at e;split at e
 .rename_i hc
  rw[if_pos hc];exact ha au σ H1 a af _ g1.rs e λv H2 g2 k=>q v H2 (g1.trans g2)<|AX g1 k
 .rename_i hc
  rw[if_neg hc];exact hb au σ H1 a af _ g1.rs e λv H2 g2 k=>q v H2 (g1.trans g2)<|AX g1 k
def U.sQ:U->Qb Bool
 | .d .none=>some false
 | .d (.bool b)=>some b
 | .d (.int i)=>some<|i != 0
 | .d (.str x)=>if x.length<=sizeLine then some ((x.length:Int) != 0)else none
 | .d (.tuple xs)=>some (!xs.isEmpty)
 | .d (.list xs)=>some (!xs.isEmpty)
 | .l xs=>some (!xs.isEmpty)
 | _=>none
theorem Dr{ys:Qa V}{xs:Qa D}(h:aR K H ys xs):(!xs.isEmpty)=!ys.isEmpty:=by cases h<;>rfl
def xb(ma:ME):MT:=λρ=>(ma ρ).bind λp=>(p.1.get p.2).bind λu=>u.sQ.bind λb=>some (b,p.2)
theorem O2{ma:ME}(ha:VE K ta ma):VT K (FI K ta) (xb ma):=by
 intro ρ σ H b af Q r e q;obtain⟨⟨a,au⟩,e1,e⟩:=bQ e;have(u,eu,e):=bQ e;have(c,ec,e):=bQ e;cases e;refine ha ρ σ H a _ _ r e1 λv H1 g1 k1=>⟨_,?_,q _ g1⟩;have p:=k1.now r g1 eu;cases u with
 | d x=>
  cases(show DF K H1 v x from p)with
  | aK=>cases ec; rfl
  | bl=>cases ec; rfl
  | int=>cases ec; rfl
  | str x=>
   unfold U.sQ at ec;dsimp only at ec;split at ec
   .cases ec; exact⟨by assumption,rfl⟩
   .cases ec
  | tup h t=>cases ec; exact .inr<|.inl ⟨_,(cq.sq h),Dr t⟩
  | lst h t=>cases ec; exact .inl ⟨_,h.sq,Dr t⟩
  | kH=>cases ec
  | exc=>cases ec
  | obj=>cases ec
 | l xs=>cases ec; have(a,us,rfl,h1,h2):=p; exact .inl ⟨_,bE.of h1,Dr h2⟩
 | t=>cases ec
 | k=>cases ec
 | o=>cases ec
end
section
variable{ρ af:En}
abbrev FD:=Qa U->Qb (U×Qa U)
def sm(xs:Qa U):En:=xs.map some
def dg(vs:Qa V):St:=vs.map some
def nF(K:qc)(n:Nat)(f:FD):Sp:=λvs H Q _=>∃ us r outs,us.length=n/\Rs K (sm us) (dg vs) H/\f us=some (r,outs)/\
 ∀ v H',Go K (sm us) (dg vs) H (sm outs) H'->Rp K H' v r->Nw H v r->Q v H'
def wb:En->Qa Ar->Qa U->En
 | ρ,.s j::as,o::os=>wb (ρ.set j<|some o) as os
 | ρ,.u _::as,_::os=>wb ρ as os
 | ρ,_,_=>ρ
def fB(ρ:En):Qa Ar->Bool
 | []=>true
 | .s j::as=>(match ρ[j]? with|some (some u)=>!u.own || !(as.any λa=>match a with | .s k=>decide (k=j) | _=>false) | _=>true) && fB ρ as
 | .u _::as=>fB ρ as
def be(f:FD)(ma:MA):ME:=λρ=>(ma ρ).bind λp=>if fB p.2 p.1=true then(bO p.2 p.1).bind λus=>(f us).bind λo=>some (.u o.1,wb p.2 p.1 o.2)else none
theorem sH:∀ {as:Qa Ar} {us:Qa U},bO ρ as=some us->us.length=as.length
 | [],us,e=>by cases e; rfl
 | a::as,us,e=>by
  have(u,eu,e):=bQ e;have(kA,vT,e):=bQ e;cases e;simp[sH vT]
theorem Ii:∀ {as:Qa Ar} {us:Qa U} {i:Nat} {a:Ar},bO ρ as=some us->as[i]?=some a->∃ u,us[i]?=some u/\a.get ρ=some u
 | [],us,i,a,e,ea=>by simp at ea
 | b::as,us,i,a,e,ea=>by
  have(u,eu,e):=bQ e;have(kA,vT,e):=bQ e;cases e;cases i with
  | zero=>cases(show some b=some a from ea); exact⟨u,rfl,eu⟩
  | succ i=>exact Ii (i:=i) vT ea
theorem Df:∀ {as:Qa Ar} {us:Qa U} {i:Nat} {u:U},bO ρ as=some us->us[i]?=some u->∃ a,as[i]?=some a/\a.get ρ=some u:=λ{as us i u} e eu=>by
 have hi:i < as.length:=by rw[<-sH e]; exact(qk.mp eu).1
 have(u',e1,e2):=Ii e (ql hi);rw[eu]at e1;cases e1;exact⟨_,ql hi,e2⟩
theorem Gk{u:U}(e:Ar.get ρ (.s j)=some u):ρ[j]?=some (some u):=by
 have z:(ρ[j]?).join=some u:=e;cases q:ρ[j]? with
 | none=>rw[q]at z; cases z
 | some o=>
  rw[q]at z;cases o with
  | none=>cases z
  | some w=>cases z; rfl
theorem Ih:∀ {as:Qa Ar} {p q j:Nat} {u:U},fB ρ as=true->as[p]?=some (.s j)->as[q]?=some (.s j)->ρ[j]?=some (some u)->u.own=true->p=q
 | [],p,q,j,u,_,e,_,_,_=>by simp at e
 | a::as,p,q,j,u,d,ep,eq,ej,ou=>by
  have dd:fB ρ as=true:=by
   cases a with
   | s k=>unfold fB at d; rw[Bool.and_eq_true]at d; exact d.2
   | u=>exact d
  have va:∀ {q':Nat},a=.s j->as[q']?=some (.s j)->False:=λ{q'} ea Au=>by
   subst ea;unfold fB at d;rw[Bool.and_eq_true,ej]at d;have d1:=d.1;dsimp only at d1;rw[ou]at d1;have m:(as.any λa=>match a with | .s k=>decide (k=j) | _=>false)=true:=List.any_eq_true.mpr ⟨.s j,Ð Au,by simp⟩;rw[m]at d1;cases d1
  cases p with
  | zero=>
   cases q with
   | zero=>rfl
   | succ q=>exact(va (qw ep) eq).elim
  | succ p=>
   cases q with
   | zero=>exact(va (qw eq) ep).elim
   | succ q=>exact congrArg (·+1)<|Ih dd ep eq ej ou
theorem gc{us:Qa U}{u:U}:(sm us)[i]?=some (some u)↔us[i]?=some u:=by
 unfold sm;rw[List.getElem?_map];cases us[i]?<;>simp
theorem se{vs:Qa V}:(dg vs)[i]?=some (some v)↔vs[i]?=some v:=by
 unfold dg;rw[List.getElem?_map];cases vs[i]?<;>simp
theorem xq:∀ {as:Qa Ar} {os:Qa U} {ρ:En} {j:Nat} {w:U},(wb ρ as os)[j]?=some (some w)->as.length=os.length->(∃ p:Nat,as[p]?=some (Ar.s j)/\os[p]?=some w)\/(ρ[j]?=some (some w)/\∀ p:Nat,as[p]?≠some (Ar.s j))
 | [],os,ρ,j,w,e,_=>.inr ⟨by cases os<;>exact e,λp z=>by simp at z⟩
 | a::as,[],ρ,j,w,e,l=>by simp at l
 | .u x::as,o::os,ρ,j,w,e,l=>by
  rcases xq (as:=as) (os:=os) (ρ:=ρ) (show(wb ρ as os)[j]?=some (some w) from e) (by simpa using l)with⟨p,h1,h2⟩|⟨h1,h2⟩
  .exact .inl ⟨p+1,h1,h2⟩
  .refine .inr ⟨h1,λp z=>?_⟩
   cases p with
   | zero=>cases(show some (Ar.u x)=some (.s j) from z)
   | succ p=>exact h2 p z
 | .s k::as,o::os,ρ,j,w,e,l=>by
  rcases xq (as:=as) (os:=os) (ρ:=ρ.set k (some o)) (show(wb (ρ.set k<|some o) as os)[j]?=some (some w) from e) (by simpa using l)with⟨p,h1,h2⟩|⟨h1,h2⟩
  .exact .inl ⟨p+1,h1,h2⟩
  .by_cases hk:k=j
   .subst hk
    have hl:k < (ρ.set k<|some o).length:=(qk.mp h1).1;rw[List.length_set]at hl;rw[List.getElem?_set_self hl]at h1;exact .inl ⟨0,rfl,by cases h1; rfl⟩
   .rw[qB hk]at h1
    refine .inr ⟨h1,λp z=>?_⟩;cases p with
    | zero=>cases(show some (Ar.s k)=some (.s j) from z); exact hk rfl
    | succ p=>exact h2 p z
theorem xO:∀ (ρ:En) (as:Qa Ar) (os:Qa U),(wb ρ as os).length=ρ.length
 | ρ,[],os=>by cases os<;>rfl
 | ρ,.s k::as,[]=>rfl
 | ρ,.u k::as,[]=>rfl
 | ρ,.s k::as,o::os=>by show(wb (ρ.set k<|some o) as os).length=_; rw[xO]; exact List.length_set
 | ρ,.u k::as,o::os=>xO ρ as os
theorem yi:∀ {as:Qa Ar} {os:Qa U} {ρ:En} {j:Nat} {w:U},ρ[j]?=some (some w)->∃ w',(wb ρ as os)[j]?=some (some w')
 | [],os,ρ,j,w,e=>⟨w,by cases os<;>exact e⟩
 | .s k::as,[],ρ,j,w,e=>⟨w,e⟩
 | .u k::as,[],ρ,j,w,e=>⟨w,e⟩
 | .u k::as,o::os,ρ,j,w,e=>yi (as:=as) (os:=os) e
 | .s k::as,o::os,ρ,j,w,e=>by
  by_cases hk:k=j
  .subst hk
   exact yi (as:=as) (os:=os) (w:=o)<|ß (qk.mp e).1
  .exact yi (as:=as) (os:=os) (w:=w) (by rw[qB hk]; exact e)
theorem Ci{as:Qa Ar}{us:Qa U}{vs:Qa V}{au:En}{H1:Hp}(rs:Rs K ρ σ H)(g1:Go K ρ σ H au H1)(s1:AM K au σ H H1 vs as)(dj:fB au as=true)(eu:bO au as=some us):
  Rs K (sm us) (dg vs) H1/\∀ (outs:Qa U) (H2:Hp),Go K (sm us) (dg vs) H1 (sm outs) H2->Go K ρ σ H (wb au as outs) H2:=by
 have rp:=s1.oS rs g1 eu;have lus:=sH eu;have lvs:=s1.len;have adr:∀ (i:Nat) (u:U),us[i]?=some u->u.own=true->∃ b,vs[i]?=some (.ref b)/\((∃ j,as[i]?=some (.s j)/\σ[j]?=some (some<|.ref b)/\au[j]?=some (some u))\/(as[i]?=some (.u u)/\H b=none)):=λi u ei ou=>by
  have(a,ea,eg):=Df eu ei;have(v,ev,k):=s1.ar i a ea;have p:=k.now rs g1 eg;have(b,rfl):=p.jD ou;refine⟨b,ev,?_⟩;cases a with
  | s j=>exact .inl ⟨j,ea,k.1,Gk eg⟩
  | u x=>
   cases(show some x=some u from eg);have(b',eb,hb):=k.2 ou;cases eb;exact .inr ⟨ea,hb⟩
 have apart:∀ (i j:Nat) (u w:U),us[i]?=some u->us[j]?=some w->u.own=true->w.own=true->vs[i]?=vs[j]?->i=j:=λi j u w ei ej ou ow ev=>by
  have(b,vb,hb):=adr i u ei ou;have(c,vc,hc):=adr j w ej ow;have bc:b=c:=by rw[vb,vc]at ev; cases ev; rfl
  subst bc;rcases hb with⟨x,ax,sx,rx⟩|⟨ax,nx⟩
  .rcases hc with⟨y,ay,sy,ry⟩|⟨ay,ny⟩
   .have xy:x=y:=g1.rs.apart x y u w rx ry ou ow (by rw[sx,sy])
    subst xy;exact Ih dj ax ay rx ou
   .exfalso
    have(w',kF,qL):=g1.shr.own x u rx ou;have(c',fH,_):=rs.ow ⟨x,w',kF,qL,sx⟩;rw[ny]at fH;cases fH
  .rcases hc with⟨y,ay,sy,ry⟩|⟨ay,ny⟩
   .exfalso
    have(w',kF,qL):=g1.shr.own y w ry ow;have(c',fH,_):=rs.ow ⟨y,w',kF,qL,sy⟩;rw[nx]at fH;cases fH
   .exact s1.ap i j u w ax ay ou ow ev
 have oQ:Rs K (sm us) (dg vs) H1:=by
  refine⟨by unfold sm dg; rw[List.length_map,List.length_map]; omega,λi u ei=>?_,λi j u w ei ej ou ow ev=>?_⟩
  .have pA:=gc.mp ei
   have(a,ea,eg):=Df eu pA;have(v,ev,k):=s1.ar i a ea;exact⟨v,se.mpr ev,k.now rs g1 eg⟩
  .have pA:=gc.mp ei
   have lK:=gc.mp ej;refine apart i j u w pA lK ou ow ?_;have(b,vb,_):=adr i u pA ou;have(c,vc,_):=adr j w lK ow;rw[se.mpr vb,se.mpr vc]at ev;rw[vb,vc];exact qw ev
 refine⟨oQ,λouts H2 g2=>?_⟩;have lo:outs.length=us.length:=by have:=g2.shr.len; unfold sm at this; simpa using this
 have YB:=g2.kp oQ;have Yq:∀ b,Ow (sm us) (dg vs) b->Ow au σ b\/H b=none:=λb ⟨i,u,ei,ou,es⟩=>by
  have(c,vc,hc):=adr i u (gc.mp ei) ou;rw[se.mp es]at vc;cases vc;rcases hc with⟨j,_,sj,rj⟩|⟨_,nb⟩
  .exact .inl ⟨j,u,rj,ou,sj⟩
  .exact .inr nb
 have qM:∀ (i:Nat) (w:U),outs[i]?=some w->∃ x,vs[i]?=some x/\Rp K H2 x w:=λi w ei=>by
  have(x,ex,px):=g2.rs.rep i w (gc.mpr ei);exact⟨x,se.mp ex,px⟩
 have KZ:as.length=outs.length:=by omega
 have gr:∀ (j:Nat) (w:U),(wb au as outs)[j]?=some (some w)->w.own=true->∃ w',au[j]?=some (some w')/\w'.own=true:=λj w ej ow=>by
  rcases xq ej KZ with⟨p,ap,op⟩|⟨h1,_⟩
  .have(w',kF,qL):=g2.shr.own p w (gc.mpr op) ow
   have(a,ea,eg):=Df eu (gc.mp kF);rw[ap]at ea;cases ea;exact⟨w',Gk eg,qL⟩
  .exact⟨w,h1,ow⟩
 refine⟨⟨by rw[xO]; exact g1.rs.len,λj w ej=>?_,λi j u w ei ej ou ow es=>?_⟩,λb ob hb nb=>?_,?_,λb hb=>g1.dm b<|g2.dm b hb⟩
 .rcases xq ej KZ with⟨p,ap,op⟩|⟨h1,h2⟩
  .have(x,vx,px):=qM p w op
   have(v',rq,k'):=s1.ar p _ ap;rw[vx]at rq;cases rq;exact⟨x,k'.1,px⟩
  .have(x,ex,px):=g1.rs.rep j w h1
   refine⟨x,ex,px.kp YB λow b c eb hb=>?_⟩;refine g2.fr b c hb λ⟨i,u,ei,ou,es⟩=>?_;have(c',KH,fH):=adr i u (gc.mp ei) ou;rw[se.mp es]at KH;cases KH;subst eb;rcases fH with⟨k,ak,sk,rk⟩|⟨_,nb⟩
   .have:k=j:=g1.rs.apart k j u w rk h1 ou ow (by rw[sk,ex])
    subst this;exact h2 i ak
   .have(w',kF,qL):=g1.shr.own j w h1 ow
    have(Z0,vJ,_):=rs.ow ⟨j,w',kF,qL,ex⟩;rw[nb]at vJ;cases vJ
 .have(x,ex,ox):=gr i u ei ou
  have(y,ey,oy):=gr j w ej ow;exact g1.rs.apart i j x y ex ey ox oy es
 .refine g2.fr b ob (g1.fr b ob hb nb) λz=>?_
  rcases Yq b z with z|z
  .exact nb (g1.shr.ow z)
  .rw[z]at hb; cases hb
 .refine⟨by rw[xO]; exact g1.shr.len,λj w ej ow=>?_,λj w ej=>?_⟩
  .have(x,ex,ox):=gr j w ej ow
   exact g1.shr.own j x ex ox
  .have(x,ex):=g1.shr.live j w ej
   exact yi ex
theorem Gj:∀ ρ as af,zk ρ=some (as,af)->as.length=0:=λρ as af e=>by cases e; rfl
theorem G3{me:ME}{ma:MA}(h:∀ ρ as af,ma ρ=some (as,af)->as.length=n):∀ ρ as af,zb me ma ρ=some (as,af)->as.length=n+1:=λρ as af e=>by
 obtain⟨⟨a1,au⟩,e1,e⟩:=bQ e;obtain⟨⟨Ay,aB⟩,e2,e⟩:=bQ e;cases e;simp[h _ _ _ e2]
theorem zG{f:FD}{m:MA}(n:Nat)(h:kM K t m)(hn:∀ ρ as af,m ρ=some (as,af)->as.length=n:=by repeat (first|exact Gj|refine G3 ?_)):VE K (Br (nF K n f) t) (be f m):=by
 intro ρ σ H a af Q rs e q;obtain⟨⟨as,au⟩,e1,e⟩:=bQ e;dsimp only at e;split at e
 .rename_i dj
  have(us,eu,e):=bQ e;obtain⟨⟨r,outs⟩,ef,e⟩:=bQ e;cases e;refine h ρ σ H as au _ rs e1 λvs H1 g1 s1=>?_;have(oQ,back):=Ci rs g1 s1 dj eu;exact⟨us,r,outs,by rw[sH eu]; exact hn _ _ _ e1,oQ,ef,λv H2 g2 p n2=>q v H2 (back outs H2 g2) ⟨p,n2.mono g1.dm⟩⟩
 .cases e
end
inductive Fl where
 | nx (ρ:En) | bk (ρ:En) | ct (ρ:En) | rt (u:U) (ρ:En) | ex (x:D) (ρ:En)
def xa(K:qc)(H:Hp)(a:Qg)(x:D):Prop:=∃ n C fs ds,x=.dict ((.none,.str n)::ds)/\m8 H a C fs/\XN K n C/\iO K H fs ds
structure Sn (K:qc) (pn:Qa Nat) (ai:St) (A:Qg->Prop) (av aA:Hp) (ρ:En) (σ:St) (H:Hp):Prop where
 rs:Rs K ρ σ H
 fr:wq A av H
 ow:∀ (i:Nat) (u:U) (a:Qg),ρ[i]?=some (some u)->u.own=true->σ[i]?=some (some<|.ref a)->(i∈pn/\A a)\/av a=none
 pin:∀ i∈pn,σ[i]?=ai[i]?
 dm:∀ a,H a=none->av a=none
 kp:Kp aA H
def AK:cJ:=λ_ _ _=>False
def Mb(K:qc)(pn:Qa Nat)(EX:cJ)(ai:St)(A:Qg->Prop)(av aA:Hp)(D:Ends):Fl->Prop
 | .nx ρ=>∀ σ H,Sn K pn ai A av aA ρ σ H->D.nx σ H
 | .bk ρ=>∀ σ H,Sn K pn ai A av aA ρ σ H->D.bk σ H
 | .ct ρ=>∀ σ H,Sn K pn ai A av aA ρ σ H->D.ct σ H
 | .rt u ρ=>∀ v σ H,Sn K pn ai A av aA ρ σ H->Rp K H v u->Nw av v u->D.rt v H
 | .ex x ρ=>∀ a σ H,Sn K pn ai A av aA ρ σ H->av a=none->xa K H a x->EX σ a H
abbrev MS:=En->Qb Fl
def VS(K:qc)(pn:Qa Nat)(EX:cJ)(t:TS)(m:MS):Prop :=
 ∀ (ai:St) (A:Qg->Prop) (av aA:Hp) (ρ:En) (σ:St) (H:Hp) (f:Fl) (D:Ends),Sn K pn ai A av aA ρ σ H->m ρ=some f->Mb K pn EX ai A av aA D f->t D σ H
section
variable{EX:cJ}{A:Qg->Prop}{kf:Hp}{ρ af:En}
theorem Sn.go(s:Sn K pn ai A av aA ρ σ H)(g:Go K ρ σ H af H'):Sn K pn ai A av aA af σ H':=by
 refine⟨g.rs,λa o h n=>g.fr a o (s.fr a o h n) λ⟨i,u,e,ou,es⟩=>?_,λi u a e o es=>?_,s.pin,λa h=>s.dm a<|g.dm a h,s.kp.trans<|g.kp s.rs⟩
 .rcases s.ow i u a e ou es with z|z
  .exact n z.2
  .rw[z]at h; cases h
 .have(w,e',o'):=g.shr.own i u e o
  exact s.ow i w a e' o' es
theorem Sn.re(s:Sn K pn ai A av kf ρ σ H)(k:Kp aA kf):Sn K pn ai A av aA ρ σ H:=⟨s.rs,s.fr,s.ow,s.pin,s.dm,k.trans s.kp⟩
theorem Sn.at(s:Sn K pn ai A av aA ρ σ H):Sn K pn ai A av H ρ σ H:=⟨s.rs,s.fr,s.ow,s.pin,s.dm,Kp.refl H⟩
theorem Sn.set{u:U}(s:Sn K pn ai A av aA ρ σ H)(hi:i∉pn)(p:Rp K H v u)(n:u.own=true->∃ a,v=.ref a/\av a=none/\¬Ow ρ σ a):Sn K pn ai A av aA (ρ.set i<|some u) (σ.set i<|some v) H:=by
 have ll:=s.rs.len;have inv:∀ (j:Nat) (w:U),(ρ.set i<|some u)[j]?=some (some w)->(j=i/\w=u/\i < ρ.length)\/(j≠i/\ρ[j]?=some (some w)):=λj w e=>by
  by_cases hj:i=j
  .subst hj
   have hl:=(qk.mp e).1;rw[List.length_set]at hl;rw[List.getElem?_set_self hl]at e;cases e;exact .inl ⟨rfl,rfl,hl⟩
  .rw[qB hj]at e
   exact .inr ⟨Ne.symm hj,e⟩
 have sat:∀ j,j≠i->(σ.set i<|some v)[j]?=σ[j]?:=λj h=>qB<|Ne.symm h;have jB:i < ρ.length->(σ.set i<|some v)[i]?=some (some v):=λh=>ß (by omega);refine⟨⟨by rw[List.length_set,List.length_set]; exact ll,λj w e=>?_,λj k x y ej ek ox oy es=>?_⟩,s.fr,λj w a e o es=>?_,λj hj=>?_,s.dm,s.kp⟩
 .rcases inv j w e with⟨rfl,rfl,hl⟩|⟨hj,e'⟩
  .exact⟨v,jB hl,p⟩
  .rw[sat j hj]
   exact s.rs.rep j w e'
 .rcases inv j x ej with⟨rfl,rfl,hl⟩|⟨hj,lK⟩
  .rcases inv k y ek with⟨rfl,rfl,_⟩|⟨hk,vV⟩
   .rfl
   .exfalso
    have(a,rfl,_,na):=n ox;rw[jB hl,sat k hk]at es;exact na ⟨k,y,vV,oy,es.symm⟩
  .rcases inv k y ek with⟨rfl,rfl,hl⟩|⟨hk,vV⟩
   .exfalso
    have(a,rfl,_,na):=n oy;rw[jB hl,sat j hj]at es;exact na ⟨j,x,lK,ox,es⟩
   .rw[sat j hj,sat k hk]at es
    exact s.rs.apart j k x y lK vV ox oy es
 .rcases inv j w e with⟨rfl,rfl,hl⟩|⟨hj,e'⟩
  .rw[jB hl]at es
   cases es;have(b,eb,hb,_):=n o;cases eb;exact .inr hb
  .rw[sat j hj]at es
   exact s.ow j w a e' o es
 .rw[sat j λz=>hi<|z▸hj]
  exact s.pin j hj
theorem lR.own{a:Ar}{u:U}(r:Rs K ρ σ H)(g:Go K ρ σ H af H')(k:lR K af σ H H' v a)(e:a.get af=some u)(nc:∀ j,a=.s j->u.own=false):Nw H v u/\(u.own=true->∃ b,v=.ref b/\¬Ow af σ b):=by
 cases a with
 | s j=>exact⟨(λo=>by rw[nc j rfl]at o; cases o),λo=>by rw[nc j rfl]at o; cases o⟩
 | u x=>
  cases(show some x=some u from e);exact⟨k.2,k.2.nG r g⟩
def put(p:Ar×En):Qb (U×En):=match p.1 with
 | .s i=>match p.2[i]? with
  | some (some<|.d x)=>some (.d x,p.2)
  | _=>none
 | .u u=>some (u,p.2)
theorem G2{a:Ar}{u:U}{au aB:En}(e:put (a,au)=some (u,aB)):aB=au/\a.get au=some u/\∀ j,a=.s j->u.own=false:=by
 cases a with
 | s i=>
  unfold put at e;dsimp only at e;split at e
  .rename_i x ex
   cases e;refine⟨rfl,?_,λ_ _=>rfl⟩;show(au[i]?).join=_;rw[ex];rfl
  .cases e
 | u x=>
  cases e;exact⟨rfl,rfl,λj z=>by cases z⟩
def zS(i:Nat)(me:ME):MS:=λρ=>(me ρ).bind λp=>(put p).bind λq=>some<|.nx<|q.2.set i<|some q.1
theorem zB{me:ME}(h:VE K te me)(hi:i∉pn:=by decide):VS K pn EX (lV te<|jv i) (zS i me):=by
 intro ai A av aA ρ σ H f D s e k;obtain⟨⟨a,au⟩,e1,e⟩:=bQ e;obtain⟨⟨u,aB⟩,e2,e3⟩:=bQ e;clear e;have(rfl,eg,nc):=G2 e2;cases e3;refine h ρ σ H a aB _ s.rs e1 λv H1 g1 k1=>?_;have(n1,n2):=k1.own s.rs g1 eg nc;have s1:=s.go g1;refine k _ _<|s1.set hi (k1.now s.rs g1 eg) λo=>?_;have(b,rfl,hb):=n2 o;have(b',eb,jK):=n1 o;cases eb;exact⟨b,rfl,s.dm b jK,hb⟩
def zu(m1 m2:MS):MS:=λρ=>(m1 ρ).bind λf=>match f with
 | .nx af=>m2 af
 | f=>some f
theorem zn{t1 t2:TS}{m1 m2:MS}(h1:VS K pn EX t1 m1)(h2:VS K pn EX t2 m2):VS K pn EX (Bc t1 t2) (zu m1 m2):=by
 intro ai A av aA ρ σ H f D s e k;have(f1,e1,e):=bQ e;refine h1 ai A av aA ρ σ H f1 _ s e1 ?_;cases f1 with
 | nx au=>exact λeh H1 s1=>h2 ai A av aA au eh H1 f D s1 e k
 | bk au=>cases e; exact k
 | ct au=>cases e; exact k
 | rt u au=>cases e; exact k
 | ex x au=>cases e; exact k
def cv:MS:=λρ=>some<|.nx ρ
theorem zM:VS K pn EX B4 cv:=λai A av aA ρ σ H f D s e k=>by cases e; exact k σ H s
theorem O1:VS K pn EX B3 (λρ=>some<|.ct ρ):=λai A av aA ρ σ H f D s e k=>by cases e; exact k σ H s
def bL(mt:MT)(m1 m2:MS):MS:=λρ=>(mt ρ).bind λp=>if p.1=true then m1 p.2 else m2 p.2
theorem bW{t1 t2:TS}{mt:MT}{m1 m2:MS}(ht:VT K tt mt)(h1:VS K pn EX t1 m1)(h2:VS K pn EX t2 m2):VS K pn EX (Bb tt t1 t2) (bL mt m1 m2):=by
 intro ai A av aA ρ σ H f D s e k;obtain⟨⟨c,au⟩,e1,e⟩:=bQ e;refine ht ρ σ H c au _ s.rs e1 λH1 g1=>?_;dsimp only at e;split at e
 .rename_i hc
  rw[if_pos hc];exact h1 ai A av aA au σ H1 f D (s.go g1) e k
 .rename_i hc
  rw[if_neg hc];exact h2 ai A av aA au σ H1 f D (s.go g1) e k
theorem pX{t:TS}{m:MS}(h:VS K pn EX t m):VS K pn EX (B8 t) m:=by
 intro ai A av aA ρ σ H f D s e k;cases f with
 | nx au=>exact⟨λaC H'=>Sn K pn ai A av aA au aC H',h ai A av aA ρ σ H _ _ s e λaC H' s'=>s',λaC H' s'=>k aC H' s'⟩
 | bk au=>exact⟨D.nx,h ai A av aA ρ σ H _ _ s e k,λ_ _ z=>z⟩
 | ct au=>exact⟨D.nx,h ai A av aA ρ σ H _ _ s e k,λ_ _ z=>z⟩
 | rt u au=>exact⟨D.nx,h ai A av aA ρ σ H _ _ s e k,λ_ _ z=>z⟩
 | ex x au=>exact⟨D.nx,h ai A av aA ρ σ H _ _ s e k,λ_ _ z=>z⟩
def eF(me:ME):MS:=λρ=>(me ρ).bind λp=>some<|.nx p.2
theorem fN{me:ME}(h:VE K te me):VS K pn EX (B2 te) (eF me):=by
 intro ai A av aA ρ σ H f D s e k;obtain⟨⟨a,au⟩,e1,e⟩:=bQ e;cases e;exact h ρ σ H a _ _ s.rs e1 λv H1 g1 k1=>k σ H1<|s.go g1
def bX(me:ME):MS:=λρ=>(me ρ).bind λp=>(put p).bind λq=>some<|.rt q.1 q.2
theorem cu{me:ME}(h:VE K te me):VS K pn EX (wZ te) (bX me):=by
 intro ai A av aA ρ σ H f D s e k;obtain⟨⟨a,au⟩,e1,e⟩:=bQ e;obtain⟨⟨u,aB⟩,e2,e3⟩:=bQ e;clear e;have(rfl,eg,nc):=G2 e2;cases e3;refine h ρ σ H a _ _ s.rs e1 λv H1 g1 k1=>?_;have(n1,n2):=k1.own s.rs g1 eg nc;exact k v σ H1 (s.go g1) (k1.now s.rs g1 eg)<|n1.mono s.dm
def lZ(pn:Qa Nat)(i:Nat):MS:=λρ=>if i∈pn then none else(match ρ[i]? with
 | some (some u)=>some<|.rt u<|ρ.set i none
 | _=>none)
theorem uu:VS K pn EX (wZ<|kO i) (lZ pn i):=by
 intro ai A av aA ρ σ H f D s e k;unfold lZ at e;split at e
 .cases e
 rename_i hi;split at e
 .rename_i u eu
  cases e;have(v,ev,p):=s.rs.rep i u eu;have back:∀ (j:Nat) (w:U),(ρ.set i none)[j]?=some (some w)->ρ[j]?=some (some w):=λj w e=>by
   by_cases hj:i=j
   .subst hj
    have hl:=(qk.mp e).1;rw[List.length_set]at hl;rw[List.getElem?_set_self hl]at e;cases e
   .rw[qB hj]at e
    exact e
  refine⟨v,ev,k v σ H ⟨⟨by rw[List.length_set]; exact s.rs.len,λj w e=>s.rs.rep j w<|back j w e,λa b x y ea eb=>s.rs.apart a b x y (back a x ea)<|back b y eb⟩,s.fr,λj w a e=>s.ow j w a<|back j w e,s.pin,s.dm,s.kp⟩ p λo=>?_⟩;have(a,rfl):=p.jD o;rcases s.ow i u a eu o ev with z|z
  .exact absurd z.1 hi
  .exact⟨a,rfl,z⟩
 .cases e
end
section
variable{EX:cJ}{A:Qg->Prop}{kf:Hp}{ρ af:En}
def Hc(K:qc)(J:It)(aA:Hp)(ds:Qa D):Prop:=∀ H,Kp aA H->∀ i:Nat,(∀ d,ds[i]?=some d->J.go i H/\∀ x H',J.uM i H x H'->cK H H'/\DF K H' x d)/\(i=ds.length->J.stop i H)
abbrev MI:=En->Qb (Qa D×En)
def VI(K:qc)(wi:TI)(mi:MI):Prop :=
 ∀ (ρ:En) (σ:St) (H:Hp) (ds:Qa D) (af:En) (R:It->Hp->Prop),Rs K ρ σ H->mi ρ=some (ds,af)->(∀ J H',Go K ρ σ H af H'->Hc K J H' ds->R J H')->wi σ H R
def pK:U->Qb (Qa D)
 | .d (.list xs)=>some xs
 | _=>none
def tT:U->Qb (Qa D)
 | .d (.tuple xs)=>some xs
 | _=>none
def j9(f:U->Qb (Qa D))(me:ME):MI:=λρ=>(me ρ).bind λp=>(p.1.get p.2).bind λu=>(f u).bind λds=>some (ds,p.2)
theorem yh{me:ME}(h:VE K te me):VI K (B0 K te) (j9 pK me):=by
 intro ρ σ H ds af R r e q;obtain⟨⟨a,au⟩,e1,e⟩:=bQ e;have(u,eu,e):=bQ e;have(xs,ex,e):=bQ e;cases e;refine h ρ σ H a _ _ r e1 λv H1 g1 k1=>?_;have p:=k1.now r g1 eu;unfold pK at ex;split at ex
 .cases ex
  have(b,ys,rfl,h1,h2):=DF.lst_inv p;refine⟨b,rfl,⟨ys,h1.sq⟩,q _ _ g1 λH2 k i=>⟨λd ed=>?_,λei=>?_⟩⟩
  .have(v,ev,dv):=(h2.kp k).get ed
   refine⟨⟨ys,v,(h1.kp k).sq,ev⟩,λx H' y=>?_⟩;have(rfl,y):=y;have:=y ys (h1.kp k).sq;rw[ev]at this;cases this;exact⟨λ_ _ z=>z,dv⟩
  .exact⟨ys,(h1.kp k).sq,by rw[h2.len]; omega⟩
 .cases ex
theorem Hb{me:ME}(h:VE K te me):VI K (Bo K te) (j9 tT me):=by
 intro ρ σ H ds af R r e q;obtain⟨⟨a,au⟩,e1,e⟩:=bQ e;have(u,eu,e):=bQ e;have(xs,ex,e):=bQ e;cases e;refine h ρ σ H a _ _ r e1 λv H1 g1 k1=>?_;have p:=k1.now r g1 eu;unfold tT at ex;split at ex
 .cases ex
  have(b,ys,rfl,h1,h2):=DF.aV p;refine⟨b,rfl,⟨ys,(cq.sq h1)⟩,q _ _ g1 λH2 k i=>⟨λd ed=>?_,λei=>?_⟩⟩
  .have(v,ev,dv):=(h2.kp k).get ed
   refine⟨⟨ys,v,(cq.kp k h1).sq,ev⟩,λx H' y=>?_⟩;have(rfl,y):=y;have:=y ys ((cq.kp k h1).sq);rw[ev]at this;cases this;exact⟨λ_ _ z=>z,dv⟩
  .exact⟨ys,(cq.kp k h1).sq,by rw[h2.len]; omega⟩
 .cases ex
def iJ(lo:Int)(n:Nat):Qa D:=(List.range n).map λi=>.int<|lo+(i:Nat)
theorem JF(lo:Int)(n:Nat):(iJ lo n).length=n:=by simp[iJ]
theorem Jh{lo:Int}{d:D}(h:(iJ lo n)[i]?=some d):i < n/\d=.int (lo+(i:Nat)):=by
 have hl:=(qk.mp h).1;rw[JF]at hl;refine⟨hl,?_⟩;unfold iJ at h;rw[List.getElem?_map,List.getElem?_range hl]at h;cases h;rfl
theorem WC{lo:Int}:Hc K (AI lo n) aA (iJ lo n):=λH k i=>⟨λd ed=>by
  have(hi,rfl):=Jh ed;refine⟨hi,λx H' y=>?_⟩;have(rfl,rfl):=y;exact⟨λ_ _ z=>z,.int _⟩,λei=>by rw[JF]at ei; exact Nat.le_of_eq ei.symm⟩
def pT(ma:MA):MI:=λρ=>(ma ρ).bind λp=>(bO p.2 p.1).bind λus=>match us with
 | [.d<|.int j]=>if -(2^62)<=j/\j < 2^62 then some (iJ 0 j.toNat,p.2)else none
 | _=>none
theorem yg{ta:TA}{ma:MA}(h:kM K ta ma):VI K (BZ ta) (pT ma):=by
 intro ρ σ H ds af R r e q;obtain⟨⟨as,au⟩,e1,e⟩:=bQ e;have(us,eu,e):=bQ e;refine h ρ σ H as au _ r e1 λvs H1 g1 s1=>?_;have rp:=s1.oS r g1 eu;dsimp only at e;split at e
 .split at e
  .rename_i j hc
   cases e;cases rp with
   | cons h1 t=>
    cases t;cases DF.int_inv h1;exact⟨j,rfl,hc.1,hc.2,q _ _ g1 WC⟩
  .cases e
 .cases e
def mm:Nat->Qa D->Qa D
 | _,[]=>[]
 | i,d::ds=>.tuple [.int (i:Nat),d]::mm (i+1) ds
theorem yM:∀ {ds:Qa D} {n i:Nat} {d:D},(mm n ds)[i]?=some d->∃ x,ds[i]?=some x/\d=.tuple [.int ((n+i:Nat):Int),x]
 | [],n,i,d,h=>by simp[mm]at h
 | x::ds,n,0,d,h=>by cases h; exact⟨x,rfl,rfl⟩
 | x::ds,n,i+1,d,h=>by
  have(y,ey,ed):=yM (ds:=ds) (n:=n+1) (i:=i) h;exact⟨y,ey,by rw[ed]; congr 3; omega⟩
theorem sP:∀ (ds:Qa D) (n:Nat),(mm n ds).length=ds.length
 | [],_=>rfl
 | _::ds,n=>congrArg (·+1)<|sP ds<|n+1
def tY(ma:MA):MI:=λρ=>(ma ρ).bind λp=>(bO p.2 p.1).bind λus=>match us with
 | [.d<|.tuple ds]=>some (mm 0 ds,p.2)
 | _=>none
theorem Hz{ta:TA}{ma:MA}(h:kM K ta ma):VI K (Gq K ta) (tY ma):=by
 intro ρ σ H ds af R r e q;obtain⟨⟨as,au⟩,e1,e⟩:=bQ e;have(us,eu,e):=bQ e;refine h ρ σ H as au _ r e1 λvs H1 g1 s1=>?_;have rp:=s1.oS r g1 eu;dsimp only at e;split at e
 .rename_i xs
  cases e;cases rp with
  | cons h1 t=>
   cases t;have(b,ys,rfl,h1,h2):=DF.aV h1;refine⟨b,rfl,⟨ys,(cq.sq h1)⟩,q _ _ g1 λH2 k i=>⟨λd ed=>?_,λei=>?_⟩⟩
   .have(x,ex,rfl):=yM ed
    have(v,ev,dv):=(h2.kp k).get ex;refine⟨⟨ys,v,(cq.kp k h1).sq,ev⟩,λx H' y=>?_⟩;have(T,nT,rfl,y):=y;cases y ys v ((cq.kp k h1).sq) ev;have sm:=lg nT (.tup [.int i,v]);refine⟨sm,.tup (.inl zt)<|.cons ?_<|.cons (dv.kp sm.kp) .nil⟩;rw[Nat.zero_add];exact .int _
   .exact⟨ys,(cq.kp k h1).sq,by rw[sP]at ei; rw[h2.len]; exact ei.symm⟩
 .cases e
abbrev MG:=D->En->Qb En
def Ma(pn:Qa Nat)(mg:MG):Prop:=∀ d ρ af,mg d ρ=some af->af.length=ρ.length/\∀ i∈pn,af[i]?=ρ[i]?
def OL(pn:Qa Nat)(mg:Qa D->En->Qb En):Prop:=∀ ds ρ af,mg ds ρ=some af->af.length=ρ.length/\∀ i∈pn,af[i]?=ρ[i]?
structure pD (K:qc) (pn:Qa Nat) (g:TG) (mg:MG):Prop where
 run:∀ (ai:St) (A:Qg->Prop) (av aA:Hp) (ρ:En) (σ:St) (H:Hp) (v:V) (d:D) (af:En) (Q:St->Hp->Prop),Sn K pn ai A av aA ρ σ H->DF K H v d->mg d ρ=some af->(∀ aC,Sn K pn ai A av aA af aC H->Q aC H)->g v σ H Q
 ok:Ma pn mg
structure AB (K:qc) (pn:Qa Nat) (g:iM) (mg:Qa D->En->Qb En):Prop where
 run:∀ (ai:St) (A:Qg->Prop) (av aA:Hp) (ρ:En) (σ:St) (H:Hp) (vs:Qa V) (ds:Qa D) (af:En) (Q:St->Hp->Prop),Sn K pn ai A av aA ρ σ H->aR K H vs ds->mg ds ρ=some af->(∀ aC,Sn K pn ai A av aA af aC H->Q aC H)->g vs σ H Q
 ok:OL pn mg
def dB(i:Nat):MG:=λd ρ=>some<|ρ.set i<|some<|.d d
theorem zT(hi:i∉pn:=by decide):pD K pn (jv i) (dB i) where
 run:=by
  intro ai A av aA ρ σ H v d af Q s h e q;cases e;exact q _ (s.set hi (u:=.d d) h λo=>by cases o)
 ok:=λd ρ af e=>by
  cases e;exact⟨List.length_set,λj hj=>qB (by rintro rfl; exact hi hj)⟩
def nh:Qa D->En->Qb En:=λds ρ=>match ds with | []=>some ρ|_=>none
def gS(g:MG)(gs:Qa D->En->Qb En):Qa D->En->Qb En:=λds ρ=>match ds with
 | d::ds=>(g d ρ).bind λau=>gs ds au
 | []=>none
theorem zev:AB K pn wX nh where
 run:=by
  intro ai A av aA ρ σ H vs ds af Q s h e q;cases h with
  | nil=>cases e; exact⟨rfl,q σ s⟩
  | cons=>cases e
 ok:=λds ρ af e=>by
  cases ds with
  | nil=>cases e; exact⟨rfl,λ_ _=>rfl⟩
  | cons=>cases e
theorem jw{g:TG}{gs:iM}{mg:MG}{qR:Qa D->En->Qb En}(h1:pD K pn g mg)(h2:AB K pn gs qR):AB K pn (t9 g gs) (gS mg qR) where
 run:=by
  intro ai A av aA ρ σ H vs ds af Q s h e q;cases h with
  | nil=>cases e
  | @cons v d vs ds hv t=>
   have(au,e1,e):=bQ (show(mg d ρ).bind (λau=>qR ds au)=some af from e);exact⟨v,vs,rfl,h1.run ai A av aA ρ σ H v d au _ s hv e1 λeh s1=>h2.run ai A av aA au eh H vs ds af Q s1 t e q⟩
 ok:=λds ρ af e=>by
  cases ds with
  | nil=>cases e
  | cons d ds=>
   have(au,e1,e):=bQ (show(mg d ρ).bind (λau=>qR ds au)=some af from e);have(a1,a2):=h1.ok d ρ au e1;have(b1,b2):=h2.ok ds au af e;exact⟨b1.trans a1,λi hi=>(b2 i hi).trans<|a2 i hi⟩
def kT(n:Nat)(gs:Qa D->En->Qb En):MG:=λd ρ=>match d with
 | .tuple ds=>if ds.length=n then gs ds ρ else none
 | _=>none
theorem sd{gs:iM}{qR:Qa D->En->Qb En}(h:AB K pn gs qR):pD K pn (wW K n gs) (kT n qR) where
 run:=by
  intro ai A av aA ρ σ H v d af Q s hd e q;unfold kT at e;split at e
  .split at e
   .rename_i ds hl
    have(a,xs,rfl,h1,h2):=DF.aV hd;exact⟨a,xs,rfl,(cq.sq h1),by rw[h2.len]; exact hl,h.run ai A av aA ρ σ H xs ds af Q s h2 e q⟩
   .cases e
  .cases e
 ok:=λd ρ af e=>by
  unfold kT at e;split at e
  .split at e
   .exact h.ok _ _ _ e
   .cases e
  .cases e
def og(me:ME)(mg:MG):MS:=λρ=>(me ρ).bind λp=>(p.1.get p.2).bind λu=>match u with
 | .d d=>(mg d p.2).bind λaf=>some<|.nx af
 | _=>none
theorem xp{g:TG}{me:ME}{mg:MG}(h:VE K te me)(hg:pD K pn g mg):VS K pn EX (lV te g) (og me mg):=by
 intro ai A av aA ρ σ H f D s e k;obtain⟨⟨a,au⟩,e1,e⟩:=bQ e;have(u,eu,e):=bQ e;refine h ρ σ H a au _ s.rs e1 λv H1 g1 k1=>?_;have p:=k1.now s.rs g1 eu;dsimp only at e;split at e
 .have(aB,e2,e3):=bQ e
  cases e3;exact hg.run ai A av aA au σ H1 v _ aB _ (s.go g1) p e2 λaC s'=>k aC H1 s'
 .cases e
def w9(i j:Nat)(ma:MA):MS:=λρ=>(ma ρ).bind λp=>(bO p.2 p.1).bind λus=>match us with
 | [.d x,.d y]=>some<|.nx<|(p.2.set i<|some<|.d x).set j<|some<|.d y
 | _=>none
theorem OK{ta:TA}{ma:MA}(h:kM K ta ma)(hi:i∉pn:=by decide)(hj:j∉pn:=by decide):VS K pn EX (Bp i j ta) (w9 i j ma):=by
 intro ai A av aA ρ σ H f D s e k;obtain⟨⟨as,au⟩,e1,e⟩:=bQ e;have(us,eu,e):=bQ e;refine h ρ σ H as au _ s.rs e1 λvs H1 g1 s1=>?_;have rp:=s1.oS s.rs g1 eu;dsimp only at e;split at e
 .rename_i x y
  cases e;cases rp with
  | @cons v _ vs _ h1 t=>
   cases t with
   | @cons w _ _ _ h2 t=>
    cases t;have sn:=(s.go g1).set hi (u:=.d x) h1 λo=>by cases o
    exact⟨v,w,rfl,k _ _ (sn.set hj (u:=.d y) h2 λo=>by cases o)⟩
 .cases e
def gD(mg:MG)(mb:MS):Qa D->En->Qb Fl
 | [],ρ=>some<|.nx ρ
 | d::ds,ρ=>(mg d ρ).bind λau=>(mb au).bind λf=>match f with
  | .nx aB=>gD mg mb ds aB
  | .ct aB=>gD mg mb ds aB
  | .bk aB=>some<|.nx aB
  | .rt u aB=>some<|.rt u aB
  | .ex x aB=>some<|.ex x aB
def jk(mi:MI)(mg:MG)(mb:MS):MS:=λρ=>(mi ρ).bind λp=>gD mg mb p.1 p.2
theorem lY{wi:TI}{g:TG}{tb:TS}{mi:MI}{mg:MG}{mb:MS}(hi:VI K wi mi)(hg:pD K pn g mg)(hb:VS K pn EX tb mb):VS K pn EX (wV wi g tb) (jk mi mg mb):=by
 intro ai A av aA ρ σ H f D s e k;obtain⟨⟨ds,au⟩,e1,e⟩:=bQ e;refine hi ρ σ H ds au _ s.rs e1 λJ H1 g1 run=>?_;have s1:=(s.go g1).at;have nK:Kp aA H1:=(s.go g1).kp;refine⟨λi m aC H'=>m=ds.length - i/\i<=ds.length/\∃ af,Sn K pn ai A av H1 af aC H'/\gD mg mb (ds.drop i) af=some f,⟨ds.length,by simp,Ä _,au,s1,e⟩,?_⟩;rintro i m aC H' ⟨rfl,hG,af,s',el⟩
 by_cases eB:i < ds.length
 .rw[List.drop_eq_getElem_cons eB]at el
  have(aB,e2,el):=bQ (show(mg ds[i] af).bind _=some f from el);have(fb,eb,el):=bQ el;have(go,yl):=(run H' s'.kp i).1 ds[i] (ql eB);refine .inr ⟨go,λd9 H3=>∃ iz,Sn K pn ai A av H1 iz d9 H3/\gD mg mb (ds.drop<|i+1) iz=some f,λd9 H3 ⟨iz,s3,e3⟩=>⟨ds.length - (i+1),by omega,rfl,eB,iz,s3,e3⟩,λx H2 y=>?_⟩;have(sm,dx):=yl x H2 y;have s2:=s'.go (Go.grow s'.rs sm);refine hg.run ai A av H1 af aC H2 x ds[i] aB _ s2 dx e2 λd9 s3=>?_;refine hb ai A av H1 aB d9 H2 fb _ s3 eb ?_;cases fb with
  | nx c7=>exact λdS H4 s4=>⟨c7,s4,el⟩
  | ct c7=>exact λdS H4 s4=>⟨c7,s4,el⟩
  | bk c7=>cases el; exact λdS H4 s4=>k dS H4<|s4.re nK
  | rt u c7=>cases el; exact λv dS H4 s4 p n=>k v dS H4 (s4.re nK) p n
  | ex x c7=>cases el; exact λa dS H4 s4 p n=>k a dS H4 (s4.re nK) p n
 .have ei:i=ds.length:=by omega
  subst ei;rw[List.drop_length]at el;cases el;exact .inl ⟨(run H' s'.kp _).2 rfl,k aC H'<|s'.re nK⟩
def gR(mt:MT)(mb:MS):Nat->En->Qb Fl
 | 0,_=>none
 | n+1,ρ=>(mt ρ).bind λp=>if p.1=true then(mb p.2).bind λf=>match f with
  | .nx aB=>gR mt mb n aB
  | .ct aB=>gR mt mb n aB
  | .bk aB=>some<|.nx aB
  | .rt u aB=>some<|.rt u aB
  | .ex x aB=>some (.ex x aB)else some (.nx p.2)
open Classical in
def pW(mt:MT)(mb:MS):MS:=λρ=>if h:∃ n,(gR mt mb n ρ).isSome=true then gR mt mb h.choose ρ else none
theorem Hy{tb:TS}{mt:MT}{mb:MS}(ht:VT K tt mt)(hb:VS K pn EX tb mb):VS K pn EX (Cv tt tb) (pW mt mb):=by
 intro ai A av aA ρ σ H f D s e k;unfold pW at e;split at e
 .rename_i hn
  generalize hn.choose=n at e;refine⟨λm aC H'=>∃ af,Sn K pn ai A av aA af aC H'/\gR mt mb m af=some f,⟨n,ρ,s,e⟩,?_⟩;rintro m aC H' ⟨af,s',el⟩;cases m with
  | zero=>cases el
  | succ m=>
   obtain⟨⟨b,au⟩,e1,el⟩:=bQ (show(mt af).bind _=some f from el);refine ht af aC H' b au _ s'.rs e1 λH1 g1=>?_;dsimp only at el;split at el
   .rename_i hc
    rw[if_pos hc];have(fb,eb,el):=bQ el;refine⟨λfZ H2=>∃ aB,Sn K pn ai A av aA aB fZ H2/\gR mt mb m aB=some f,λfZ H2 ⟨aB,s2,e2⟩=>⟨m,Nat.lt_succ_self m,aB,s2,e2⟩,?_⟩;refine hb ai A av aA au aC H1 fb _ (s'.go g1) eb ?_;cases fb with
    | nx c7=>exact λdS H4 s4=>⟨c7,s4,el⟩
    | ct c7=>exact λdS H4 s4=>⟨c7,s4,el⟩
    | bk c7=>cases el; exact λdS H4 s4=>k dS H4 s4
    | rt u c7=>cases el; exact λv dS H4 s4 p n=>k v dS H4 s4 p n
    | ex x c7=>cases el; exact λa dS H4 s4 p n=>k a dS H4 s4 p n
   .rename_i hc
    rw[if_neg hc];cases el;exact k aC H1<|s'.go g1
 .cases e
theorem yL{mt:MT}{mb:MS}:∀ {n:Nat} {ρ:En} {f:Fl},gR mt mb n ρ=some f->∀ k,gR mt mb (n+k) ρ=some f
 | 0,_,_,e,_=>by cases e
 | n+1,ρ,f,e,k=>by
  rw[show n+1+k=(n+k)+1 by omega];obtain⟨⟨b,au⟩,e1,e⟩:=bQ (show(mt ρ).bind _=some f from e);show(mt ρ).bind _=some f;rw[e1];show(if b=true then _ else _)=_;dsimp only at e;split at e
  .rename_i hc
   rw[if_pos hc];have(fb,eb,e):=bQ e;rw[eb];cases fb with
   | nx aB=>exact yL (n:=n) e k
   | ct aB=>exact yL (n:=n) e k
   | bk aB=>exact e
   | rt u aB=>exact e
   | ex x aB=>exact e
  .rename_i hc
   rw[if_neg hc];exact e
theorem Ve{mt:MT}{mb:MS}{ρ:En}{f:Fl}(e:gR mt mb n ρ=some f):pW mt mb ρ=some f:=by
 have h:∃ n,(gR mt mb n ρ).isSome=true:=⟨n,by rw[e]; rfl⟩;unfold pW;rw[dif_pos h];have(f',LB):=Ø.mp h.choose_spec;rw[LB];have a:=yL e h.choose;have b:=yL LB n;rw[Nat.add_comm,b]at a;exact a
end
section
variable{A:Qg->Prop}{kf:Hp}{ρ af:En}
def ip(nt:Nat)(js:Qa Nat)(ρ:En):En:=List.replicate nt none++js.map λj=>ρ.getD j none
def reset(nt:Nat)(ρ:En):En:=List.replicate nt none++ρ.drop nt
def back:Qa Nat->Qa (Qb U)->En->En
 | j::js,some u::us,ρ=>back js us<|ρ.set j<|some u
 | _::js,none::us,ρ=>back js us ρ
 | _,_,ρ=>ρ
def jG(nt:Nat)(mg:MG)(mt:MT)(me:ME):Qa D->En->Qa D->Qb (Qa D×En)
 | [],ρ,ys=>some (ys,ρ)
 | d::ds,ρ,ys=>if ys.length < sizeLine then(mg d ρ).bind λau=>(mt au).bind λb=>if b.1=true then(me b.2).bind λp=>(p.1.get p.2).bind λu=>(match u with
   | .d y=>jG nt mg mt me ds (reset nt p.2)<|ys++[y]
   | _=>none)else jG nt mg mt me ds (reset nt b.2) ys else none
def qS(mi:MI)(nt:Nat)(js:Qa Nat)(mg:MG)(mt:MT)(me:ME):ME:=λρ=>(mi ρ).bind λp=>(jG nt mg mt me p.1 (ip nt js p.2) []).bind λq=>some (.u<|.l q.1,back js (q.2.drop nt) p.2)
def kP(nt n:Nat):Qa Nat:=(List.range n).map (nt+·)
theorem yf:i∈kP nt n↔nt<=i/\i < nt+n:=by
 unfold kP;rw[List.mem_map];constructor
 .rintro⟨a,ha,rfl⟩
  have:=Î.mp ha;omega
 .intro h
  exact⟨i - nt,Î.mpr (by omega),by omega⟩
theorem ur{u:U}(h:(ip nt js ρ)[i]?=some (some u)):∃ p j,i=nt+p/\js[p]?=some j/\ρ[j]?=some (some u):=by
 unfold ip at h
 by_cases hi:i < nt
 .rw[List.getElem?_append_left (by simpa using hi),List.getElem?_replicate,if_pos hi]at h
  cases h
 .rw[List.getElem?_append_right (by simp; omega),List.length_replicate,List.getElem?_map]at h
  have(j,ej,e):=qq.mp h;refine⟨i - nt,j,by omega,ej,?_⟩;rw[qA]at e;cases q:ρ[j]? with
  | none=>rw[q]at e; cases e
  | some o=>rw[q]at e; exact congrArg some e
theorem Gi{p:Nat}(h:js[p]?=some j):(c0 nt js σ)[nt+p]?=some (σ.getD j none):=by
 unfold c0;rw[List.getElem?_append_right (by simp),List.length_replicate,Nat.add_sub_cancel_left,List.getElem?_map,h];rfl
theorem Ha:(c0 nt js σ).length=nt+js.length:=by unfold c0; simp
theorem Hx:(ip nt js ρ).length=nt+js.length:=by unfold ip; simp
def rL(ρ:En)(σ:St)(js:Qa Nat)(a:Qg):Prop:=∃ (p j:Nat) (u:U),js[p]?=some j/\ρ[j]?=some (some u)/\u.own=true/\σ[j]?=some (some<|.ref a)
theorem SI(r:Rs K ρ σ H)(nd:js.Nodup):Sn K (kP nt js.length) (c0 nt js σ) (rL ρ σ js) H H (ip nt js ρ) (c0 nt js σ) H:=by
 have sat:∀ {p j:Nat} {v:V},js[p]?=some j->σ[j]?=some (some v)->(c0 nt js σ)[nt+p]?=some (some v):=λ{p j v} hp hv=>by
  rw[Gi hp,qA,hv];rfl
 refine⟨⟨by rw[Hx,Ha],λi u e=>?_,λi k u w ei ek ou ow es=>?_⟩,λ_ _ h _=>h,λi u a e o es=>?_,λ_ _=>rfl,λ_ h=>h,Kp.refl H⟩
 .have(p,j,rfl,hj,hr):=ur e
  have(v,ev,q):=r.rep j u hr;exact⟨v,sat hj ev,q⟩
 .have(p,j,rfl,hj,hr):=ur ei
  have(p',j',rfl,lH,Ah):=ur ek;have(v,ev,_):=r.rep j u hr;have(v',rq,_):=r.rep j' w Ah;rw[sat hj ev,sat lH rq]at es;have:j=j':=r.apart j j' u w hr Ah ou ow (by rw[ev,rq]; exact es);subst this;have l1:=(qk.mp hj);have l2:=(qk.mp lH);have(h1,e1):=l1;have(h2,e2):=l2;have:=(List.getElem_inj nd).mp (e1.trans e2.symm);omega
 .have(p,j,rfl,hj,hr):=ur e
  have(v,ev,_):=r.rep j u hr;rw[sat hj ev]at es;cases es;exact .inl ⟨yf.mpr ⟨by omega,by have:=(qk.mp hj).1; omega⟩,p,j,u,hj,hr,o,ev⟩
theorem Sn.reset{kg:St}{aB:En}{fZ:St}(s:Sn K (kP nt n) kg A av aA aB fZ H)(l1:aB.length=nt+n)(l2:kg.length=nt+n):Sn K (kP nt n) kg A av aA (L2.reset nt aB) kg H:=by
 have bk:∀ (i:Nat) (u:U),(L2.reset nt aB)[i]?=some (some u)->nt<=i/\i < nt+n/\aB[i]?=some (some u):=λi u e=>by
  unfold L2.reset at e
  by_cases hi:i < nt
  .rw[List.getElem?_append_left (by simpa using hi),List.getElem?_replicate,if_pos hi]at e
   cases e
  .rw[List.getElem?_append_right (by simp; omega),List.length_replicate,List.getElem?_drop,show nt+(i - nt)=i by omega]at e
   have:=(qk.mp e).1;exact⟨by omega,by omega,e⟩
 have pin:∀ i,nt<=i->i < nt+n->kg[i]?=fZ[i]?:=λi h1 h2=>(s.pin i<|yf.mpr ⟨h1,h2⟩).symm;have ll:(L2.reset nt aB).length=nt+n:=by unfold L2.reset; simp; omega
 refine⟨⟨by omega,λi u e=>?_,λi j u w ei ej ou ow es=>?_⟩,s.fr,λi u a e o es=>?_,λ_ _=>rfl,s.dm,s.kp⟩
 .have(h1,h2,e'):=bk i u e
  rw[pin i h1 h2];exact s.rs.rep i u e'
 .have(h1,h2,pA):=bk i u ei
  have(h3,h4,lK):=bk j w ej;rw[pin i h1 h2,pin j h3 h4]at es;exact s.rs.apart i j u w pA lK ou ow es
 .have(h1,h2,e'):=bk i u e
  rw[pin i h1 h2]at es;exact s.ow i u a e' o es
theorem ye:∀ {js:Qa Nat} {us:Qa (Qb U)} {ρ:En} {j:Nat} {w:U},(back js us ρ)[j]?=some (some w)->(∃ p:Nat,js[p]?=some j/\us[p]?=some (some w))\/(ρ[j]?=some (some w)/\∀ p:Nat,js[p]?=some j->∀ x,us[p]?≠some (some x))
 | [],us,ρ,j,w,e=>.inr ⟨by cases us<;>exact e,λp z=>by simp at z⟩
 | k::js,[],ρ,j,w,e=>.inr ⟨e,λp z x=>by simp⟩
 | k::js,none::us,ρ,j,w,e=>by
  rcases ye (js:=js) (us:=us) (ρ:=ρ) (show(back js us ρ)[j]?=some (some w) from e)with⟨p,h1,h2⟩|⟨h1,h2⟩
  .exact .inl ⟨p+1,h1,h2⟩
  .refine .inr ⟨h1,λp z x=>?_⟩
   cases p with
   | zero=>intro q; cases q
   | succ p=>exact h2 p z x
 | k::js,some u::us,ρ,j,w,e=>by
  rcases ye (js:=js) (us:=us) (ρ:=ρ.set k (some u)) (show(back js us<|ρ.set k<|some u)[j]?=some (some w) from e)with⟨p,h1,h2⟩|⟨h1,h2⟩
  .exact .inl ⟨p+1,h1,h2⟩
  .by_cases hk:k=j
   .subst hk
    have hl:k < (ρ.set k<|some u).length:=(qk.mp h1).1;rw[List.length_set]at hl;rw[List.getElem?_set_self hl]at h1;exact .inl ⟨0,rfl,by cases h1; rfl⟩
   .rw[qB hk]at h1
    refine .inr ⟨h1,λp z x=>?_⟩;cases p with
    | zero=>cases(show some k=some j from z); exact absurd rfl hk
    | succ p=>exact h2 p z x
theorem yt:∀ (js:Qa Nat) (us:Qa (Qb U)) (ρ:En),(back js us ρ).length=ρ.length
 | [],us,ρ=>by cases us<;>rfl
 | _::js,[],ρ=>rfl
 | _::js,none::us,ρ=>yt js us ρ
 | j::js,some u::us,ρ=>by show(back js us<|ρ.set j<|some u).length=_; rw[yt]; exact List.length_set
theorem yo:∀ {js:Qa Nat} {us:Qa (Qb U)} {ρ:En} {j:Nat} {w:U},ρ[j]?=some (some w)->∃ w',(back js us ρ)[j]?=some (some w')
 | [],us,ρ,j,w,e=>⟨w,by cases us<;>exact e⟩
 | _::js,[],ρ,j,w,e=>⟨w,e⟩
 | _::js,none::us,ρ,j,w,e=>yo (js:=js) (us:=us) e
 | k::js,some u::us,ρ,j,w,e=>by
  by_cases hk:k=j
  .subst hk
   exact yo (js:=js) (us:=us) (w:=u)<|ß (qk.mp e).1
  .exact yo (js:=js) (us:=us) (w:=w) (by rw[qB hk]; exact e)
theorem Sn.comp_back{aB:En}(r:Rs K ρ σ H)(s:Sn K (kP nt js.length) (c0 nt js σ) (rL ρ σ js) H aA aB (c0 nt js σ) H')(l:aB.length=nt+js.length)(sh:gx (ip nt js ρ) aB):
  Go K ρ σ H (back js (aB.drop nt) ρ) H':=by
 have uP:∀ (p:Nat) (w:U),(aB.drop nt)[p]?=some (some w)->aB[nt+p]?=some (some w):=λp w e=>by rw[List.getElem?_drop]at e; exact e
 have kp:Kp H H':=by
  refine⟨λb xs h=>s.fr b _ h λ⟨p,j,u,hj,hr,ou,es⟩=>?_,λb ob u h=>s.fr b _ h λ⟨p,j,u,hj,hr,ou,es⟩=>?_,λb x h=>s.fr b _ h λ⟨p,j,u,hj,hr,ou,es⟩=>?_⟩
  all_goals
   have(c,q,m):=r.ow ⟨j,u,hr,ou,es⟩;rw[h]at q; cases q; exact m
 have DY:∀ (p j:Nat) (w:U),js[p]?=some j->(aB.drop nt)[p]?=some (some w)->w.own=true->∃ x,ρ[j]?=some (some x)/\x.own=true:=λp j w hj e o=>by
  have(x,ex,ox):=sh.own (nt+p) w (uP p w e) o;have(p',j',ep,lH,hr):=ur ex;have:p'=p:=by omega
  subst this;rw[hj]at lH;cases lH;exact⟨x,hr,ox⟩
 have own:∀ (j:Nat) (w:U),(back js (aB.drop nt) ρ)[j]?=some (some w)->w.own=true->∃ x,ρ[j]?=some (some x)/\x.own=true:=λj w e o=>by
  rcases ye e with⟨p,hj,hu⟩|⟨h1,_⟩
  .exact DY p j w hj hu o
  .exact⟨w,h1,o⟩
 refine⟨⟨by rw[yt]; exact r.len,λj w e=>?_,λi j u w ei ej ou ow es=>?_⟩,λa o h n=>s.fr a o h λ⟨p,j,u,hj,hr,ou,es⟩=>n ⟨j,u,hr,ou,es⟩,⟨yt _ _ _,own,λj w e=>yo e⟩,s.dm⟩
 .rcases ye e with⟨p,hj,hu⟩|⟨h1,h2⟩
  .have(v,ev,q):=s.rs.rep (nt+p) w (uP p w hu)
   rw[Gi hj]at ev;refine⟨v,?_,q⟩;rw[qA]at ev;cases z:σ[j]? with
   | none=>rw[z]at ev; cases ev
   | some o=>rw[z]at ev; exact congrArg some<|qw ev
  .have(v,ev,q):=r.rep j w h1
   refine⟨v,ev,q.kp kp λow a c ea hc=>s.fr a c hc λ⟨p,j',u,hj,hr,ou,es⟩=>?_⟩;subst ea;have:j'=j:=r.apart j' j u w hr h1 ou ow (by rw[es,ev]);subst this;have e1:(ip nt js ρ)[nt+p]?=some (some u):=by
    unfold ip;rw[List.getElem?_append_right (by simp),List.length_replicate,Nat.add_sub_cancel_left,List.getElem?_map,hj];show some (ρ.getD j' none)=_;rw[qA,hr];rfl
   have(w',kF):=sh.live _ _ e1;exact h2 p hj w' (by rw[List.getElem?_drop]; exact kF)
 .have(x,ex,ox):=own i u ei ou
  have(y,ey,oy):=own j w ej ow;exact r.apart i j x y ex ey ox oy es
theorem gx.qJ{jR au:En}(l:jR.length=nt+n)(h0:∀ i,i < nt->jR[i]?=some none)(l1:au.length=nt+n)(own:∀ (i:Nat) (u:U),nt<=i->au[i]?=some (some u)->u.own=true->∃ w,jR[i]?=some (some w)/\w.own=true)(live:∀ (i:Nat) (u:U),nt<=i->jR[i]?=some (some u)->∃ w,au[i]?=some (some w)):gx jR (L2.reset nt au):=by
 have at':∀ i,nt<=i->(L2.reset nt au)[i]?=au[i]?:=λi hi=>by
  unfold L2.reset;rw[List.getElem?_append_right (by simp; omega),List.length_replicate,List.getElem?_drop,show nt+(i - nt)=i by omega]
 have lo:∀ i,i < nt->(L2.reset nt au)[i]?=some none:=λi hi=>by
  unfold L2.reset;rw[List.getElem?_append_left (by simpa using hi),List.getElem?_replicate,if_pos hi]
 refine⟨by unfold L2.reset; simp; omega,λi u e o=>?_,λi u e=>?_⟩
 .by_cases hi:i < nt
  .rw[lo i hi]at e; cases e
  .rw[at' i (by omega)]at e
   exact own i u (by omega) e o
 .by_cases hi:i < nt
  .rw[h0 i hi]at e; cases e
  .rw[at' i (by omega)]
   exact live i u (by omega) e
theorem IV{au:En}(h:i < nt):(L2.reset nt au)[i]?=some none:=by
 unfold L2.reset;rw[List.getElem?_append_left (by simpa using h),List.getElem?_replicate,if_pos h]
theorem O0(h:i < nt):(ip nt js ρ)[i]?=some none:=by
 unfold ip;rw[List.getElem?_append_left (by simpa using h),List.getElem?_replicate,if_pos h]
def Z4(K:qc)(js:Qa Nat)(wi:TI)(mi:MI):Prop :=
 ∀ (ρ:En) (σ:St) (H:Hp) (ds:Qa D) (af:En) (R:It->Hp->Prop),Rs K ρ σ H->mi ρ=some (ds,af)->(∀ J H',Go K ρ σ H af H'->(∀ H2,Kp H' H2->wq (rL af σ js) H' H2->∀ i:Nat,(∀ d,ds[i]?=some d->J.go i H2/\∀ x H3,J.uM i H2 x H3->cK H2 H3/\DF K H3 x d)/\(i=ds.length->J.stop i H2))->R J H')->wi σ H R
theorem OJ{wi:TI}{g:TG}{mi:MI}{mg:MG}{mt:MT}{me:ME}(hi:Z4 K js wi mi)(hg:pD K (kP nt js.length) g mg)(ht:VT K tt mt)(he:VE K te me)(nd:js.Nodup:=by decide):
  VE K (DI wi nt js g tt te) (qS mi nt js mg mt me):=by
 intro ρ σ H a af Q r e q;obtain⟨⟨ds,au⟩,e1,e⟩:=bQ e;obtain⟨⟨zs,Ft⟩,e2,e⟩:=bQ e;cases e;refine hi ρ σ H ds au _ r e1 λJ H1 g1 run=>?_;have s1:=SI (nt:=nt) (js:=js) g1.rs nd;refine⟨λi m ys H'=>m=ds.length - i/\i<=ds.length/\∃ jR yd,Sn K (kP nt js.length) (c0 nt js σ) (rL au σ js) H1 H1 jR (c0 nt js σ) H'/\gx (ip nt js au) jR/\(∀ k,k < nt->jR[k]?=some none)/\aR K H' ys yd/\jG nt mg mt me (ds.drop i) jR yd=some (zs,Ft),
  ⟨ds.length,by simp,Ä _,_,[],s1,gx.refl _,λk hk=>O0 hk,.nil,e2⟩,?_⟩
 rintro i m ys H' ⟨rfl,hG,jR,yd,s',sh,lo,dy,el⟩;have lc:jR.length=nt+js.length:=by rw[sh.len,Hx]
 by_cases eB:i < ds.length
 .rw[List.drop_eq_getElem_cons eB]at el
  unfold jG at el;split at el
  .rename_i hz
   have(aB,e3,el):=bQ el;obtain⟨⟨b,iz⟩,e4,el⟩:=bQ el;have(l2,p2):=hg.ok _ _ _ e3;have(go,yl):=(run H' s'.kp s'.fr i).1 ds[i] (ql eB);refine .inr ⟨go,by rw[dy.len]; exact hz,λjy H2=>∃ jQ yR,Sn K (kP nt js.length) (c0 nt js σ) (rL au σ js) H1 H1 jQ (c0 nt js σ) H2/\gx (ip nt js au) jQ/\(∀ k,k < nt->jQ[k]?=some none)/\aR K H2 jy yR/\jG nt mg mt me (ds.drop<|i+1) jQ yR=some (zs,Ft),
    λjy H2 ⟨jQ,yR,z⟩=>⟨ds.length - (i+1),by omega,rfl,eB,jQ,yR,z⟩,λx H2 y=>?_⟩
   have(sm,dx):=yl x H2 y;have s2:=s'.go (Go.grow s'.rs sm);refine hg.run _ _ _ _ jR _ H2 x ds[i] aB _ s2 dx e3 λd9 s3=>?_;have toEnd:∀ {c7:En} {H4:Hp},Go K aB d9 H2 c7 H4->Sn K (kP nt js.length) (c0 nt js σ) (rL au σ js) H1 H1 (L2.reset nt c7) (c0 nt js σ) H4/\gx (ip nt js au) (L2.reset nt c7):=λ{c7 H4} g4=>by
    have l4:c7.length=nt+js.length:=by rw[g4.shr.len,l2,lc]
    refine⟨(s3.go g4).reset l4 Ha,sh.trans<|gx.qJ lc lo l4 (λk u hk ek ou=>?_) λk u hk ek=>?_⟩
    .have(w,ew,ow):=g4.shr.own k u ek ou
     have lk:k < nt+js.length:=by rw[<-l2.trans lc]; exact(qk.mp ew).1
     rw[p2 k<|yf.mpr ⟨hk,lk⟩]at ew;exact⟨w,ew,ow⟩
    .have lk:k < nt+js.length:=by rw[<-lc]; exact(qk.mp ek).1
     rw[<-p2 k (yf.mpr ⟨hk,lk⟩)]at ek;exact g4.shr.live k u ek
   refine ht aB d9 H2 b iz _ s3.rs e4 λH3 g3=>?_;dsimp only at el;split at el
   .rename_i hb
    rw[if_pos hb];obtain⟨⟨a4,c7⟩,e5,el⟩:=bQ el;have(u,e6,el):=bQ el;refine he iz d9 H3 a4 c7 _ g3.rs e5 λv H4 g4 k4=>?_;have pv:=k4.now g3.rs g4 e6;dsimp only at el;split at el
    .rename_i yv
     have(sn,sr):=toEnd (g3.trans g4);exact⟨_,_,sn,sr,λk hk=>IV hk,((dy.kp sm.kp).kp<|(g3.trans g4).kp s3.rs).snoc pv,el⟩
    .cases el
   .rename_i hb
    rw[if_neg hb];have(sn,sr):=toEnd g3;exact⟨_,_,sn,sr,λk hk=>IV hk,(dy.kp sm.kp).kp<|g3.kp s3.rs,el⟩
  .cases el
 .have ei:i=ds.length:=by omega
  subst ei;rw[List.drop_length]at el;cases el;refine .inl ⟨(run H' s'.kp s'.fr _).2 rfl,λDa hD=>?_⟩;have gb:=Sn.comp_back g1.rs s' lc sh;have sm:=lg hD (.lst ys);exact q _ _ ((g1.trans gb).trans<|Go.grow gb.rs sm) ⟨⟨Da,ys,rfl,zt,dy.kp sm.kp⟩,λ_=>⟨Da,rfl,(g1.trans gb).dm _ hD⟩⟩
theorem AW{wi:TI}{g:TG}{mi:MI}{mg:MG}{mt:MT}{me:ME}(hi:VI K wi mi)(hg:pD K (kP nt js.length) g mg)(ht:VT K tt mt)(he:VE K te me)(nd:js.Nodup:=by decide):
  VE K (DI wi nt js g tt te) (qS mi nt js mg mt me):=OJ (λρ σ H ds af R r e q=>hi ρ σ H ds af R r e λJ H' g run=>q J H' g λH2 k _=>run H2 k) hg ht he nd
end
section
variable{EX:cJ}{A:Qg->Prop}{kf:Hp}{ρ af:En}
def zZ(pn:Qa Nat)(ρ:En):Nat->Qa U->Qb (Qa U)
 | _,[]=>some []
 | i,u::us=>(if i∈pn then(ρ[i]?).join.bind λo=>if o.own=true/\u.own=false then none else some o else if u.own=true then none else some u).bind λo=>(zZ pn ρ (i+1) us).bind λos=>some<|o::os
def eK(n:Nat)(pn:Qa Nat)(m:MS):FD:=λus=>(m<|sm us++List.replicate (n - us.length) none).bind λf=>match f with
 | .rt u ρ=>(zZ pn ρ 0 us).bind λos=>some (u,os)
 | .nx ρ=>(zZ pn ρ 0 us).bind λos=>some (.d .none,os)
 | _=>none
theorem IU:∀ {us os:Qa U} {i:Nat},zZ pn ρ i us=some os->os.length=us.length
 | [],os,i,e=>by cases e; rfl
 | u::us,os,i,e=>by
  have(o,e1,e):=bQ e;have(oU,e2,e):=bQ e;cases e;simp[IU e2]
theorem ux:∀ {us os:Qa U} {i p:Nat} {o:U},zZ pn ρ i us=some os->os[p]?=some o->∃ u,us[p]?=some u/\((i+p∈pn/\ρ[i+p]?=some (some o)/\(o.own=true->u.own=true))\/(i+p∉pn/\o=u/\u.own=false))
 | [],os,i,p,o,e,ep=>by cases e; simp at ep
 | u::us,os,i,p,o,e,ep=>by
  have(o1,e1,e):=bQ e;have(oU,e2,e):=bQ e;cases e;cases p with
  | zero=>
   cases(show some o1=some o from ep);refine⟨u,rfl,?_⟩;rw[Nat.add_zero];split at e1
   .rename_i hi
    have(o2,e3,e1):=bQ e1;split at e1
    .cases e1
    .rename_i hc
     cases e1;refine .inl ⟨hi,?_,λoo=>?_⟩
     .cases q:ρ[i]? with
      | none=>rw[q]at e3; cases e3
      | some x=>rw[q]at e3; cases x with
       | none=>cases e3
       | some y=>cases e3; rfl
     .cases hu:u.own with
      | true=>rfl
      | false=>exact absurd ⟨oo,hu⟩ hc
   .rename_i hi
    split at e1
    .cases e1
    .rename_i hc
     cases e1;exact .inr ⟨hi,rfl,by simpa using hc⟩
  | succ p=>
   have(u',eu,h):=ux (i:=i+1) (p:=p) e2 ep;refine⟨u',eu,?_⟩;rw[show i+(p+1)=i+1+p by omega];exact h
theorem IT:∀ {us os:Qa U} {i p:Nat} {u:U},zZ pn ρ i us=some os->us[p]?=some u->u.own=true->i+p∈pn
 | [],os,i,p,u,e,ep,_=>by simp at ep
 | u::us,os,i,p,u',e,ep,o=>by
  have(o1,e1,e):=bQ e;have(oU,e2,e):=bQ e;cases p with
  | zero=>
   cases(show some u=some u' from ep);rw[Nat.add_zero];split at e1
   .assumption
   .first|cases e1 | (rw[if_pos o]at e1; cases e1)
  | succ p=>
   rw[show i+(p+1)=i+1+p by omega];exact IT (i:=i+1) (p:=p) e2 ep o
theorem uC{vs:Qa V}(h:i < vs.length):(ft N vs)[i]?=(dg vs)[i]?:=by
 unfold ft dg;rw[List.getElem?_append_left (by simpa using h)]
theorem De{us os:Qa U}{vs:Qa V}{L9:En}(r:Rs K (sm us) (dg vs) H)(hl:us.length<=N.length)(ho:zZ pn L9 0 us=some os):
  Sn K pn (ft N vs) (Ow (sm us)<|dg vs) H H (sm us++List.replicate (N.length - us.length) none) (ft N vs) H:=by
 have lv:us.length=vs.length:=by have:=r.len; unfold sm dg at this; simpa using this
 have inv:∀ (i:Nat) (u:U),(sm us++List.replicate (N.length - us.length) none)[i]?=some (some u)->i < us.length/\(sm us)[i]?=some (some u):=λi u e=>by
  by_cases hi:i < us.length
  .rw[List.getElem?_append_left (by unfold sm; simpa using hi)]at e
   exact⟨hi,e⟩
  .rw[List.getElem?_append_right (by unfold sm; simp; omega),List.getElem?_replicate]at e
   split at e<;>cases e
 refine⟨⟨?_,λi u e=>?_,λi j u w ei ej ou ow es=>?_⟩,λ_ _ h _=>h,λi u a e o es=>?_,λ_ _=>rfl,λ_ h=>h,Kp.refl H⟩
 .unfold ft sm; simp; omega
 .have(hi,e'):=inv i u e
  rw[uC (by omega)];exact r.rep i u e'
 .have(hi,pA):=inv i u ei
  have(hj,lK):=inv j w ej;rw[uC (by omega),uC (by omega)]at es;exact r.apart i j u w pA lK ou ow es
 .have(hi,e'):=inv i u e
  rw[uC (by omega)]at es;have:=IT ho (gc.mp e') o;rw[Nat.zero_add]at this;exact .inl ⟨this,i,u,e',o,es⟩
theorem oF{us os:Qa U}{vs:Qa V}{aC:St}(r:Rs K (sm us) (dg vs) H)(s:Sn K pn (ft N vs) (Ow (sm us)<|dg vs) H H af aC H')(ho:zZ pn af 0 us=some os):Go K (sm us) (dg vs) H (sm os) H':=by
 have lv:us.length=vs.length:=by have:=r.len; unfold sm dg at this; simpa using this
 have lo:=IU ho;have tz:∀ {p:Nat} {o:U},os[p]?=some o->p < vs.length:=λ{p o} e=>by have:=(qk.mp e).1; omega
 have pin:∀ {p:Nat} {o:U},os[p]?=some o->p∈pn->aC[p]?=(dg vs)[p]?:=λ{p o} e hp=>by rw[s.pin p hp,uC<|tz e]
 refine⟨⟨by unfold sm dg; simp; omega,λp o e=>?_,λp q o o' ep eq oo DZ es=>?_⟩,s.fr,⟨by unfold sm; simp; omega,λp o e oo=>?_,λp u e=>?_⟩,s.dm⟩
 .have e':=gc.mp e
  have(u,eu,h):=ux ho e';rw[Nat.zero_add]at h;rcases h with⟨hp,hr,_⟩|⟨_,rfl,ou⟩
  .have(v,ev,q):=s.rs.rep p o hr
   rw[pin e' hp]at ev;exact⟨v,ev,q⟩
  .have(v,ev,q):=r.rep p o (gc.mpr eu)
   exact⟨v,ev,q.kp s.kp λoo=>by rw[ou]at oo; cases oo⟩
 .have tw:=gc.mp ep
  have Au:=gc.mp eq;have(u,eu,h):=ux ho tw;have(u',LA,h'):=ux ho Au;rw[Nat.zero_add]at h h';rcases h with⟨hp,hr,_⟩|⟨_,rfl,ou⟩
  .rcases h' with⟨hq,Ah,_⟩|⟨_,rfl,nH⟩
   .rw[<-pin tw hp,<-pin Au hq]at es
    exact s.rs.apart p q o o' hr Ah oo DZ es
   .rw[nH]at DZ; cases DZ
  .rw[ou]at oo; cases oo
 .have e':=gc.mp e
  have(u,eu,h):=ux ho e';rcases h with⟨_,_,h⟩|⟨_,rfl,ou⟩
  .exact⟨u,gc.mpr eu,h oo⟩
  .rw[ou]at oo; cases oo
 .have e':=gc.mp e
  have hp:p < os.length:=by have:=(qk.mp e').1; omega
  exact⟨os[p],gc.mpr<|ql hp⟩
theorem jh.Yt{f:Qg}{m:MS}(F:jh K x qual st f fd)(S:aQ N ps (zo st))(o9:ps.length=n)(hN:N.length=nn)(jI:n<=nn)
  (aX:∀ (aO:Qc) (A:Qf) (outer:Qa Env) (s:Qd) (H:Hp) (E:XK),aE k (A.deeper<|envOfC qual (zo st) s.heap.objs.size f aO)->
   ∃ t,Wr (cW (iE gN P w K mg base N qual (zo st) f aO A outer s H E).qO (fE st) t)/\VS K pn AK t m):bp P w K mg base gN (k+1) f fd ps (nF K n<|eK nn pn m):=by
 refine F.Ys S (λvs H Q E h=>?_) λaO A outer s H vs Q E hr h=>?_
 .have(us,r,outs,hl,rs,_):=h
  have:=rs.len;unfold sm dg at this;simp at this;omega
 have(us,r,outs,hl,rs,ef,q):=h;have(t,wt,vt):=aX aO A outer s H E hr;refine⟨t,wt,?_⟩;have(fl,em,ef):=bQ ef;have go:∀ (af:En),zZ pn af 0 us=some outs->Sn K pn (ft N vs) (Ow (sm us)<|dg vs) H H (sm us++List.replicate (N.length - us.length) none) (ft N vs) H:=λaf ho=>De rs (by omega) ho;subst hN;cases fl with
 | nx af=>
  have(os,eo,ef):=bQ (show(zZ pn af 0 us).bind _=_ from ef);cases ef;refine vt _ _ _ _ _ _ _ (.nx af) _ (go af eo) em λaC H' s'=>?_;exact q _ _ (oF rs s' eo) .aK Nw.data
 | rt u af=>
  have(os,eo,ef):=bQ (show(zZ pn af 0 us).bind _=_ from ef);cases ef;refine vt _ _ _ _ _ _ _ (.rt r af) _ (go af eo) em λv aC H' s' p n'=>?_;exact q _ _ (oF rs s' eo) p n'
 | bk=>cases ef
 | ct=>cases ef
 | ex=>cases ef
end
section
variable{EX:cJ}{ρ af:En}
def eA(i:Nat)(me:ME):ME:=λρ=>match ρ[i]? with
 | some (some<|.l _)=>(me ρ).bind λp=>(p.1.get p.2).bind λu=>match u,p.2[i]? with
  | .d x,some (some<|.l xs)=>if xs.length < sizeLine then some (.u<|.d .none,p.2.set i<|some<|.l<|xs++[x])else none
  | _,_=>none
 | _=>none
theorem fM{me:ME}(h:VE K te me):VE K (yW K "list" HW (kO i)<|fP te jo) (eA i me):=by
 intro ρ σ H a af Q r e q;unfold eA at e;split at e
 .rename_i X9 e0
  obtain⟨⟨b,au⟩,e1,e⟩:=bQ e;have(u,eu,e):=bQ e;have(v0,mU,p0):=r.rep i _ e0;have(l,Ya,rfl,ED,_):=p0;refine⟨_,mU,.inl ⟨rfl,Ya,bE.of ED⟩,?_⟩;refine h ρ σ H b au _ r e1 λv H1 g1 k1=>?_;have pv:=k1.now r g1 eu;dsimp only at e;split at e
  .rename_i x xs ex
   split at e
   .rename_i hz
    cases e;have(w,ew,p1):=g1.rs.rep i _ ex;have(l',us,rfl,hl,ds):=p1;rw[mU]at ew;cases ew;refine⟨l,us,v,rfl,rfl,hl,by rw[ds.len]; exact hz,q _ _ (g1.trans<|Go.own (u':=.l (xs++[x])) g1.rs ex rfl mU ?_) ⟨.aK,Nw.data⟩⟩;have kp:=pY hl trivial (.lst<|us++[v]);exact⟨l,_,rfl,zt,(ds.kp kp).snoc<|DF.kp kp pv⟩
   .cases e
  .cases e
 .cases e
theorem Dj{o:Qb (Qb U)}{u:U}(e:o.join=some u):o=some (some u):=by
 cases o with
 | none=>cases e
 | some x=>cases x with
  | none=>cases e
  | some y=>cases e; rfl
def pV(i:Nat)(me mi:ME):MS:=λρ=>(ρ[i]?).join.bind λ_=>(me ρ).bind λp=>(mi p.2).bind λq=>(p.1.get q.2).bind λu=>(q.1.get q.2).bind λw=>match u,w,q.2[i]? with
 | .d x,.d<|.int k,some (some<|.l xs)=>(fu xs.length k).bind λj=>some<|.nx<|q.2.set i<|some<|.l<|xs.set j x
 | _,_,_=>none
theorem CP{ti:TE}{me mi:ME}(h:VE K te me)(hi:VE K ti mi):VS K pn EX (lV te<|A9 (kO i) ti Gw) (pV i me mi):=by
 intro ai A av aA ρ σ H f D s e k;replace e:=bQ e;have(w0,e0,e):=e;replace e:=bQ e;obtain⟨⟨a,au⟩,e1,e⟩:=e;replace e:=bQ e;obtain⟨⟨b,aB⟩,e2,e⟩:=e;replace e:=bQ e;have(u,eu,e):=e;replace e:=bQ e;have(w,ew,e):=e;have(v0,mU,_):=s.rs.rep i w0 (Dj e0);refine h ρ σ H a au _ s.rs e1 λv H1 g1 k1=>⟨v0,mU,?_⟩;refine hi au σ H1 b aB _ g1.rs e2 λy H2 g2 k2=>?_;have pv:=k1.later s.rs g1 g2 eu;have py:=k2.now g1.rs g2 ew;dsimp only at e;split at e
 .rename_i x n xs ex
  replace e:=bQ e;have(j,ej,e):=e;cases e;have(w',kF,p1):=g2.rs.rep i _ ex;have(l,us,rfl,hl,ds):=p1;rw[mU]at kF;cases kF;refine⟨l,us,n,j,rfl,DF.int_inv py,hl,by rw[ds.len]; exact ej,k _ _<|(s.go<|g1.trans g2).go<|Go.own (u':=.l (xs.set j x)) g2.rs ex rfl mU ?_⟩;have kp:=pY hl trivial (.lst<|us.set j v);exact⟨l,_,rfl,zt,(ds.kp kp).set (DF.kp kp pv) j⟩
 .cases e
def AV:Qa D->Qb (Qa Key)
 | []=>some []
 | .int i::ds=>(AV ds).bind λks=>some<|.inl i::ks
 | .str x::ds=>(AV ds).bind λks=>some<|.inr x::ks
 | _::_=>none
def Gz:D->Qb (Qa Key)
 | .tuple ds=>AV ds
 | _=>none
def MU:D->Qb Key
 | .int i=>some<|.inl i
 | .str x=>some<|.inr x
 | _=>none
section
variable{κ:Type}[DecidableEq κ]
def FQ(aL:Qa (κ×D))(k:κ)(d:D):Qa (κ×D):=if(aL.any λkv=>decide<|kv.1=k)=true then aL.map (λkv=>if kv.1=k then(kv.1,d)else kv)else aL++[(k,d)]
end
end
section
variable{ρ af:En}
abbrev MO:=En->Qb (Qb Int×En)
def w6(K:qc)(t:TO)(m:MO):Prop :=
 ∀ (ρ:En) (σ:St) (H:Hp) (o:Qb Int) (af:En) (Q:Qb Int->Hp->Prop),Rs K ρ σ H->m ρ=some (o,af)->(∀ H',Go K ρ σ H af H'->Q o H')->t σ H Q
def nC:MO:=λρ=>some (none,ρ)
def nu(me:ME):MO:=λρ=>(me ρ).bind λp=>(p.1.get p.2).bind λu=>match u with | .d (.int i)=>some (some i,p.2) | _=>none
theorem sD:w6 K CM nC:=λρ σ H o af Q r e q=>by cases e; exact q H<|Go.refl r
theorem sC{me:ME}(h:VE K te me):w6 K (BW te) (nu me):=by
 intro ρ σ H o af Q r e q;replace e:=bQ e;obtain⟨⟨a,au⟩,e1,e⟩:=e;replace e:=bQ e;have(u,eu,e):=e;refine h ρ σ H a au _ r e1 λv H1 g1 k1=>?_;have p:=k1.now r g1 eu;dsimp only at e;split at e
 .rename_i i
  cases e;exact⟨i,DF.int_inv p,q _ g1⟩
 .cases e
def iB(xs:Qa D)(lo hi:Qb Int):Qa D:=(xs.drop<|HT.aS xs.length 0 lo).take (HT.aS xs.length xs.length hi - HT.aS xs.length 0 lo)
theorem aR.cut{xs:Qa V}{ds:Qa D}(h:aR K H xs ds)(lo hi:Qb Int):aR K H (ko xs lo hi) (iB ds lo hi):=by
 unfold ko iB;rw[h.len];exact(h.drop _).take _
def Fi(K:qc)(r:V->Qb Int->Qb Int->Hp->VK->Prop)(f:U->Qb Int->Qb Int->Qb U):Prop :=
 ∀ (x:V) (a u:U) (lo hi:Qb Int) (H:Hp) (Q:VK),Rp K H x a->f a lo hi=some u->(∀ v H',cK H H'->Rp K H' v u->Nw H v u->Q v H')->r x lo hi H Q
def nI(f:U->Qb Int->Qb Int->Qb U)(me:ME)(ml mh:MO):ME:=λρ=>(me ρ).bind λp=>(ml p.2).bind λl=>(mh l.2).bind λh=>(p.1.get h.2).bind λx=>(f x l.1 h.1).bind λu=>some (.u u,h.2)
theorem rK{r:V->Qb Int->Qb Int->Hp->VK->Prop}{f:U->Qb Int->Qb Int->Qb U}{tl th:TO}{me:ME}{ml mh:MO}(hs:Fi K r f)(he:VE K te me)(hl:w6 K tl ml)(hh:w6 K th mh):VE K (DG r te tl th) (nI f me ml mh):=by
 intro ρ σ H a af Q rs e q;obtain⟨⟨a1,au⟩,e1,e⟩:=bQ e;obtain⟨⟨lo,aB⟩,e2,e⟩:=bQ e;obtain⟨⟨hi,iz⟩,e3,e⟩:=bQ e;have(x,ex,e):=bQ e;have(u,eu,e):=bQ e;cases e;refine he ρ σ H a1 au _ rs e1 λv1 H1 g1 k1=>hl au σ H1 lo aB _ g1.rs e2 λH2 g2=>hh aB σ H2 hi _ _ g2.rs e3 λH3 g3=>?_;refine hs _ x u lo hi H3 _ (k1.later rs g1 (g2.trans g3) ex) eu λv H4 s p n=>?_;have g:=g1.trans (g2.trans g3);exact q v H4 (g.trans<|Go.grow g.rs s) ⟨p,n.mono g.dm⟩
def pJ(u:U)(lo hi:Qb Int):Qb U:=match u with
 | .l xs=>some<|.l<|iB xs lo hi
 | .d (.list xs)=>some<|.l<|iB xs lo hi
 | _=>none
theorem yc:Fi K (Bh K) pJ:=by
 intro x a u lo hi H Q p e q;unfold pJ at e;split at e
 .cases e
  have(b,us,rfl,h1,h2):=p;refine⟨b,us,rfl,bE.of h1,λl hl=>?_⟩;have sm:=lg hl (.lst<|ko us lo hi);exact q _ _ sm ⟨l,_,rfl,zt,(h2.cut lo hi).kp sm.kp⟩ λ_=>⟨l,rfl,hl⟩
 .cases e
  have(b,us,rfl,h1,h2):=DF.lst_inv p;refine⟨b,us,rfl,h1.sq,λl hl=>?_⟩;have sm:=lg hl (.lst<|ko us lo hi);exact q _ _ sm ⟨l,_,rfl,zt,(h2.cut lo hi).kp sm.kp⟩ λ_=>⟨l,rfl,hl⟩
 .cases e
def Fw(K:qc):V->Qb Int->Qb Int->Hp->VK->Prop:=λx lo hi H Q=>∃ a xs,x=.ref a/\cq K H a xs/\∀ p H',cK H H'->cq K H' p (ko xs lo hi)->Q (.ref p) H'
theorem Fv{X:Cx}:tE X (Fw X.K):=by
 intro pins s σ H x v vl vu lo hi sl Q I rx hs pl pu h;have(a,xs,rfl,kD,q):=h;have hx:cy X.K H a xs:=kD.sq
 by_cases hw:HT.aS xs.length 0 lo=0/\HT.aS xs.length xs.length hi=xs.length
 .cases rx
  have(aj,r,ht,hz):=I.tuple hx;have hlen:aj.toArray.size=xs.length:=by rw[List.size_toArray]; exact r.length.symm
  refine⟨"tuple",_,PyProof.Rows.slot_tuple_getitem.lookup,ht.typeIs,?_⟩;refine HT.di ht hs pl pu (by rw[hlen]; exact hw) ⟨.ref a,H,I,rfl,q a H (cK.refl _) ?_⟩;unfold ko;rw[hw.1,hw.2];simpa using kD
 .exact Qn pins s σ H _ v vl vu lo hi sl Q I rx hs pl pu ⟨a,xs,rfl,hx,hw,λp hp=>q p _ (lg hp _)<|.inl zt⟩
def tR(u:U)(lo hi:Qb Int):Qb U:=match u with
 | .d (.tuple xs)=>some<|.d<|.tuple<|iB xs lo hi
 | _=>none
theorem G9:Fi K (Fw K) tR:=by
 intro x a u lo hi H Q p e q;unfold tR at e;split at e
 .cases e
  have(b,us,rfl,h1,h2):=DF.aV p;exact⟨b,us,rfl,h1,λl H' sm hl=>q _ _ sm (.tup hl<|(h2.cut lo hi).kp sm.kp) Nw.data⟩
 .cases e
theorem JS{r:α->α->Prop}(as:∀ a b,r a b->¬r b a):∀ {L M:Qa α},L.Perm M->L.Pairwise r->M.Pairwise r->L=M
 | [],M,p,_,_=>(List.nil_perm.mp p).symm▸rfl
 | a::L,[],p,_,_=>by have:=p.length_eq; simp at this
 | a::L,b::M,p,h1,h2=>by
  have(a1,a2):=List.pairwise_cons.mp h1;have(b1,b2):=List.pairwise_cons.mp h2;have e:a=b:=by
   rcases qu.mp (p.mem_iff.mp<|qo (a:=a) (l:=L))with z|z
   .exact z
   .rcases qu.mp (p.mem_iff.mpr<|qo (a:=b) (l:=M))with y|y
    .exact y.symm
    .exact absurd (b1 a z) (as a b<|a1 b y)
  subst e;rw[JS as p.cons_inv a2 b2]
def U.lst:U->Qb (Qa D)
 | .l xs=>some xs
 | .d (.list xs)=>some xs
 | _=>none
theorem Rp.lst{u:U}{xs:Qa D}(h:Rp K H v u)(e:u.lst=some xs):∃ p ys,v=.ref p/\bE K H p ys/\aR K H ys xs:=by
 cases u with
 | d x=>
  cases x with
  | list ds=>cases e; have(a,ys,rfl,h1,h2):=DF.lst_inv h; exact⟨a,ys,rfl,h1.sq,h2⟩
  | _=>cases e
 | l ds=>cases e; have(a,ys,rfl,h1,h2):=h; exact⟨a,ys,rfl,bE.of h1,h2⟩
 | t=>cases e
 | k=>cases e
 | o=>cases e
end
section
variable{ρ af:En}
def zvc(ma:MA):ME:=λρ=>(ma ρ).bind λp=>(bO p.2 p.1).bind λus=>match us with
 | [.d<|.int j]=>if(-(2^62)<=j/\j < 2^62)/\j.toNat<=sizeLine then some (.u<|.l<|iJ 0 j.toNat,p.2)else none
 | _=>none
def w5:MT:=λρ=>some (true,ρ)
theorem OZ:VT K Bv w5:=λρ σ H b af Q r e q=>by cases e; exact q H<|Go.refl r
def sV:D->Qb V
 | .none=>some .aK
 | .bool b=>some<|.bl b
 | .int i=>some<|.int i
 | .str x=>some<|.str x
 | _=>none
theorem w4{x:D}{w:V}(h:DF K H v x)(e:sV x=some w):v=w:=by
 cases h<;>cases e<;>rfl
def cL(neg:Bool):U->U->Qb U
 | .d x,.d y=>(sV x).bind λv=>(sV y).bind λw=>if Bm v w=true then some (.d<|.bool (if neg=true then !decide (v=w)else decide (v=w)))else none
 | _,_=>none
theorem gH:VO K KO (cL false):=by
 intro x y a b u H Q ha hb e q;unfold cL at e;split at e
 .have(v,ev,e):=bQ e
  have(w,ew,e):=bQ e;split at e
  .rename_i hs
   cases e;cases w4 ha ev;cases w4 hb ew;exact⟨hs,q _ _ (λ_ _ z=>z) (.bl _) Nw.data⟩
  .cases e
 .cases e
theorem r0:VO K KN (cL true):=by
 intro x y a b u H Q ha hb e q;unfold cL at e;split at e
 .have(v,ev,e):=bQ e
  have(w,ew,e):=bQ e;split at e
  .rename_i hs
   cases e;cases w4 ha ev;cases w4 hb ew;exact⟨hs,q _ _ (λ_ _ z=>z) (.bl _) Nw.data⟩
  .cases e
 .cases e
def oq:U->Bool
 | .d .none=>true
 | _=>false
def iP(neg:Bool):U->U->Qb U
 | a,.d .none=>some<|.d<|.bool (if neg=true then !oq a else oq a)
 | _,_=>none
theorem Hw{a:U}(h:Rp K H v a):decide (v=.aK)=oq a:=by
 cases a with
 | d x=>cases(show DF K H v x from h)<;>simp[oq]
 | l=>have(_,_,rfl,_):=h; simp[oq]
 | t=>have(_,_,rfl,_):=h; simp[oq]
 | k=>have(_,_,rfl,_):=h; simp[oq]
 | o=>have(_,_,_,_,_,rfl,_):=h; simp[oq]
theorem xN:VO K (λx y H Q=>y=.aK/\Q (.bl<|decide<|x=.aK) H) (iP false):=by
 intro x y a b u H Q ha hb e q;unfold iP at e;split at e
 .cases e
  refine⟨by cases hb; rfl,?_⟩;rw[Hw ha];exact q _ _ (λ_ _ z=>z) (.bl _) Nw.data
 .cases e
theorem SH:VO K (λx y H Q=>y=.aK/\Q (.bl (!decide (x=.aK))) H) (iP true):=by
 intro x y a b u H Q ha hb e q;unfold iP at e;split at e
 .cases e
  refine⟨by cases hb; rfl,?_⟩;rw[Hw ha];exact q _ _ (λ_ _ z=>z) (.bl _) Nw.data
 .cases e
theorem OY{F:FD}{E:XK}(hO:wN H)(hS:bE K H a (ns.map V.int))(h:∃ outs,F [.d<|.list<|ns.map .int]=some (.d<|.bool true,outs)):nF K 1 F [.ref a] H (λv _=>v=.bl true) E:=by
 have(outs,ho):=h;have pl:PL K H a (ns.map V.int):=by
  rcases hS with (h|⟨o,h⟩) | h
  .rcases hO a with z|⟨o,xs,z⟩
   .rw[z]at h; cases h
   .rw[z]at h; cases h
  .exact .inl ⟨o,h⟩
  .exact .inr h
 have dd:aR K H (ns.map V.int) (ns.map PyData.int):=by
  clear ho hS pl
  induction ns with
  | nil=>exact .nil
  | cons n ns ih=>exact .cons (.int n) ih
 refine⟨[.d<|.list<|ns.map .int],.d<|.bool true,outs,rfl,⟨rfl,λi u e=>?_,λi j u w ei ej ou ow es=>?_⟩,ho,λv H' g p n=>DF.bJ p⟩
 .have e':=gc.mp e
  cases i with
  | zero=>cases e'; exact⟨.ref a,rfl,DF.lst pl dd⟩
  | succ i=>simp at e'
 .have e':=gc.mp ei
  cases i with
  | zero=>cases e'; cases ou
  | succ i=>simp at e'
end
section
variable{ρ:En}{me ma mb mk mi md my mv:ME}{mA mK:MA}{mt mu:MT}{m1 m2:MS}{u:U}{x:D}{f:U->U->Qb U}
theorem bd{a:α}{f:α->Qb β}:(some a).bind f=f a:=rfl
theorem Si{u:U}:Ar.get ρ (.u u)=some u:=rfl
theorem Vd:Ar.get ρ (.s i)=(ρ[i]?).join:=rfl
theorem V8{u:U}:(some<|some u).join=some u:=rfl
theorem OX:ze i ρ=(ρ[i]?).join.bind λ_=>some (.s i,ρ):=by
 unfold ze;cases ρ[i]? with
 | none=>rfl
 | some o=>cases o<;>rfl
theorem MR:mC x ρ=some (.u<|.d x,ρ):=rfl
theorem Nn:ao f ma mb ρ=(ma ρ).bind λp=>(mb p.2).bind λq=>(p.1.get q.2).bind λx=>(q.1.get q.2).bind λy=>(f x y).bind λu=>some (.u u,q.2):=rfl
theorem Nm{f:U->Qb U}:cn f ma ρ=(ma ρ).bind λp=>(p.1.get p.2).bind λx=>(f x).bind λu=>some (.u u,p.2):=rfl
theorem OW:zk ρ=some ([],ρ):=rfl
theorem SG:zb me mA ρ=(me ρ).bind λp=>(mA p.2).bind λq=>some (p.1::q.1,q.2):=rfl
theorem Xt:bO ρ []=some []:=rfl
theorem JG{a:Ar}{as:Qa Ar}:bO ρ (a::as)=(a.get ρ).bind λu=>(bO ρ as).bind λus=>some (u::us):=rfl
theorem XA:gQ []=some []:=rfl
theorem XZ{us:Qa U}:gQ (.d x::us)=(gQ us).bind λxs=>some (x::xs):=rfl
theorem OV:bG mA ρ=(mA ρ).bind λp=>(bO p.2 p.1).bind λus=>(gQ us).bind λds=>if ds.length<=sizeLine then some (.u<|.d<|.tuple ds,p.2)else none:=rfl
theorem OU:f7 mA ρ=(mA ρ).bind λp=>(bO p.2 p.1).bind λus=>(gQ us).bind λds=>if ds.length<=sizeLine then some (.u<|.l ds,p.2)else none:=rfl
theorem Nl{f:Qa U->Qb U}:cw f mA ρ=(mA ρ).bind λp=>(bO p.2 p.1).bind λus=>(f us).bind λu=>some (.u u,p.2):=rfl
theorem OT{f:FD}:be f mA ρ=(mA ρ).bind λp=>if fB p.2 p.1=true then(bO p.2 p.1).bind λus=>(f us).bind λo=>some (.u o.1,wb p.2 p.1 o.2)else none:=rfl
theorem Xs:fB ρ []=true:=rfl
theorem Vc{as:Qa Ar}:fB ρ (.u u::as)=fB ρ as:=rfl
theorem OS{as:Qa Ar}:fB ρ (.s j::as)=((match ρ[j]? with|some (some u)=>!u.own || !(as.any λa=>match a with | .s k=>decide (k=j) | _=>false) | _=>true) && fB ρ as):=rfl
theorem Nk{as:Qa Ar}{o:U}{os:Qa U}:wb ρ (.s j::as) (o::os)=wb (ρ.set j<|some o) as os:=rfl
theorem Nj{as:Qa Ar}{o:U}{os:Qa U}:wb ρ (.u u::as) (o::os)=wb ρ as os:=rfl
theorem Vb:wb ρ [] []=ρ:=rfl
def kj(m2:MS):Fl->Qb Fl
 | .nx af=>m2 af
 | f=>some f
theorem bind_fn{o:Qb α}{f g:α->Qb β}(h:∀ a,f a=g a):o.bind f=o.bind g:=by cases o with|none=>rfl|some a=>exact h a
theorem OR:zu m1 m2 ρ=(m1 ρ).bind (kj m2):=bind_fn λf=>by cases f<;>rfl
theorem V7:kj m2 (.nx ρ)=m2 ρ:=rfl
theorem V6:kj m2 (.ex x ρ)=some (.ex x ρ):=rfl
theorem V5:kj m2 (.rt u ρ)=some (.rt u ρ):=rfl
theorem V4:kj m2 (.ct ρ)=some (.ct ρ):=rfl
def U.dat:U->Qb U
 | .d x=>some<|.d x
 | _=>none
theorem Sh:U.dat (.d x)=some (.d x):=rfl
theorem Sg:put (.s i,ρ)=(ρ[i]?).join.bind λu=>u.dat.bind λd=>some (d,ρ):=by
 unfold put;dsimp only;cases ρ[i]? with
 | none=>rfl
 | some o=>
  cases o with
  | none=>rfl
  | some u=>cases u<;>rfl
theorem Sf:put (.u u,ρ)=some (u,ρ):=rfl
theorem GU:zS i me ρ=(me ρ).bind λp=>(put p).bind λq=>some (.nx<|q.2.set i<|some q.1):=rfl
theorem OQ:bX me ρ=(me ρ).bind λp=>(put p).bind λq=>some (.rt q.1 q.2):=rfl
theorem SE:lZ pn i ρ=if i∈pn then none else(ρ[i]?).join.bind λu=>some (.rt u<|ρ.set i none):=by
 unfold lZ;split
 .rfl
 .cases ρ[i]? with
  | none=>rfl
  | some o=>cases o<;>rfl
theorem S7:cv ρ=some (.nx ρ):=rfl
theorem S6:eF me ρ=(me ρ).bind λp=>some (.nx p.2):=rfl
theorem Px:bL mt m1 m2 ρ=(mt ρ).bind λp=>if p.1=true then m1 p.2 else m2 p.2:=rfl
theorem Ni:vi mt ma mb ρ=(mt ρ).bind λp=>if p.1=true then ma p.2 else mb p.2:=rfl
def U.kK:U->Qb Bool
 | .d (.bool b)=>some b
 | _=>none
theorem Se{b:Bool}:U.kK (.d<|.bool b)=some b:=rfl
theorem MQ:mB me ρ=(me ρ).bind λp=>(p.1.get p.2).bind λu=>u.kK.bind λb=>some (b,p.2):=by
 unfold mB;congr 1
 funext p
 congr 1
 funext u
 cases u with
 | d x=>cases x<;>rfl
 | l=>rfl
 | t=>rfl
 | k=>rfl
 | o=>rfl
theorem Pw:rM mt mu ρ=(mt ρ).bind λp=>if p.1=true then mu p.2 else some (false,p.2):=rfl
theorem Nh:fG mt mu ρ=(mt ρ).bind λp=>if p.1=true then some (true,p.2)else mu p.2:=rfl
theorem Pu:fC mt ρ=(mt ρ).bind λp=>some (!p.1,p.2):=rfl
theorem S5:oA ma mb ρ=(mB ma ρ).bind λp=>if p.1=true then mb p.2 else some (.u<|.d<|.bool false,p.2):=rfl
theorem S4:tZ ma ρ=(mB ma ρ).bind λp=>some (.u<|.d<|.bool (!p.1),p.2):=rfl
theorem Pt:xb ma ρ=(ma ρ).bind λp=>(p.1.get p.2).bind λu=>u.sQ.bind λb=>some (b,p.2):=rfl
theorem Pr:w5 ρ=some (true,ρ):=rfl
def U.lo:U->Qb (Qa D)
 | .l xs=>some xs
 | _=>none
theorem Ng{xs:Qa D}:U.lo (.l xs)=some xs:=rfl
def U.da:U->Qb D
 | .d x=>some x
 | _=>none
theorem Nf:U.da (.d x)=some x:=rfl
def U.num:U->Qb Int
 | .d (.int i)=>some i
 | _=>none
theorem Sd{n:Int}:U.num (.d<|.int n)=some n:=rfl
theorem Pp:eA i me ρ=(ρ[i]?).join.bind λw=>w.lo.bind λ_=>(me ρ).bind λp=>(p.1.get p.2).bind λu=>u.da.bind λx=>(p.2[i]?).join.bind λw=>w.lo.bind λxs=>if xs.length < sizeLine then some (.u<|.d .none,p.2.set i<|some<|.l<|xs++[x])else none:=by
 unfold eA;cases ρ[i]? with
 | none=>rfl
 | some o=>
  cases o with
  | none=>rfl
  | some w=>
   cases w with
   | l X9=>
    show((me ρ).bind _)=((me ρ).bind _);congr 1
    funext p
    congr 1
    funext u
    cases u with
    | d x=>
     show(match U.d x,p.2[i]? with | .d x,some (some<|.l xs)=>_|_,_=>none)=((p.2[i]?).join.bind _);cases p.2[i]? with
     | none=>rfl
     | some o=>
      cases o with
      | none=>rfl
      | some w=>cases w<;>rfl
    | l=>rfl
    | t=>rfl
    | k=>rfl
    | o=>rfl
   | d=>rfl
   | t=>rfl
   | k=>rfl
   | o=>rfl
theorem Ub:pV i me mi ρ=(ρ[i]?).join.bind λ_=>(me ρ).bind λp=>(mi p.2).bind λq=>(p.1.get q.2).bind λu=>(q.1.get q.2).bind λw=>u.da.bind λx=>w.num.bind λk=>(q.2[i]?).join.bind λz=>z.lo.bind λxs=>(fu xs.length k).bind λj=>some (.nx<|q.2.set i<|some<|.l<|xs.set j x):=by
 unfold pV;congr 1; funext _; congr 1; funext p; congr 1; funext q; congr 1; funext u; congr 1; funext w;cases u with
 | d x=>
  cases w with
  | d y=>
   cases y with
   | int k=>
    show(match U.d x,U.d<|.int k,q.2[i]? with | .d x,.d<|.int k,some (some<|.l xs)=>_|_,_,_=>none)=((q.2[i]?).join.bind _);cases q.2[i]? with
    | none=>rfl
    | some o=>
     cases o with
     | none=>rfl
     | some w=>cases w<;>rfl
   | _=>rfl
  | l=>rfl
  | t=>rfl
  | k=>rfl
  | o=>rfl
 | l=>rfl
 | t=>rfl
 | k=>rfl
 | o=>rfl
def Af(x:D):Ar×En->En
 | (.s i,ρ)=>ρ.set i<|some<|.d x
 | (.u _,ρ)=>ρ
theorem Nd:oW me ρ=(me ρ).bind λp=>(p.1.get p.2).bind λu=>u.fz.bind λx=>some (.u<|.d x,Af x p):=by
 unfold oW;congr 1; funext p; congr 1; funext u; congr 1; funext x;have(a,au):=p;cases a<;>rfl
theorem Sb:Af x (.s i,ρ)=ρ.set i (some<|.d x):=rfl
theorem Sa:Af x (.u u,ρ)=ρ:=rfl
theorem Nb{xs:Qa D}:U.fz (.l xs)=some (.list xs):=rfl
theorem Na{g:U->Qb (Qa D)}:j9 g me ρ=(me ρ).bind λp=>(p.1.get p.2).bind λu=>(g u).bind λds=>some (ds,p.2):=rfl
theorem Ua{xs:Qa D}:pK (.d<|.list xs)=some xs:=rfl
theorem T9{xs:Qa D}:tT (.d<|.tuple xs)=some xs:=rfl
def xk:Qa U->Qb (Qa D)
 | [.d<|.int j]=>if -(2^62)<=j/\j < 2^62 then some (iJ 0 j.toNat)else none
 | _=>none
theorem Po{n:Int}:xk [.d<|.int n]=if -(2^62)<=n/\n < 2^62 then some (iJ 0 n.toNat)else none:=rfl
theorem S3:pT mA ρ=(mA ρ).bind λp=>(bO p.2 p.1).bind λus=>(xk us).bind λds=>some (ds,p.2):=bind_fn λp=>bind_fn λus=>match us with
 | []=>rfl
 | [.d<|.int j]=>by
  show(if _ then _ else _)=(if _ then _ else _:Qb (Qa D)).bind _;split<;>rfl
 | [.d .none]=>rfl
 | [.d<|.bool _]=>rfl
 | [.d<|.str _]=>rfl
 | [.d<|.list _]=>rfl
 | [.d<|.tuple _]=>rfl
 | [.d<|.dict _]=>rfl
 | [.l _]=>rfl
 | [.t _]=>rfl
 | [.k _]=>rfl
 | [.o _ _]=>rfl
 | .d x::b::us=>by cases x<;>rfl
 | .l x::b::us=>rfl
 | .t x::b::us=>rfl
 | .k x::b::us=>rfl
 | .o x y::b::us=>rfl
theorem Pn{mI:MI}{mg:MG}:jk mI mg m1 ρ=(mI ρ).bind λp=>gD mg m1 p.1 p.2:=rfl
theorem M9{mI:MI}{mg:MG}:qS mI nt js mg mt me ρ=(mI ρ).bind λp=>(jG nt mg mt me p.1 (ip nt js p.2) []).bind λq=>some (.u<|.l q.1,back js (q.2.drop nt) p.2):=rfl
theorem M8{f:U->Qb Int->Qb Int->Qb U}{ml mh:MO}:nI f me ml mh ρ=(me ρ).bind λp=>(ml p.2).bind λl=>(mh l.2).bind λh=>(p.1.get h.2).bind λx=>(f x l.1 h.1).bind λu=>some (.u u,h.2):=rfl
theorem VA:nC ρ=some (none,ρ):=rfl
theorem S2:nu me ρ=(me ρ).bind λp=>(p.1.get p.2).bind λu=>u.num.bind λi=>some (some i,p.2):=bind_fn λp=>bind_fn λu=>by
 cases u with
 | d x=>cases x<;>rfl
 | l=>rfl
 | t=>rfl
 | k=>rfl
 | o=>rfl
def A7:Qa U->Qb (D×D)
 | [.d x,.d y]=>some (x,y)
 | _=>none
theorem T8{y:D}:A7 [.d x,.d y]=some (x,y):=rfl
theorem Pl:w9 i j mA ρ=(mA ρ).bind λp=>(bO p.2 p.1).bind λus=>(A7 us).bind λz=>some (.nx<|(p.2.set i<|some<|.d z.1).set j<|some<|.d z.2):=by
 refine bind_fn λp=>bind_fn λus=>?_
 match us with
 | []=>rfl
 | [a]=>cases a<;>rfl
 | [.d x,.d y]=>rfl
 | [.d x,.l y]=>rfl
 | [.d x,.t y]=>rfl
 | [.d x,.k y]=>rfl
 | [.d x,.o _ _]=>rfl
 | [.l x,b]=>rfl
 | [.t x,b]=>rfl
 | [.k x,b]=>rfl
 | [.o _ _,b]=>rfl
 | a::b::c::us=>cases a<;>(try rfl)<;>(cases b<;>rfl)
theorem Pk{mg:MG}:og me mg ρ=(me ρ).bind λp=>(p.1.get p.2).bind λu=>u.da.bind λd=>(mg d p.2).bind λaf=>some (.nx af):=by
 unfold og;congr 1; funext p; congr 1; funext u;cases u<;>rfl
theorem T7:dB i x ρ=some (ρ.set i<|some<|.d x):=rfl
theorem S1{gs:Qa D->En->Qb En}{ds:Qa D}:kT n gs (.tuple ds) ρ=if ds.length=n then gs ds ρ else none:=rfl
theorem T6{g:MG}{gs:Qa D->En->Qb En}{ds:Qa D}:gS g gs (x::ds) ρ=(g x ρ).bind λau=>gs ds au:=rfl
theorem S0:nh [] ρ=some ρ:=rfl
theorem tX{c:Int->Int->Prop}{g:Int->Int->D}{a:Int}(h:c a b):nV c g (.d<|.int a) (.d<|.int b)=some (.d<|g a b):=by
 unfold nV;dsimp only;rw[if_pos h]
theorem R9{a:Int}:cY (.d<|.int a) (.d<|.int b)=some (.d<|.int<|a+b):=rfl
theorem Rc{a:Int}:iC (.d<|.int a) (.d<|.int b)=some (.d<|.int<|a - b):=rfl
theorem F2{a:Int}(h:rH a b):jT (.d<|.int a) (.d<|.int b)=some (.d<|.int<|a * b):=tX h
theorem M7{a:Int}(h:0 < b):jn (.d<|.int a) (.d<|.int b)=some (.d<|.int<|a % b):=tX (c:=λ_ j=>0 < j) h
theorem Pj{a:Int}(h:t8 a b):t4 (.d<|.int a) (.d<|.int b)=some (.d<|.int<|a / b):=tX h
theorem xM{a:Int}(h:rT a b):xC (.d<|.int a) (.d<|.int b)=some (.d<|.int<|a.fdiv b):=tX h
theorem M6{a:Int}(h:wR a b):xi (.d<|.int a) (.d<|.int b)=some (.d<|.int<|a^b.toNat):=tX h
theorem M5{a:Int}:mT (.d<|.int a) (.d<|.int b)=some (.d<|.bool<|decide<|a < b):=rfl
theorem M4{a:Int}:tq (.d<|.int a) (.d<|.int b)=some (.d<|.bool<|decide<|a<=b):=rfl
theorem M3{a:Int}:nW (.d<|.int a) (.d<|.int b)=some (.d<|.bool<|decide<|b < a):=rfl
theorem MZ{a:Int}:vS (.d<|.int a) (.d<|.int b)=some (.d<|.bool<|decide<|b<=a):=rfl
theorem Rb{a:Int}:jS (.d<|.int a)=some (.d<|.int (-a)):=rfl
theorem Ra{a:Int}:tP (.d<|.int a)=some (.d<|.int (if a < 0 then -a else a)):=rfl
theorem T5{b:Bool}:kU (.d<|.bool b)=some (.d<|.int (if b then 1 else 0)):=rfl
theorem MY{f:U->Qb U}:f1 f [u]=f u:=rfl
theorem Q9{xs:Qa D}:eL (.l xs)=some (.d<|.int xs.length):=rfl
theorem Q8{xs:Qa D}:eL (.d<|.tuple xs)=some (.d<|.int xs.length):=rfl
theorem Q7{xs:Qa D}:eL (.d<|.list xs)=some (.d<|.int xs.length):=rfl
theorem V3{xs:Qa D}:sf (.l xs)=some (.d<|.tuple xs):=rfl
theorem T4{xs:Qa D}:B5 (.l xs)=some (.l xs):=rfl
theorem Q6{xs:Qa D}{k:Int}:cX (.l xs) (.d<|.int k)=(bM xs k).map .d:=rfl
theorem Q5{xs:Qa D}{k:Int}:cX (.d<|.list xs) (.d<|.int k)=(bM xs k).map .d:=rfl
theorem Q4{xs:Qa D}{k:Int}:zY (.d<|.tuple xs) (.d<|.int k)=(bM xs k).map .d:=rfl
theorem Q3{xs:Qa D}{lo hi:Qb Int}:pJ (.l xs) lo hi=some (.l<|iB xs lo hi):=rfl
theorem Q2{a:Int}:cL false (.d<|.int a) (.d<|.int b)=some (.d<|.bool<|decide<|a=b):=by
 show some (U.d<|.bool<|decide<|V.int a=V.int b)=_;congr 3;exact decide_eq_decide.mpr ⟨λh=>by cases h; rfl,λh=>by rw[h]⟩
theorem Q1{a:Int}:cL true (.d<|.int a) (.d<|.int b)=some (.d<|.bool (!decide (a=b))):=by
 show some (U.d<|.bool (!decide (V.int a=V.int b)))=_;congr 4;exact decide_eq_decide.mpr ⟨λh=>by cases h; rfl,λh=>by rw[h]⟩
theorem Q0{a b:Str}:cL false (.d<|.str a) (.d<|.str b)=some (.d<|.bool<|decide<|a=b):=by
 show some (U.d<|.bool<|decide<|V.str a=V.str b)=_;congr 3;exact decide_eq_decide.mpr ⟨λh=>by cases h; rfl,λh=>by rw[h]⟩
def A6(pn:Qa Nat)(us:Qa U):Fl->Qb (U×Qa U)
 | .rt u ρ=>(zZ pn ρ 0 us).bind λos=>some (u,os)
 | .nx ρ=>(zZ pn ρ 0 us).bind λos=>some (.d .none,os)
 | _=>none
theorem Pg{us:Qa U}:eK n pn m1 us=(m1<|sm us++List.replicate (n - us.length) none).bind (A6 pn us):=by
 exact bind_fn λf=>by cases f<;>rfl
theorem V2{us:Qa U}:A6 pn us (.rt u ρ)=(zZ pn ρ 0 us).bind λos=>some (u,os):=rfl
theorem Xy:zZ pn ρ n []=some []:=rfl
theorem Xz{us:Qa U}:zZ pn ρ n (u::us)=(if n∈pn then(ρ[n]?).join.bind λo=>if o.own=true/\u.own=false then none else some o else if u.own=true then none else some u).bind λo=>(zZ pn ρ (n+1) us).bind λos=>some (o::os):=rfl
theorem QZ:U.own (.d x)=false:=rfl
theorem QY{xs:Qa D}:U.own (.l xs)=true:=rfl
theorem T3:sm []=[]:=rfl
theorem V1{us:Qa U}:sm (u::us)=some u::sm us:=rfl
theorem MW{a:α}{xs:Qa α}:bM (a::xs) 0=some a:=by
 unfold bM fu;rw[if_pos (by decide),if_pos (by simp only[qt]; omega)];rfl
theorem MV{a b:α}{xs:Qa α}:bM (a::b::xs) 1=some b:=by
 unfold bM fu;rw[if_pos (by decide),if_pos (by simp only[qt]; omega)];rfl
theorem NM{a b c:α}{xs:Qa α}:bM (a::b::c::xs) 2=some c:=by
 unfold bM fu;rw[if_pos (by decide),if_pos (by simp only[qt]; omega)];rfl
theorem NL:fu (n+1) 0=some 0:=by
 unfold fu;rw[if_pos (by decide),if_pos (by omega)];rfl
theorem NK:fu (n+1+1) 1=some 1:=by
 unfold fu;rw[if_pos (by decide),if_pos (by omega)];rfl
theorem NJ{a:Int}(h:b.natAbs < 18446744073709551616):jT (.d<|.int a) (.d<|.int b)=some (.d<|.int<|a * b):=F2 (.inr ⟨by omega,by omega⟩)
theorem NH{a:Int}(h:a.natAbs < 18446744073709551616):jT (.d<|.int a) (.d<|.int b)=some (.d<|.int<|a * b):=F2 (.inl ⟨by omega,by omega⟩)
theorem NG{a:Int}(h:0 < b):jn (.d<|.int a) (.d<|.int b)=some (.d<|.int<|a % b):=M7 h
theorem NF{a:Int}(h:0 < b)(h2:b<=340282366920938463463374607431768211456):t4 (.d<|.int a) (.d<|.int b)=some (.d<|.int<|a / b):=Pj (SY h (by omega))
theorem ND{a:Int}(h:0<=b)(h2:b<=1000000)(h3:a.natAbs < 18446744073709551616):xi (.d<|.int a) (.d<|.int b)=some (.d<|.int<|a^b.toNat):=M6 ⟨h,h2,by omega⟩
theorem zl:sizeLine=16777216:=rfl
theorem V0:reset nt ρ=List.replicate nt none++ρ.drop nt:=rfl
theorem QW:ip nt js ρ=List.replicate nt none++js.map λj=>ρ.getD j none:=rfl
def mG(j:Nat):Qa Ar->Bool
 | []=>true
 | .u _::as=>mG j as
 | .s k::as=>!decide (k=j) && mG j as
theorem Cg:∀ {as:Qa Ar},mG j as=!(as.any λa=>match a with | .s k=>decide (k=j) | _=>false)
 | []=>rfl
 | .u _::as=>by rw[List.any_cons]; exact Cg (as:=as)
 | .s k::as=>by
  unfold mG;rw[List.any_cons,Cg (as:=as),Bool.not_or]
def vY:Qb U->Bool
 | some u=>!u.own
 | none=>true
theorem QV:vY (some<|.d x)=true:=rfl
theorem VZ:mG j []=true:=rfl
theorem QU{as:Qa Ar}:mG j (.u u::as)=mG j as:=rfl
theorem QQ{as:Qa Ar}:mG j (.s k::as)=(!decide (k=j) && mG j as):=rfl
theorem VY{as:Qa Ar}:fB ρ (.s j::as)=((mG j as || vY (ρ[j]?).join) && fB ρ as):=by
 rw[OS,Cg];congr 1;cases ρ[j]? with
 | none=>simp[vY]
 | some o=>
  cases o with
  | none=>simp[vY]
  | some u=>simp[vY,Bool.or_comm]
theorem TZ{us:Qa (Qb U)}:back (j::js) (some u::us) ρ=back js us (ρ.set j<|some u):=rfl
theorem TY{us:Qa (Qb U)}:back [] us ρ=ρ:=by cases us<;>rfl
end
structure XT (K:qc) (tab:Qa (Str×Qa Str)) (fl:Qa Str):Prop where
 cl:∀ n ups C,tab.lookup n=some ups->XN K n C->XI K C/\∀ f∈fl,k8 K C f
 is:∀ n ups C,tab.lookup n=some ups->XN K n C->∀ c C',(tab.lookup c).isSome=true->XN K c C'->PySem.W.kitOne K (.ref C) (.ref C')=some (decide (c=n) || ups.contains c)
 oZ:∀ n ups C,tab.lookup n=some ups->XN K n C->PySem.W.kitOne K (.ref C) (.type "ValueError")=some (ups.contains ("ValueError":Str))
def xj(f:Str):Qa (D×D)->Qb D
 | (.str g,d)::ds=>if f=g then some d else xj f ds
 | _=>none
section
variable{fl:Qa Str}{n:Str}
theorem iO.get:∀ {fs:Qa (Str×V)} {ds:Qa (D×D)} {d:D},iO K H fs ds->xj f ds=some d->∃ v,fs.lookup f=some v/\DF K H v d
 | _,_,_,.nil,e=>by cases e
 | _,_,d,.cons (k:=k) (v:=v) (vs:=vs) h t,e=>by
  unfold xj at e;rw[List.lookup_cons];split at e
  .rename_i q
   cases e;exact⟨v,by rw[show(f==k)=true from beq_iff_eq.mpr q],h⟩
  .rename_i q
   have(w,e1,e2):=iO.get t e;exact⟨w,by rw[show(f==k)=false from beq_eq_false_iff_ne.mpr q]; exact e1,e2⟩
theorem DF.eJ{ds:Qa (D×D)}(h:DF K H v (.dict<|(.none,.str n)::ds)):∃ a C fs,v=.ref a/\XV H a C fs/\XN K n C/\iO K H fs ds:=by
 generalize eq:(PyData.dict<|(.none,.str n)::ds)=z at h;cases h with
 | kH h t=>
  cases eq;generalize eq2:((PyData.none,PyData.str n)::ds)=y at t;cases t with
  | nil=>cases eq2
  | cons=>cases eq2
 | exc h e t=>cases eq; exact⟨_,_,_,rfl,h,e,t⟩
 | obj h e t=>cases eq
 | _=>cases eq
def F0(K:qc)(f:Str):V->Hp->VK->Prop:=λx H Q=>∃ a C fs v,x=.ref a/\XV H a C fs/\XC K C/\k8 K C f/\fs.lookup f=some v/\Q v H
def rZ(tab:Qa (Str×Qa Str))(f:Str):U->Qb U
 | .d (.dict<|(.none,.str n)::ds)=>if(tab.lookup n).isSome=true then(xj f ds).map .d else none
 | _=>none
theorem Hv(T:XT K tab fl)(hf:f∈fl):VU K (F0 K f) (rZ tab f):=by
 intro x a u H Q h e q;unfold rZ at e;split at e
 .rename_i n ds
  split at e
  .rename_i hn
   have(ups,hu):=Ø.mp hn;have(d,ed,rfl):=qq.mp e;have(a,C,fs,rfl,xv,xn,t):=DF.eJ h;have(v,ev,hv):=t.get ed;have(c1,c2):=T.cl n ups C hu xn;exact⟨a,C,fs,v,rfl,xv,c1.cl,c2 f hf,ev,q v H (cK.refl H) hv Nw.data⟩
  .cases e
 .cases e
end
section
variable{fl:Qa Str}{n:Str}
def yX(K:qc)(f:Str):Sp:=λvs H Q _=>∃ a C p v,vs=[.ref a,v]/\H a=some (pL a C p)/\XC K C/\k8 K C f/\
 ∀ dx ox od,H dx=none->dx≠a->ox.cls=.ref C->ox.dict=some dx->PySem.W.notCls ox=true->ox={km C p with dict:=some dx}->Q .aK (upd (upd H dx<|.bu od<|.xd [(f,v)]) a<|.bu ox<|.own 0)
theorem Hu{vs:Qa V}{Q:VK}{E:XK}(h:yX K f vs H Q E):vs.length=2:=by
 have(a,C,p,v,rfl,_):=h;rfl
theorem Ht{vs:Qa V}{Q:VK}{E:XK}(h:yX K f vs H Q E):Gn K (kO 0) (kO 1) f {nx:=λ_ H'=>Q .aK H',rt:=Q} (ft N vs) H:=by
 have(a,C,p,v,rfl,h1,h2,h3,h4):=h;refine⟨v,rfl,.ref a,rfl,a,C,p,rfl,h1,h2,h3,h4⟩
def Pf(n f:Str)(ma:MA):ME:=λρ=>(ma ρ).bind λp=>(bO p.2 p.1).bind λus=>(gQ us).bind λds=>match ds with
 | [x]=>some (.u<|.d<|.dict [(.none,.str n),(.str f,x)],p.2)
 | _=>none
end
def BR(K:qc):Qa V->Hp->VK->Prop:=λxs H Q=>∃ a C fs c u b,xs=[.ref a,c]/\zQ c u/\(∀ u',zQ c u'->u'=u)/\XV H a C fs/\XI K C/\PySem.W.kitOne K (.ref C) u=some b/\Q (.bl b) H
section
variable{X:Cx}{fl:Qa Str}{n:Str}
theorem yA(hK:X.K=K:=by rfl):fQ X (.builtin "isinstance") (BR K):=by
 subst hK;intro pins s σ H xs us Q I r h;have(a,C,fs,c,u,b,rfl,rc,un,xv,Y,e,q):=h;have(w,u',rfl,rx,rt):=xx r;cases un u' rt;cases(show w=Value.ref a from rx);exact O7 I xv Y e λtk=>⟨.bl b,H,I.tok tk,rfl,q⟩
def jr(tab:Qa (Str×Qa Str))(own:Bool)(c:Str):U->Qb U
 | .d (.dict<|(.none,.str n)::_)=>(tab.lookup n).map λups=>.d<|.bool<|(own && decide (c=n)) || ups.contains c
 | _=>none
theorem BQ{me:ME}(T:XT K tab fl)(hc:XN K c C')(ht:(tab.lookup c).isSome=true)(h:VE K te me):VE K (lr (BR K)<|fP te<|fP (tC<|.ref C') jo) (cn (jr tab true c) me):=by
 intro ρ σ H a af Q rs e q;obtain⟨⟨a1,au⟩,e1,e⟩:=bQ e;have(x,ex,e):=bQ e;have(u,eu,e):=bQ e;cases e;refine h ρ σ H a1 _ _ rs e1 λv1 H1 g1 k1=>?_;have p:=k1.now rs g1 ex;unfold jr at eu;split at eu
 .rename_i n ds
  have(ups,hu,rfl):=qq.mp eu;have(a,C,fs,rfl,xv,xn,t):=DF.eJ p;refine⟨a,C,fs,.ref C',.ref C',_,rfl,rfl,λu' z=>z,xv,(T.cl n ups C hu xn).1,T.is n ups C hu xn c C' ht hc,?_⟩;exact q _ _ g1 ⟨DF.bl _,Nw.data⟩
 .cases eu
theorem Pe{me:ME}(T:XT K tab fl)(h:VE K te me):VE K (lr (BR K)<|fP te<|fP (tC<|.ty "ValueError") jo) (cn (jr tab false "ValueError") me):=by
 intro ρ σ H a af Q rs e q;obtain⟨⟨a1,au⟩,e1,e⟩:=bQ e;have(x,ex,e):=bQ e;have(u,eu,e):=bQ e;cases e;refine h ρ σ H a1 _ _ rs e1 λv1 H1 g1 k1=>?_;have p:=k1.now rs g1 ex;unfold jr at eu;split at eu
 .rename_i n ds
  have(ups,hu,rfl):=qq.mp eu;have(a,C,fs,rfl,xv,xn,t):=DF.eJ p;refine⟨a,C,fs,.ty "ValueError",.type "ValueError",_,rfl,rfl,λu' z=>z,xv,(T.cl n ups C hu xn).1,T.oZ n ups C hu xn,?_⟩;rw[Bool.false_and,Bool.false_or]at q;exact q _ _ g1 ⟨DF.bl _,Nw.data⟩
 .cases eu
end
section
def nq:U->U->Qb U
 | .d (.str i),.d (.str j)=>if i.length+j.length<=sizeLine then some (.d<|.str<|i++j)else none
 | _,_=>none
theorem xZ:VO K (λx y H Q=>∃ i j,x=.str i/\y=.str j/\i.length+j.length<=sizeLine/\Q (.str<|i++j) H) nq:=by
 intro x y a b u H Q ha hb e q;unfold nq at e;split at e
 .split at e
  .rename_i i j hc
   cases e;exact⟨i,j,DF.str_inv ha,DF.str_inv hb,hc,q _ _ (cK.refl H) (DF.str _) Nw.data⟩
  .cases e
 .cases e
def pI:U->U->Qb U
 | .d (.str z),.d (.int i)=>if z.length<=sizeLine then(bM z.cps.toList i).map λc=>.d (.str ⟨#[c]⟩)else none
 | _,_=>none
theorem Cf:VO K FL pI:=by
 intro x y a b u H Q ha hb e q;unfold pI at e;split at e
 .split at e
  .rename_i z i hc
   have(c,ec,rfl):=qq.mp e;exact⟨z,i,c,DF.str_inv ha,DF.int_inv hb,hc,ec,q _ _ (cK.refl H) (DF.str _) Nw.data⟩
  .cases e
 .cases e
def Ab(ty:U->Bool)(f:U->U->Qb U)(mo ma:ME):ME:=λρ=>(mo ρ).bind λp=>(p.1.get p.2).bind λx0=>if ty x0=true then(ma p.2).bind λq=>(p.1.get q.2).bind λx=>(q.1.get q.2).bind λy=>(f x y).bind λu=>some (.u u,q.2)else none
theorem FE{r:V->Qa V->Hp->VK->Prop}{ty:U->Bool}{f:U->U->Qb U}{to:TE}{mo ma:ME}(ht:∀ (x:V) (a:U) (H:Hp),Rp K H x a->ty a=true->uQ K T x H)(h:VO K (λx y H Q=>r x [y] H Q) f)
  (ho:VE K to mo) (ha:VE K ta ma):VE K (yW K T r to<|fP ta jo) (Ab ty f mo ma):=by
 intro ρ σ H a af Q rs e q;obtain⟨⟨a1,au⟩,e1,e⟩:=bQ e;have(x0,ZM,e):=bQ e;split at e
 rotate_left
 .cases e
 rename_i nL;obtain⟨⟨b1,aB⟩,e2,e⟩:=bQ e;have(x,ex,e):=bQ e;have(y,ey,e):=bQ e;have(u,eu,e):=bQ e;cases e;refine ho ρ σ H a1 au _ rs e1 λv1 H1 g1 k1=>⟨ht _ _ _ (k1.now rs g1 ZM) nL,ha au σ H1 b1 aB _ g1.rs e2 λv2 H2 g2 k2=>?_⟩;refine h _ _ x y u H2 _ (k1.later rs g1 g2 ex) (k2.now g1.rs g2 ey) eu λv H3 s p n=>?_;exact q v H3 ((g1.trans g2).trans<|Go.grow g2.rs s) ⟨p,n.mono (g1.trans g2).dm⟩
def tyL:U->Bool
 | .l _=>true
 | .d (.list _)=>true
 | _=>false
def uR:U->Bool
 | .d (.str _)=>true
 | _=>false
theorem GS(x:V)(a:U)(H:Hp)(h:Rp K H x a)(e:uR a=true):uQ K "str" x H:=by
 unfold uR at e;split at e
 .cases DF.str_inv h; rfl
 .cases e
def wK:D->Qb Str
 | .str x=>some x
 | _=>none
theorem Dd:∀ {us:Qa V} {ds:Qa D} {ys:Qa Str},aR K H us ds->ds.mapM wK=some ys->us=ys.map V.str
 | _,_,ys,.nil,e=>by cases e; rfl
 | _,_,ys,.cons (d:=d) h t,e=>by
  rw[List.mapM_cons]at e;have(y,e1,e):=bQ e;have(jy,e2,e):=bQ e;cases e;cases d with
  | str x=>cases e1; cases DF.str_inv h; rw[Dd t e2]; rfl
  | _=>cases e1
def rY:U->U->Qb U
 | .d (.str sep),.l ds=>(ds.mapM wK).bind λys=>if(ys.map (·.length)).sum+ys.length * sep.length<=16777216 then some (.d<|.str<|Txt.join sep ys)else none
 | .d (.str sep),.d (.list ds)=>(ds.mapM wK).bind λys=>if(ys.map (·.length)).sum+ys.length * sep.length<=16777216 then some (.d<|.str<|Txt.join sep ys)else none
 | _,_=>none
theorem Hs:VO K (λx y H Q=>Gr K x [y] H Q) rY:=by
 intro x y a b u H Q ha hb e q;unfold rY at e;split at e
 .have(ys,ey,e):=bQ e
  split at e
  .rename_i hc
   cases e;have(l,us,rfl,h1,h2):=hb;cases Dd h2 ey;exact⟨_,l,ys,DF.str_inv ha,rfl,bE.of h1,hc,q _ _ (cK.refl H) (DF.str _) Nw.data⟩
  .cases e
 .have(ys,ey,e):=bQ e
  split at e
  .rename_i hc
   cases e;have(l,us,rfl,h1,h2):=DF.lst_inv hb;cases Dd h2 ey;exact⟨_,l,ys,DF.str_inv ha,rfl,h1.sq,hc,q _ _ (cK.refl H) (DF.str _) Nw.data⟩
  .cases e
 .cases e
def vR:D->Qb V
 | .none=>some .aK
 | .bool b=>some<|.bl b
 | .int i=>some<|.int i
 | .str x=>some<|.str x
 | _=>none
theorem Hr{w:V}{d:D}(h:DF K H v d)(e:vR d=some w):v=w/\l5 w=true:=by
 cases d with
 | none=>cases e; cases h; exact⟨rfl,rfl⟩
 | bool b=>cases e; cases DF.bJ h; exact⟨rfl,rfl⟩
 | int i=>cases e; cases DF.int_inv h; exact⟨rfl,rfl⟩
 | str x=>cases e; cases DF.str_inv h; exact⟨rfl,rfl⟩
 | _=>cases e
theorem Hq:∀ {us:Qa V} {ds:Qa D} {ws:Qa V},aR K H us ds->ds.mapM vR=some ws->us=ws/\ws.all l5=true
 | _,_,ws,.nil,e=>by cases e; exact⟨rfl,rfl⟩
 | _,_,ws,.cons h t,e=>by
  rw[List.mapM_cons]at e;have(y,e1,e):=bQ e;have(jy,e2,e):=bQ e;cases e;have(rfl,f1):=Hr h e1;have(rfl,f2):=Hq t e2;exact⟨rfl,by rw[List.all_cons,f1,f2]; rfl⟩
end
def wJ(K:qc)(C:Qg):Bool:=match K.lookup C with
 | some ⟨.type "type",_,.cls cd,sl⟩=>(match cd.mro,sl.toList with
  | .ref C'::bm,[_,_,_,_,some<|.builtin m,_]=>C'==C && m == "ValueError.__new__" && !cd.hasDel && cd.hasDict && PySem.W.tailIn K oM bm
  | _,_=>false)
 | _=>false
def wI(K:qc)(C:Qg):Bool:=wJ K C && PySem.W.findIn K (.ref C) "__getattribute__"==some (some<|.builtin "BaseException.__getattribute__") && PySem.W.findIn K (.ref C) "__getattr__"==some none &&
 PySem.W.findIn K (.ref C) "__setattr__"==some (some<|.builtin "object.__setattr__") && PySem.W.findIn K (.ref C) "__class__"==some (some<|.builtin "object.__class__") &&
 PySem.W.specialIn K (.builtin "object.__class__") "__get__"==some (some<|.builtin "getset_descriptor.__get__") && PySem.W.takesIn K (.builtin "object.__class__")==some true && PySem.W.mroIn K C (.type "object")==some true
theorem FZ{C:Qg}(q:wJ K C=true):∃ nm qn N bs bm sn sub ab col dd k0 k1 k2 k3 k5,K.lookup C=some (excClassObj nm qn C N bs bm true sn sub ab col dd k0 k1 k2 k3 k5 "ValueError.__new__")/\PySem.W.tailIn K oM bm=true:=by
 unfold wJ at q;split at q
 .rename_i dd cd sl ho
  split at q
  .rename_i C' bm k0 k1 k2 k3 m k5 hm hs
   simp only[Bool.and_eq_true,beq_iff_eq,Bool.not_eq_true']at q;obtain⟨⟨⟨⟨rfl,rfl⟩,vG⟩,nS⟩,ht⟩:=q;have(nm,bs,mro,ns,qn,hd,sn,sub,ab,col,del):=cd;dsimp only at hm vG nS;subst hm vG nS;obtain⟨l⟩:=sl;dsimp only at hs;subst hs;exact⟨nm,qn,ns,bs,bm,sn,sub,ab,col,dd,k0,k1,k2,k3,k5,ho,ht⟩
  .cases q
 .cases q
theorem NC{C:Qg}(q:wI K C=true):XI K C:=by
 unfold wI at q;simp only[Bool.and_eq_true,beq_iff_eq]at q;obtain⟨⟨⟨⟨⟨⟨⟨h1,h2⟩,h3⟩,h4⟩,h5⟩,h6⟩,h7⟩,h8⟩:=q;exact⟨⟨FZ h1,h2,h3,h4⟩,h5,h6,h7,h8⟩
def pH(K:qc)(n:Str):Qb Qg:=match PySem.W.nsIn K mainGlobals n with
 | some (some<|.ref C)=>some C
 | _=>none
theorem xY{n:Str}{C:Qg}(h:XN K n C):pH K n=some C:=by
 unfold pH;rw[show PySem.W.nsIn K mainGlobals n=some (some<|.ref C) from h]
def A5(K:qc)(tab:Qa (Str×Qa Str))(fl:Qa Str):Bool:=tab.all λp=>match pH K p.1 with
 | some C=>wI K C && fl.all (λf=>PySem.W.findIn K (.ref C) f==some none) && PySem.W.kitOne K (.ref C) (.type "ValueError")==some (p.2.contains ("ValueError":Str)) &&
   tab.all λp'=>match pH K p'.1 with
    | some C'=>PySem.W.kitOne K (.ref C) (.ref C')==some (decide (p'.1=p.1) || p.2.contains p'.1)
    | none=>false
 | none=>false
theorem yD:∀ {l:Qa (Str×β)} {n:Str} {b:β},l.lookup n=some b->(n,b)∈l
 | [],_,_,e=>by cases e
 | (m,c)::l,n,b,e=>by
  rw[List.lookup_cons]at e;cases q:(n==m)with
  | true=>
   rw[q]at e;cases e;rw[beq_iff_eq.mp q];exact qo
  | false=>
   rw[q]at e;exact qm _<|yD e
theorem NB{fl:Qa Str}(h:A5 K tab fl=true):XT K tab fl:=by
 unfold A5 at h;have one:∀ n ups C,tab.lookup n=some ups->XN K n C->(wI K C && fl.all (λf=>PySem.W.findIn K (.ref C) f==some none) && PySem.W.kitOne K (.ref C) (.type "ValueError")==some (ups.contains ("ValueError":Str)) &&
   tab.all λp'=>match pH K p'.1 with
    | some C'=>PySem.W.kitOne K (.ref C) (.ref C')==some (decide (p'.1=n) || ups.contains p'.1)
    | none=>false)=true:=λn ups C hn xn=>by
  have z:=List.all_eq_true.mp h (n,ups) (yD hn);dsimp only at z;rw[xY xn]at z;exact z
 refine⟨λn ups C hn xn=>?_,λn ups C hn xn c C' hc xc=>?_,λn ups C hn xn=>?_⟩
 .have z:=one n ups C hn xn
  simp only[Bool.and_eq_true]at z;refine⟨NC z.1.1.1,λf hf=>?_⟩;exact beq_iff_eq.mp<|List.all_eq_true.mp z.1.1.2 f hf
 .have z:=one n ups C hn xn
  simp only[Bool.and_eq_true]at z;have(DE,YQ):=Ø.mp hc;have y:=List.all_eq_true.mp z.2 (c,DE) (yD YQ);dsimp only at y;rw[xY xc]at y;exact beq_iff_eq.mp y
 .have z:=one n ups C hn xn
  simp only[Bool.and_eq_true]at z;exact beq_iff_eq.mp z.1.2
structure lO (P:Qe) (w:Qh) (K:qc) (mg:Str->Qb Qc) (base:Heap) (x:Str) (C:Qg) (f:Str):Prop where
 xn:XN K x C
 cl:XC K C
 na:k8 K C f
 Yy:mg x=some (.ref C)
 kp:PySem.W.keepIn K (.ref C)=true
 YG:∃ i fd,PySem.W.findIn K (.ref C) "__init__"=some (some<|.ref i)/\PySem.W.isFn K (.ref i)=true/\jY K fd ["self",f] []/\bp P w K mg base gN 1 i fd ["self",f] (yX K f)
section
variable{X:Cx}{C:Qg}{es:Qa Expr}
theorem lX(hm:X.mg x=some (.ref C))(hg:Gl X x)(cx:(x==("__debug__":Str))=false:=by decide):Wr (PE X (.Name x pos)<|tC<|.ref C):=⟨Ic hg hm rfl cx⟩
theorem GR(K:qc)(hK:X.K=K)(he:Wr (PE X e ta))(hb:attributeBase e f X.env (eval e X.env)=eval e X.env):Wr (PE X (.Attribute e f pos)<|yV (F0 K f) ta):=hK▸⟨SN he.run hb⟩
end
abbrev RX(α:Type):=(α×En) ⊕ (D×En)
abbrev MX:=En->Qb (RX Ar)
abbrev Fm:=En->Qb (RX<|Qa Ar)
def mL(m:En->Qb (RX α)):En->Qb (α×En):=λρ=>(m ρ).bind λr=>match r with | .inl p=>some p | .inr _=>none
def Z3(K:qc)(EX:cJ)(ρ:En)(σ:St)(H:Hp)(x:D)(af:En):Prop:=∀ a H',Go K ρ σ H af H'->H a=none->xa K H' a x->EX σ a H'
def VX(K:qc)(EX:cJ)(t:TE)(m:MX):Prop:=VE K t (mL m)/\∀ (ρ:En) (σ:St) (H:Hp) (x:D) (af:En) (Q:VK),Rs K ρ σ H->m ρ=some (.inr (x,af))->Z3 K EX ρ σ H x af->t σ H Q
section
variable{EX:cJ}{ρ af:En}{A:Qg->Prop}
def zwD(me:MX)(ma:Fm):Fm:=λρ=>(me ρ).bind λr=>match r with
 | .inl p=>(ma p.2).bind λr'=>match r' with
  | .inl q=>some<|.inl (p.1::q.1,q.2)
  | .inr z=>some<|.inr z
 | .inr z=>some<|.inr z
def m7(mS:ME->MS)(m:MX):MS:=λρ=>(m ρ).bind λr=>match r with
 | .inl _=>mS (mL m) ρ
 | .inr z=>some<|.ex z.1 z.2
theorem TX{t:TE}{m:MX}{tS:TE->TS}{mS:ME->MS}(h:VX K EX t m)(hF:VE K t (mL m)->VS K pn EX (tS t) (mS<|mL m))(hX:∀ D σ H,(∀ Q',t σ H Q')->tS t D σ H):VS K pn EX (tS t) (m7 mS m):=by
 intro ai A av aA ρ σ H f D s e k;have(r2,e2,e1):=bQ e;cases r2 with
 | inl p=>exact hF h.1 ai A av aA ρ σ H f D s e1 k
 | inr z=>
  cases e1;exact hX D σ H λQ'=>h.2 ρ σ H z.1 z.2 Q' s.rs e2 λa H' g hn fl=>k a σ H' (s.go g) (s.dm a hn) fl
theorem xX{t:TE}{m:MX}(h:VX K EX t m)(hi:i∉pn:=by decide):VS K pn EX (lV t<|jv i) (m7 (zS i) m):=TX (tS:=λt=>lV t<|jv i) (mS:=zS i) h (λh=>zB h hi) λD σ H z=>z _
def LU(K:qc)(te:TE)(m:En->Qb (D×En)):Prop:=∀ (ρ:En) (σ:St) (H:Hp) (x:D) (af:En) (Q:VK),Rs K ρ σ H->m ρ=some (x,af)->
 (∀ a H',Go K ρ σ H af H'->H a=none->(∃ C d,H' a=some (m9 a C d none)/\XC K C)->xa K H' a x->Q (.ref a) H')->te σ H Q
def xK(m:En->Qb (D×En)):MS:=λρ=>(m ρ).bind λp=>some<|.ex p.1 p.2
theorem Ho{m:En->Qb (D×En)}(h:LU K te m):VS K pn EX (Cn K EX te) (xK m):=by
 intro ai A av aA ρ σ H f D s e k;obtain⟨⟨x,au⟩,e1,e⟩:=bQ e;cases e;exact h ρ σ H x au _ s.rs e1 λa H' g hn ⟨C,d,ha,xc⟩ fl=>⟨a,C,d,rfl,ha,xc,k a σ H' (s.go g) (s.dm a hn) fl⟩
def vh(n f:Str)(ma:MA):En->Qb (D×En):=λρ=>(ma ρ).bind λp=>(bO p.2 p.1).bind λus=>(gQ us).bind λds=>match ds with
 | [x]=>some (.dict [(.none,.str n),(.str f,x)],p.2)
 | _=>none
theorem Hn{C:Qg}{E:XK}{n:Str}{m:MA}(xn:XN K n C)(c:XC K C)(na:k8 K C f)(h:kM K t m):LU K (Cq C (AZ K f) E t) (vh n f m):=by
 intro ρ σ H x af Q rs e q;obtain⟨⟨as,au⟩,e1,e⟩:=bQ e;have(us,eu,e):=bQ e;have(ds,ed,e):=bQ e;split at e
 rotate_left
 .cases e
 rename_i x;cases e;refine h ρ σ H as au _ rs e1 λvs H1 g1 s1=>?_;have df:=Ck (s1.oS rs g1 eu) ed;generalize eq:[x]=ys at df;cases df with
 | nil=>cases eq
 | @cons v d vs' ds' hd t'=>
  cases eq;cases t';refine⟨by show 1<=1000; decide,λa p ha=>⟨a,C,p,v,rfl,zt,c,na,λdx od nQ ne=>⟨rfl,?_⟩⟩⟩;have EL:H1 dx=none:=by rw[zp ne]at nQ; exact nQ
  have sm:cK H1 (upd (upd (upd H1 a<|pL a C p) dx<|.bu od<|.xd [(f,v)]) a<|m9 a C (some dx) none):=λb o hb=>by
   rw[zp<|zV hb ha,zp<|zV hb EL,zp<|zV hb ha];exact hb
  refine q a _ (g1.trans<|Go.grow g1.rs sm) (g1.dm a ha) ⟨C,some dx,zt,c⟩ ?_;exact⟨n,C,[(f,v)],_,rfl,⟨some dx,none,zt,(λT z=>nomatch z),.inr ⟨od,dx,rfl,by rw[zp ne,zt]⟩⟩,xn,.cons (hd.kp sm.kp) .nil⟩
theorem Rs.mv(r:Rs K ρ σ H)(ea:∃ φ,H a=some (.ext φ))(k:∀ b o,b≠a->H b=some o->H' b=some o):Rs K ρ σ H'/\Kp H H':=by
 have(φ,ea):=ea;have kp:Kp H H':=⟨λb xs h=>k b _ (λz=>by rw[z,ea]at h; cases h) h,λb ob u h=>k b _ (λz=>by rw[z,ea]at h; cases h) h,λb x h=>k b _ (λz=>by rw[z,ea]at h; cases h) h⟩;refine⟨⟨r.len,λi u e=>?_,r.apart⟩,kp⟩;have(v,ev,p):=r.rep i u e;refine⟨v,ev,p.kp kp λo b c eb hb=>?_⟩;have(b',c',LD,jK,m):=p.own o;rw[eb]at LD;cases LD;rw[hb]at jK;cases jK;exact k b c (λz=>by rw[z,ea]at hb; cases hb; exact m) hb
theorem Sn.mv(s:Sn K pn ai A av aA ρ σ H)(hn:av a=none)(ea:∃ φ,H a=some (.ext φ))(k:∀ b o,b≠a->H b=some o->H' b=some o)(dm:∀ b,H' b=none->H b=none):Sn K pn ai A av aA ρ σ H':=by
 have(r,kp):=s.rs.mv ea k;exact⟨r,λb o h n=>k b o (λz=>by rw[z,hn]at h; cases h)<|s.fr b o h n,s.ow,s.pin,λb h=>s.dm b<|dm b h,s.kp.trans kp⟩
theorem m8.ext{C:Qg}{fs:Qa (Str×V)}(f:m8 H a C fs):∃ φ,H a=some (.ext φ):=by
 have(d,tb,ea,_):=f;exact⟨_,ea⟩
theorem Sn.clear(s:Sn K pn ai A av aA ρ σ H)(hi:i∉pn):Sn K pn ai A av aA (ρ.set i none) (σ.set i none) H:=by
 have inv:∀ (j:Nat) (w:U),(ρ.set i none)[j]?=some (some w)->j≠i/\ρ[j]?=some (some w):=λj w e=>by
  by_cases hj:i=j
  .subst hj
   have hl:=(qk.mp e).1;rw[List.length_set]at hl;rw[List.getElem?_set_self hl]at e;cases e
  .rw[qB hj]at e
   exact⟨Ne.symm hj,e⟩
 have sat:∀ j,j≠i->(σ.set i none)[j]?=σ[j]?:=λj h=>qB<|Ne.symm h;refine⟨⟨by rw[List.length_set,List.length_set]; exact s.rs.len,λj w e=>?_,λj k x y ej ek ox oy es=>?_⟩,s.fr,λj w a e o es=>?_,λj hj=>?_,s.dm,s.kp⟩
 .have(hj,e'):=inv j w e
  rw[sat j hj];exact s.rs.rep j w e'
 .have(hj,lK):=inv j x ej
  have(hk,vV):=inv k y ek;rw[sat j hj,sat k hk]at es;exact s.rs.apart j k x y lK vV ox oy es
 .have(hj,e'):=inv j w e
  rw[sat j hj]at es;exact s.ow j w a e' o es
 .rw[sat j λz=>hi<|z▸hj]
  exact s.pin j hj
def XM(K:qc)(tab:Qa (Str×Qa Str))(c:Str)(C':Qg):Prop:=∀ n ups C,tab.lookup n=some ups->XN K n C->ups.contains c=true->XC K C/\PySem.W.mroIn K C (.ref C')=some true
def Ax(i:Nat):Fl->Qb Fl
 | .nx ρ=>some<|.nx<|ρ.set i none
 | .bk ρ=>some<|.bk<|ρ.set i none
 | .ct ρ=>some<|.ct<|ρ.set i none
 | .rt u ρ=>some<|.rt u ρ
 | .ex _ _=>none
def under(tab:Qa (Str×Qa Str))(c:Str):D->Bool
 | .dict ((.none,.str n)::_)=>match tab.lookup n with|some ups=>ups.contains c|none=>false
 | _=>false
def A4(tab:Qa (Str×Qa Str))(c:Str)(i:Nat)(mb mh:MS):MS:=λρ=>(mb ρ).bind λf=>match f with
 | .ex x af=>if under tab c x=true then(mh<|af.set i<|some<|.d x).bind (Ax i)else none
 | f=>some f
theorem NA{tb:cJ->TS}{th:TS}{mb mh:MS}(T:XM K tab c C')(hi:i∉pn)(hb:∀ EX,VS K pn EX (tb EX) mb)(hh:VS K pn AK th mh):VS K pn EX (AY K C' i tb th) (A4 tab c i mb mh):=by
 intro ai A av aA ρ σ H f D s e k;have(f1,e1,e):=bQ e;refine hb _ ai A av aA ρ σ H f1 D s e1 ?_;cases f1 with
 | nx au=>cases e; exact k
 | bk au=>cases e; exact k
 | ct au=>cases e; exact k
 | rt u au=>cases e; exact k
 | ex x au=>
  dsimp only at e;split at e
  rotate_left
  .cases e
  rename_i hu;have(f2,e2,e):=bQ e;intro a eh H1 s1 hn fl;have(n,C,fs,ds,rfl,fv,xn,t):=fl;unfold under at hu;dsimp only at hu;cases hl:tab.lookup n with
  | none=>rw[hl]at hu; cases hu
  | some ups=>
   rw[hl]at hu;have(xc,mr):=T n ups C hl xn hu;refine⟨C,fs,fv,xc,mr,λH2 xv kk dm=>?_⟩;have s2:=s1.mv hn fv.ext kk dm;have kp:=(s1.rs.mv fv.ext kk).2;have s3:=s2.set (i:=i) (v:=.ref a) (u:=.d (.dict<|(.none,.str n)::ds)) hi (DF.exc xv xn<|t.kp kp) (λo=>by cases o);refine hh ai A av aA _ _ H2 f2 _ s3 e2 ?_;cases f2 with
   | nx aB=>cases e; exact λdS H4 s4=>k _ _<|s4.clear hi
   | bk aB=>cases e; exact λdS H4 s4=>k _ _<|s4.clear hi
   | ct aB=>cases e; exact λdS H4 s4=>k _ _<|s4.clear hi
   | rt u aB=>cases e; exact k
   | ex y aB=>cases e
end
abbrev FX:=Qa U->Qb ((U×Qa U) ⊕ (D×Qa U))
def uX(K:qc)(n:Nat)(f:FX):Sp:=λvs H Q E=>∃ us r,us.length=n/\Rs K (sm us) (dg vs) H/\f us=some r/\match r with
 | .inl o=>∀ v H',Go K (sm us) (dg vs) H (sm o.2) H'->Rp K H' v o.1->Nw H v o.1->Q v H'
 | .inr o=>∀ a H',Go K (sm us) (dg vs) H (sm o.2) H'->H a=none->xa K H' a o.1->E (.ref a) none H'
structure rE (P:Qe) (w:Qh) (K:qc) (mg:Str->Qb Qc) (base:Heap) (x:Str) (k:Nat) (ps:Qa Str) (sp:Sp):Prop where
 ex:∃ (f:Qg) (fd:FuncData),bp P w K mg base (jO P w K) k f fd ps sp/\jY K fd ps []/\PySem.W.keepIn K (.ref f)=true/\mg x=some (.ref f)
theorem RV{X:Cx}:iS X AK:=λ_ _ _ _ _ _ z=>z.elim
section
variable{X:Cx}{EX:cJ}{es:Qa Expr}
theorem Ce(C:rE X.prog X.w X.K X.mg X.base x k ps sp)(hx:iS X EX)(ha:Wr (PA X (e::es) t))(hr:aE k X.A:=by exact aE.mono ‹aE _ _› (by decide))(hg:Gl X x:=by exact rfl)(cx:(x==("__debug__":Str))=false:=by decide)
  (he:zN e=true:=by rfl) (bZ:es.all zN=true:=by rfl):Wr (PE X (.Call (.Name x p) (e::es) [] pos)<|ud sp EX t):=by
 have(f,fd,F,hb,hk,hm):=C.ex;exact⟨UY F hr hg hm hk hb hx ha.run cx (iW he)<|oI bZ⟩
end
section
variable{EX:cJ}{ρ af:En}{A:Qg->Prop}
def wH(ρ:En)(as:Qa Ar):(U×Qa U) ⊕ (D×Qa U)->RX Ar
 | .inl o=>.inl (.u o.1,wb ρ as o.2)
 | .inr o=>.inr (o.1,wb ρ as o.2)
def pS(f:FX)(ma:MA):MX:=λρ=>(ma ρ).bind λp=>if fB p.2 p.1=true then(bO p.2 p.1).bind λus=>(f us).bind λo=>some (wH p.2 p.1 o)else none
theorem uq{f:FX}{m:MA}(n:Nat)(h:kM K t m)(hn:∀ ρ as af,m ρ=some (as,af)->as.length=n:=by repeat (first|exact Gj|refine G3 ?_)):VX K EX (ud (uX K n f) EX t) (pS f m):=by
 refine⟨λρ σ H a af Q rs e q=>?_,λρ σ H x af Q rs e q=>?_⟩
 .unfold mL at e
  have(r,e1,e):=bQ e;obtain⟨⟨as,au⟩,e2,e1⟩:=bQ e1;dsimp only at e1;split at e1
  .rename_i dj
   have(us,eu,e1):=bQ e1;have(o,ef,e1):=bQ e1;cases e1;cases o with
   | inr o=>cases e
   | inl o=>
    cases e;refine h ρ σ H as au _ rs e2 λvs H1 g1 s1=>?_;have(oQ,back):=Ci rs g1 s1 dj eu;exact⟨us,.inl o,by rw[sH eu]; exact hn _ _ _ e2,oQ,ef,λv H2 g2 p n2=>q v H2 (back o.2 H2 g2) ⟨p,n2.mono g1.dm⟩⟩
  .cases e1
 .obtain⟨⟨as,au⟩,e2,e1⟩:=bQ e
  dsimp only at e1;split at e1
  .rename_i dj
   have(us,eu,e1):=bQ e1;have(o,ef,e1):=bQ e1;cases o with
   | inl o=>cases e1
   | inr o=>
    cases e1;refine h ρ σ H as au _ rs e2 λvs H1 g1 s1=>?_;have(oQ,back):=Ci rs g1 s1 dj eu;exact⟨us,.inr o,by rw[sH eu]; exact hn _ _ _ e2,oQ,ef,λa H2 g2 hn fl=>⟨a,rfl,q a H2 (back o.2 H2 g2) (g1.dm a hn) fl⟩⟩
  .cases e1
def xo(pn:Qa Nat)(us:Qa U):Fl->Qb ((U×Qa U) ⊕ (D×Qa U))
 | .rt u ρ=>(zZ pn ρ 0 us).bind λos=>some<|.inl (u,os)
 | .nx ρ=>(zZ pn ρ 0 us).bind λos=>some<|.inl (.d .none,os)
 | .ex x ρ=>(zZ pn ρ 0 us).bind λos=>some<|.inr (x,os)
 | _=>none
def pG(n:Nat)(pn:Qa Nat)(m:MS):FX:=λus=>(m<|sm us++List.replicate (n - us.length) none).bind<|xo pn us
theorem jh.D1{f:Qg}{m:MS}(F:jh K x qual st f fd)(S:aQ N ps (zo st))(o9:ps.length=n)(hN:N.length=nn)(jI:n<=nn)
  (aX:∀ (aO:Qc) (A:Qf) (outer:Qa Env) (s:Qd) (H:Hp) (E:XK),aE k (A.deeper<|envOfC qual (zo st) s.heap.objs.size f aO)->iS (iE (jO P w K) P w K mg base N qual (zo st) f aO A outer s H E) (rD E)->
   ∃ t,Wr (cW (iE (jO P w K) P w K mg base N qual (zo st) f aO A outer s H E) (fE st) t)/\VS K pn (rD E) t m):bp P w K mg base (jO P w K) (k+1) f fd ps (uX K n<|pG nn pn m):=by
 have(oc,od,kV,doc,pm,an,aO,ct,iK,rfl,lk,gL):=F.ex;refine BX lk gL S (λvs H Q E h=>?_) λA outer s H vs Q E hr h=>?_
 .have(us,r,hl,rs,_):=h
  have:=rs.len;unfold sm dg at this;simp at this;omega
 have(us,r,hl,rs,ef,q):=h;have(t,wt,vt):=aX aO A outer s H E hr Gm;refine⟨t,wt.run,?_⟩;have(fl,em,ef):=bQ ef;have go:∀ (af:En) (outs:Qa U),zZ pn af 0 us=some outs->Sn K pn (ft N vs) (Ow (sm us)<|dg vs) H H (sm us++List.replicate (N.length - us.length) none) (ft N vs) H:=λaf outs ho=>De rs (by omega) ho;subst hN;cases fl with
 | nx af=>
  have(os,eo,ef):=bQ (show(zZ pn af 0 us).bind _=_ from ef);cases ef;refine vt _ _ _ _ _ _ _ (.nx af) _ (go af _ eo) em λaC H' s'=>?_;exact q _ _ (oF rs s' eo) .aK Nw.data
 | rt u af=>
  have(os,eo,ef):=bQ (show(zZ pn af 0 us).bind _=_ from ef);cases ef;refine vt _ _ _ _ _ _ _ (.rt u af) _ (go af _ eo) em λv aC H' s' p n'=>?_;exact q _ _ (oF rs s' eo) p n'
 | ex x af=>
  have(os,eo,ef):=bQ (show(zZ pn af 0 us).bind _=_ from ef);cases ef;refine vt _ _ _ _ _ _ _ (.ex x af) _ (go af _ eo) em λa aC H' s' hn fl=>?_;have(n,C,fs,ds,rfl,fv,xn,t):=fl;refine⟨C,fs,fv,λH2 E5 kk dm=>?_⟩;exact q a H2 (oF rs (s'.mv hn fv.ext kk dm) eo) hn ⟨n,C,fs,ds,rfl,E5,xn,t.kp (s'.rs.mv fv.ext kk).2⟩
 | bk=>cases ef
 | ct=>cases ef
end
theorem Nz{i:Qg}(F:bp P w K mg base gN k i fd ["self",f] (yX K f)):bp P w K mg base gN k i fd ["self",f] (AZ K f):=by
 refine⟨λvs H Q E h=>by have(a,C,p,v,rfl,_):=h; rfl,λA outer s H args us vs Q E hr e0 hb r h=>?_⟩;have(a,C,p,v,rfl,ea,xc,na,q):=h;refine codeAny_mono (F.run A outer s H args us [.ref a,v] (λv' H'=>v'=.aK/\∃ dx ox od,H dx=none/\dx≠a/\ox={km C p with dict:=some dx}/\H'=upd (upd H dx<|.bu od<|.xd [(f,v)]) a (.bu ox<|.own 0)) E hr e0 hb r
  ⟨a,C,p,v,rfl,ea,xc,na,λdx ox od h1 h2 h3 h4 h5 h6=>⟨rfl,dx,ox,od,h1,h2,h6,rfl⟩⟩) λr s' z=>?_
 cases r with
 | error e=>exact z.elim
 | ok fl=>
  cases fl with
  | ret u=>
   have(v',H',os,bare,un,aD,rv,rfl,dx,ox,od,h1,h2,h3,rfl):=z;have(ha,_):=aD a _ zt;subst h3;have(KI,vy):=SM (u:=m9 a C (some dx) none) un aD ea zt (λ_ z=>nomatch z) (λ_ z=>nomatch z) (Il ⟨_,_,ha,rfl,rfl,rfl,rfl,λ_=>⟨p,rfl⟩⟩);rw[TJ]at KI vy;exact⟨.aK,_,os,bare,KI,vy,rv,q dx od h1 h2⟩
  | next=>exact z.elim
  | brk=>exact z.elim
  | cont=>exact z.elim
section
variable{X:Cx}{C:Qg}{es:Qa Expr}{EX:cJ}
theorem Jg(c:lO X.prog X.w X.K X.mg X.base x C f)(ha:Wr (PA X (e::es) t))(hr:aE 2 X.A:=by exact aE.mono ‹aE _ _› (by decide))(hg:Gl X x:=by exact rfl)(cx:(x==("__debug__":Str))=false:=by decide)
  (he:zN e=true:=by rfl) (bZ:es.all zN=true:=by rfl):Wr (PE X (.Call (.Name x p) (e::es) [] pos)<|Cq C (AZ X.K f) E0 t):=by
 have(i,fd,h1,h2,h3,h4):=c.YG;exact⟨U0 c.cl h1 h2 c.kp (Nz h4) hr hg c.Yy h3 Gv ha.run cx (iW he)<|oI bZ⟩
theorem HH(K:qc)(hK:X.K=K)(hr:aE k X.A)(hx:iS X EX)(he:Wr (PE X e te)):Wr (PS X (.Raise (some e) none pos)<|Cn K EX te):=hK▸⟨UZ hx hr.hd he.run⟩
theorem Ny{n cls:Str}{body fU:Qa Stmt}{kc:Stmt}{tb:cJ->TS}{th:TS}{np nO:Pos}(K:qc)(hK:X.K=K)(i7:X.stack=X.env::outer)(hf:X.env.frame=some X.env.locals)(hN:X.N.Nodup)(hi:X.N[i]?=some n)(hl:X.env.scope.names.lookup n=some .local)(hg:Gl X cls)(hm:X.mg cls=some (.ref C'))(tm:XC K C')
  (hb:∀ (pn:Qa (Qg×Obj)) (E:Qc->Qd->Prop) (EX:cJ),iS (X.body pn E) EX->Wr (cW (X.body pn E) body<|tb EX))
  (hs:∀ a,Wr<|cW (X.held a) (kc::fU) th) (cx:(cls==("__debug__":Str))=false:=by decide):
  Wr (PS X (.Try body [.ExceptHandler (some<|.Name cls np) (some n) (kc::fU) nO] [] [] pos)<|AY K C' i tb th):=by
 subst hK;exact⟨O6 i7 hf hN hi hl hg hm tm (λpn E EX h=>(hb pn E EX h).run) (λa=>(hs a).run) cx⟩
end
def A3(K:qc)(tab:Qa (Str×Qa Str))(c:Str):Bool:=match pH K c with
 | some C'=>tab.all λp=>!p.2.contains c || (match pH K p.1 with
  | some C=>wJ K C && PySem.W.findIn K (.ref C) "__getattribute__"==some (some<|.builtin "BaseException.__getattribute__") && PySem.W.findIn K (.ref C) "__getattr__"==some none && PySem.W.findIn K (.ref C) "__setattr__"==some (some<|.builtin "object.__setattr__") && PySem.W.mroIn K C (.ref C')==some true
  | none=>false)
 | none=>false
theorem Nx(h:A3 K tab c=true)(xn:XN K c C'):XM K tab c C':=by
 intro n ups C hl xc hu;unfold A3 at h;rw[xY xn]at h;have z:=List.all_eq_true.mp h (n,ups) (yD hl);dsimp only at z;rw[hu,xY xc]at z;simp only[Bool.not_true,Bool.false_or,Bool.and_eq_true,beq_iff_eq]at z;obtain⟨⟨⟨⟨h1,h2⟩,h3⟩,h4⟩,h5⟩:=z;exact⟨⟨FZ h1,h2,h3,h4⟩,h5⟩
def Yd:D->Qb String
 | .none=>some "NoneType"
 | .bool _=>some "bool"
 | .int _=>some "int"
 | .str _=>some "str"
 | .tuple _=>some "tuple"
 | _=>none
def KJ:U->Qb String
 | .d x=>Yd x
 | .l _=>some "list"
 | _=>none
def oZ(t T:String):Bool:=t==T || (t == "bool" && T == "int")
def BP:Qa String:=["NoneType", "bool", "int", "str", "tuple", "list"]
theorem RU(K:qc):∀ t∈BP,∀ T∈["int", "bool", "str", "tuple", "list"],PySem.W.kitOne K (.type t) (.type T)=some (oZ t T):=by
 have hm:∀ T∈["int", "bool", "str", "tuple", "list"],PySem.W.kitMeta T=true:=by decide +kernel
 have hs:∀ t∈BP,∀ T∈["int", "bool", "str", "tuple", "list"],(PySem.fastBuiltinMro t).map (·.contains (Value.type T))=some (oZ t T):=by decide +kernel
 intro t ht T hT;unfold PySem.W.kitOne;split
 .rename_i q
  have e:t=T:=Value.type.inj (beq_iff_eq.mp q);subst e;unfold oZ;simp
 .unfold PySem.W.kitCls PySem.W.subIn
  simp only[hm T hT,if_true];exact hs t ht T hT
def iA(T:String)(u:U):Qb U:=(KJ u).bind λt=>if t∈BP/\T∈["int", "bool", "str", "tuple", "list"]then some (.d<|.bool<|oZ t T)else none
section
theorem Pd{u:U}{t:String}(h:Rp K H v u)(e:KJ u=some t):dn K H v (.type t):=by
 cases u with
 | d x=>
  cases x with
  | none=>cases e; cases h; exact .aK
  | bool b=>cases e; cases DF.bJ h; exact .bl _
  | int i=>cases e; cases DF.int_inv h; exact .int _
  | str x=>cases e; cases DF.str_inv h; exact .str _
  | tuple ds=>cases e; have(a,ys,rfl,h1,_):=DF.aV h; exact .tup h1
  | list ds=>cases e
  | dict ds=>cases e
 | l xs=>cases e; have(a,us,rfl,h1,_):=h; exact .lst h1
 | t aL=>cases e
 | k aL=>cases e
 | o=>cases e
theorem kS{me:ME}(h:VE K te me):VE K (lr (Bt K)<|fP te<|fP (tC<|.ty T) jo) (cn (iA T) me):=by
 intro ρ σ H a af Q rs e q;obtain⟨⟨a1,au⟩,e1,e⟩:=bQ e;have(x,ex,e):=bQ e;have(u,eu,e):=bQ e;cases e;refine h ρ σ H a1 _ _ rs e1 λv1 H1 g1 k1=>?_;have p:=k1.now rs g1 ex;unfold iA at eu;have(t,et,eu):=bQ eu;split at eu
 .rename_i hc
  cases eu;exact⟨v1,.type t,T,_,rfl,Pd p et,RU K t hc.1 T hc.2,q _ _ g1 ⟨DF.bl _,Nw.data⟩⟩
 .cases eu
def tN(x:D)(ds:Qa D):Qb Bool:=(vR x).bind λw=>(ds.mapM vR).bind λws=>some<|Ek w ws
def ic(neg:Bool)(a b:U):Qb U:=match a with
 | .d x=>b.items.bind λds=>(tN x ds).bind λr=>some<|.d<|.bool (if neg=true then !r else r)
 | _=>none
theorem uc(neg:Bool):VO K (u4 K neg) (ic neg):=by
 intro x y a b u H Q ha hb e q;cases a with
 | d d=>
  have(ds,e1,e):=bQ (show b.items.bind _=some u from e);have(r,e2,e):=bQ e;have(w,e3,e2):=bQ e2;have(ws,e4,e2):=bQ e2;cases e2;cases e;have(p,ys,rfl,sq,df):=hb.items e1;have(rfl,f1):=Hr ha e3;have(rfl,f2):=Hq df e4;exact⟨p,_,rfl,sq,f1,f2,q _ _ (cK.refl H) (by cases neg<;>exact DF.bl _) Nw.data⟩
 | _=>cases e
def blD:D->Qb Bool
 | .bool b=>some b
 | _=>none
def um(f f':U->U->Qb U)(ma mb mc:ME):ME:=λρ=>(ma ρ).bind λp=>(mb p.2).bind λq=>(p.1.get q.2).bind λx=>(q.1.get q.2).bind λy=>(f x y).bind λr=>match r with
 | .d (.bool true)=>(mc q.2).bind λs=>(q.1.get s.2).bind λy'=>(s.1.get s.2).bind λz=>(f' y' z).bind λu=>some (.u u,s.2)
 | .d (.bool false)=>some (.u<|.d<|.bool false,q.2)
 | _=>none
theorem HG{r r':R2}{f f':U->U->Qb U}{tc:TE}{ma mb mc:ME}(h:VO K r f)(h':VO K r' f')(ha:VE K ta ma)(hb:VE K tb mb)(hc:VE K tc mc):VE K (uf r r' ta tb tc) (um f f' ma mb mc):=by
 intro ρ σ H a af Q rs e q;obtain⟨⟨a1,au⟩,e1,e⟩:=bQ e;obtain⟨⟨b1,aB⟩,e2,e⟩:=bQ e;have(x,ex,e):=bQ e;have(y,ey,e):=bQ e;have(rr,er,e):=bQ e;refine ha ρ σ H a1 au _ rs e1 λv1 H1 g1 k1=>hb au σ H1 b1 aB _ g1.rs e2 λv2 H2 g2 k2=>?_;refine h _ _ x y rr H2 _ (k1.later rs g1 g2 ex) (k2.now g1.rs g2 ey) er λv H3 s p n=>?_;have g3:=Go.grow g2.rs s;split at e
 .cases DF.bJ p
  refine⟨true,rfl,?_⟩;rw[if_pos rfl];obtain⟨⟨c1,iz⟩,e3,e⟩:=bQ e;have(y',Fb,e):=bQ e;have(z,ez,e):=bQ e;have(u,eu,e):=bQ e;cases e;refine hc aB σ H3 c1 _ _ g3.rs e3 λv3 H4 g4 k4=>?_;refine h' _ _ y' z u H4 _ (k2.later g1.rs g2 (g3.trans g4) Fb) (k4.now g3.rs g4 ez) eu λw H5 s5 p5 n5=>?_;exact q w H5 ((((g1.trans g2).trans g3).trans g4).trans<|Go.grow g4.rs s5) ⟨p5,n5.mono λb hb=>(g1.trans g2).dm b<|g3.dm b<|g4.dm b hb⟩
 .cases DF.bJ p
  cases e;refine⟨false,rfl,?_⟩;rw[if_neg (by decide)];exact q _ H3 ((g1.trans g2).trans g3) ⟨DF.bl _,Nw.data⟩
 .cases e
def ub:U->U->Qb U
 | .d (.str z),.d (.int n)=>if 0<=n/\n<=1 then some (.d<|.str<|rP z n)else none
 | _,_=>none
theorem RT:VO K (λx y H Q=>∃ z n,x=.str z/\y=.int n/\0<=n/\n<=1/\Q (.str<|rP z n) H) ub:=by
 intro x y a b u H Q ha hb e q;unfold ub at e;split at e
 .split at e
  .rename_i z n hc
   cases e;exact⟨z,n,DF.str_inv ha,DF.int_inv hb,hc.1,hc.2,q _ _ (cK.refl H) (DF.str _) Nw.data⟩
  .cases e
 .cases e
end
section
variable{X:Cx}
end
def MP(ks:Qa Key)(i:Nat)(k:Key):Bool:=(ks.take i).any λx=>decide<|x=k
def xt(ks:Qa Key):Nat->Nat
 | 0=>0
 | i+1=>match ks[i]? with
  | some k=>if MP ks i k=true then xt ks i else xt ks i+1
  | none=>xt ks i
section
variable{R:Result->Qd->Prop}{I:Qg}{fp wr:Qa Qg}{ks:Qa Key}{P:Nat->Qc->Prop}{St:Nat->Qd->Prop}
end
section
variable{s:Qd}
end
section
variable{X:Cx}
def zwo:U->Qb U
 | .d (.tuple ds)=>(ds.mapM MU).bind λks=>if ks.length<=1000 then some (.d<|.int<|xt ks ks.length)else none
 | _=>none
def A2:Qa Qg->TA
 | []=>jo
 | C::cs=>fP (tC<|.ref C)<|A2 cs
theorem HF:∀ {cs:Qa Qg} {σ:St} {H:Hp} {Q:Qa V->Hp->Prop},Q (cs.map V.ref) H->A2 cs σ H Q
 | [],_,_,_,q=>q
 | C::cs,σ,H,Q,q=>HF (cs:=cs) (σ:=σ) (H:=H) (Q:=λvs H'=>Q (.ref C::vs) H') q
def A1(K:qc)(tab:Qa (Str×Qa Str)):Qa (Str×Qg)->Prop
 | []=>True
 | p::ps=>(XN K p.1 p.2/\(tab.lookup p.1).isSome=true)/\A1 K tab ps
def FY(K:qc):Qa V->Hp->VK->Prop:=λxs H Q=>∃ (a C:Qg) (fs:Qa (Str×V)) (p:Qg) (cs:Qa Qg) (b:Bool),xs=[.ref a,.ref p]/\H p=some (.tup<|cs.map V.ref)/\XV H a C fs/\XI K C/\PySem.W.kitAny K (.ref C) (cs.map Value.ref)=some b/\Q (.bl b) H
theorem Jf:∀ {cs:Qa Qg} {us:Qa Qc},zH (cs.map V.ref) us->us=cs.map Value.ref
 | [],_,.nil=>rfl
 | C::cs,u::us,.cons r t=>by
  cases(show u=Value.ref C from r);rw[Jf t];rfl
theorem Vz(K:qc)(hK:X.K=K:=by rfl):fQ X (.builtin "isinstance") (FY K):=by
 subst hK;intro pins s σ H xs us Q I r h;have(a,C,fs,p,cs,b,rfl,hp,xv,Y,e,q):=h;have(w,u,rfl,rx,ru):=xx r;cases(show w=Value.ref a from rx);cases(show u=Value.ref p from ru);obtain⟨aj,rv,⟨ob,h1,h2,n,h3⟩,_⟩:=I.tuple (cy.of hp);cases Jf rv;have(ox,ea,ec,en,z):=xv;have(ha,_):=I.aD a _ ea;have Z:∃ od,PySem.W.InstAt s.heap a ox C od:=by
  rcases z with⟨_,ed⟩|⟨od,dx,ed,vW⟩
  .exact⟨none,ha,ec,en,by rw[ed]; trivial⟩
  .have(nQ,_):=I.aD dx _ vW
   exact⟨some od,ha,ec,en,by rw[ed]; exact nQ⟩
 have(od,Z):=Z;have(oc,odd,Yu,iK):=ob;cases(show oc=_ from h2);cases(show Yu=_ from h3);exact PySem.W.kia_tup (IW Y) I.cB Z h1 e (λz=>nomatch z) λtk=>⟨.bl b,H,I.tok tk,rfl,q⟩
def ua(tab:Qa (Str×Qa Str))(cs:Qa Str):U->Qb U
 | .d (.dict<|(.none,.str n)::_)=>(tab.lookup n).map λups=>.d<|.bool<|cs.any λc=>decide (c=n) || ups.contains c
 | _=>none
theorem Jz{fl:Qa Str}(T:XT K tab fl){n:Str}{ups:Qa Str}{C:Qg}(hn:tab.lookup n=some ups)(xn:XN K n C):∀ {cs:Qa (Str×Qg)},A1 K tab cs->PySem.W.kitAny K (.ref C) ((cs.map (·.2)).map Value.ref)=some ((cs.map (·.1)).any λc=>decide (c=n) || ups.contains c)
 | [],_=>rfl
 | p::cs,h=>by
  have z:=T.is n ups C hn xn p.1 p.2 h.1.2 h.1.1;rw[List.map_cons,List.map_cons,List.map_cons,List.any_cons];unfold PySem.W.kitAny;rw[z];cases hb:(decide (p.1=n) || ups.contains p.1)with
  | true=>simp[hb]
  | false=>
   dsimp only;rw[Jz T hn xn h.2];simp[hb]
theorem TV{fl:Qa Str}{cs:Qa (Str×Qg)}{me:ME}(T:XT K tab fl)(hc:A1 K tab cs)(hl:cs.length<=1000)(h:VE K te me):VE K (lr (FY K)<|fP te<|fP (wQ<|A2<|cs.map (·.2)) jo) (cn (ua tab<|cs.map (·.1)) me):=by
 intro ρ σ H a af Q rs e q;obtain⟨⟨a1,au⟩,e1,e⟩:=bQ e;have(x,ex,e):=bQ e;have(u,eu,e):=bQ e;cases e;refine h ρ σ H a1 _ _ rs e1 λv1 H1 g1 k1=>?_;have p:=k1.now rs g1 ex;unfold ua at eu;split at eu
 .rename_i n ds
  have(ups,hu,rfl):=qq.mp eu;have(a,C,fs,rfl,xv,xn,t):=DF.eJ p;refine HF ⟨by rw[List.length_map,List.length_map,sizeLine_eq]; omega,λpp hp=>?_⟩;have sm:cK H1 (upd H1 pp<|.tup<|(cs.map (·.2)).map V.ref):=λb o hb=>by rw[zp<|zV hb hp]; exact hb
  refine⟨a,C,fs,pp,cs.map (·.2),_,rfl,zt,xv.kp sm.kp,(T.cl n ups C hu xn).1,Jz T hu xn hc,?_⟩;exact q _ _ (g1.trans<|Go.grow g1.rs sm) ⟨DF.bl _,Nw.data⟩
 .cases eu
theorem TU{a b c:Expr}{tc:TE}{r r':R2}(ho:bK X (compareOp op) r)(dZ:bK X (compareOp fV) r')(ha:Wr (PE X a ta))(hb:Wr (PE X b tb))(hc:Wr (PE X c tc))(hm:lastMarks [op,fV] [b,c]=false:=by rfl):
  Wr (PT X (.Compare a [op,fV] [b,c] pos)<|pO<|uf r r' ta tb tc):=⟨UQ ho dZ ha.run hb.run hc.run hm⟩
end
section
variable{X:Cx}
end
def mW(K:qc)(g:Qg)(ns:Qa Int):Prop:=∃ (o:Obj) (aj:Array Qc) (n:Nat),K.lookup g=some o/\o.cls=.type "tuple"/\o.data=.seq aj n/\aj.size<=sizeLine/\zH (ns.map V.int) aj.toList
section
variable{X:Cx}
theorem mW.sq{g:Qg}(h:mW K g ns):cy K H g (ns.map V.int):=.inr h
theorem Je:∀ (ns:Qa Int),gM K H (ns.map V.int)<|ns.map PyData.int
 | []=>.nil
 | n::ns=>.cons (.int n)<|Je ns
theorem mW.dv{g:Qg}(h:mW K g ns):DV K H (.ref g) (.tuple<|ns.map PyData.int):=.tup h.sq (Je ns)
def A0(neg:Bool)(ns:Qa Int)(a:U):Qb U:=lQ neg a (.d<|.tuple<|ns.map PyData.int)
theorem Nv{g:Qg}{me:ME}(gt:mW K g ns)(h:VE K te me):VE K (mq (xh K neg) te<|tC<|.ref g) (cn (A0 neg ns) me):=by
 intro ρ σ H a af Q rs e q;obtain⟨⟨a1,au⟩,e1,e⟩:=bQ e;have(x,ex,e):=bQ e;have(u,eu,e):=bQ e;cases e;refine h ρ σ H a1 _ _ rs e1 λv1 H1 g1 k1=>?_;have p:=k1.now rs g1 ex;have(dx,e2,eu):=bQ eu;have(dy,e3,eu):=bQ eu;cases e3;split at eu
 .rename_i hs
  cases eu;exact⟨dx,_,p.dv e2<|yE _<|SeqAt.canLay_of_shaped hs.1,gt.dv,hs.1,hs.2,q _ _ g1 ⟨DF.bl _,Nw.data⟩⟩
 .cases eu
end
theorem nr{α:Sort _}{a b:α}(h:a=b):a=b:=h
structure Ph {α:Type} (a:α):Type where
 n:Nat
def Wo(o:Qb α)(Q:α->Prop):Prop:=∃ a,o=some a/\Q a
def Co(f:α->Qb β)(t:Ph f)(Q:β->Prop)(a:α):Prop:=Wo (f a) Q
section
variable{a:α}{o:Qb α}{f:α->Qb β}{Q:α->Prop}{R:β->Prop}
theorem zX:Wo (some a) Q=Q a:=propext ⟨λ⟨_,e,h⟩=>(by cases e; exact h),λh=>⟨a,rfl,h⟩⟩
theorem zj:Wo (o.bind f) R=Wo o (Co f ⟨0⟩ R):=propext (by
 cases o with
 | none=>exact⟨λ⟨_,e,_⟩=>(by cases e),λ⟨_,e,_⟩=>(by cases e)⟩
 | some a=>rw[zX]; exact Iff.rfl)
theorem iT{t:Ph f}:Co f t R a=Wo (f a) R:=rfl
theorem Wo.mono(h:Wo o Q){Q':α->Prop}(k:∀ a,Q a->Q' a):Wo o Q':=h.elim λa z=>⟨a,z.1,k a z.2⟩
theorem kR{c:Prop}[Decidable c]{x y:Qb α}(h:c->Wo x Q)(h':¬c->Wo y Q):Wo (if c then x else y) Q:=by
 split
 .exact h ‹_›
 .exact h' ‹_›
end
section
variable{ρ:En}{me ma mb mc mk mi md my mv mo:ME}{mA mK:MA}{mt mu:MT}{mI:MI}{mg:MG}{m1 m2:MS}{u:U}{x:D}{mx:MX}{mXA:Fm}
variable{QE:Ar×En->Prop}{QA:Qa Ar×En->Prop}{QT:Bool×En->Prop}{QS:Fl->Prop}{QI:Qa D×En->Prop}{QO:Qb Int×En->Prop}{QG:En->Prop}{QX:RX Ar->Prop}{QXA:RX (Qa Ar)->Prop}{QR:D×En->Prop}{QF:U×Qa U->Prop}{Fj:(U×Qa U) ⊕ (D×Qa U)->Prop}
theorem HN:Wo (ze i ρ) QE=Wo (ρ[i]?).join (Co (λ_=>some (.s i,ρ)) ⟨0⟩ QE):=by rw[OX,zj]
theorem FU:Wo (mC x ρ) QE=QE (.u<|.d x,ρ):=by rw[MR,zX]
def wG(f:U->U->Qb U)(a:Ar)(q:Ar×En):Qb (Ar×En):=(a.get q.2).bind λx=>(q.1.get q.2).bind λy=>(f x y).bind λu=>some (.u u,q.2)
def Ee(f:U->U->Qb U)(mb:ME)(p:Ar×En):Qb (Ar×En):=(mb p.2).bind (wG f p.1)
theorem QP{f:U->U->Qb U}:Wo (ao f ma mb ρ) QE=Wo (ma ρ) (Co (Ee f mb) ⟨0⟩ QE):=by rw[Nn,zj]; rfl
theorem TR{f:U->U->Qb U}{p:Ar×En}:Wo (Ee f mb p) QE=Wo (mb p.2) (Co (wG f p.1) ⟨0⟩ QE):=by unfold Ee; rw[zj]
theorem Nu{f:U->Qb U}:Wo (cn f ma ρ) QE=Wo (ma ρ) (Co (λp=>(p.1.get p.2).bind λx=>(f x).bind λu=>some (.u u,p.2)) ⟨0⟩ QE):=by rw[Nm,zj]
theorem HM:Wo (zk ρ) QA=QA ([],ρ):=by rw[OW,zX]
theorem RQ:Wo (zb me mA ρ) QA=Wo (me ρ) (Co (λp=>(mA p.2).bind λq=>some (p.1::q.1,q.2)) ⟨0⟩ QA):=by rw[SG,zj]
theorem TQ:Wo (bG mA ρ) QE=Wo (mA ρ) (Co (λp=>(bO p.2 p.1).bind λus=>(gQ us).bind λds=>if ds.length<=sizeLine then some (.u<|.d<|.tuple ds,p.2)else none) ⟨0⟩ QE):=by rw[OV,zj]
theorem TN:Wo (f7 mA ρ) QE=Wo (mA ρ) (Co (λp=>(bO p.2 p.1).bind λus=>(gQ us).bind λds=>if ds.length<=sizeLine then some (.u<|.l ds,p.2)else none) ⟨0⟩ QE):=by rw[OU,zj]
theorem Nt{f:Qa U->Qb U}:Wo (cw f mA ρ) QE=Wo (mA ρ) (Co (λp=>(bO p.2 p.1).bind λus=>(f us).bind λu=>some (.u u,p.2)) ⟨0⟩ QE):=by rw[Nl,zj]
theorem Pc{f:FD}:Wo (be f mA ρ) QE=Wo (mA ρ) (Co (λp=>if fB p.2 p.1=true then(bO p.2 p.1).bind λus=>(f us).bind λo=>some (.u o.1,wb p.2 p.1 o.2)else none) ⟨0⟩ QE):=by rw[OT,zj]
theorem TM:Wo (zu m1 m2 ρ) QS=Wo (m1 ρ) (Co (kj m2) ⟨0⟩ QS):=by rw[OR,zj]
theorem Pb:Wo (zS i me ρ) QS=Wo (me ρ) (Co (λp=>(put p).bind λq=>some<|.nx<|q.2.set i<|some q.1) ⟨0⟩ QS):=by rw[GU,zj]
theorem TL:Wo (bX me ρ) QS=Wo (me ρ) (Co (λp=>(put p).bind λq=>some<|.rt q.1 q.2) ⟨0⟩ QS):=by rw[OQ,zj]
theorem Ws:Wo (lZ pn i ρ) QS=Wo (if i∈pn then none else(ρ[i]?).join.bind λu=>some<|.rt u<|ρ.set i none) QS:=by rw[SE]
theorem IS:Wo (cv ρ) QS=QS (.nx ρ):=by rw[S7,zX]
theorem RP:Wo (eF me ρ) QS=Wo (me ρ) (Co (λp=>some<|.nx p.2) ⟨0⟩ QS):=by rw[S6,zj]
theorem PM:Wo (bL mt m1 m2 ρ) QS=Wo (mt ρ) (Co (λp=>if p.1=true then m1 p.2 else m2 p.2) ⟨0⟩ QS):=by rw[Px,zj]
theorem UA:Wo (vi mt ma mb ρ) QE=Wo (mt ρ) (Co (λp=>if p.1=true then ma p.2 else mb p.2) ⟨0⟩ QE):=by rw[Ni,zj]
theorem MN:Wo (mB me ρ) QT=Wo (me ρ) (Co (λp=>(p.1.get p.2).bind λu=>u.kK.bind λb=>some (b,p.2)) ⟨0⟩ QT):=by rw[MQ,zj]
theorem Uz:Wo (rM mt mu ρ) QT=Wo (mt ρ) (Co (λp=>if p.1=true then mu p.2 else some (false,p.2)) ⟨0⟩ QT):=by rw[Pw,zj]
theorem QN:Wo (fG mt mu ρ) QT=Wo (mt ρ) (Co (λp=>if p.1=true then some (true,p.2)else mu p.2) ⟨0⟩ QT):=by rw[Nh,zj]
theorem Uy:Wo (fC mt ρ) QT=Wo (mt ρ) (Co (λp=>some (!p.1,p.2)) ⟨0⟩ QT):=by rw[Pu,zj]
theorem Wq:Wo (oA ma mb ρ) QE=Wo (mB ma ρ) (Co (λp=>if p.1=true then mb p.2 else some (.u<|.d<|.bool false,p.2)) ⟨0⟩ QE):=by rw[S5,zj]
theorem Wp:Wo (tZ ma ρ) QE=Wo (mB ma ρ) (Co (λp=>some (.u<|.d<|.bool (!p.1),p.2)) ⟨0⟩ QE):=by rw[S4,zj]
theorem Ux:Wo (xb ma ρ) QT=Wo (ma ρ) (Co (λp=>(p.1.get p.2).bind λu=>u.sQ.bind λb=>some (b,p.2)) ⟨0⟩ QT):=by rw[Pt,zj]
theorem Uw:Wo (w5 ρ) QT=QT (true,ρ):=by rw[Pr,zX]
theorem Uv:Wo (eA i me ρ) QE=Wo (ρ[i]?).join (Co (λw=>w.lo.bind λ_=>(me ρ).bind λp=>(p.1.get p.2).bind λu=>u.da.bind λx=>(p.2[i]?).join.bind λw=>w.lo.bind λxs=>if xs.length < sizeLine then some (.u<|.d .none,p.2.set i<|some<|.l<|xs++[x])else none) ⟨0⟩ QE):=by rw[Pp,zj]
theorem Xx:Wo (pV i me mi ρ) QS=Wo (ρ[i]?).join (Co (λ_=>(me ρ).bind λp=>(mi p.2).bind λq=>(p.1.get q.2).bind λu=>(q.1.get q.2).bind λw=>u.da.bind λx=>w.num.bind λk=>(q.2[i]?).join.bind λz=>z.lo.bind λxs=>(fu xs.length k).bind λj=>some<|.nx<|q.2.set i<|some<|.l<|xs.set j x) ⟨0⟩ QS):=by rw[Ub,zj]
theorem QM:Wo (oW me ρ) QE=Wo (me ρ) (Co (λp=>(p.1.get p.2).bind λu=>u.fz.bind λx=>some (.u<|.d x,Af x p)) ⟨0⟩ QE):=by rw[Nd,zj]
theorem RD{g:U->Qb (Qa D)}:Wo (j9 g me ρ) QI=Wo (me ρ) (Co (λp=>(p.1.get p.2).bind λu=>(g u).bind λds=>some (ds,p.2)) ⟨0⟩ QI):=by rw[Na,zj]
theorem RC{n:Int}(h:-4611686018427387904<=n)(h2:n < 4611686018427387904):xk [.d<|.int n]=some (iJ 0 n.toNat):=by rw[Po,if_pos ⟨by omega,by omega⟩]
theorem Wn:Wo (pT mA ρ) QI=Wo (mA ρ) (Co (λp=>(bO p.2 p.1).bind λus=>(xk us).bind λds=>some (ds,p.2)) ⟨0⟩ QI):=by rw[S3,zj]
def zwO:Qa U->Qb (Qa D)
 | [.d<|.int i,.d<|.int j]=>if -(2^62)<=i/\i < 2^62/\-(2^62)<=j/\j < 2^62 then some (iJ i (j - i).toNat)else none
 | _=>none
def BV:Qa U->Qb (Qa D)
 | [.d<|.tuple ds]=>some<|mm 0 ds
 | _=>none
theorem Wm{ds:Qa D}:BV [.d<|.tuple ds]=some (mm 0 ds):=rfl
theorem RN:tY mA ρ=(mA ρ).bind λp=>(bO p.2 p.1).bind λus=>(BV us).bind λds=>some (ds,p.2):=bind_fn λp=>bind_fn λus=>by
 match us with
 | []=>rfl
 | [.d x]=>cases x<;>rfl
 | [.l _]=>rfl
 | [.t _]=>rfl
 | [.k _]=>rfl
 | [.o _ _]=>rfl
 | .d x::b::us=>cases x<;>rfl
 | .l x::b::us=>rfl
 | .t x::b::us=>rfl
 | .k x::b::us=>rfl
 | .o x y::b::us=>rfl
theorem Wl:Wo (tY mA ρ) QI=Wo (mA ρ) (Co (λp=>(bO p.2 p.1).bind λus=>(BV us).bind λds=>some (ds,p.2)) ⟨0⟩ QI):=by rw[RN,zj]
theorem Uu:Wo (jk mI mg m1 ρ) QS=Wo (mI ρ) (Co (λp=>gD mg m1 p.1 p.2) ⟨0⟩ QS):=by rw[Pn,zj]
theorem Ut:Wo (qS mI nt js mg mt me ρ) QE=Wo (mI ρ) (Co (λp=>(jG nt mg mt me p.1 (ip nt js p.2) []).bind λq=>some (.u<|.l q.1,back js (q.2.drop nt) p.2)) ⟨0⟩ QE):=by rw[M9,zj]
theorem RB{f:U->Qb Int->Qb Int->Qb U}{ml mh:MO}:Wo (nI f me ml mh ρ) QE=Wo (me ρ) (Co (λp=>(ml p.2).bind λl=>(mh l.2).bind λh=>(p.1.get h.2).bind λx=>(f x l.1 h.1).bind λu=>some (.u u,h.2)) ⟨0⟩ QE):=by rw[M8,zj]
theorem XW:Wo (nC ρ) QO=QO (none,ρ):=by rw[VA,zX]
theorem Wj:Wo (nu me ρ) QO=Wo (me ρ) (Co (λp=>(p.1.get p.2).bind λu=>u.num.bind λi=>some (some i,p.2)) ⟨0⟩ QO):=by rw[S2,zj]
theorem Us:Wo (w9 i j mA ρ) QS=Wo (mA ρ) (Co (λp=>(bO p.2 p.1).bind λus=>(A7 us).bind λz=>some<|.nx<|(p.2.set i<|some<|.d z.1).set j<|some<|.d z.2) ⟨0⟩ QS):=by rw[Pl,zj]
theorem Ur:Wo (og me mg ρ) QS=Wo (me ρ) (Co (λp=>(p.1.get p.2).bind λu=>u.da.bind λd=>(mg d p.2).bind λaf=>some<|.nx af) ⟨0⟩ QS):=by rw[Pk,zj]
theorem Xw:Wo (dB i x ρ) QG=QG (ρ.set i<|some<|.d x):=by rw[T7,zX]
theorem Wi{gs:Qa D->En->Qb En}{ds:Qa D}:Wo (kT n gs (.tuple ds) ρ) QG=Wo (if ds.length=n then gs ds ρ else none) QG:=by rw[S1]
theorem Xv{g:MG}{gs:Qa D->En->Qb En}{ds:Qa D}:Wo (gS g gs (x::ds) ρ) QG=Wo (g x ρ) (Co (λau=>gs ds au) ⟨0⟩ QG):=by rw[T6,zj]
theorem Wh:Wo (nh [] ρ) QG=QG ρ:=by rw[S0,zX]
theorem RA{ty:U->Bool}{f:U->U->Qb U}:Wo (Ab ty f mo ma ρ) QE=Wo (mo ρ) (Co (λp=>(p.1.get p.2).bind λx0=>if ty x0=true then(ma p.2).bind λq=>(p.1.get q.2).bind λx=>(q.1.get q.2).bind λy=>(f x y).bind λu=>some (.u u,q.2)else none) ⟨0⟩ QE):=by
 show Wo (Option.bind _ _) QE=_;rw[zj]
theorem Rz{z:Str}:uR (.d<|.str z)=true:=rfl
theorem Uq{f f':U->U->Qb U}:um f f' ma mb mc ρ=(ma ρ).bind λp=>(mb p.2).bind λq=>(p.1.get q.2).bind λx=>(q.1.get q.2).bind λy=>(f x y).bind λr=>r.kK.bind λb=>if b=true then(mc q.2).bind λs=>(q.1.get s.2).bind λy'=>(s.1.get s.2).bind λz=>(f' y' z).bind λu=>some (.u u,s.2)else some (.u<|.d<|.bool false,q.2):=by
 refine bind_fn λp=>bind_fn λq=>bind_fn λx=>bind_fn λy=>bind_fn λr=>?_;cases r with
 | d x=>cases x with
  | bool b=>cases b<;>rfl
  | _=>rfl
 | l=>rfl
 | t=>rfl
 | k=>rfl
 | o=>rfl
theorem W1{f f':U->U->Qb U}:Wo (um f f' ma mb mc ρ) QE=Wo (ma ρ) (Co (λp=>(mb p.2).bind λq=>(p.1.get q.2).bind λx=>(q.1.get q.2).bind λy=>(f x y).bind λr=>r.kK.bind λb=>if b=true then(mc q.2).bind λs=>(q.1.get s.2).bind λy'=>(s.1.get s.2).bind λz=>(f' y' z).bind λu=>some (.u u,s.2)else some (.u<|.d<|.bool false,q.2)) ⟨0⟩ QE):=by rw[Uq,zj]
def x1:Qa D->Qb D
 | [x]=>some x
 | _=>none
theorem Nr:x1 [x]=some x:=rfl
theorem zvT{n:Str}:Pf n f mA ρ=(mA ρ).bind λp=>(bO p.2 p.1).bind λus=>(gQ us).bind λds=>(x1 ds).bind λx=>some (.u<|.d<|.dict [(.none,.str n),(.str f,x)],p.2):=bind_fn λp=>bind_fn λus=>bind_fn λds=>match ds with
 | []=>rfl
 | [_]=>rfl
 | _::_::_=>rfl
theorem Nq{n:Str}:vh n f mA ρ=(mA ρ).bind λp=>(bO p.2 p.1).bind λus=>(gQ us).bind λds=>(x1 ds).bind λx=>some (.dict [(.none,.str n),(.str f,x)],p.2):=bind_fn λp=>bind_fn λus=>bind_fn λds=>match ds with
 | []=>rfl
 | [_]=>rfl
 | _::_::_=>rfl
theorem Rv{n:Str}:Wo (vh n f mA ρ) QR=Wo (mA ρ) (Co (λp=>(bO p.2 p.1).bind λus=>(gQ us).bind λds=>(x1 ds).bind λx=>some (.dict [(.none,.str n),(.str f,x)],p.2)) ⟨0⟩ QR):=by rw[Nq,zj]
theorem W0{m:En->Qb (D×En)}:Wo (xK m ρ) QS=Wo (m ρ) (Co (λp=>some<|.ex p.1 p.2) ⟨0⟩ QS):=by show Wo (Option.bind _ _) QS=_; rw[zj]
theorem Wg{f:FX}:Wo (pS f mA ρ) QX=Wo (mA ρ) (Co (λp=>if fB p.2 p.1=true then(bO p.2 p.1).bind λus=>(f us).bind λo=>some (wH p.2 p.1 o)else none) ⟨0⟩ QX):=by show Wo (Option.bind _ _) QX=_; rw[zj]
theorem Uo{as:Qa Ar}{o:U×Qa U}:wH ρ as (.inl o)=.inl (.u o.1,wb ρ as o.2):=rfl
theorem Um{as:Qa Ar}{o:D×Qa U}:wH ρ as (.inr o)=.inr (o.1,wb ρ as o.2):=rfl
def kX(f:α×En->Qb β)(g:D×En->Qb β):RX α->Qb β
 | .inl p=>f p
 | .inr z=>g z
theorem PJ{m:En->Qb (RX α)}:mL m ρ=(m ρ).bind (kX some λ_=>none):=bind_fn λr=>by cases r<;>rfl
theorem Ul{m:En->Qb (RX α)}{Q:α×En->Prop}:Wo (mL m ρ) Q=Wo (m ρ) (Co (kX some λ_=>none) ⟨0⟩ Q):=by rw[PJ,zj]
theorem RM{mS:ME->MS}{k:Ar×En->Qb Fl}(h:∀ me:ME,mS me ρ=(me ρ).bind k):m7 mS mx ρ=(mx ρ).bind (kX k λz=>some<|.ex z.1 z.2):=by
 unfold m7;rw[h<|mL mx];unfold mL;cases mx ρ with
 | none=>rfl
 | some r=>cases r<;>rfl
theorem Wf:Wo (m7 (zS i) mx ρ) QS=Wo (mx ρ) (Co (kX (λp=>(put p).bind λq=>some<|.nx<|q.2.set i<|some q.1) λz=>some<|.ex z.1 z.2) ⟨0⟩ QS):=by rw[RM λ_=>GU,zj]
def A8(tab:Qa (Str×Qa Str))(c:Str)(i:Nat)(mh:MS):Fl->Qb Fl
 | .ex x af=>if under tab c x=true then(mh<|af.set i<|some<|.d x).bind (Ax i)else none
 | f=>some f
theorem Uk:Wo (A4 tab c i m1 m2 ρ) QS=Wo (m1 ρ) (Co (A8 tab c i m2) ⟨0⟩ QS):=by
 rw[<-zj];exact congrArg (Wo · QS) (bind_fn λf=>by cases f<;>rfl)
theorem We:A8 tab c i m2 (.nx ρ)=some (.nx ρ):=rfl
theorem Wc:A8 tab c i m2 (.ex x ρ)=if under tab c x=true then(m2<|ρ.set i<|some<|.d x).bind (Ax i)else none:=rfl
theorem Uj:Ax i (.nx ρ)=some (.nx<|ρ.set i none):=rfl
theorem Ui{us:Qa U}:Wo (eK n pn m1 us) QF=Wo (m1<|sm us++List.replicate (n - us.length) none) (Co (A6 pn us) ⟨0⟩ QF):=by rw[Pg,zj]
theorem Wb{us:Qa U}:Wo (pG n pn m1 us) Fj=Wo (m1<|sm us++List.replicate (n - us.length) none) (Co (xo pn us) ⟨0⟩ Fj):=by
 show Wo (Option.bind _ _) Fj=_;exact zj
theorem WZ{us:Qa U}:xo pn us (.rt u ρ)=(zZ pn ρ 0 us).bind λos=>some (.inl (u,os)):=rfl
theorem WY{us:Qa U}:xo pn us (.ex x ρ)=(zZ pn ρ 0 us).bind λos=>some (.inr (x,os)):=rfl
def lW(Q:Fl->Prop)(P:En->Prop):Fl->Prop
 | .nx ρ=>P ρ
 | .ct ρ=>P ρ
 | .bk ρ=>Q<|.nx ρ
 | .rt u ρ=>Q<|.rt u ρ
 | .ex x ρ=>Q<|.ex x ρ
theorem WX{Q:Fl->Prop}{P:En->Prop}:lW Q P (.nx ρ)=P ρ:=rfl
theorem WW{Q:Fl->Prop}{P:En->Prop}:lW Q P (.ct ρ)=P ρ:=rfl
theorem WV{Q:Fl->Prop}{P:En->Prop}:lW Q P (.ex x ρ)=Q (.ex x ρ):=rfl
theorem xW{Q:Fl->Prop}(P:Nat->En->Prop){ds:Qa D}(h0:P 0 ρ)(st:∀ i d ρ,ds[i]?=some d->P i ρ->Wo (mg d ρ) (Co m1 ⟨0⟩<|lW Q<|P<|i+1))(hQ:∀ ρ,P ds.length ρ->Q (.nx ρ)):Wo (gD mg m1 ds ρ) Q:=by
 have main:∀ (es:Qa D) (n:Nat) (ρ:En),n+es.length=ds.length->(∀ i,es[i]?=ds[n+i]?)->P n ρ->Wo (gD mg m1 es ρ) Q:=by
  intro es
  induction es with
  | nil=>
   intro n ρ hn _ hp;show Wo (some _) Q;rw[zX];rw[List.length_nil,Nat.add_zero]at hn;exact hQ ρ<|hn▸hp
  | cons d es ih=>
   intro n ρ hn he hp;have e0:=he 0;rw[List.getElem?_cons_zero,Nat.add_zero]at e0;have(au,e1,f,e2,k):=st n d ρ e0.symm hp;have jE:∀ aB,P (n+1) aB->Wo (gD mg m1 es aB) Q:=λaB z=>ih (n+1) aB (by rw[qt]at hn; omega) (λi=>by
    have:=he (i+1);rw[List.getElem?_cons_succ]at this;rw[this,show n+(i+1)=n+1+i by omega]) z
   unfold gD;rw[zj];refine⟨au,e1,?_⟩;rw[iT,zj];refine⟨f,e2,?_⟩;rw[iT];cases f with
   | nx aB=>exact jE aB k
   | ct aB=>exact jE aB k
   | bk aB=>exact⟨_,rfl,k⟩
   | rt u aB=>exact⟨_,rfl,k⟩
   | ex x aB=>exact⟨_,rfl,k⟩
 exact main ds 0 ρ (by omega) (λi=>by rw[Nat.zero_add]) h0
theorem yz{g:α->D}{Q:Fl->Prop}(P:Qa α->Qa α->En->Prop){as:Qa α}(h0:P [] as ρ)(st:∀ bs a cs ρ,as=bs++a::cs->P bs (a::cs) ρ->Wo (mg (g a) ρ) (Co m1 ⟨0⟩<|lW Q<|P (bs++[a]) cs))(hQ:∀ ρ,P as [] ρ->Q (.nx ρ)):Wo (gD mg m1 (as.map g) ρ) Q:=by
 have main:∀ (cs bs:Qa α) (ρ:En),as=bs++cs->P bs cs ρ->Wo (gD mg m1 (cs.map g) ρ) Q:=by
  intro cs
  induction cs with
  | nil=>
   intro bs ρ e hp;rw[List.append_nil]at e;subst e;exact⟨_,rfl,hQ ρ hp⟩
  | cons a cs ih=>
   intro bs ρ e hp;have(au,e1,f,e2,k):=st bs a cs ρ e hp;have jE:∀ aB,P (bs++[a]) cs aB->Wo (gD mg m1 (cs.map g) aB) Q:=λaB z=>ih (bs++[a]) aB (by rw[e,List.append_assoc]; rfl) z;rw[List.map_cons];unfold gD;rw[zj];refine⟨au,e1,?_⟩;rw[iT,zj];refine⟨f,e2,?_⟩;rw[iT];cases f with
   | nx aB=>exact jE aB k
   | ct aB=>exact jE aB k
   | bk aB=>exact⟨_,rfl,k⟩
   | rt u aB=>exact⟨_,rfl,k⟩
   | ex x aB=>exact⟨_,rfl,k⟩
 exact main as [] ρ rfl h0
def vn(nt:Nat)(me:ME)(ys:Qa D)(P:En->Qa D->Prop)(p:Bool×En):Prop:=if p.1=true then Wo (me p.2) (Co (λq=>(q.1.get q.2).bind λu=>u.da.bind λy=>some (reset nt q.2,ys++[y])) ⟨0⟩ λz=>P z.1 z.2)else P (reset nt p.2) ys
theorem GV{ys:Qa D}{P:En->Qa D->Prop}:vn nt me ys P (true,ρ)=Wo (me ρ) (Co (λq=>(q.1.get q.2).bind λu=>u.da.bind λy=>some (reset nt q.2,ys++[y])) ⟨0⟩ λz=>P z.1 z.2):=rfl
theorem Ru{ys:Qa D}{P:En->Qa D->Prop}:vn nt me ys P (false,ρ)=P (reset nt ρ) ys:=rfl
theorem BU{Q:Qa D×En->Prop}(P:Nat->En->Qa D->Prop){ds:Qa D}(hz:ds.length<=sizeLine)(hP:∀ i ρ ys,P i ρ ys->ys.length<=i)(h0:P 0 ρ [])(st:∀ i d ρ ys,ds[i]?=some d->P i ρ ys->Wo (mg d ρ) (Co mt ⟨0⟩<|vn nt me ys<|P<|i+1))(hQ:∀ ρ ys,P ds.length ρ ys->Q (ys,ρ)):Wo (jG nt mg mt me ds ρ []) Q:=by
 have main:∀ (es:Qa D) (n:Nat) (ρ:En) (ys:Qa D),n+es.length=ds.length->(∀ i,es[i]?=ds[n+i]?)->P n ρ ys->Wo (jG nt mg mt me es ρ ys) Q:=by
  intro es
  induction es with
  | nil=>
   intro n ρ ys hn _ hp;rw[List.length_nil,Nat.add_zero]at hn;exact⟨_,rfl,hQ ρ ys<|hn▸hp⟩
  | cons d es ih=>
   intro n ρ ys hn he hp;have e0:=he 0;rw[List.getElem?_cons_zero,Nat.add_zero]at e0;obtain⟨au,e1,⟨b,aB⟩,e2,k⟩:=st n d ρ ys e0.symm hp;have hl:=hP _ _ _ hp;rw[qt]at hn;have jE:∀ aB yQ,P (n+1) aB yQ->Wo (jG nt mg mt me es aB yQ) Q:=λaB yQ z=>ih (n+1) aB yQ (by omega) (λi=>by
    have:=he (i+1);rw[List.getElem?_cons_succ]at this;rw[this,show n+(i+1)=n+1+i by omega]) z
   unfold jG;rw[if_pos (by omega),zj];refine⟨au,e1,?_⟩;rw[iT,zj];refine⟨_,e2,?_⟩;rw[iT];cases b with
   | false=>rw[if_neg qf]; exact jE _ _ k
   | true=>
    rw[if_pos rfl,zj];have(q,e3,k):=k;refine⟨q,e3,?_⟩;rw[iT,zj]at k ⊢;have(u,e4,k):=k;refine⟨u,e4,?_⟩;rw[iT,zj]at k;have(y,e5,z,e6,k):=k;cases u with
    | d y'=>cases e5; cases e6; exact jE _ _ k
    | l=>cases e5
    | t=>cases e5
    | k=>cases e5
    | o=>cases e5
 exact main ds 0 ρ [] (by omega) (λi=>by rw[Nat.zero_add]) h0
theorem IC{Q:Fl->Prop}(P:Nat->En->Prop)(k:Nat)(h0:P k ρ)(st:∀ k ρ,P k ρ->Wo (mt ρ) λp=>if p.1=true then Wo (m1 p.2) (lW Q λaf=>∃ k',k' < k/\P k' af)else Q (.nx p.2)):Wo (pW mt m1 ρ) Q:=by
 have main:∀ (k:Nat) (ρ:En),P k ρ->∃ n f,gR mt m1 n ρ=some f/\Q f:=by
  intro k
  induction k using Nat.strongRecOn with
  | ind k ih=>
   intro ρ hp;obtain⟨⟨b,au⟩,e1,z⟩:=st k ρ hp;cases b with
   | false=>
    rw[if_neg qf]at z;exact⟨1,_,by unfold gR; rw[e1]; rfl,z⟩
   | true=>
    rw[if_pos rfl]at z;have(f,e2,z):=z;have jE:∀ aB,(∃ k',k' < k/\P k' aB)->f=.nx aB\/f=.ct aB->∃ n f,gR mt m1 n ρ=some f/\Q f:=by
     rintro aB ⟨k',hk,YX⟩ hf;have(n,f',e3,q):=ih k' hk aB YX;refine⟨n+1,f',?_,q⟩;unfold gR;rw[e1,bd,if_pos rfl,e2,bd];rcases hf with rfl|rfl<;>exact e3
    cases f with
    | nx aB=>exact jE aB z<|.inl rfl
    | ct aB=>exact jE aB z<|.inr rfl
    | bk aB=>exact⟨1,_,by unfold gR; rw[e1,bd,if_pos rfl,e2]; rfl,z⟩
    | rt u aB=>exact⟨1,_,by unfold gR; rw[e1,bd,if_pos rfl,e2]; rfl,z⟩
    | ex u aB=>exact⟨1,_,by unfold gR; rw[e1,bd,if_pos rfl,e2]; rfl,z⟩
 have(n,f,e,q):=main k ρ h0;exact⟨f,Ve e,q⟩
end
theorem iU{o:Qb α}{b:α}(h:Wo o (λa=>a=b)):o=some b:=by
 have(a,e,rfl):=h;exact e
theorem Uh{f:α×En->Qb β}{g:D×En->Qb β}{p:α×En}:kX f g (.inl p)=f p:=rfl
theorem Ug{f:α×En->Qb β}{g:D×En->Qb β}{p:D×En}:kX f g (.inr p)=g p:=rfl
theorem Np:sizeLine=16777216:=Eq.trans zl (Eq.symm<|Eq.symm<|Nat.add_zero _)
theorem Ue{dc:Decidable (n < 16777216)}{a b:Qb α}(h:n < 16777216):(if n < 16777216 then a else b)=a:=if_pos h
theorem CJ{xs:Qa α}{r:Int}(h0:0<=r)(h1:r < (xs.length:Int)):∃ a,bM xs r=some a/\a∈xs/\xs[r.toNat]?=some a:=by
 have hk:r.toNat < xs.length:=by omega
 have ek:r=((r.toNat:Nat):Int):=by omega
 have q:bM xs ((r.toNat:Nat):Int)=some xs[r.toNat]:=yn (ql hk);rw[<-ek]at q;exact⟨_,q,List.getElem_mem hk,ql hk⟩
theorem sA{xs:Qa D}{r:Int}{Q:U->Prop}(h0:0<=r)(h1:r < (xs.length:Int))(k:∀ a∈xs,Q<|.d a):Wo ((bM xs r).map U.d) Q:=by
 have(a,e,m,_):=CJ h0 h1;rw[e];exact⟨_,rfl,k a m⟩
theorem PH{f:α->D}{xs:Qa α}{r:Int}{Q:U->Prop}(h0:0<=r)(h1:r < (xs.length:Int))(k:∀ a∈xs,xs[r.toNat]?=some a->Q (.d<|f a)):Wo ((bM (xs.map f) r).map U.d) Q:=by
 have(a,e,m,z):=CJ (xs:=xs.map f) h0 (by rw[List.length_map]; exact h1);rw[List.getElem?_map]at z;have(b,hb,rfl):=qq.mp z;rw[e];exact⟨_,rfl,k b (Ð hb) hb⟩
theorem F8{lo:Int}{d:D}(h:(iJ lo n)[i]?=some d):i < n/\d=.int (lo+(i:Nat)):=Jh h
theorem Cd{lo:Int}:(iJ lo n).length=n:=by
 unfold iJ;rw[List.length_map,List.length_range]
theorem BS{ρ:En}{mg:MG}{m1:MS}{Q:Fl->Prop}(P:Nat->En->Prop)(h0:P 0 ρ)(st:∀ i ρ,i < n->P i ρ->Wo (mg (.int<|0+(i:Nat)) ρ) (Co m1 ⟨0⟩<|lW Q<|P<|i+1))(hQ:∀ ρ,P n ρ->Q (.nx ρ)):Wo (gD mg m1 (iJ 0 n) ρ) Q :=
 xW P h0 (λi d ρ hd hp=>by
  have(hi,rfl):=F8 hd;exact st i ρ hi hp) λρ hp=>hQ ρ (by rw[Cd]at hp; exact hp)
theorem RL{ρ:En}{mg:MG}{mt:MT}{me:ME}{Q:Qa D×En->Prop}(P:Nat->En->Qa D->Prop)(hz:n<=sizeLine)(h0:P 0 ρ [])(hP:∀ i ρ ys,P i ρ ys->ys.length<=i)(st:∀ i ρ ys,i < n->P i ρ ys->Wo (mg (.int<|0+(i:Nat)) ρ) (Co mt ⟨0⟩<|vn nt me ys<|P<|i+1))(hQ:∀ ρ ys,P n ρ ys->Q (ys,ρ)):Wo (jG nt mg mt me (iJ 0 n) ρ []) Q :=
 BU P (by rw[Cd]; exact hz) hP h0 (λi d ρ ys hd hp=>by
  have(hi,rfl):=F8 hd;exact st i ρ ys hi hp) λρ ys hp=>hQ ρ ys (by rw[Cd]at hp; exact hp)
def bq(n:Nat)(z:Str):Prop:=z.length<=n/\∀ c∈z.cps.toList,c < 128
theorem bq.mono{z:Str}(h:bq n z)(hm:n<=m):bq m z:=⟨qx h.1 hm,h.2⟩
theorem bq.app(hx:bq n x)(hy:bq m y):bq (n+m) (x++y):=⟨by rw[PySem.Str.length_append]; have:=hx.1; have:=hy.1; omega,λc hc=>by
 rw[PySem.Str.cps_append,Array.toList_append,List.mem_append]at hc;exact hc.elim (hx.2 c)<|hy.2 c⟩
theorem bq.one{c:Nat}(h:c < 128):bq 1 ⟨#[c]⟩:=⟨qe _,λd hd=>by
 cases qp.mp hd;exact h⟩
theorem bq.join:∀ {ys:Qa Str},(∀ z∈ys,bq n z)->bq (ys.length * n) (PySem.Str.join "" ys)
 | [],_=>⟨Ä _,λc hc=>by cases hc⟩
 | [x],h=>(h x qo).mono (by simp)
 | x::y::r,h=>by
  have:=((h x qo).app (show bq 0 "" from⟨qe _,λc hc=>by cases hc⟩)).app (bq.join λz hz=>h z<|qm _ hz);exact this.mono (by simp only[qt,Nat.add_mul]; omega)
theorem Vy{ys:Qa Str}(h:∀ z∈ys,bq n z):bq (ys.length * n) (Txt.join "" ys):=by
 show bq _ (PySem.Builtin.Str.glued "" ys);rw[PySem.StrLaws.glued_eq_join];exact bq.join h
theorem PF(h:x.length+y.length<=16777216):nq (.d<|.str x) (.d<|.str y)=some (.d<|.str<|x++y):=by
 unfold nq;dsimp only;rw[if_pos (by rw[zl]; exact h)]
theorem uj{Q:U->Prop}(hx:bq n x)(hy:bq m y)(hn:n+m<=1000)(k:bq (n+m) (x++y)->Q (.d<|.str<|x++y)):Wo (nq (.d<|.str x)<|.d<|.str y) Q:=by
 rw[PF (by have:=hx.1; have:=hy.1; omega)];exact⟨_,rfl,k<|hx.app hy⟩
theorem xV{z:Str}{r:Int}{Q:U->Prop}(h0:0<=r)(h1:r < (z.length:Int))(hz:z.length<=1000)(k:∀ c∈z.cps.toList,Q<|.d<|.str ⟨#[c]⟩):Wo (pI (.d<|.str z)<|.d<|.int r) Q:=by
 have hl:z.length=z.cps.toList.length:=by rw[Array.length_toList]; rfl
 have(c,e,m,_):=CJ (xs:=z.cps.toList) h0 (by rw[<-hl]; exact h1);unfold pI;dsimp only;rw[if_pos (by rw[zl]; omega),e];exact⟨_,rfl,k c m⟩
theorem Jy:∀ (zs:Qa Str),(zs.map PyData.str).mapM wK=some zs
 | []=>rfl
 | z::zs=>by
  rw[List.map_cons,List.mapM_cons,Jy zs];rfl
theorem IB:∀ {ys:Qa Str},(∀ z∈ys,z.length<=n)->(ys.map (·.length)).sum<=ys.length * n
 | [],_=>by simp
 | y::ys,h=>by
  have:=IB (ys:=ys) λz hz=>h z<|qm _ hz;have:=h y qo;simp only[List.map_cons,List.sum_cons,qt,Nat.add_mul];omega
theorem HE{zs:Qa Str}{Q:U->Prop}(h:∀ z∈zs,bq n z)(hl:zs.length<=m)(hm:m * n<=1000)(k:bq (m * n) (Txt.join "" zs)->Q (.d<|.str<|Txt.join "" zs)):Wo (rY (.d<|.str "")<|.l<|zs.map PyData.str) Q:=by
 have h1:=IB (n:=n) λz hz=>(h z hz).1;have h2:zs.length * n<=m * n:=Nat.mul_le_mul_right _ hl;unfold rY;dsimp only;rw[Jy,bd,if_pos (by rw[show(("":Str)).length=0 by decide,Nat.mul_zero]; omega)];exact⟨_,rfl,k<|(Vy h).mono h2⟩
theorem Dc:∀ (zs:Qa Str),(zs.map PyData.str).mapM vR=some (zs.map V.str)
 | []=>rfl
 | z::zs=>by
  rw[List.map_cons,List.mapM_cons,Dc zs];rfl
theorem Ud{xs:Qa D}{lo hi:Qb Int}:tR (.d<|.tuple xs) lo hi=some (.d<|.tuple<|iB xs lo hi):=rfl
theorem Rt{i:Int}:iA "int" (.d<|.int i)=some (.d<|.bool true):=rfl
theorem Rr{i:Int}:iA "bool" (.d<|.int i)=some (.d<|.bool false):=rfl
theorem Rq{xs:Qa D}:iA "tuple" (.d<|.tuple xs)=some (.d<|.bool true):=rfl
theorem Uc{a b:String}:(PySem.Str.ofString a=PySem.Str.ofString b)=(a=b):=propext ⟨λh=>by
 rw[PySem.Str.ofString_eq_toList,PySem.Str.ofString_eq_toList]at h;have h1:=congrArg (λz:Str=>z.cps.toList) h;dsimp only at h1;exact String.toList_inj.mp<|List.map_inj_right (λx y e=>Char.ext<|UInt32.toNat_inj.mp e) |>.mp h1,λh=>by rw[h]⟩
theorem PD{xs:Qa D}{k:Int}(h:0<=k):iB xs none (some k)=xs.take k.toNat:=by
 have e:k=((k.toNat:Nat):Int):=by omega
 unfold iB;rw[e,HT.jC,HT.gW,List.drop_zero,Nat.sub_zero];rw[show((k.toNat:Nat):Int).toNat=k.toNat by omega];rw[Nat.min_def];split
 .rfl
 .rw[List.take_of_length_le<|qe _,List.take_of_length_le (by omega)]
theorem UJ{xs:Qa D}{k:Int}(h:0<=k):iB xs (some k) none=xs.drop k.toNat:=by
 have e:k=((k.toNat:Nat):Int):=by omega
 unfold iB;rw[e,HT.jC,HT.gW];rw[show((k.toNat:Nat):Int).toNat=k.toNat by omega];rw[Nat.min_def];split
 .rw[List.take_of_length_le (by rw[List.length_drop]; omega)]
 .rw[List.drop_of_length_le (by omega),List.drop_of_length_le (by omega),List.take_nil]
structure iN (k M:Nat) (d:D):Prop where
 lay:d.canLay0=true
 ig:d.depth<=k
 Yk:d.showable=true
 len:d.shown.length<=M
theorem iN.mono{M k' M':Nat}{d:D}(h:iN k M d)(h1:k<=k')(h2:M<=M'):iN k' M' d:=⟨h.lay,qx h.ig h1,h.Yk,qx h.len h2⟩
theorem RK{i:Int}(h:i.natAbs < 10^n)(h0:0 < n:=by decide)(h1:n<=470:=by decide):iN 0 (n+1) (.int i):=by
 refine⟨rfl,by simp[PyData.depth],?_,?_⟩
 .show decide (i.natAbs.log2 < 1920)=true
  refine decide_eq_true ?_
  by_cases z:i.natAbs=0
  .rw[z]; decide
  .have e1:10^n<=16^n:=Nat.pow_le_pow_left (by decide) n
   have e2:16^n=2^(4 * n):=by rw[Nat.pow_mul]
   have e3:i.natAbs < 2^(4 * n):=by rw[<-e2]; exact qi h e1
   exact qi ((Nat.log2_lt z).mpr e3) (by omega)
 .show(PySem.Str.ofString<|toString i).length<=n+1
  rw[PySem.ofString_length];exact PySem.int_text_length_le10 h0 h
theorem HD{z:Str}(h:bq n z):iN 0 (10 * n+2) (.str z):=by
 refine⟨?_,by simp[PyData.depth],rfl,?_⟩
 .show z.cps.all (· < 0x110000)=true
  rw[Array.all_eq_true'];intro c hc;have:=h.2 c (Array.mem_toList_iff.mpr hc);exact decide_eq_true (by omega)
 .have:=PySem.StrLaws.reprText_len z λc hc=>Nat.lt_trans (h.2 c hc) (by decide)
  have:=h.1;show(reprText z).length<=_;omega
theorem HC{M:Nat}:∀ {ds:Qa D},(∀ d∈ds,iN k M d)->PyData.canLayAll0 ds=true/\PyData.depthAll ds<=k/\PyData.showableAll ds=true/\((PyData.shownAll ds).map (·.length)).sum+2 * ds.length<=ds.length * (M+2)
 | [],_=>⟨rfl,by simp[PyData.depthAll],rfl,by simp[PyData.shownAll]⟩
 | d::ds,h=>by
  have(a0,a1,a2,a3):=HC (ds:=ds) λx hx=>h x<|qm _ hx;have(b0,b1,b2,b3):=h d qo;refine⟨?_,?_,?_,?_⟩
  .show(d.canLay0 && PyData.canLayAll0 ds)=true
   rw[a0,b0];rfl
  .simp only[PyData.depthAll]
   omega
  .show(d.showable && PyData.showableAll ds)=true
   rw[a2,b2];rfl
  .show((d.shown::PyData.shownAll ds).map (·.length)).sum+_<=_
   rw[List.map_cons,List.sum_cons,qt,Nat.add_mul,Nat.one_mul];omega
theorem HB{M:Nat}{ds:Qa D}(h:∀ d∈ds,iN k M d)(hn:ds.length<=n):iN (k+1) (n * (M+2)+3) (.tuple ds):=by
 have(a0,a1,a2,a3):=HC h;refine⟨a0,?_,a2,?_⟩
 .simp only[PyData.depth]
  omega
 .have:=tupleText_len_le (PyData.shownAll ds)
  have e:=PyData.shownAll_length ds;have m:ds.length * (M+2)<=n * (M+2):=Nat.mul_le_mul_right _ hn;show(tupleText<|PyData.shownAll ds).length<=_;omega
theorem iN.shaped{M:Nat}{d:D}(h:iN k M d)(hk:k<=64):SeqAt.shaped d=true:=by
 unfold SeqAt.shaped;rw[h.lay,Bool.true_and];exact decide_eq_true<|qx h.ig hk
theorem iN.ZP{M k' M':Nat}{a b:D}(ha:iN k M a)(hb:iN k' M' b)(hk:k<=64)(EF:k'<=64):lQ neg (.d a) (.d b)=some (.d<|.bool (if neg=true then !PyData.eqv a b else PyData.eqv a b)):=by
 have ea:U.py (.d a)=some a:=rfl;have eb:U.py (.d b)=some b:=rfl;unfold lQ;rw[ea,bd,eb,bd,if_pos ⟨ha.shaped hk,hb.shaped EF⟩]
section
variable{X:Cx}
end
section
variable{X:Cx}
end
section
def zwP:U->Qb U
 | .d (.int i)=>if i.natAbs.log2 < 1920 then some (.d<|.str<|toString i)else none
 | .d (.str z)=>if z.length<=sizeLine then some (.d<|.str z)else none
 | _=>none
abbrev MJ:=En->Str->Qb (Str×En)
def U.sr:U->Qb Str
 | .d (.str z)=>some z
 | _=>none
end
section
variable{ρ:En}{me:ME}{mj:MJ}{QE:Ar×En->Prop}{QJ:Str×En->Prop}{acc z:Str}{i:Int}
end
end L2
namespace L2
open PySem PySem.Spec PyProof.Rows PySem.NumText
abbrev ts(n:Int):Str:=PySem.Str.ofString (toString n)
end L2
namespace L2
open PySem PySem.Spec PyProof.Rows
section
variable{X:Cx}{f:Expr}{ty tx:TE}
end
section
end
section
variable{s:Qd}{d:Qg}{ok ov:Qc}
end
section
variable{X:Cx}{kk:Nat}
end
section
variable{s:Qd}{z TI TO i1 i2 t1 t2:Qg}{xs ys:Array Qc}{x y a b:Qc}
end
section
variable{s:Qd}
end
section
variable{X:Cx}
end
section
variable{s:Qd}
end
def hK:Key->Int
 | .inl i=>hashInt i
 | .inr _=>0
def hT(ks:Qa Key):Int:=reduceHash (Builtin.Tuple.tupleHashOf<|ks.map hK)
section
variable{X:Cx}{s:Qd}
end
section
end
section
variable{X:Cx}
end
section
def tV:Qa U->Qb U
 | [.d<|.int i,.d<|.int j]=>some<|.d<|.int (if j < i then j else i)
 | _=>none
theorem RJ:VC K (λxs H Q=>∃ i j,xs=[.int i,.int j]/\Q (.int (if j < i then j else i)) H) tV:=by
 intro vs us u H Q hr e q;unfold tV at e;split at e
 .rename_i i j
  cases e;cases hr with
  | cons h1 t=>
   cases t with
   | cons h2 t=>
    cases t;cases DF.int_inv h1;cases DF.int_inv h2;exact⟨i,j,rfl,q _ _ (λ_ _ z=>z) (.int _) Nw.data⟩
 .cases e
theorem RI{w:U}{xs:Qa D}(h:w.lo=some xs):w=.l xs:=by
 cases w<;>first | (cases h; rfl) | cases h
end
section
variable{ρ:En}{me ma mb mc mk mi md my mv mx mo:ME}{mA mK:MA}{mt mu:MT}{mI:MI}{mg:MG}{m1 m2:MS}{u:U}{x:D}
variable{QE:Ar×En->Prop}{QI:Qa D×En->Prop}
theorem UI{a:Int}:tV [.d<|.int a,.d<|.int b]=some (.d<|.int (if b < a then b else a)):=rfl
theorem PC{g:α->D}{b:α->Bool}{e:α->D}{as:Qa α}{Q:Qa D×En->Prop}(hz:as.length<=sizeLine)
  (st:∀ a∈as,∀ ys,Wo (mg (g a) ρ)<|Co mt ⟨0⟩<|vn nt me ys λaf zs=>af=ρ/\zs=if b a=true then ys++[e a]else ys) (q:Q ((as.filter b).map e,ρ)):Wo (jG nt mg mt me (as.map g) ρ []) Q:=by
 refine BU (λi af ys=>af=ρ/\ys=((as.take i).filter b).map e) (by rw[List.length_map]; exact hz) (λi af ys h=>?_) ⟨rfl,rfl⟩ (λi d af ys hd h=>?_) λaf ys h=>?_
 .rw[h.2,List.length_map]
  exact qx (List.length_filter_le _ _) (by rw[List.length_take]; exact Nat.min_le_left _ _)
 .have(rfl,rfl):=h
  rw[List.getElem?_map]at hd;have(a,ha,rfl):=qq.mp hd;have:=st a (Ð ha) (((as.take i).filter b).map e);have en:((as.take<|i+1).filter b).map e=if b a=true then((as.take i).filter b).map e++[e a]else((as.take i).filter b).map e:=by
   rw[List.take_succ,ha,List.filter_append,List.map_append];show _++(([a]:Qa α).filter b).map e=_;rw[List.filter_cons];split<;>simp
  rw[en];exact this
 .have(rfl,rfl):=h
  rw[List.length_map,List.take_of_length_le<|qe _];exact q
end
def wF(K:qc)(tl:TE):TI:=λσ H R=>tl σ H λx H1=>∃ a,x=.ref a/\(((∃ xs,bE K H1 a xs)/\R (Fp K a) H1)\/((∃ xs,cy K H1 a xs)/\R (Fo K a) H1))
section
variable{X:Cx}
theorem PB{l:Expr}{tl:TE}(hl:PE X l tl):PI X tg l (wF X.K tl):=by
 intro pins s σ H R I h;refine aJ (hl pins s σ H _ I h) λv s1 hZ=>?_;have(x,H1,I1,r1,q1):=hZ;have(a,e,z):=q1;subst e;cases r1;rcases z with⟨hx,q⟩|⟨hx,q⟩
 .have(xs,hq):=hx
  have(aj,rv,p,hz):=I1.list hq;refine wpAny_pyIter_list p.isList ?_;refine⟨s1.heap.objs.size,[s1.heap.objs.size],_,_,H1,rfl,I1.kept (t':=s1.toks) λb o e=>qd _ e,Js a _,⟨_,qg _ rfl,rfl,rfl⟩,λb hb=>?_,q⟩;have e:b=s1.heap.objs.size:=by simpa using hb
  subst e;exact I1.hV (qe _)<|I1.aD.fresh<|qe _
 .have(xs,hq):=hx
  have(aj,rv,p,hz):=I1.tuple hq;refine wpAny_pyIter_tuple (show s1.heap.IsTuple a aj.toArray from p) ?_;refine⟨s1.heap.objs.size,[s1.heap.objs.size],_,_,H1,rfl,I1.kept (t':=s1.toks) λb o e=>qd _ e,JE a _,⟨_,qg _ rfl,rfl,rfl⟩,λb hb=>?_,q⟩;have e:b=s1.heap.objs.size:=by simpa using hb
  subst e;exact I1.hV (qe _)<|I1.aD.fresh<|qe _
theorem Pz{l:Expr}{tl:TE}(K:qc)(hK:X.K=K)(hl:Wr (PE X l tl)):Wr (PI X tg l<|wF K tl):=hK▸⟨PB hl.run⟩
end
def wD:U->Qb (Qa D)
 | .d (.list xs)=>some xs
 | .d (.tuple xs)=>some xs
 | _=>none
theorem Py{me:ME}(h:VE K te me):VI K (wF K te) (j9 wD me):=by
 intro ρ σ H ds af R r e q;obtain⟨⟨a,au⟩,e1,e⟩:=bQ e;have(u,eu,e):=bQ e;have(xs,ex,e):=bQ e;cases e;refine h ρ σ H a _ _ r e1 λv H1 g1 k1=>?_;have p:=k1.now r g1 eu;unfold wD at ex;split at ex
 .cases ex
  have(b,ys,rfl,h1,h2):=DF.lst_inv p;refine⟨b,rfl,.inl ⟨⟨ys,h1.sq⟩,q _ _ g1 λH2 k i=>⟨λd ed=>?_,λei=>?_⟩⟩⟩
  .have(v,ev,dv):=(h2.kp k).get ed
   refine⟨⟨ys,v,(h1.kp k).sq,ev⟩,λx H' y=>?_⟩;have(rfl,y):=y;have:=y ys (h1.kp k).sq;rw[ev]at this;cases this;exact⟨λ_ _ z=>z,dv⟩
  .exact⟨ys,(h1.kp k).sq,by rw[h2.len]; omega⟩
 .cases ex
  have(b,ys,rfl,h1,h2):=DF.aV p;refine⟨b,rfl,.inr ⟨⟨ys,(cq.sq h1)⟩,q _ _ g1 λH2 k i=>⟨λd ed=>?_,λei=>?_⟩⟩⟩
  .have(v,ev,dv):=(h2.kp k).get ed
   refine⟨⟨ys,v,(cq.kp k h1).sq,ev⟩,λx H' y=>?_⟩;have(rfl,y):=y;have:=y ys ((cq.kp k h1).sq);rw[ev]at this;cases this;exact⟨λ_ _ z=>z,dv⟩
  .exact⟨ys,(cq.kp k h1).sq,by rw[h2.len]; omega⟩
 .cases ex
end L2
namespace L2
open PySem
def m5(n d:Int):Int:=(if d < 0 then -n else n) / (Int.gcd n d:Nat)
def lP(n d:Int):Int:=(if d < 0 then -d else d) / (Int.gcd n d:Nat)
theorem Vx{n d:Int}(hd:d≠0):m5 n d * d=n * lP n d/\1<=lP n d/\Int.gcd (m5 n d) (lP n d)=1/\lP n d<=d.natAbs/\(m5 n d).natAbs<=n.natAbs:=by
 have hg:0 < Int.gcd n d:=Int.gcd_pos_of_ne_zero_right n hd;have(u,hu):=Int.gcd_dvd_left n d;have(v,hv):=Int.gcd_dvd_right n d;have Li:(0:Int) < (Int.gcd n d:Nat):=Int.natCast_pos.mpr hg;have hc:Int.gcd (n / (Int.gcd n d:Nat)) (d / (Int.gcd n d:Nat))=1:=Int.gcd_ediv_gcd_ediv_gcd hg;unfold m5 lP;generalize (Int.gcd n d:Nat)=g at *;have Ap:(g:Int)≠0:=by omega
 have eu:n / (g:Int)=u:=by rw[hu]; exact Ù u Ap
 have ev:d / (g:Int)=v:=by rw[hv]; exact Ù v Ap
 have LA:(-n) / (g:Int)=-u:=by rw[hu,<-Int.mul_neg]; exact Ù (-u) Ap
 have rq:(-d) / (g:Int)=-v:=by rw[hv,<-Int.mul_neg]; exact Ù (-v) Ap
 rw[eu,ev]at hc;have g1:1<=g:=hg;have an:n.natAbs=g * u.natAbs:=by rw[hu,Int.natAbs_mul]; rfl
 have ad:d.natAbs=g * v.natAbs:=by rw[hv,Int.natAbs_mul]; rfl
 have lu:u.natAbs<=n.natAbs:=by rw[an]; exact Nat.le_mul_of_pos_left _ hg
 have lv:v.natAbs<=d.natAbs:=by rw[ad]; exact Nat.le_mul_of_pos_left _ hg
 by_cases c:d < 0
 .rw[if_pos c,if_pos c,LA,rq]
  have YN:v < 0:=by
   rcases(by omega:v < 0\/0<=v)with z|z
   .exact z
   .have:=Int.mul_nonneg (Int.le_of_lt Li) z
    omega
  refine⟨?_,by omega,?_,by omega,by omega⟩
  .rw[hu,hv]
   simp only[Int.neg_mul,Int.mul_neg,Int.neg_inj]
   ac_rfl
  .rw[Int.neg_gcd,Int.gcd_neg]
   exact hc
 .rw[if_neg c,if_neg c,eu,ev]
  have YN:0 < v:=by
   rcases(by omega:0 < v\/v<=0)with z|z
   .exact z
   .have:=Int.mul_nonneg (Int.le_of_lt Li) (show 0<=-v by omega)
    rw[Int.mul_neg,<-hv]at this;omega
  refine⟨?_,by omega,hc,by omega,by omega⟩;rw[hu,hv]
  ac_rfl
theorem UH{n d N D:Int}(hd:d≠0)(h1:1<=D)(hc:Int.gcd N D=1)(he:N * d=n * D):N=m5 n d/\D=lP n d:=by
 have(e,y1,c,_,_):=Vx (n:=n) hd;generalize m5 n d=x at *;generalize lP n d=y at *;have k:N * y=x * D:=by
  have z:(N * y) * d=(x * D) * d:=by grind
  exact ä hd z
 have d1:D∣y:=by
  have t:D∣N * y:=⟨x,by rw[k]; ac_rfl⟩;have u:=ã.mpr t;rw[Int.gcd_comm,hc]at u;simpa using u
 have d2:y∣D:=by
  have t:y∣x * D:=⟨N,by rw[<-k]; ac_rfl⟩;have u:=ã.mpr t;rw[Int.gcd_comm,c]at u;simpa using u
 have l1:=Int.le_of_dvd (by omega) d1;have l2:=Int.le_of_dvd (by omega) d2;have e2:D=y:=by omega
 refine⟨?_,e2⟩;rw[e2]at k;exact ä (by omega) k
theorem IA(n d:Int){g:Int}(hg:0 < g):n.fdiv (if d < 0 then 0 - g else g)=(if d < 0 then -n else n) / g:=by
 split
 .rw[Int.zero_sub,<-Int.fdiv_eq_ediv_of_nonneg _ (Int.le_of_lt hg)]
  have:=Int.neg_fdiv_neg (-n) g;rw[Int.neg_neg]at this;exact this
 .rw[Int.fdiv_eq_ediv_of_nonneg _<|Int.le_of_lt hg]
theorem UG(x y:Int):Int.gcd (if x < 0 then -x else x) (if y < 0 then -y else y)=Int.gcd x y:=by
 rw[SV];split
 .exact Int.gcd_neg
 .rfl
theorem RH{n d:Int}(hd:d≠0):m5 n d=(Rat.divInt n d).num/\lP n d=((Rat.divInt n d).den:Int):=by
 have h:=UH (n:=n) (d:=d) (N:=(Rat.divInt n d).num) (D:=((Rat.divInt n d).den:Int)) hd (by have:=(Rat.divInt n d).den_pos; omega) (by
  have:=(Rat.divInt n d).reduced;exact this) (by
  have e:Rat.divInt (Rat.divInt n d).num ((Rat.divInt n d).den:Int)=Rat.divInt n d:=Rat.num_divInt_den _;rw[Rat.divInt_eq_divInt_iff (by have:=(Rat.divInt n d).den_pos; omega) hd]at e;rw[e])
 exact⟨h.1.symm,h.2.symm⟩
def fR(r:Rat):D:=.tuple [.int r.num,.int (r.den:Int)]
theorem Oj{n d:Int}(hd:d≠0):PyData.tuple [.int<|m5 n d,.int<|lP n d]=fR (Rat.divInt n d):=by
 have(e1,e2):=RH (n:=n) hd;rw[e1,e2];rfl
theorem MM(r:Rat):1<=(r.den:Int):=by have:=r.den_pos; omega
theorem ZV(r:Rat):Int.gcd r.num (r.den:Int)=1:=by
 have:=r.reduced;exact this
theorem UE(r:Rat):r * (r.den:Rat)=(r.num:Rat):=by
 have e:(r.num:Rat) / ((r.den:Int):Rat)=r:=by rw[<-Rat.divInt_eq_div]; exact Rat.num_divInt_den r
 have n:((r.den:Int):Rat)≠0:=λh=>by
  have:=Rat.intCast_inj.mp (show((r.den:Int):Rat)=((0:Int):Rat) from h);have:=r.den_pos;omega
 have:=Rat.div_mul_cancel (a:=(r.num:Rat)) n;rw[e]at this;exact this
def Bd(M B:Nat)(r:Rat):Prop:=∃ k:Int,r * (M:Rat)=(k:Rat)/\k.natAbs<=B
section
variable{M N B C:Nat}{r s:Rat}
theorem Bd.le(h:Bd M B r)(c:B<=C):Bd M C r:=let ⟨k,e,b⟩:=h; ⟨k,e,qx b c⟩
theorem Bd.size(hM:0 < M)(h:Bd M B r):r.den<=M/\r.num.natAbs<=B:=by
 have(k,e,b):=h;have e2:r.num * (M:Int)=k * (r.den:Int):=by
  have h1:=UE r;have h2:((r.num * (M:Int):Int):Rat)=((k * (r.den:Int):Int):Rat):=by
   rw[Rat.intCast_mul,Rat.intCast_mul,<-h1,<-e,Rat.intCast_natCast,Rat.intCast_natCast,Rat.mul_assoc,Rat.mul_assoc,Rat.mul_comm (r.den:Rat)]
  exact Rat.intCast_inj.mp h2
 have dv:(r.den:Int)∣(M:Int):=by
  have t:(r.den:Int)∣r.num * (M:Int):=⟨k,by rw[e2,Int.mul_comm]⟩;have u:=ã.mpr t;rw[Int.gcd_comm,ZV]at u;simpa using u
 have(c,hc):=dv;have dp:(0:Int) < r.den:=by have:=r.den_pos; omega
 have c0:0 < c:=by
  rcases(by omega:0 < c\/c<=0)with z|z
  .exact z
  .have:=Int.mul_nonneg (Int.le_of_lt dp) (show 0<=-c by omega)
   rw[Int.mul_neg,<-hc]at this;omega
 have ek:k=r.num * c:=by
  rw[hc]at e2;have:k * (r.den:Int)=(r.num * c) * (r.den:Int):=by rw[<-e2]; ac_rfl
  exact ä (by omega) this
 constructor
 .have:(r.den:Int) * 1<=(r.den:Int) * c:=Int.mul_le_mul_of_nonneg_left (by omega) (by omega)
  omega
 .rw[ek,Int.natAbs_mul]at b
  exact qx (Nat.le_mul_of_pos_right _ (by omega)) b
end
abbrev Pq(α:Type):=Qa (Qa Int×α)
section
def look(p:Pq α)(k:Qa Int):Qb α:=(p.find? λt=>decide<|t.1=k).map (·.2)
def tO(p:Pq α)(k:Qa Int)(x:α):Pq α:=if(p.any λt=>decide<|t.1=k)=true then p.map (λt=>if t.1=k then(t.1,x)else t)else p++[(k,x)]
theorem RG(p:Pq α)(k:Qa Int)(x:α):(tO p k x).length<=p.length+1:=by
 unfold tO;split
 .rw[List.length_map]; omega
 .rw[qr]; exact qe _
end
section
variable[Add α][Zero α]
end
def ins(x:Qa Int×α):Pq α->Pq α
 | []=>[x]
 | y::l=>if cN x.1 y.1=true then x::y::l else y::ins x l
def iv(m:Nat)(r:Rat):Int:=r.num * ((m:Int) / (r.den:Int))
abbrev kL(ks:Qa Int):Qa Key:=ks.map Sum.inl
section
variable{c:α->D}
def sS(c:α->D)(p:Pq α):Qa (Qa Key×D):=p.map λt=>(kL t.1,c t.2)
theorem Oi(p:Pq α):(sS c p).length=p.length:=List.length_map ..
end
theorem Jx(r:Rat):SeqAt.shaped (fR r)=true:=by
 unfold SeqAt.shaped fR;simp[PyData.canLay0,PyData.canLayAll0,PyData.depth,PyData.depthAll]
theorem Oh(a b:Rat):PyData.eqv (fR a) (fR b)=decide (a=b):=by
 unfold fR;simp only[PyData.eqv,PyData.eqvAll];rw[Bool.eq_iff_iff,decide_eq_true_iff];constructor
 .intro h
  simp only[Bool.and_eq_true,beq_iff_eq]at h;exact Rat.ext h.1 (by omega)
 .rintro rfl
  simp
theorem CI{a b:Rat}:lQ neg (.d<|fR a) (.d<|fR b)=some (.d<|.bool (if neg=true then !decide (a=b)else decide (a=b))):=by
 show(some<|fR a).bind _=_;rw[bd];show(some<|fR b).bind _=_;rw[bd,if_pos ⟨Jx a,Jx b⟩,Oh]
def mon:Qa (Rat×Int)->Rat
 | []=>1
 | t::l=>t.1^t.2.toNat * mon l
def mono(pt:Qa Rat)(e:Qa Int):Rat:=mon (pt.zip e)
theorem Og{n d:Int}{M:Nat}(hd:0 < d)(h:d∣(M:Int))(h0:0 < M):Bd M (n.natAbs * M) (Rat.divInt n d):=by
 have(c,hc):=h;have c0:0 < c:=by
  rcases(by omega:0 < c\/c<=0)with z|z
  .exact z
  .have:=Int.mul_nonneg (Int.le_of_lt hd) (show 0<=-c by omega)
   rw[Int.mul_neg,<-hc]at this;omega
 have dr:((d:Int):Rat)≠0:=λz=>by
  have:=Rat.intCast_inj.mp (show((d:Int):Rat)=((0:Int):Rat) from z);omega
 refine⟨n * c,?_,?_⟩
 .have e:(M:Rat)=((d:Int):Rat) * ((c:Int):Rat):=by rw[<-Rat.intCast_mul,<-hc,Rat.intCast_natCast]
  rw[e,Rat.divInt_eq_div,Rat.intCast_mul];grind
 .rw[Int.natAbs_mul]
  refine Nat.mul_le_mul_left _ ?_;have:1 * c<=d * c:=Int.mul_le_mul_of_nonneg_right (by omega) (by omega);omega
end L2
namespace L2
open PySem PySem.Spec PyProof.Rows
open PySem.AutoSeq1 (wpAny_loadPart')
section
variable{X:Cx}
end
end L2
namespace L2
open PySem PySem.Spec PyProof.Rows
section
variable{ρ au af:En}
end
section
variable{X:Cx}
end
section
variable{ρ:En}{mk mv:ME}{mA:MA}{f:Qa D->Qa D}{QE:Ar×En->Prop}{QI:Qa D×En->Prop}
end
end L2
namespace L2
open PySem
def ch:Nat->Nat->Nat
 | _,0=>1
 | 0,_+1=>0
 | n+1,k+1=>ch n k+ch n (k+1)
def part(a:Rat)(k j:Nat):Rat:=(ch k j:Rat) * a^(k - j)
end L2
namespace L2
open PySem PySem.Spec PyProof.Rows
open PySem.AutoSeq1 (wpAny_loadPart')
open MeetsSeq MeetsSeq2 MeetsSeq3 SeqRoads2
theorem Vw{s:Qd}{a:Int}{t u:Tok}(h:Q (.bool<|decide<|a<=b) s):wpAny (model prog w) A (richCompare .LtE (.int a t)<|.int b u) Q E s:=le_int h
def leB(xs ys:Qa Int):Bool:=!cN ys xs
def vP(xs ys:Qa Int):Bool:=!cN xs ys
theorem WB(l b:Qg)(items bI:Array Qc)(n n2:Nat)(dd Fd:Qb Qg)(sl DP:Array (Qb Qc))(xs ys:Qa Int):
  Meets (Builtin.«tuple.__le__» ⟨[.ref l,.ref b],[]⟩)
   (λA R s=>s.heap.get? l=some {cls:=.type "tuple",dict:=dd,data:=.seq items n,slots:=sl}/\s.heap.get? b=some {cls:=.type "tuple",dict:=Fd,data:=.seq bI n2,slots:=DP}/\
    IntsAre items.toList xs/\IntsAre bI.toList ys/\R (.ok<|.ret<|.bool<|leB xs ys) s):=
 .of_wp λprog w A R s h=>by
  have(hp,g,d,tk,os):=s;have(hl,hb,i1,i2,h):=h;have f2:=AutoSeq1.sub_tuple_tuple
  wp_walk using wpAny_loadPart' hl,wpAny_loadPart' hb,wpAny_forIn_list _ (λrest b s'=>b.1=none/\s'=⟨hp,g,d,tk,os⟩/\∃ (vs us:Qa Qc) (as bs:Qa Int),rest=vs.zip us/\IntsAre vs as/\IntsAre us bs/\(Array.size items < Array.size bI↔as.length < bs.length)/\(Array.size bI < Array.size items↔bs.length < as.length)/\
   R (.ok<|.ret<|.bool<|leB as bs) ⟨hp,g,d,tk,os⟩) _
  case turn=>
   rintro⟨y,x⟩ rest b s' ⟨jK,rfl,vs,us,as,bs,hz,j1,j2,hn,hm,hR⟩;cases j1 with
   | nil=>cases hz
   | @cons a t vs as j1=>
    cases j2 with
    | nil=>cases hz
    | @cons c u us bs j2=>
     rw[List.zip_cons_cons]at hz;injection hz with YK vw;injection YK with e1 e2;subst e1 e2;refine qa<|wpAny_eqBool_int ?_
     by_cases e:a=c
     .subst e
      rw[beq_self_eq_true]
      wp_walk
      refine⟨rfl,rfl,vs,us,as,bs,vw,j1,j2,?_,?_,?_⟩
      .rw[hn,qt,qt]
       omega
      .rw[hm,qt,qt]
       omega
      .simpa [leB,vP,cN] using hR
     .rw[beq_eq_false_iff_ne.mpr e]
      wp_walk using Vw
      refine⟨_,rfl,?_⟩;simp only[leB,vP,cN,if_neg e,if_neg<|Ne.symm e]at hR;rw[<-decide_not]at hR;simp only[Int.not_lt]at hR;exact hR
  case fin=>
   rintro⟨b1,b2⟩ s' ⟨jK,rfl,vs,us,as,bs,hz,j1,j2,hn,hm,hR⟩;simp only at jK;subst jK
   wp_walk
   refine⟨_,rfl,?_⟩;cases j1 with
   | nil=>
    cases j2 with
    | nil=>
     have n1:¬Array.size items < Array.size bI:=λz=>absurd (hn.mp z)<|Í _;have n2:¬Array.size bI < Array.size items:=λz=>absurd (hm.mp z)<|Í _;simpa [Builtin.Tuple.tupleCompareSizes,leB,vP,cN,Nat.le_of_not_lt n1,Nat.le_of_not_lt n2] using hR
    | cons c u j2=>
     have n1:=hn.mpr (Nat.zero_lt_succ _);simpa [Builtin.Tuple.tupleCompareSizes,leB,vP,cN,Nat.le_of_lt n1,Nat.not_le_of_lt n1] using hR
   | cons a t j1=>
    cases j2 with
    | nil=>
     have n1:=hm.mpr (Nat.zero_lt_succ _);simpa [Builtin.Tuple.tupleCompareSizes,leB,vP,cN,Nat.le_of_lt n1,Nat.not_le_of_lt n1] using hR
    | cons c u j2=>cases hz
  case h=>
   refine⟨rfl,rfl,Array.toList items,Array.toList bI,xs,ys,rfl,i1,i2,?_,?_,h⟩
   .rw[<-IntsAre.length i1,<-IntsAre.length i2,Array.length_toList,Array.length_toList]
   .rw[<-IntsAre.length i1,<-IntsAre.length i2,Array.length_toList,Array.length_toList]
end L2
namespace L2
open PySem PySem.Spec PyProof.Rows
section
variable{s:Qd}{l b:Qg}{items bI:Array Qc}{xs ys:Qa Int}
theorem WA(hl:s.heap.IsTuple l items)(hb:s.heap.IsTuple b bI)(i1:IntsAre items.toList xs)(i2:IntsAre bI.toList ys)(hu:A.units < cLine)
  (h:Q (.bool<|leB xs ys) s):wpAny (model prog w) A (compareOp .LtE (.ref l)<|.ref b) Q E s:=by
 obtain⟨⟨cls,dd,data,sl⟩,ho,hc,n,hd⟩:=id hl;obtain⟨⟨ZX,Fd,data2,DP⟩,La,Ln,n2,hd2⟩:=id hb;simp only at hc hd Ln hd2;subst hc hd Ln hd2;exact richCompare_meets_room (op:=.LtE) ⟨_,ho,rfl⟩ ⟨_,La,rfl⟩ F.slot_tuple_le F.entry_tuple_le (F.args_tuple_le_2 _ _) (WB l b items bI n n2 dd Fd sl DP xs ys) ⟨ho,La,i1,i2,⟨(λx=>nomatch x),h⟩⟩ hu
end
def F7(K:qc)(g:Qa Int->Qa Int->Bool):R2:=λx y H Q=>∃ a b ns ms,x=.ref a/\y=.ref b/\cy K H a (ns.map V.int)/\cy K H b (ms.map V.int)/\Q (.bl<|g ns ms) H
section
variable{X:Cx}
theorem Of(K:qc)(hK:X.K=K)(hr:aE k X.A):bK X (compareOp .LtE) (F7 K leB):=by
 subst hK;intro pins s σ H x y v u Q I rx ry h;have(a,b,ns,ms,rfl,rfl,ha,hb,q):=h;cases rx;cases ry;have(aj,r1,p1,_):=I.tuple ha;have(YF,r2,p2,_):=I.tuple hb;exact WA p1 p2 (JB r1) (JB r2) (Nat.lt_of_succ_lt<|Ox hr) ⟨.bl _,H,I,rfl,q⟩
end
section
def inD:D->Qb Int
 | .int i=>some i
 | _=>none
theorem CH:∀ {us:Qa V} {ds:Qa D} {bs:Qa Int},aR K H us ds->ds.mapM inD=some bs->us=bs.map V.int
 | _,_,bs,.nil,e=>by cases e; rfl
 | _,_,bs,.cons (d:=d) h t,e=>by
  rw[List.mapM_cons]at e;have(y,e1,e):=bQ e;have(jy,e2,e):=bQ e;cases e;cases d with
  | int x=>cases e1; cases DF.int_inv h; rw[CH t e2]; rfl
  | _=>cases e1
def xr(g:Qa Int->Qa Int->Bool):U->U->Qb U
 | .d (.tuple xs),.d (.tuple ys)=>(xs.mapM inD).bind λa=>(ys.mapM inD).bind λb=>some<|.d<|.bool<|g a b
 | _,_=>none
theorem RF{g:Qa Int->Qa Int->Bool}:VO K (F7 K g) (xr g):=by
 intro x y a b u H Q ha hb e q;unfold xr at e;split at e
 .have(n1,e1,e):=bQ e
  have(n2,e2,e):=bQ e;cases e;have(p,us,rfl,h1,h2):=DF.aV ha;have(p',kA,rfl,ZE,Ao):=DF.aV hb;cases CH h2 e1;cases CH Ao e2;exact⟨p,p',n1,n2,rfl,rfl,(cq.sq h1),(cq.sq ZE),q _ _ (cK.refl H) (DF.bl _) Nw.data⟩
 .cases e
theorem Wa{g:Qa Int->Qa Int->Bool}{a c d:Int}:xr g (.d<|.tuple [.int a,.int b]) (.d<|.tuple [.int c,.int d])=some (.d<|.bool<|g [a,b] [c,d]):=rfl
end
def CG(r r' mE:R2)(ta tb tc td:TE):TE:=λσ H Q=>ta σ H λx H1=>tb σ H1 λy H2=>r x y H2 λz H3=>∃ k,z=.bl k/\
 (if k=true then tc σ H3 λw' H4=>r' y w' H4 λz' H5=>∃ k',z'=.bl k'/\(if k'=true then td σ H5 λv H6=>mE w' v H6 Q else Q (.bl false) H5)else Q (.bl false) H3)
section
variable{X:Cx}{a b c d:Expr}{tc:TE}
theorem Vv{i0:CmpOp}{r r' mE:R2}(ho:bK X (compareOp op) r)(dZ:bK X (compareOp fV) r')(qZ:bK X (compareOp i0) mE)(ha:PE X a ta)(hb:PE X b tb)(hc:PE X c tc)(hd:PE X d td)
  (hm:lastMarks [op,fV,i0] [b,c,d]=false:=by with_unfolding_all rfl):PT X (.Compare a [op,fV,i0] [b,c,d] pos) (pO<|CG r r' mE ta tb tc td):=by
 intro pins s σ H Q I h;refine isTrue_chain (aJ (ha pins s σ H _ I h) λv s1 ⟨x,H1,I1,r1,q1⟩=>test_link (aJ (hb pins s1 σ H1 _ I1 q1) λu s2 ⟨y,H2,I2,r2,q2⟩=>
  aJ (ho pins s2 σ H2 x y v u _ I2 r1 r2 q2) λd s3 ⟨z,H3,I3,r3,k,e,q3⟩=>?_)) hm
 subst e;cases r3;refine wpAny_truthy_bool ?_;cases k with
 | false=>
  have(k',e',q'):=q3;cases e';exact ite_ff ⟨H3,I3,q'⟩
 | true=>
  refine ite_tt<|test_link<|aJ (hc pins s3 σ H3 _ I3 q3) λw' s4 ⟨z',H4,I4,r4,q4⟩=>aJ (dZ pins s4 σ H4 y z' u w' _ I4 r2 r4 q4) λd s5 hZ=>?_;have(z2,H5,I5,r5,k2,e2,q5):=hZ;subst e2;cases r5;refine wpAny_truthy_bool ?_;cases k2 with
  | false=>
   have(k',e',q'):=q5;cases e';exact ite_ff ⟨H5,I5,q'⟩
  | true=>
   refine ite_tt<|test_last<|aJ (hd pins s5 σ H5 _ I5 q5) λw2 s6 ⟨z3,H6,I6,r6,q6⟩=>aJ (qZ pins s6 σ H6 z' z3 w' w2 _ I6 r4 r6 q6) λd' s7 hZ=>?_;have(z4,H7,I7,r7,k3,e3,q7):=hZ;subst e3;cases r7;exact wpAny_truthy_bool ⟨H7,I7,q7⟩
theorem Vu{i0:CmpOp}{r r' mE:R2}(ho:bK X (compareOp op) r)(dZ:bK X (compareOp fV) r')(qZ:bK X (compareOp i0) mE)(ha:Wr (PE X a ta))(hb:Wr (PE X b tb))(hc:Wr (PE X c tc))(hd:Wr (PE X d td))(hm:lastMarks [op,fV,i0] [b,c,d]=false:=by rfl):
  Wr (PT X (.Compare a [op,fV,i0] [b,c,d] pos)<|pO<|CG r r' mE ta tb tc td):=⟨Vv ho dZ qZ ha.run hb.run hc.run hd.run hm⟩
end
section
def uA(f f' nX:U->U->Qb U)(ma mb mc md:ME):ME:=λρ=>(ma ρ).bind λp=>(mb p.2).bind λq=>(p.1.get q.2).bind λx=>(q.1.get q.2).bind λy=>(f x y).bind λr=>match r with
 | .d (.bool true)=>(mc q.2).bind λs=>(q.1.get s.2).bind λy'=>(s.1.get s.2).bind λz=>(f' y' z).bind λr'=>match r' with
  | .d (.bool true)=>(md s.2).bind λt=>(s.1.get t.2).bind λz'=>(t.1.get t.2).bind λv=>(nX z' v).bind λu=>some (.u u,t.2)
  | .d (.bool false)=>some (.u<|.d<|.bool false,s.2)
  | _=>none
 | .d (.bool false)=>some (.u<|.d<|.bool false,q.2)
 | _=>none
theorem UD{r r' mE:R2}{f f' nX:U->U->Qb U}{tc:TE}{ma mb mc md:ME}(h:VO K r f)(h':VO K r' f')(ZF:VO K mE nX)(ha:VE K ta ma)(hb:VE K tb mb)(hc:VE K tc mc)(hd:VE K td md):VE K (CG r r' mE ta tb tc td) (uA f f' nX ma mb mc md):=by
 intro ρ σ H a af Q rs e q;obtain⟨⟨a1,au⟩,e1,e⟩:=bQ e;obtain⟨⟨b1,aB⟩,e2,e⟩:=bQ e;have(x,ex,e):=bQ e;have(y,ey,e):=bQ e;have(rr,er,e):=bQ e;refine ha ρ σ H a1 au _ rs e1 λv1 H1 g1 k1=>hb au σ H1 b1 aB _ g1.rs e2 λv2 H2 g2 k2=>?_;refine h _ _ x y rr H2 _ (k1.later rs g1 g2 ex) (k2.now g1.rs g2 ey) er λv H3 s p n=>?_;have g3:=Go.grow g2.rs s;split at e
 .cases DF.bJ p
  refine⟨true,rfl,?_⟩;rw[if_pos rfl];obtain⟨⟨c1,iz⟩,e3,e⟩:=bQ e;have(y',Fb,e):=bQ e;have(z,ez,e):=bQ e;have(Yn,ZO,e):=bQ e;refine hc aB σ H3 c1 _ _ g3.rs e3 λv3 H4 g4 k4=>?_;refine h' _ _ y' z Yn H4 _ (k2.later g1.rs g2 (g3.trans g4) Fb) (k4.now g3.rs g4 ez) ZO λw H5 s5 p5 n5=>?_;have g5:=Go.grow g4.rs s5;split at e
  .cases DF.bJ p5
   refine⟨true,rfl,?_⟩;rw[if_pos rfl];obtain⟨⟨d1,c7⟩,e4,e⟩:=bQ e;have(z',E9,e):=bQ e;have(t,et,e):=bQ e;have(u,eu,e):=bQ e;cases e;refine hd iz σ H5 d1 _ _ g5.rs e4 λv5 H6 g6 k6=>?_;refine ZF _ _ z' t u H6 _ (k4.later g3.rs g4 (g5.trans g6) E9) (k6.now g5.rs g6 et) eu λw H7 s7 p7 n7=>?_;exact q w H7 ((((((g1.trans g2).trans g3).trans g4).trans g5).trans g6).trans<|Go.grow g6.rs s7) ⟨p7,n7.mono λb hb=>(g1.trans g2).dm b<|g3.dm b<|g4.dm b<|g5.dm b<|g6.dm b hb⟩
  .cases DF.bJ p5
   cases e;refine⟨false,rfl,?_⟩;rw[if_neg (by decide)];exact q _ H5 ((((g1.trans g2).trans g3).trans g4).trans g5) ⟨DF.bl _,Nw.data⟩
  .cases e
 .cases DF.bJ p
  cases e;refine⟨false,rfl,?_⟩;rw[if_neg (by decide)];exact q _ H3 ((g1.trans g2).trans g3) ⟨DF.bl _,Nw.data⟩
 .cases e
end
section
variable{f f' nX:U->U->Qb U}{ma mb mc md:ME}{ρ:En}{QE:Ar×En->Prop}
theorem Vt:uA f f' nX ma mb mc md ρ=(ma ρ).bind λp=>(mb p.2).bind λq=>(p.1.get q.2).bind λx=>(q.1.get q.2).bind λy=>(f x y).bind λr=>r.kK.bind λb=>if b=true then(mc q.2).bind λs=>(q.1.get s.2).bind λy'=>(s.1.get s.2).bind λz=>(f' y' z).bind λr'=>r'.kK.bind λb'=>if b'=true then(md s.2).bind λt=>(s.1.get t.2).bind λz'=>(t.1.get t.2).bind λv=>(nX z' v).bind λu=>some (.u u,t.2)else some (.u<|.d<|.bool false,s.2)else some (.u<|.d<|.bool false,q.2):=by
 unfold uA;have key:∀ {β:Type} (r:U) (X Y:Qb β),(match r with | .d (.bool true)=>X | .d (.bool false)=>Y|_=>none)=r.kK.bind λb=>if b=true then X else Y:=by
  intro β r X Y;cases r with
  | d x=>
   cases x with
   | bool b=>cases b<;>rfl
   | _=>rfl
  | _=>rfl
 simp only[key]
theorem XU:Wo (uA f f' nX ma mb mc md ρ) QE=Wo (ma ρ) (Co (λp=>(mb p.2).bind λq=>(p.1.get q.2).bind λx=>(q.1.get q.2).bind λy=>(f x y).bind λr=>r.kK.bind λb=>if b=true then(mc q.2).bind λs=>(q.1.get s.2).bind λy'=>(s.1.get s.2).bind λz=>(f' y' z).bind λr'=>r'.kK.bind λb'=>if b'=true then(md s.2).bind λt=>(s.1.get t.2).bind λz'=>(t.1.get t.2).bind λv=>(nX z' v).bind λu=>some (.u u,t.2)else some (.u<|.d<|.bool false,s.2)else some (.u<|.d<|.bool false,q.2)) ⟨0⟩ QE):=by rw[Vt,zj]
end
end L2
namespace HT
open PySem PySem.Spec PyProof.Rows
section
variable{prog:Program} {w:World} {A:Around} {E:Value->Shared->Prop} {s:Shared}
end
end HT
namespace L2
open PySem PySem.Spec PyProof.Rows
section
variable{X:Cx}{st:Expr}{ts:TE}{p2:Pos}
end
section
end
section
end
section
end
end L2
namespace L2
open PySem PySem.Calls PySem.Spec PyProof.Rows
section
variable{s:Qd}
end
section
end
end L2
namespace L2
open PySem PySem.Spec PyProof.Rows
section
variable{X:Cx}{CX:jP}{f C:Qg}{dvs:Qa V}{ds:Qa Qc}{E:XK}{m:Str}{es:Qa Expr}
end
section
variable{X:Cx}{es:Qa Expr}
end
section
end
section
variable{s:Qd}
end
section
variable{X:Cx}
end
section
end
end L2
namespace L2
open PySem
section
variable{mA:MA}{ρ:En}{QI:Qa D×En->Prop}
end
end L2
namespace L2
open PySem PySem.Spec PyProof.Rows
open Classical in
def iF(i:Nat)(kG:Qa D)(mg:MG)(mb:MS):Qa D->En->Qb Fl
 | [],ρ=>if ρ[i]?=some (some<|.l kG)then some (.nx ρ)else none
 | d::ds,ρ=>if ρ[i]?=some (some<|.l kG)then(mg d ρ).bind λau=>(mb au).bind λf=>match f with
  | .nx aB=>iF i kG mg mb ds aB
  | .ct aB=>iF i kG mg mb ds aB
  | .bk aB=>some<|.nx aB
  | .rt u aB=>some<|.rt u aB
  | .ex x aB=>some (.ex x aB)else none
def pR(i:Nat)(mg:MG)(mb:MS):MS:=λρ=>match ρ[i]? with
 | some (some<|.l ds)=>iF i ds mg mb ds ρ
 | some (some<|.d<|.tuple ds)=>gD mg mb ds ρ
 | _=>none
section
variable{EX:cJ}
theorem CZ{kG ds:Qa D}{mg:MG}{mb:MS}{ρ:En}{f:Fl}(h:iF i kG mg mb ds ρ=some f):ρ[i]?=some (some<|.l kG):=by
 cases ds with
 | nil=>
  unfold iF at h;split at h
  .assumption
  .cases h
 | cons d ds=>
  unfold iF at h;split at h
  .assumption
  .cases h
theorem Oe{g:TG}{tb:TS}{mg:MG}{mb:MS}(hp:i∈pn)(hg:pD K pn g mg)(hb:VS K pn EX tb mb):VS K pn EX (wV (wF K<|kO i) g tb) (pR i mg mb):=by
 intro ai A av aA ρ σ H f D s e k;unfold pR at e;split at e
 .rename_i ds eu
  have(v,ev,p):=s.rs.rep i _ eu;have(a,us,rfl,h1,h2):=p;have sa:ai[i]?=some (some<|.ref a):=by rw[<-s.pin i hp]; exact ev
  refine⟨.ref a,ev,a,rfl,.inl ⟨⟨us,bE.of h1⟩,?_⟩⟩;refine⟨λj m aC H'=>m=ds.length - j/\j<=ds.length/\∃ af,Sn K pn ai A av H af aC H'/\iF i ds mg mb (ds.drop j) af=some f,⟨ds.length,by simp,Ä _,ρ,s.at,e⟩,?_⟩;rintro j m aC H' ⟨rfl,hj,af,s',el⟩;have now:∃ kA,H' a=some (.lst kA)/\aR K H' kA ds:=by
   have(v',e1,p'):=s'.rs.rep i _ (CZ el);have(a',kA,rfl,q1,q2):=p';have:some (some<|V.ref a')=some (some<|V.ref a):=by rw[<-e1,s'.pin i hp,sa]
   cases this;exact⟨kA,q1,q2⟩
  have(kA,q1,q2):=now
  by_cases eB:j < ds.length
  .rw[List.drop_eq_getElem_cons eB]at el
   have jc:=el;unfold iF at jc;rw[if_pos<|CZ el]at jc;have(aB,e2,jc):=bQ jc;have(fb,eb,jc):=bQ jc;have(x,ex,dx):=q2.get (ql eB);refine .inr ⟨⟨kA,x,bE.of q1,ex⟩,λd9 H3=>∃ iz,Sn K pn ai A av H iz d9 H3/\iF i ds mg mb (ds.drop<|j+1) iz=some f,λd9 H3 ⟨iz,s3,e3⟩=>⟨ds.length - (j+1),by omega,rfl,eB,iz,s3,e3⟩,λy H2 hy=>?_⟩;have(rfl,hy):=hy;have:=hy kA (bE.of q1);rw[ex]at this;cases this;refine hg.run ai A av H af aC H2 x ds[j] aB _ s' dx e2 λd9 s3=>?_;refine hb ai A av H aB d9 H2 fb _ s3 eb ?_;cases fb with
   | nx c7=>exact λdS H4 s4=>⟨c7,s4,jc⟩
   | ct c7=>exact λdS H4 s4=>⟨c7,s4,jc⟩
   | bk c7=>cases jc; exact λdS H4 s4=>k dS H4<|s4.re s.kp
   | rt u c7=>cases jc; exact λv dS H4 s4 p n=>k v dS H4 (s4.re s.kp) p n
   | ex x c7=>cases jc; exact λa dS H4 s4 p n=>k a dS H4 (s4.re s.kp) p n
  .have ej:j=ds.length:=by omega
   subst ej;rw[List.drop_length]at el;have jc:=el;unfold iF at jc;rw[if_pos<|CZ el]at jc;cases jc;exact .inl ⟨⟨kA,bE.of q1,by rw[q2.len]; exact qe _⟩,k aC H'<|s'.re s.kp⟩
 .rename_i ds eu
  have g1:ze i ρ=some (.s i,ρ):=by unfold ze; rw[eu]
  have g2:Ar.get ρ (.s i)=some (.d<|.tuple ds):=by show(ρ[i]?).join=_; rw[eu]; rfl
  have e':jk (j9 wD<|ze i) mg mb ρ=some f:=by
   simp only[jk,j9,g1,Option.bind_some,g2,wD];exact e
  exact lY (Py zc) hg hb ai A av aA ρ σ H f D s e' k
 .cases e
end
section
variable{mg:MG}{mb:MS}{ρ:En}{Q:Fl->Prop}
theorem Od{ds:Qa D}(h:ρ[i]?=some (some<|.l ds)):pR i mg mb ρ=iF i ds mg mb ds ρ:=by unfold pR; rw[h]
theorem Oc{ds:Qa D}(h:ρ[i]?=some (some<|.d<|.tuple ds)):pR i mg mb ρ=gD mg mb ds ρ:=by unfold pR; rw[h]
theorem UC{kG:Qa D}(P:Nat->En->Prop){ds:Qa D}(h0:P 0 ρ)(hP:∀ i' ρ,P i' ρ->ρ[i]?=some (some<|.l kG))(st:∀ i d ρ,ds[i]?=some d->P i ρ->Wo (mg d ρ) (Co mb ⟨0⟩<|lW Q<|P<|i+1))(hQ:∀ ρ,P ds.length ρ->Q (.nx ρ)):Wo (iF i kG mg mb ds ρ) Q:=by
 have main:∀ (es:Qa D) (n:Nat) (ρ:En),n+es.length=ds.length->(∀ j,es[j]?=ds[n+j]?)->P n ρ->Wo (iF i kG mg mb es ρ) Q:=by
  intro es
  induction es with
  | nil=>
   intro n ρ hn _ hp;unfold iF;rw[if_pos<|hP n ρ hp,zX];rw[List.length_nil,Nat.add_zero]at hn;exact hQ ρ<|hn▸hp
  | cons d es ih=>
   intro n ρ hn he hp;have e0:=he 0;rw[List.getElem?_cons_zero,Nat.add_zero]at e0;have(au,e1,f,e2,k):=st n d ρ e0.symm hp;have jE:∀ aB,P (n+1) aB->Wo (iF i kG mg mb es aB) Q:=λaB z=>ih (n+1) aB (by rw[qt]at hn; omega) (λj=>by
    have:=he (j+1);rw[List.getElem?_cons_succ]at this;rw[this,show n+(j+1)=n+1+j by omega]) z
   unfold iF;rw[if_pos<|hP n ρ hp,zj];refine⟨au,e1,?_⟩;rw[iT,zj];refine⟨f,e2,?_⟩;rw[iT];cases f with
   | nx aB=>exact jE aB k
   | ct aB=>exact jE aB k
   | bk aB=>exact⟨_,rfl,k⟩
   | rt u aB=>exact⟨_,rfl,k⟩
   | ex x aB=>exact⟨_,rfl,k⟩
 exact main ds 0 ρ (by omega) (λj=>by rw[Nat.zero_add]) h0
end
end L2
namespace L2
open PySem PySem.Spec PyProof.Rows
section
variable{X:Cx}{s:Qd}{xs:Qa Str}{ts:Qa Str}{fp:Qa Qg}
end
section
variable{ρ af au:En}{H1:Hp}
def vX(nt:Nat)(mg:MG)(mt:MT)(mk mv:ME):Qa D->En->Qa (Qa Key×D)->Qb (Qa (Qa Key×D)×En)
 | [],ρ,ys=>some (ys,ρ)
 | d::ds,ρ,ys=>if ys.length < sizeLine then(mg d ρ).bind λau=>(mt au).bind λb=>if b.1=true then(mk b.2).bind λp=>(mv p.2).bind λq=>(p.1.get q.2).bind λuk=>(q.1.get q.2).bind λuv=>uk.da.bind λdk=>uv.da.bind λdv=>(Gz dk).bind λk=>
   vX nt mg mt mk mv ds (reset nt q.2) (FQ ys k dv)else vX nt mg mt mk mv ds (reset nt b.2) ys else none
end
section
variable{s:Qd}{d:Qg}
end
section
variable{X:Cx}
end
section
variable{X:Cx}{s:Qd}{C:Qg}{fs:Qa (Str×V)}
end
section
variable{X:Cx}{value:Expr}
end
section
variable{X:Cx}{C:Qg}{fl:Qa Str}{es:Qa Expr}
end
section
variable{n:Str}{C:Qg}{fl:Qa Str}
end
section
variable{X:Cx}
theorem Iz:∀ (ns:Qa Int),aR K H (ns.map V.int)<|ns.map PyData.int
 | []=>.nil
 | n::ns=>.cons (.int n)<|Iz ns
theorem GX{g:Qg}(gt:mW K g ns)(hn:ns≠[]:=by decide):VE K (tC<|.ref g) (mC<|.tuple<|ns.map PyData.int):=by
 intro ρ σ H a af Q rs e q;cases e;have(o,i,n,z1,z2,z3,z4,z5):=gt;refine q _ _ (Go.refl rs) ⟨DF.tup (.inr ⟨o,i,n,z1,z2,z3,z4,z5,?_⟩)<|Iz ns,Nw.data⟩;cases ns with
 | nil=>exact absurd rfl hn
 | cons a r=>exact⟨a,_,rfl⟩
end
section
variable{c:β->D}{mI:MI}{mg:MG}{mt:MT}{mk mv me ma:ME}{mA:MA}{ρ:En}{QE:Ar×En->Prop}{QT:Bool×En->Prop}
def ML(nt:Nat)(mk mv:ME)(ys:Qa (Qa Key×D))(P:En->Qa (Qa Key×D)->Prop)(p:Bool×En):Prop :=
 if p.1=true then Wo (mk p.2) (Co (λp=>(mv p.2).bind λq=>(p.1.get q.2).bind λuk=>(q.1.get q.2).bind λuv=>uk.da.bind λdk=>uv.da.bind λdv=>(Gz dk).bind λk=>some (reset nt q.2,FQ ys k dv)) ⟨0⟩ λz=>P z.1 z.2)else P (reset nt p.2) ys
def ZU(l:Pq β):Pq β:=l.foldl (λys t=>tO ys t.1 t.2) []
theorem UB{g:α->D}{b:α->Bool}{k:α->Qa Int}{v:α->β}{as:Qa α}{Q:Qa (Qa Key×D)×En->Prop}(hz:as.length<=16777216)
  (st:∀ a∈as,∀ ys:Pq β,Wo (mg (g a) ρ)<|Co mt ⟨0⟩<|ML nt mk mv (sS c ys) λaf zs=>af=ρ/\zs=sS c (if b a=true then tO ys (k a) (v a)else ys))
  (q:Q (sS c<|ZU<|(as.filter b).map λa=>(k a,v a),ρ)):Wo (vX nt mg mt mk mv (as.map g) ρ []) Q:=by
 have main:∀ (es:Qa α) (acc:Pq β),(∀ a∈es,a∈as)->acc.length+es.length<=16777216->Q (sS c<|((es.filter b).map λa=>(k a,v a)).foldl (λys t=>tO ys t.1 t.2) acc,ρ)->Wo (vX nt mg mt mk mv (es.map g) ρ<|sS c acc) Q:=by
  intro es
  induction es with
  | nil=>intro acc _ _ q; exact⟨_,rfl,q⟩
  | cons a es ih=>
   intro acc hm hl q;rw[qt]at hl;obtain⟨au,e1,⟨bb,aB⟩,e2,kk⟩:=st a (hm a qo) acc;rw[List.map_cons];unfold vX;rw[if_pos (by rw[Oi]; show _ < 16777216; omega),zj];refine⟨au,e1,?_⟩;rw[iT,zj];refine⟨_,e2,?_⟩;rw[iT];rw[List.filter_cons]at q;have pl:=RG acc (k a) (v a);cases bb with
   | false=>
    have(e3,e4):=kk;rw[if_neg qf,e3,e4]
    by_cases hb:b a=true
    .rw[if_pos hb]
     rw[if_pos hb]at q;exact ih _ (λx hx=>hm x<|qm _ hx) (by omega) q
    .rw[if_neg hb]
     rw[if_neg hb]at q;exact ih _ (λx hx=>hm x<|qm _ hx) (by omega) q
   | true=>
    rw[if_pos rfl,zj];have(p,e3,kk):=kk;refine⟨p,e3,?_⟩;rw[iT];have(z,e4,e5,e6):=kk;have(q1,f1,e4):=bQ e4;have(uk,f2,e4):=bQ e4;have(uv,f3,e4):=bQ e4;have(dk,f4,e4):=bQ e4;have(dv,f5,e4):=bQ e4;have(kk,f6,e4):=bQ e4;cases e4;rw[f1,bd,f2,bd,f3,bd,f4,bd,f5,bd,f6,bd];dsimp only at e5 e6;rw[e5,e6]
    by_cases hb:b a=true
    .rw[if_pos hb]
     rw[if_pos hb]at q;exact ih _ (λx hx=>hm x<|qm _ hx) (by omega) q
    .rw[if_neg hb]
     rw[if_neg hb]at q;exact ih _ (λx hx=>hm x<|qm _ hx) (by omega) q
 exact main as [] (λ_ h=>h) (by simpa using hz) q
end
section
variable{X:Cx}{i v f:Expr}{ty tx:TE}(K:qc)(hK:X.K=K)
include hK
end
section
variable{s:Qd}
end
section
variable{s:Qd}
end
section
variable{d:Drawn}{t:Nat}{items:Array Qc}{sl:Array (Qb Qc)}
end
section
variable{X:Cx}{D:Qg}{xs:Qa V}{R:Result->Qd->Prop}
end
section
variable{X:Cx}
end
section
end
end L2
namespace L2
open PySem PySem.Calls PySem.Spec PyProof.Rows
section
variable{s:Qd}
end
section
end
end L2
namespace L2
open PySem PySem.Spec PyProof.Rows
section
variable{X:Cx}
end
section
end
section
variable{X:Cx}
end
section
variable{X:Cx}
end
section
variable{s:Qd}{d:Qg}
end
section
variable{X:Cx}
end
section
end
theorem FC:∀ {us:Qa α},us.length=1->∃ a,us=[a]
 | [a],_=>⟨a,rfl⟩
theorem tL:∀ {us:Qa α},us.length=2->∃ a b,us=[a,b]
 | [a,b],_=>⟨a,b,rfl⟩
theorem FA:∀ {us:Qa α},us.length=3->∃ a b c,us=[a,b,c]
 | [a,b,c],_=>⟨a,b,c,rfl⟩
theorem Fy:∀ {us:Qa α},us.length=4->∃ a b c d,us=[a,b,c,d]
 | [a,b,c,d],_=>⟨a,b,c,d,rfl⟩
theorem Fx:∀ {us:Qa α},us.length=5->∃ a b c d e,us=[a,b,c,d,e]
 | [a,b,c,d,e],_=>⟨a,b,c,d,e,rfl⟩
structure Zs where
 P:Qe
 w:Qh
 K:qc
 mg:Str->Qb Qc
 base:Heap
def fA(K:qc)(x:Str)(st:Stmt):Prop:=∃ (f:Qg) (fd:FuncData),jh K x x st f fd/\PySem.W.nsIn K mainGlobals x=some (some<|.ref f)
theorem ZJ{f:Qg}{oc:Qc}{od an:Qb Qg}{kV doc pm aO ct:Qc}(a:PySem.W.nsIn K mainGlobals x=some (some<|.ref f))(l:K.lookup f=some ⟨oc,od,.func<|PySem.W.fnOf x x (jx st) (fE st) (zo st) .none kV doc pm an aO ct,iK⟩)
  (c:PySem.W.codeIn K aO x=true) (k:PySem.W.keepIn K (.ref f)=true):fA K x st:=⟨f,_,CC l c k,a⟩
def fJ(Z:Zs)(x:Str)(st:Stmt):Prop:=∃ (f:Qg) (fd:FuncData),jh Z.K x x st f fd/\Z.mg x=some (.ref f)
theorem fA.z(a:fA K x st)(X:K.In h)(G:h.Ns mainGlobals mg):fJ ⟨P,w,K,mg,base⟩ x st:=by
 have(f,fd,F,g):=a;exact⟨f,fd,F,Ë X G g⟩
abbrev Zs.C(Z:Zs)(x:Str)(k:Nat)(ps:Qa Str)(n:Nat)(F:FD):Prop:=Fs Z.P Z.w Z.K Z.mg Z.base x k ps (nF Z.K n F)
abbrev Zs.X(Z:Zs)(x:Str)(k:Nat)(ps:Qa Str)(n:Nat)(F:FX):Prop:=rE Z.P Z.w Z.K Z.mg Z.base x k ps (uX Z.K n F)
section
variable{Z:Zs}{m:MS}{f:Qg}
abbrev F6(Z:Zs)(x:Str)(st:Stmt)(k:Nat)(pn:Qa Nat)(m:MS)(N:Qa Str)(f:Qg):Prop:=∀ {aO:Qc} {A:Qf} {outer:Qa Env} {s:Qd} {H:Hp} {E:XK},N.Nodup->aE k (A.deeper<|envOfC x (zo st) s.heap.objs.size f aO)->
 ∃ t,VS Z.K pn AK t m/\Wr (cW (iE gN Z.P Z.w Z.K Z.mg Z.base N x (zo st) f aO A outer s H E).qO (fE st) t)
abbrev F5(Z:Zs)(x:Str)(st:Stmt)(k:Nat)(pn:Qa Nat)(m:MS)(N:Qa Str)(f:Qg):Prop:=∀ {aO:Qc} {A:Qf} {outer:Qa Env} {s:Qd} {H:Hp} {E:XK},N.Nodup->aE k (A.deeper<|envOfC x (zo st) s.heap.objs.size f aO)->
 iS (iE (jO Z.P Z.w Z.K) Z.P Z.w Z.K Z.mg Z.base N x (zo st) f aO A outer s H E) (rD E)->
 ∃ t,VS Z.K pn (rD E) t m/\Wr (cW (iE (jO Z.P Z.w Z.K) Z.P Z.w Z.K Z.mg Z.base N x (zo st) f aO A outer s H E) (fE st) t)
theorem KS(F:jh Z.K x x st f fd)(N:Qa Str)(aX:F6 Z x st k pn m N f)(S:aQ N ps (zo st):=by exact⟨rfl,rfl,rfl,by decide +kernel,rfl,by decide +kernel,by decide +kernel⟩)(o9:ps.length=n:=by rfl)(hN:N.length=nn:=by rfl)(jI:n<=nn:=by decide):
  bp Z.P Z.w Z.K Z.mg Z.base gN (k+1) f fd ps (nF Z.K n<|eK nn pn m):=F.Yt S o9 hN jI λaO A outer s H E hr=>let ⟨t,a,b⟩:=aX S.nd hr; ⟨t,b,a⟩
theorem gP(A:fJ Z x st)(N:Qa Str)(aX:∀ {f},F6 Z x st k pn m N f)(S:aQ N ps (zo st):=by exact⟨rfl,rfl,rfl,by decide +kernel,rfl,by decide +kernel,by decide +kernel⟩)(o9:ps.length=n:=by rfl)(hN:N.length=nn:=by rfl)(jI:n<=nn:=by decide)
  (hb:∀ (kV doc pm:Qc) (an:Qb Qg) (aO ct:Qc) (us:Qa Qc),us.length=ps.length->bindArgs (PySem.W.fnOf x x (jx st) (fE st) (zo st) .none kV doc pm an aO ct) ⟨us,[]⟩=pure (ps.zip us):=by
   intro _ _ _ _ _ _ us hl
   first
   | (have(_,rfl):=FC hl; rfl)
   | (have(_,_,rfl):=tL hl; rfl)
   | (have(_,_,_,rfl):=FA hl; rfl)
   | (have(_,_,_,_,rfl):=Fy hl; rfl)
   | (have(_,_,_,_,_,rfl):=Fx hl; rfl)
   | (cases(List.eq_nil_of_length_eq_zero hl); rfl)):Z.C x (k+1) ps n (eK nn pn m):=
 let ⟨f,fd,F,g⟩:=A; ⟨⟨f,fd,KS F N aX S o9 hN jI,F.binds hb,F.kp,g⟩⟩
theorem MK(A:fJ Z x st)(N:Qa Str)(aX:∀ {f},F5 Z x st k pn m N f)(S:aQ N ps (zo st):=by exact⟨rfl,rfl,rfl,by decide +kernel,rfl,by decide +kernel,by decide +kernel⟩)(o9:ps.length=n:=by rfl)(hN:N.length=nn:=by rfl)(jI:n<=nn:=by decide)
  (hb:∀ (kV doc pm:Qc) (an:Qb Qg) (aO ct:Qc) (us:Qa Qc),us.length=ps.length->bindArgs (PySem.W.fnOf x x (jx st) (fE st) (zo st) .none kV doc pm an aO ct) ⟨us,[]⟩=pure (ps.zip us):=by
   intro _ _ _ _ _ _ us hl
   first
   | (have(_,rfl):=FC hl; rfl)
   | (have(_,_,rfl):=tL hl; rfl)
   | (have(_,_,_,rfl):=FA hl; rfl)
   | (have(_,_,_,_,rfl):=Fy hl; rfl)
   | (have(_,_,_,_,_,rfl):=Fx hl; rfl)
   | (cases(List.eq_nil_of_length_eq_zero hl); rfl)):Z.X x (k+1) ps n (pG nn pn m):=
 let ⟨f,fd,F,g⟩:=A; ⟨⟨f,fd,F.D1 S o9 hN jI λaO A outer s H E hr hx=>let ⟨t,a,b⟩:=aX S.nd hr hx; ⟨t,b,a⟩,F.binds hb,F.kp,g⟩⟩
end
section
variable{ρ:En}
end
end L2
namespace L2
open PySem
section
variable{a:α}{f:α->Qb β}{R:β->Prop}{t:Ph f}
theorem Ro:Wo (some a) (Co f t R)=Wo (f a) R:=zX
theorem Rn{x:Fl}{Q:Fl->Prop}{P:En->Prop}:Wo (some x) (lW Q P)=lW Q P x:=zX
end
end L2
namespace L2
open PySem PySem.Spec PyProof.Rows
section
variable{d:Drawn}{t:Nat}{items:Array Qc}{sl:Array (Qb Qc)}
end
section
variable{X:Cx}{D:Qg}{xs:Qa V}{R:Result->Qd->Prop}
end
section
variable{X:Cx}
end
end L2
namespace L2
open PySem PySem.Spec
def Tt(b:Bool):Prop:=b=true
theorem Rm{b:Bool}(h:b=true):Tt b:=h
def tz(ρ:En)(i:Nat):Bool:=((ρ[i]?).join).isSome
def gt(ρ:En)(i:Nat):U:=((ρ[i]?).join).getD (.d .none)
theorem NW{ρ:En}:gt ρ i=((ρ[i]?).join).getD (.d .none):=rfl
theorem NV{u v:U}:(some u:Qb U).getD v=u:=rfl
theorem HA{ρ:En}(h:tz ρ i=true):(ρ[i]?).join=some (gt ρ i):=by
 unfold tz at h;unfold gt;cases e:(ρ[i]?).join with
 | none=>rw[e]at h; cases h
 | some u=>rfl
def rA(ρ:En):Ar->Bool
 | .s i=>tz ρ i
 | .u _=>true
def ag(ρ:En):Ar->U
 | .s i=>gt ρ i
 | .u x=>x
theorem NU{ρ:En}:ag ρ (.s i)=gt ρ i:=rfl
theorem NT{ρ:En}{x:U}:ag ρ (.u x)=x:=rfl
theorem xU{ρ:En}{a:Ar}(h:rA ρ a=true):a.get ρ=some (ag ρ a):=by
 cases a with
 | s i=>exact HA h
 | u x=>rfl
def gs(ρ:En)(as:Qa Ar):Qa U:=as.map (ag ρ)
theorem NS{ρ:En}:gs ρ []=[]:=rfl
theorem NR{ρ:En}{a:Ar}{as:Qa Ar}:gs ρ (a::as)=ag ρ a::gs ρ as:=rfl
theorem Cc{ρ:En}:∀ {as:Qa Ar},as.all (rA ρ)=true->bO ρ as=some (gs ρ as)
 | [],_=>rfl
 | a::as,h=>by
  rw[List.all_cons,Bool.and_eq_true_iff]at h;rw[JG,xU h.1,bd,Cc h.2];rfl
def AE(m:En->Qb α)(ρ:En):Qb α:=m ρ
def Cu(ρ:En)(t:Ph ρ)(Q:Ar×En->Prop)(u:U):Prop:=Q (.u u,ρ)
def Cw(ρ:En)(as:Qa Ar)(t:Ph ρ)(Q:Ar×En->Prop)(o:U×Qa U):Prop:=Q (.u o.1,wb ρ as o.2)
def Ec(f:U->Qb U)(p:Ar×En):Qb (Ar×En):=(p.1.get p.2).bind λx=>(f x).bind λu=>some (.u u,p.2)
def F4(mA:MA)(p:Ar×En):Qb (Qa Ar×En):=(mA p.2).bind λq=>some (p.1::q.1,q.2)
def GH(a:Ar)(q:Qa Ar×En):Qb (Qa Ar×En):=some (a::q.1,q.2)
def Ef(f:Qa U->Qb U)(p:Qa Ar×En):Qb (Ar×En):=(bO p.2 p.1).bind λus=>(f us).bind λu=>some (.u u,p.2)
def AU(f:FD)(p:Qa Ar×En):Qb (Ar×En):=if fB p.2 p.1=true then(bO p.2 p.1).bind λus=>(f us).bind λo=>some (.u o.1,wb p.2 p.1 o.2)else none
def AS(i:Nat)(p:Ar×En):Qb Fl:=(put p).bind λq=>some<|.nx<|q.2.set i<|some q.1
def kB(p:Ar×En):Qb (Bool×En):=(p.1.get p.2).bind λu=>u.kK.bind λb=>some (b,p.2)
def Ae(m1 m2:MS)(p:Bool×En):Qb Fl:=if p.1=true then m1 p.2 else m2 p.2
def Bx(p:Ar×En):Qb Fl:=some (.nx p.2)
section
variable{γ:Type}{ρ:En}{ma mb me:ME}{mA:MA}{mt:MT}{m1 m2:MS}{u x y:U}{d:D}{a b:Ar}{as:Qa Ar}{f:U->Qb U}{f2:U->U->Qb U}{fl:Qa U->Qb U}{F:FD}
variable{QE:Ar×En->Prop}{QA:Qa Ar×En->Prop}{QT:Bool×En->Prop}{QS:Fl->Prop}
theorem Rl{m:En->Qb α}{Q:α->Prop}:Wo (AE m ρ) Q=Wo (m ρ) Q:=rfl
theorem Rk{g:Ar×En->Qb β}{t:Ph ρ}{t2:Ph g}{R:β->Prop}:Cu ρ t (Co g t2 R) u=Wo (g (.u u,ρ)) R:=rfl
theorem Tr{g:Ar×En->Qb β}{t:Ph g}{R:β->Prop}(h:Tt (tz ρ i)):Wo (ze i ρ) (Co g t R)=Wo (g (.s i,ρ)) R:=by
 rw[HN,HA h,zX,iT,zX];rfl
theorem NQ{g:Ar×En->Qb β}{t:Ph g}{R:β->Prop}:Wo (mC d ρ) (Co g t R)=Wo (g (.u<|.d d,ρ)) R:=FU
theorem V9(h:Tt (rA ρ a && rA ρ b)):Wo (wG f2 a (b,ρ)) QE=Wo (f2 (ag ρ a)<|ag ρ b) (Cu ρ ⟨0⟩ QE):=by
 have(h1,h2):=Bool.and_eq_true_iff.mp h;unfold wG;rw[xU h1,bd,xU h2,bd,zj];exact congrArg (Wo _)<|funext λ_=>zX
theorem Rj:Wo (cn f ma ρ) QE=Wo (ma ρ) (Co (Ec f) ⟨0⟩ QE):=Nu
theorem Tq(h:Tt (rA ρ a)):Wo (Ec f (a,ρ)) QE=Wo (f<|ag ρ a) (Cu ρ ⟨0⟩ QE):=by
 unfold Ec;rw[xU h,bd,zj];exact congrArg (Wo _)<|funext λ_=>zX
theorem Wz:Wo (zb me mA ρ) QA=Wo (me ρ) (Co (F4 mA) ⟨0⟩ QA):=RQ
theorem WU:Wo (F4 mA (a,ρ)) QA=Wo (mA ρ) (Co (GH a) ⟨0⟩ QA):=zj
theorem XS{g:Qa Ar×En->Qb β}{t:Ph g}{R:β->Prop}:Wo (GH a (as,ρ)) (Co g t R)=Wo (g (a::as,ρ)) R:=zX
theorem Tp{g:Qa Ar×En->Qb β}{t:Ph g}{R:β->Prop}:Wo (zk ρ) (Co g t R)=Wo (g ([],ρ)) R:=HM
theorem Ri:Wo (cw fl mA ρ) QE=Wo (mA ρ) (Co (Ef fl) ⟨0⟩ QE):=Nt
theorem To(h:Tt (as.all<|rA ρ)):Wo (Ef fl (as,ρ)) QE=Wo (fl<|gs ρ as) (Cu ρ ⟨0⟩ QE):=by
 unfold Ef;rw[Cc h,bd,zj];exact congrArg (Wo _)<|funext λ_=>zX
theorem Tn:Wo (be F mA ρ) QE=Wo (mA ρ) (Co (AU F) ⟨0⟩ QE):=Pc
theorem Wx(h:Tt (fB ρ as && as.all (rA ρ))):Wo (AU F (as,ρ)) QE=Wo (F<|gs ρ as) (Cw ρ as ⟨0⟩ QE):=by
 have(h1,h2):=Bool.and_eq_true_iff.mp h;unfold AU;rw[if_pos h1,Cc h2,bd,zj];exact congrArg (Wo _)<|funext λ_=>zX
theorem Rh{us:Qa U}{g:Ar×En->Qb β}{t:Ph ρ}{t2:Ph g}{R:β->Prop}:Cw ρ as t (Co g t2 R) (u,us)=Wo (g (.u u,wb ρ as us)) R:=rfl
theorem Tj:Wo (zS i me ρ) QS=Wo (me ρ) (Co (AS i) ⟨0⟩ QS):=Pb
theorem Ww{t:Ph (kj m2)}:Wo (AS i (.u u,ρ)) (Co (kj m2) t QS)=Wo (AE m2<|ρ.set i<|some u) QS:=zX
theorem NP:Wo (mB me ρ) QT=Wo (me ρ) (Co kB ⟨0⟩ QT):=MN
theorem Rg{c:Bool}{g:Bool×En->Qb β}{t:Ph g}{R:β->Prop}:Wo (kB (.u<|.d<|.bool c,ρ)) (Co g t R)=Wo (g (c,ρ)) R:=zX
theorem Ti:Wo (bL mt m1 m2 ρ) QS=Wo (mt ρ) (Co (Ae m1 m2) ⟨0⟩ QS):=PM
theorem Th:Wo (Ae m1 m2 (true,ρ)) QS=Wo (m1 ρ) QS:=rfl
theorem Tg:Wo (Ae m1 m2 (false,ρ)) QS=Wo (m2 ρ) QS:=rfl
theorem Wv:Wo (eF me ρ) QS=Wo (me ρ) (Co Bx ⟨0⟩ QS):=RP
theorem WT{t:Ph (kj m2)}:Wo (Bx (a,ρ)) (Co (kj m2) t QS)=Wo (AE m2 ρ) QS:=zX
theorem Wu{t:Ph (kj m2)}:Wo (cv ρ) (Co (kj m2) t QS)=Wo (AE m2 ρ) QS:=IS
theorem Wt{p:Ar×En}:AS i p=(put p).bind λq=>some (.nx<|q.2.set i<|some q.1):=rfl
theorem Rf{p:Ar×En}:kB p=(p.1.get p.2).bind λu=>u.kK.bind λb=>some (b,p.2):=rfl
theorem Tf{p:Bool×En}:Ae m1 m2 p=if p.1=true then m1 p.2 else m2 p.2:=rfl
theorem WS{p:Ar×En}:Bx p=some (.nx p.2):=rfl
end
end L2
namespace L2
open PySem PySem.Spec PyProof.Rows
section
end
section
end
section
variable{ρ:En}{mk mv:ME}{QE:Ar×En->Prop}
end
section
variable{K:Type}[DecidableEq K]{knd:HeapKind prog w K}{s:Qd}
end
section
variable{X:Cx}{s:Qd}{b:Qg}
end
section
variable{EX:cJ}
end
section
variable{ρ:En}{my:ME}{QS:Fl->Prop}
end
section
end
abbrev KX(K:qc)(H:Hp):Qa (Qa K3×V)->Qa (Qa K3×Qg×Qc)->Prop:=Paired λp q=>p.1=q.1/\N3 K H p.1 q.2.1/\zQ p.2 q.2.2
section
variable{aL:Qa (Qa K3×V)}{xs:Qa (Qa K3×Qg×Qc)}
end
section
variable{X:Cx}{s:Qd}{y:V}{o:Qb V}{r:Qc}
end
section
variable{C:Qg}{ps:Qa (Qg×HO)}
end
section
variable{X:Cx}{es:Qa Expr}{to:TE}{id:String}{r:V->Qa V->Hp->VK->Prop}
end
section
variable{C b:Qg}{ps:Qa (Qg×HO)}{fs:Qa (Str×PU)}{p:HO}
end
section
variable{C b:Qg}{ps:Qa (Qg×HO)}{fs:Qa (Str×PU)}{p:HO}
end
def U.fl(c f:Str):U->Qb (Qa D)
 | .o c' fs=>if c'=c then(match fs.lookup f with|some (.l xs)=>some xs|_=>none)else none
 | _=>none
section
end
section
variable{X:Cx}{i value:Expr}{ty:TE}
end
section
end
def PP(K:qc)(H:Hp):HO->PU->Prop
 | .lst us,.l xs=>aR K H us xs
 | .dT us,.t xs=>mV K H us xs
 | .dX us,.x xs=>mV K H us xs
 | _,_=>False
def PU.part:PU->Bool
 | .d _=>false
 | _=>true
def U.fp(c f:Str):U->Qb PU
 | .o c' fs=>if c'=c then fs.lookup f else none
 | _=>none
section
variable{C b:Qg}{ps:Qa (Qg×HO)}{fs:Qa (Str×PU)}{p:HO}{u:PU}{ρ:En}{w:U}
end
def PU.xs:PU->Qb (Qa<|Qa K3×D)
 | .x aL=>some aL
 | _=>none
section
variable{ρ:En}{C b:Qg}{ps:Qa (Qg×HO)}{fs:Qa (Str×PU)}{p:HO}{tk:TE}{mk mv:ME}{EX:cJ}
end
section
variable{X:Cx}
end
def PU.ls:PU->Qb (Qa D)
 | .l xs=>some xs
 | _=>none
section
variable{ρ:En}{tk:TE}{mk mv:ME}
end
section
variable{C:Qg}
end
structure Fn (P:Qe) (w:Qh) (K:qc) (mg:Str->Qb Qc) (base:Heap) (c:Str) (m:Str) (k:Nat) (ps:Qa Str) (sp:Sp):Prop where
 ex:∃ (C f:Qg) (fd:FuncData),XN K c C/\AL K C/\bp P w K mg base gN k f fd ps sp/\jY K fd ps []/\Fk K C m f
section
variable{X:Cx}{m:Str}{C:Qg}{es:Qa Expr}
end
section
variable{ps:Qa (Qg×HO)}{fs:Qa (Str×PU)}{m:Str}{C:Qg}{ma:MA}
end
def Ob:TE:=λ_ H Q=>∀ p,H p=none->Q (.ref p) (upd H p<|.dX [])
section
variable{b:Qg}
end
def PU.new:PU->TE
 | .l _=>wO jo
 | .t _=>QK
 | _=>Ob
def PU.ho:PU->HO
 | .l _=>.lst []
 | .t _=>.dT []
 | _=>.dX []
def PU.nil:PU->Bool
 | .l []=>true
 | .t []=>true
 | .x []=>true
 | _=>false
section
variable{C:Qg}
end
section
variable{x C b:Qg}{ps:Qa (Qg×HO)}{fs fl:Qa (Str×PU)}{p:HO}{u:PU}
end
section
variable{C b l:Qg}{ps:Qa (Qg×HO)}
end
section
variable{tk:TE}{mk mv:ME}{EX:cJ}
end
section
variable{ρ:En}{mk mv me:ME}{ma:MA}{m:Str}{QE:Ar×En->Prop}{QS:Fl->Prop}{QT:Bool×En->Prop}{F:FD}{fl:Qa (Str×PU)}
end
abbrev Zs.M(Z:Zs)(c x:Str)(k:Nat)(ps:Qa Str)(n:Nat)(F:FD):Prop:=Fn Z.P Z.w Z.K Z.mg Z.base c x k ps (nF Z.K n F)
section
variable{Z:Zs}{q:Str}{m:MS}
end
section
variable{K:Type}[DecidableEq K]{knd:HeapKind prog w K}{s:Qd}
end
section
variable{X:Cx}
end
section
variable{EX:cJ}{ρ af:En}
end
section
variable{s:Qd}{d:Qg}
end
section
variable{R:Result->Qd->Prop}{s:Qd}{kx vx t1 i1 t2 i2:Expr}{it:Qc}{D:Qg}
end
section
variable{s:Qd}{d v:Qg}
end
section
variable{X:Cx}{H0:Hp}{R:Result->Qd->Prop}{res:Qc}{S d:Qg}{o:Obj}
end
section
variable{X:Cx}
end
section
end
section
variable{X:Cx}{s:Qd}{kx vx t1 i1 t2 i2:Expr}{D:Qg}{R:Result->Qd->Prop}
end
section
variable{X:Cx}{s:Qd}{xs:Qa Str}{ts:Qa Str}{fp:Qa Qg}
end
section
variable{ρ af c8 ρb:En}{kg:St}{A:Qg->Prop}{D:Qg}
end
section
variable{ρ af au:En}{H1:Hp}
end
section
variable{s:Qd}{z TI TO i1 i2 t1 t2:Qg}{xs ys:Array Qc}{x y a b:Qc}
end
section
variable{s:Qd}
end
section
variable{X:Cx}
end
section
variable{X:Cx}
end
section
variable{ρ:En}
end
section
variable{X:Cx}
end
section
variable{ρ:En}{mi me mk mv:ME}{QE:Ar×En->Prop}{QS:Fl->Prop}{QI:Qa D×En->Prop}
end
section
variable{rs ps xs:Qa D}{pl ml kv:Qa (Qa K3×D)}
end
section
variable{ρ:En}{QI:Qa D×En->Prop}
end
end L2
namespace L2
open PySem PySem.Spec PyProof.Rows
open PySem.AutoSeq1 (wpAny_loadPart')
open MeetsSeq MeetsSeq2 MeetsSeq3 SeqRoads2
end L2
namespace L2
open PySem PySem.Spec PyProof.Rows
section
end
section
variable{R:Result->Qd->Prop}{d B:Qg}{ks:Qa (Qa Int)}
end
section
variable{s:Qd}{d:Qg}{ks:Qa (Qa Int)}
end
section
variable{X:Cx}
end
def Cx.Ag(X:Cx):Cx:={X with A:=X.A.in1,xe:=λ_ _=>False}
section
variable{X:Cx}{s:Qd}
end
section
variable{X:Cx}{f:Qg}{R:Result->Qd->Prop}{B p:Qg}{vs:Qa V}{val:Qa (Int×Qa Int)}{Iv:Hp->Prop}
end
section
variable{X:Cx}{gp kpos:Pos}{g:Str}
end
section
end
section
variable{s:Qd}
end
section
end
section
end
section
variable{ρ:En}{my:ME}{QE:Ar×En->Prop}
end
end L2
namespace L2
open PySem PySem.Spec PySem.W PyProof.Rows
section
variable{s:Qd}{d:Qg}
end
section
variable{X:Cx}
end
section
end
end L2
namespace L2
open PySem PySem.Spec PyProof.Rows
section
variable{s:Qd}
end
section
variable{X:Cx}
end
section
end
section
section
variable{EX:cJ}{A:Qg->Prop}{kf:Hp}{ρ af:En}
end
end
end L2
namespace L2
open PySem PySem.Spec PySem.W PyProof.Rows
structure fg (prog:Qe) (w:Qh) (A:Qf) (s:Qd) (κ:SortKind) (ah:Array Keyed) (r:Keyed->Int):Prop where
 ask:∀ x∈ah.toList,∀ y∈ah.toList,∀ C:Bool->Qd->Prop,C (decide<|r x < r y) s->wpAny (model prog w) A (keyLt' κ x.1 y.1) C (λ_ _=>False) s
 nd:(ah.toList.map r).Nodup
structure SS (κ:SortKind) (ah:Array Keyed) (st:SortSt):Prop where
 perm:(arrOf st).Perm ah
 kind:kindOf st=κ
 failed:failedOf st=none
def R(r:Keyed->Int)(xs:Array Keyed)(i:Nat):Int:=match xs[i]? with
 | some x=>r x
 | none=>0
def Seg(r:Keyed->Int)(xs:Array Keyed)(lo hi:Nat):Prop:=∀ i j,lo<=i->i < j->j < hi->R r xs i < R r xs j
theorem iI{xs ys:Array Keyed}(h:xs[i]?=ys[j]?):R r xs i=R r ys j:=by unfold R; rw[h]
theorem du{xs:Array Keyed}{x:Keyed}(h:xs[i]?=some x):R r xs i=r x:=by unfold R; rw[h]
theorem Iy{xs:Array Keyed}{src d:Nat}(hs:src < xs.size)(hd:d<=src)(k:Nat):
  R r (bubble xs src d) k=if k=src - d then R r xs src else if src - d < k/\k<=src then R r xs (k - 1)else R r xs k:=by
 have e:=getElem?_bubble hs d hd k
 by_cases h1:k=src - d
 .rw[if_pos h1]at e ⊢; exact iI e
 .rw[if_neg h1]at e ⊢
  by_cases h2:src - d < k/\k<=src
  .rw[if_pos h2]at e ⊢; exact iI e
  .rw[if_neg h2]at e ⊢; exact iI e
theorem Te{xs:Array Keyed}(hj:j<=xs.size)(k:Nat):
  R r (mirror xs i j<|(j - i) / 2) k=if i<=k/\k < j then R r xs (i+j - 1 - k)else R r xs k:=by
 have e:=getElem?_mirror_all (i:=i) hj k
 by_cases h1:i<=k/\k < j
 .rw[if_pos h1]at e ⊢; exact iI e
 .rw[if_neg h1]at e ⊢; exact iI e
structure fY (lo hi:Nat) (st aq:SortSt):Prop where
 perm:(arrOf aq).Perm (arrOf st)
 out:∀ k,k < lo\/hi<=k->(arrOf aq)[k]?=(arrOf st)[k]?
 kind:kindOf aq=kindOf st
 failed:failedOf aq=failedOf st
 pend:pendingOf aq=pendingOf st
theorem fY.refl{lo:Nat}{st:SortSt}:fY lo hi st st:=⟨Array.Perm.refl _,λ_ _=>rfl,rfl,rfl,rfl⟩
theorem fY.trans{lo:Nat}{st b9:SortSt}(h:fY lo hi st aq)(h':fY lo hi aq b9):fY lo hi st b9 :=
 ⟨h'.perm.trans h.perm,λk hk=>(h'.out k hk).trans<|h.out k hk,h'.kind.trans h.kind,h'.failed.trans h.failed,h'.pend.trans h.pend⟩
theorem fY.wide{lo Ac hG:Nat}{st:SortSt}(h:fY lo hi st aq)(h1:Ac<=lo)(h2:hi<=hG):fY Ac hG st aq :=
 ⟨h.perm,λk hk=>h.out k (by omega),h.kind,h.failed,h.pend⟩
section
variable{s:Qd}{st:SortSt}{lo:Nat}
theorem SS.size(h:SS κ ah st):(arrOf st).size=ah.size:=h.perm.size_eq
theorem SS.chg(h:SS κ ah st)(c:fY lo hi st aq):SS κ ah aq:=⟨c.perm.trans h.perm,c.kind.trans h.kind,c.failed.trans h.failed⟩
theorem SS.mem(h:SS κ ah st){x:Keyed}(e:(arrOf st)[i]?=some x):x∈ah.toList :=
 (Ó.mp h.perm).mem_iff.mp (by have(hi,rfl):=Ç.mp e; simp)
theorem SS.at(h:SS κ ah st)(hi:i < ah.size):∃ x,(arrOf st)[i]?=some x:=⟨_,getElem?_pos _ i (by rw[h.size]; exact hi)⟩
theorem SS.ne(h:SS κ ah st)(S:fg prog w A s κ ah r)(hi:i < ah.size)(hj:j < ah.size)(e:i≠j):R r (arrOf st) i≠R r (arrOf st) j:=by
 have nd:((arrOf st).toList.map r).Nodup:=((Ó.mp h.perm).map r).nodup_iff.mpr S.nd;have(x,ex):=h.at hi;have(y,ey):=h.at hj;rw[du ex,du ey];intro z;have lx:i < ((arrOf st).toList.map r).length:=by simp[h.size,hi]
 have ly:j < ((arrOf st).toList.map r).length:=by simp[h.size,hj]
 have(_,e1):=Ç.mp ex;have(_,e2):=Ç.mp ey;have e3:((arrOf st).toList.map r)[i]=((arrOf st).toList.map r)[j]:=by simp[e1,e2,z]
 have pw:=Ï.mp nd;rcases Nat.lt_or_gt_of_ne e with eB|eB
 .exact pw i j lx ly eB e3
 .exact pw j i ly lx eB e3.symm
theorem tU{x y:Keyed}{Q:Qb Bool->SortSt->Prop}(S:fg prog w A s κ ah r)(hk:kindOf st=κ)(hx:x∈ah.toList)(hy:y∈ah.toList)(h:Q (some<|decide<|r x < r y) st):wpS (model prog w) A E s (lt' x y) Q st:=by
 rw[lt'_eq];refine wpS_bind<|wpS_get ?_;rw[hk];refine wpS_bind<|wpS_lift<|wpAny_attempt<|wpAny_mono (S.ask x hx y hy (λb s'=>s'=s/\b=decide (r x < r y)) ⟨rfl,rfl⟩) (λb s' hb=>?_) λ_ _ z=>z.elim;have(rfl,rfl):=hb;exact⟨rfl,wpS_pure h⟩
theorem eM{x:Keyed}{Q:Keyed->SortSt->Prop}(e:arr[i]?=some x)(h:Q x st):wpS (model prog w) A E s (elem' arr i) Q st:=by
 rw[elem'_eq,e];exact wpS_pure h
theorem ui{Q:Qb Bool->SortSt->Prop}(S:fg prog w A s κ ah r)(hB:SS κ ah st)(hi:i < ah.size)(hj:j < ah.size)(h:Q (some<|decide<|R r (arrOf st) i < R r (arrOf st) j) st):wpS (model prog w) A E s (ltAt' i j) Q st:=by
 have(x,ex):=hB.at hi;have(y,ey):=hB.at hj;rw[du ex,du ey]at h;rw[ltAt'_eq];refine wpS_bind<|wpS_get ?_;show wpS _ _ _ _ (do let x <-elem' (arrOf st) i; let y <-elem' (arrOf st) j; lt' x y) Q st;exact wpS_bind<|eM ex<|wpS_bind<|eM ey<|tU S hB.kind (hB.mem ex) (hB.mem ey) h
theorem NO{Q:Unit->SortSt->Prop}(hj:j<=(arrOf st).size)(h:∀ aq,fY i j st aq->(∀ k,R r (arrOf aq) k=if i<=k/\k < j then R r (arrOf st) (i+j - 1 - k)else R r (arrOf st) k)->Q () aq):wpS (model prog w) A E s (reverseSlice' i j) Q st:=by
 rw[reverseSlice'_eq];refine wpS_modify<|h _ ⟨mirror_perm _ _ _ _,λk hk=>?_,rfl,rfl,rfl⟩ λk=>Te hj k;show(mirror (arrOf st) i j<|(j - i) / 2)[k]?=_;rw[getElem?_mirror_all hj,if_neg (by omega)]
def L0(r:Keyed->Int)(xs:Array Keyed)(lo hi:Nat):Prop:=∀ i j,lo<=i->i < j->j < hi->R r xs j < R r xs i
theorem F3{a bH:Nat}{Q:AscSt->SortSt->Prop}{f:Nat->AscSt->StateT SortSt Sem (ForInStep AscSt)}(S:fg prog w A s κ ah r)(hn:lo+bH<=ah.size)(ha:1<=a)(Zo:a<=bH)(hB:SS κ ah st)
  (hs:Seg r (arrOf st) lo (lo+a)) (hf:∀ i c,f i c=(do
   let iu <-ltAt' (lo+c.snd) (lo+c.snd - 1)
   match iu with
   | some gq=>if gq=true then pure (ForInStep.done (none,c.snd))else pure (ForInStep.yield (none,c.snd+1))
   | _=>pure<|ForInStep.done (some none,c.snd)))
  (h:∀ n,a<=n->n<=bH->Seg r (arrOf st) lo (lo+n)->(n=bH\/R r (arrOf st) (lo+n) < R r (arrOf st) (lo+n - 1))->Q (none,n) st):
  wpS (model prog w) A E s (forIn [a:bH] (none,a) f) Q st:=by
 refine wpS_forRange (I:=λx c aq=>aq=st/\c=(none,x)/\Seg r (arrOf st) lo (lo+x)) ?step ?fin ⟨rfl,rfl,hs⟩
 case fin=>
  rintro c aq ⟨rfl,rfl,dJ⟩;rw[show max a bH=bH by omega]at dJ ⊢;exact h bH Zo (qe _) dJ<|.inl rfl
 case step=>
  rintro x c aq Lo YL ⟨rfl,rfl,dJ⟩;rw[hf];dsimp only;refine wpS_bind<|ui S hB (by omega) (by omega) ?_
  by_cases cC:R r (arrOf aq) (lo+x) < R r (arrOf aq) (lo+x - 1)
  .rw[decide_eq_true cC]
   simp only[if_true];exact wpS_pure<|h x Lo (by omega) dJ<|.inr cC
  .rw[decide_eq_false cC]
   simp only[Bool.false_eq_true,if_false];refine wpS_pure ⟨rfl,rfl,λi j mP d0 hj=>?_⟩
   by_cases EG:j < lo+x
   .exact dJ i j mP d0 EG
   .have lH:j=lo+x:=by omega
    subst lH;have ne:=hB.ne S (i:=lo+x) (j:=lo+x - 1) (by omega) (by omega) (by omega)
    by_cases hG:i=lo+x - 1
    .subst hG; omega
    .have:=dJ i (lo+x - 1) mP (by omega) (by omega)
     omega
theorem GG{bH:Nat}{Q:Qb Nat->SortSt->Prop}{f:Nat->AscSt->StateT SortSt Sem (ForInStep AscSt)}{T:AscSt->StateT SortSt Sem (Qb Nat)}(S:fg prog w A s κ ah r)(hn:lo+bH<=ah.size)(m1:2<=m)(m2:m<=bH)(hB:SS κ ah st)
  (hd:L0 r (arrOf st) lo (lo+m)) (hf:∀ i c,f i c=(do
   let iu <-ltAt' (lo+c.snd) (lo+c.snd - 1)
   match iu with
   | some gq=>if gq=true then pure (ForInStep.done (none,c.snd))else pure (ForInStep.yield (none,c.snd+1))
   | _=>pure<|ForInStep.done (some none,c.snd))) (hT:∀ n,T (none,n)=pure (some n))
  (h:∀ m aq,fY lo (lo+bH) st aq->1<=m->m<=bH->Seg r (arrOf aq) lo (lo+m)->Q (some m) aq):
  wpS (model prog w) A E s (do reverseSlice' lo (lo+m); let Fh <-forIn [m:bH] (none,m) f; T Fh) Q st:=by
 refine wpS_bind<|NO (r:=r) (by rw[hB.size]; omega) λbz c2 e2=>?_;refine wpS_bind<|F3 S hn (by omega) m2 (hB.chg c2) (λi j mP d0 hj=>?_) hf λk k1 k2 hk _=>?_
 .rw[e2,e2,if_pos (by omega),if_pos (by omega)]
  exact hd _ _ (by omega) (by omega) (by omega)
 .rw[hT]
  exact wpS_pure<|h k bz (c2.wide (qe _) (by omega)) (by omega) k2 hk
theorem WN{bH:Nat}{Q:Qb Nat->SortSt->Prop}(S:fg prog w A s κ ah r)(hn:lo+bH<=ah.size)(h1:1<=bH)(hB:SS κ ah st)
  (h:∀ m aq,fY lo (lo+bH) st aq->1<=m->m<=bH->Seg r (arrOf aq) lo (lo+m)->Q (some m) aq):wpS (model prog w) A E s (countRun' lo bH) Q st:=by
 rw[countRun'_eq];refine wpS_bind<|F3 S hn (qe 1) h1 hB (λi j _ _ _=>by omega) (λi c=>rfl) λn n1 n2 Ew YY=>?_;dsimp only
 by_cases jI:n=bH
 .rw[if_pos (by simpa using jI)]
  exact wpS_pure<|h n st fY.refl n1 n2 Ew
 .rw[if_neg (by simpa using jI)]
  have eB:=YY.resolve_left jI
  by_cases Lh:n > 1
  .rw[if_pos Lh]
   refine wpS_bind<|ui S hB (by omega) (by omega) ?_;rw[decide_eq_true<|Ew lo (lo+n - 1) (qe _) (by omega) (by omega)];simp only[if_true];exact wpS_pure<|h n st fY.refl n1 n2 Ew
  .rw[if_neg Lh]
   have vA:n=1:=by omega
   subst vA;refine wpS_bind<|wpS_lift<|wpAny_rule ⟨rfl,?_⟩;refine wpS_bind<|wpS_forRange (I:=λx c aq=>aq=st/\c=(none,x,0)/\L0 r (arrOf st) lo (lo+x)) ?step ?fin ⟨rfl,rfl,?init⟩
   case init=>
    intro i j mP d0 hj;have e1:i=lo:=by omega
    have e2:j=lo+1:=by omega
    subst e1 e2;exact eB
   case step=>
    rintro x c aq Lo YL ⟨rfl,rfl,dJ⟩;dsimp only;refine wpS_bind<|ui S hB (by omega) (by omega) ?_
    by_cases cC:R r (arrOf aq) (lo+x) < R r (arrOf aq) (lo+x - 1)
    .rw[decide_eq_true cC]
     simp only[if_true];rw[if_neg (by omega)];refine wpS_pure ⟨rfl,rfl,λi j mP d0 hj=>?_⟩
     by_cases EG:j < lo+x
     .exact dJ i j mP d0 EG
     .have lH:j=lo+x:=by omega
      subst lH
      by_cases hG:i=lo+x - 1
      .subst hG; exact cC
      .have:=dJ i (lo+x - 1) mP (by omega) (by omega)
       omega
    .rw[decide_eq_false cC]
     simp only[Bool.false_eq_true,if_false];have ne:=hB.ne S (i:=lo+x) (j:=lo+x - 1) (by omega) (by omega) (by omega);refine wpS_bind<|ui S hB (by omega) (by omega) ?_;rw[decide_eq_true (by omega)];simp only[if_true];refine wpS_pure ?_;dsimp only;rw[if_neg<|Nat.lt_irrefl 0];exact GG S hn (by omega) (by omega) hB dJ (λ_ _=>rfl) (λ_=>rfl) h
   case fin=>
    rintro c aq ⟨rfl,rfl,dJ⟩;rw[show max (1+1) bH=bH by omega]at dJ ⊢;dsimp only;rw[if_neg<|Nat.lt_irrefl 0];exact GG S hn (by omega) (qe _) hB dJ (λ_ _=>rfl) (λ_=>rfl) h
theorem Xr{ok:Nat}{Q:Bool->SortSt->Prop}(S:fg prog w A s κ ah r)(hn:lo+n<=ah.size)(aD:ok<=n)(hB:SS κ ah st)(hs:Seg r (arrOf st) lo (lo+ok))
  (h:∀ aq,fY lo (lo+n) st aq->Seg r (arrOf aq) lo (lo+n)->Q true aq):wpS (model prog w) A E s (binarySort' lo n ok) Q st:=by
 rw[binarySort'_eq];refine wpS_bind<|wpS_mono (wpS_forRange (I:=λk c aq=>c=(none,())/\fY lo (lo+n) st aq/\Seg r (arrOf aq) lo (lo+min k n))
  (Q:=λc aq=>c=(none,())/\fY lo (lo+n) st aq/\Seg r (arrOf aq) lo (lo+n)) ?step ?fin ?init) ?post
 case post=>
  rintro c aq ⟨rfl,c1,dJ⟩;exact wpS_pure<|h aq c1 dJ
 case init=>
  refine⟨rfl,fY.refl,λi j mP d0 hj=>?_⟩;exact hs i j mP d0 (by omega)
 case fin=>
  rintro c aq ⟨hc,c1,dJ⟩;refine⟨hc,c1,?_⟩
  rwa[show min (max (max ok 1) n) n=n by omega]at dJ
 case step=>
  rintro k c aq hak hkn ⟨rfl,c1,dJ⟩;rw[show min k n=k by omega]at dJ;have E4:=hB.chg c1;have hk:lo+k < ah.size:=by omega
  refine wpS_bind<|wpS_mono (wpS_forRange (I:=λx c b9=>b9=aq/\∃ l rr,c=(none,l,rr)/\l<=rr/\rr<=k/\rr - l<=k - x/\
    (∀ i,i < l->R r (arrOf aq) (lo+i) < R r (arrOf aq) (lo+k))/\(∀ i,rr<=i->i < k->R r (arrOf aq) (lo+k) < R r (arrOf aq) (lo+i)))
   (Q:=λc b9=>b9=aq/\∃ l rr,c=(none,l,rr)/\l<=k/\
    (∀ i,i < l->R r (arrOf aq) (lo+i) < R r (arrOf aq) (lo+k))/\(∀ i,l<=i->i < k->R r (arrOf aq) (lo+k) < R r (arrOf aq) (lo+i))) ?vo ?Em ?vq) ?vp
  case vq=>exact⟨rfl,0,k,rfl,by omega,by omega,by omega,λi hi=>by omega,λi h1 h2=>by omega⟩
  case Em=>
   rintro c b9 ⟨rfl,l,rr,rfl,Y6,Ex,hm,q0,sX⟩;have:l=rr:=by omega
   subst this;exact⟨rfl,l,l,rfl,Ex,q0,sX⟩
  case vo=>
   rintro x c b9 _ hxk ⟨rfl,l,rr,rfl,Y6,Ex,hm,q0,sX⟩;dsimp only
   by_cases kb:l>=rr
   .rw[if_pos kb]
    have:l=rr:=by omega
    subst this;exact wpS_pure ⟨rfl,l,l,rfl,Ex,q0,sX⟩
   .rw[if_neg kb]
    refine wpS_bind<|ui S E4 hk (by omega) ?_
    by_cases cC:R r (arrOf b9) (lo+k) < R r (arrOf b9) (lo+(l+rr) / 2)
    .rw[decide_eq_true cC]
     simp only[if_true];refine wpS_pure ⟨rfl,l,(l+rr) / 2,rfl,by omega,by omega,by omega,q0,λi h1 h2=>?_⟩
     by_cases e:i=(l+rr) / 2
     .rw[e]; exact cC
     .have:=dJ (lo+(l+rr) / 2) (lo+i) (by omega) (by omega) (by omega)
      omega
    .rw[decide_eq_false cC]
     simp only[Bool.false_eq_true,if_false];have ne:=E4.ne S (i:=lo+k) (j:=lo+(l+rr) / 2) (by omega) (by omega) (by omega);refine wpS_pure ⟨rfl,(l+rr) / 2+1,rr,rfl,by omega,by omega,by omega,λi h1=>?_,sX⟩
     by_cases e:i=(l+rr) / 2
     .rw[e]; omega
     .have:=dJ (lo+i) (lo+(l+rr) / 2) (by omega) (by omega) (by omega)
      omega
  case vp=>
   rintro c b9 ⟨rfl,l,rr,rfl,hlk,q0,sX⟩;show wpS _ _ _ _ (do moveDown' (lo+k) (lo+l); pure (ForInStep.yield (none,()))) _ _;have EE:lo+k < (arrOf b9).size:=by rw[E4.size]; exact hk
   have hd:lo+k - (lo+l)<=lo+k:=by omega
   rw[moveDown'_eq];refine wpS_bind<|wpS_modify<|wpS_pure ⟨rfl,c1.trans ⟨bubble_perm _ _ _,λq hq=>?_,rfl,rfl,rfl⟩,?_⟩
   .show(bubble (arrOf b9) (lo+k)<|lo+k - (lo+l))[q]?=_
    rw[getElem?_bubble EE _ hd,if_neg (by omega),if_neg (by omega)]
   .rw[show min (k+1) n=k+1 by omega]
    intro i j mP d0 hj;show R r (bubble (arrOf b9) (lo+k)<|lo+k - (lo+l)) i < R r (bubble (arrOf b9) (lo+k)<|lo+k - (lo+l)) j;rw[Iy EE hd,Iy EE hd,show lo+k - (lo+k - (lo+l))=lo+l by omega];have Ac:∀ q,lo<=q->q < lo+l->R r (arrOf b9) q < R r (arrOf b9) (lo+k):=λq h1 h2=>by
     have:=q0 (q - lo) (by omega)
     rwa[show lo+(q - lo)=q by omega]at this
    have hG:∀ q,lo+l<=q->q < lo+k->R r (arrOf b9) (lo+k) < R r (arrOf b9) q:=λq h1 h2=>by
     have:=sX (q - lo) (by omega) (by omega)
     rwa[show lo+(q - lo)=q by omega]at this
    repeat' split
    all_goals first
     | (exfalso; omega)
     | exact Ac _ (by omega) (by omega)
     | exact hG _ (by omega) (by omega)
     | exact dJ _ _ (by omega) (by omega) (by omega)
end
def kz:Bool->Keyed->Array Keyed->Nat->Nat->Nat->StateT SortSt Sem (Qb Nat):=sortPriv% PySem.Builtin.gallop
def p6(left:Bool)(key:Keyed)(arr:Array Keyed)(base i:Nat):StateT SortSt Sem (Qb Bool):=do
 let x <-elem' arr (base+i)
 if left then lt' x key else return (<-lt' key x).map (!·)
theorem WM(left:Bool)(key:Keyed)(arr:Array Keyed)(base n hint:Nat):kz left key arr base n hint=(do
 let mut eI:=0
 let mut kC:=1
 let mut lo:=0
 let mut hi:=0
 let some right <-p6 left key arr base hint|return none
 if right then
  let eU:=n - hint
  for _ in [0:n] do
   if kC>=eU then break
   let some more <-p6 left key arr base (hint+kC) | return none
   if !more then break
   eI:=kC
   kC:=2 * kC+1
  lo:=hint+eI+1
  hi:=hint+min kC eU
 else
  let eU:=hint+1
  for _ in [0:n] do
   if kC>=eU then break
   let some found <-p6 left key arr base (hint - kC) | return none
   if found then break
   eI:=kC
   kC:=2 * kC+1
  lo:=hint+1 - min kC eU
  hi:=hint - eI
 for _ in [0:n] do
  if lo>=hi then break
  let m:=lo+(hi - lo) / 2
  let some more <-p6 left key arr base m|return none
  if more then lo:=m+1 else hi:=m
 return some hi):=rfl
section
variable{s:Qd}{st:SortSt}
def cf(r:Keyed->Int)(left:Bool)(key:Keyed)(arr:Array Keyed)(base i:Nat):Bool:=if left=true then decide (R r arr (base+i) < r key)else !decide (r key < R r arr (base+i))
theorem Td{left:Bool}{key:Keyed}{base:Nat}{x:Keyed}{Q:Qb Bool->SortSt->Prop}(S:fg prog w A s κ ah r)(hk:kindOf st=κ)(ka:key∈ah.toList)(ex:arr[base+i]?=some x)(hx:x∈ah.toList)
  (h:Q (some<|cf r left key arr base i) st):wpS (model prog w) A E s (p6 left key arr base i) Q st:=by
 unfold p6;refine wpS_bind<|eM ex ?_;unfold cf at h;rw[du ex]at h;cases left
 .simp only[Bool.false_eq_true,if_false]at h ⊢
  exact wpS_bind<|tU S hk ka hx<|wpS_pure h
 .simp only[if_true]at h ⊢
  exact tU S hk hx ka h
abbrev Bw:=Qb (Qb Nat)×Nat×Nat
theorem Gh{B:Nat->Bool}{lo:Nat}{Q:Qb Nat->SortSt->Prop}{f:Nat->Bw->StateT SortSt Sem (ForInStep Bw)}{T:Bw->StateT SortSt Sem (Qb Nat)}
  (bw:∀ {i:Nat} {Q:Qb Bool->SortSt->Prop},i < n->Q (some<|B i) st->wpS (model prog w) A E s (ask i) Q st) (mono:∀ i j,i<=j->j < n->B j=true->B i=true)
  (hf:∀ i c,f i c=(if c.snd.fst>=c.snd.snd then pure (ForInStep.done (none,c.snd.fst,c.snd.snd))
   else do
    let iu <-ask (c.snd.fst+(c.snd.snd - c.snd.fst) / 2)
    match iu with
     | some more=>
      if more=true then pure (ForInStep.yield (none,c.snd.fst+(c.snd.snd - c.snd.fst) / 2+1,c.snd.snd))
      else pure (ForInStep.yield (none,c.snd.fst,c.snd.fst+(c.snd.snd - c.snd.fst) / 2))
     | x=>pure<|ForInStep.done (some none,c.snd.fst,c.snd.snd))) (hT:∀ l k,T (none,l,k)=pure (some k))
  (h1:lo<=hi) (h2:hi<=n) (ht:∀ i,i < lo->B i=true) (Ze:∀ i,hi<=i->i < n->B i=false)
  (h:∀ k,k<=n->(∀ i,i < k->B i=true)->(∀ i,k<=i->i < n->B i=false)->Q (some k) st):wpS (model prog w) A E s (do let Fh <-forIn [0:n] (none,lo,hi) f; T Fh) Q st:=by
 refine wpS_bind<|wpS_mono (wpS_forRange (I:=λx c aq=>aq=st/\∃ l k,c=(none,l,k)/\l<=k/\k<=n/\k - l<=n - x/\(∀ i,i < l->B i=true)/\(∀ i,k<=i->i < n->B i=false))
  (Q:=λc aq=>aq=st/\∃ k,c=(none,k,k)/\k<=n/\(∀ i,i < k->B i=true)/\(∀ i,k<=i->i < n->B i=false)) ?step ?fin ⟨rfl,lo,hi,rfl,h1,h2,by omega,ht,Ze⟩) ?post
 case post=>
  rintro c aq ⟨rfl,k,rfl,k1,k2,k3⟩;rw[hT];exact wpS_pure<|h k k1 k2 k3
 case fin=>
  rintro c aq ⟨rfl,l,k,rfl,a1,a2,a3,a4,a5⟩;have:l=k:=by omega
  subst this;exact⟨rfl,l,rfl,a2,a4,a5⟩
 case step=>
  rintro x c aq _ hx ⟨rfl,l,k,rfl,a1,a2,a3,a4,a5⟩;rw[hf];dsimp only
  by_cases kb:l>=k
  .rw[if_pos kb]
   have:l=k:=by omega
   subst this;exact wpS_pure ⟨rfl,l,rfl,a2,a4,a5⟩
  .rw[if_neg kb]
   refine wpS_bind<|bw (by omega) ?_;cases e:B (l+(k - l) / 2)with
   | true=>
    simp only[if_true];exact wpS_pure ⟨rfl,_,_,rfl,by omega,a2,by omega,λi hi=>mono i (l+(k - l) / 2) (by omega) (by omega) e,a5⟩
   | false=>
    simp only[Bool.false_eq_true,if_false];refine wpS_pure ⟨rfl,_,_,rfl,by omega,by omega,by omega,a4,λi hi hn=>?_⟩;cases e2:B i with
    | false=>rfl
    | true=>rw[mono (l+(k - l) / 2) i (by omega) hn e2]at e; cases e
theorem sG{left:Bool}{key:Keyed}{base hint:Nat}{Q:Qb Nat->SortSt->Prop}(S:fg prog w A s κ ah r)(hk:kindOf st=κ)(ka:key∈ah.toList)(ET:∀ i,i < n->∃ x,arr[base+i]?=some x/\x∈ah.toList)
  (mono:∀ i j,i<=j->j < n->cf r left key arr base j=true->cf r left key arr base i=true) (hh:hint < n)
  (h:∀ k,k<=n->(∀ i,i < k->cf r left key arr base i=true)->(∀ i,k<=i->i < n->cf r left key arr base i=false)->Q (some k) st):wpS (model prog w) A E s (kz left key arr base n hint) Q st:=by
 have bw:∀ {i:Nat} {Q:Qb Bool->SortSt->Prop},i < n->Q (some<|cf r left key arr base i) st->wpS (model prog w) A E s (p6 left key arr base i) Q st:=λ{i Q} hi hq=>by
  have(x,ex,hx):=ET i hi;exact Td S hk ka ex hx hq
 have wd:∀ i j,i<=j->j < n->cf r left key arr base i=false->cf r left key arr base j=false:=λi j d0 hj hf=>by
  cases e:cf r left key arr base j with
  | false=>rfl
  | true=>rw[mono i j d0 hj e]at hf; cases hf
 rw[WM];dsimp only;refine wpS_bind<|bw hh ?_;cases e0:cf r left key arr base hint with
 | true=>
  simp only[if_true];refine wpS_bind<|wpS_mono (wpS_forRange (I:=λx c aq=>aq=st/\∃ l o,c=(none,l,o)/\x+1<=o/\hint+l < n/\l < o/\cf r left key arr base (hint+l)=true)
   (Q:=λc aq=>aq=st/\∃ l o,c=(none,l,o)/\hint+l < n/\l < o/\cf r left key arr base (hint+l)=true/\(o>=n - hint\/(hint+o < n/\cf r left key arr base (hint+o)=false))) ?step ?fin ⟨rfl,0,1,rfl,qe _,hh,by omega,e0⟩) ?post
  case fin=>
   rintro c aq ⟨rfl,l,o,rfl,a1,a2,a3,a4⟩;exact⟨rfl,l,o,rfl,a2,a3,a4,.inl (by omega)⟩
  case step=>
   rintro x c aq _ hx ⟨rfl,l,o,rfl,a1,a2,a3,a4⟩;dsimp only
   by_cases kb:o>=n - hint
   .rw[if_pos kb]
    exact wpS_pure ⟨rfl,l,o,rfl,a2,a3,a4,.inl kb⟩
   .rw[if_neg kb]
    refine wpS_bind<|bw (by omega) ?_;cases e:cf r left key arr base (hint+o)with
    | true=>
     simp only[Bool.not_true,Bool.false_eq_true,if_false];exact wpS_pure ⟨rfl,_,_,rfl,by omega,by omega,by omega,e⟩
    | false=>
     simp only[Bool.not_false,if_true];exact wpS_pure ⟨rfl,l,o,rfl,a2,a3,a4,.inr ⟨by omega,e⟩⟩
  case post=>
   rintro c aq ⟨rfl,l,o,rfl,a2,a3,a4,a5⟩;dsimp only;refine Gh (B:=cf r left key arr base) bw mono (λ_ _=>rfl) (λ_ _=>rfl) (by omega) (by omega) (λi hi=>mono i (hint+l) (by omega) a2 a4) (λi hi hn=>?_) h;rcases a5 with z|⟨z1,z2⟩
   .omega
   .exact wd (hint+o) i (by omega) hn z2
 | false=>
  simp only[Bool.false_eq_true,if_false];refine wpS_bind<|wpS_mono (wpS_forRange (I:=λx c aq=>aq=st/\∃ l o,c=(none,l,o)/\x+1<=o/\l<=hint/\l < o/\cf r left key arr base (hint - l)=false)
   (Q:=λc aq=>aq=st/\∃ l o,c=(none,l,o)/\l<=hint/\l < o/\cf r left key arr base (hint - l)=false/\(o>=hint+1\/(o<=hint/\cf r left key arr base (hint - o)=true))) ?step ?fin ⟨rfl,0,1,rfl,qe _,Ä _,by omega,e0⟩) ?post
  case fin=>
   rintro c aq ⟨rfl,l,o,rfl,a1,a2,a3,a4⟩;exact⟨rfl,l,o,rfl,a2,a3,a4,.inl (by omega)⟩
  case step=>
   rintro x c aq _ hx ⟨rfl,l,o,rfl,a1,a2,a3,a4⟩;dsimp only
   by_cases kb:o>=hint+1
   .rw[if_pos kb]
    exact wpS_pure ⟨rfl,l,o,rfl,a2,a3,a4,.inl kb⟩
   .rw[if_neg kb]
    refine wpS_bind<|bw (by omega) ?_;cases e:cf r left key arr base (hint - o)with
    | false=>
     simp only[Bool.false_eq_true,if_false];exact wpS_pure ⟨rfl,_,_,rfl,by omega,by omega,by omega,e⟩
    | true=>
     simp only[if_true];exact wpS_pure ⟨rfl,l,o,rfl,a2,a3,a4,.inr ⟨by omega,e⟩⟩
  case post=>
   rintro c aq ⟨rfl,l,o,rfl,a2,a3,a4,a5⟩;dsimp only;refine Gh (B:=cf r left key arr base) bw mono (λ_ _=>rfl) (λ_ _=>rfl) (by omega) (by omega) (λi hi=>?_) (λi hi hn=>wd (hint - l) i (by omega) hn a4) h;rcases a5 with z|⟨z1,z2⟩
   .omega
   .exact mono i (hint - o) (by omega) (by omega) z2
end
def nD:Nat->StateT SortSt Sem Unit:=sortPriv% PySem.Builtin.setMinGallop
abbrev dw(st:SortSt)(g:Nat):SortSt:=SortSt.mk' (kindOf st) (arrOf st) (pendingOf st) g (failedOf st)
theorem yP(g:Nat):nD g=modify λs=>dw s g:=rfl
def yy:Array Keyed->Array Keyed->StateT SortSt Sem (Array Keyed):=sortPriv% PySem.Builtin.mergeLo
def fL(a b:Array Keyed)(out:Array Keyed)(ia ib:Nat):Array Keyed:=out++a.extract ia a.size++b.extract ib b.size
def kq(a b:Array Keyed)(out:Array Keyed)(ia ib:Nat):Array Keyed:=out++b.extract ib b.size++a.extract ia a.size
theorem rX{x y:StateT SortSt Sem α}{f g:α->StateT SortSt Sem β}(h:x=y)(k:∀ a,f a=g a):(x >>= f)=(y >>= g):=by
 subst h;exact bind_congr k
theorem rJ{c:β}{f g:Nat->β->StateT SortSt Sem (ForInStep β)}(h:∀ i c,f i c=g i c):(forIn [n:m] c f:StateT SortSt Sem β)=forIn [n:m] c g:=by
 have e:f=g:=funext λi=>funext λc=>h i c;rw[e]
abbrev tG:=Qb (Array Keyed)×Array Keyed×Nat×Nat×Nat×Nat×Nat
abbrev wu:=Qb (Array Keyed)×Array Keyed×Nat×Nat×Nat×Nat
abbrev we:=Qb (Array Keyed)×Array Keyed×Nat×Nat×Nat
def wC(a b out:Array Keyed)(ia ib mg ac bc:Nat):StateT SortSt Sem (ForInStep tG):=
 elem' a ia >>= λx=>
 (if(ia+1+1==a.size)=true then pure (.done (some<|kq a b (out.push x) (ia+1) ib,out.push x,ia+1,ib,mg,ac,bc))
 else(if(decide (ac < 7) && decide (bc < 7))=true then pure (.done (none,out.push x,ia+1,ib,mg,ac,bc))
 else pure (.yield (none,out.push x,ia+1,ib,mg,ac,bc))))
def tK(a b out:Array Keyed)(ia ib mg ac bc:Nat):StateT SortSt Sem (ForInStep tG):=
 elem' b ib >>= λy=>
 (if(ib+1==b.size)=true then pure (.done (some<|fL a b (out.push y) ia<|ib+1,out.push y,ia,ib+1,mg,ac,bc))
 else(elem' a ia >>= λx=>kz true x b (ib+1) (b.size - (ib+1)) 0 >>= λiu=>
  (match iu with
  | some k=>(if k > 0 then
    (if(ib+1+k==b.size)=true then pure (.done (some<|fL a b (out.push y++b.extract (ib+1) (ib+1+k)) ia<|ib+1+k,out.push y++b.extract (ib+1) (ib+1+k),ia,ib+1+k,mg,ac,k))
    else wC a b (out.push y++b.extract (ib+1) (ib+1+k)) ia (ib+1+k) mg ac k)
   else wC a b (out.push y) ia (ib+1) mg ac k)
  | _=>pure<|.done (some<|fL a b (out.push y) ia<|ib+1,out.push y,ia,ib+1,mg,ac,bc))))
def tJ(a b out:Array Keyed)(ia ib mg ac bc:Nat):StateT SortSt Sem (ForInStep tG):=
 nD mg >>= λ_=>elem' b ib >>= λy=>kz false y a ia (a.size - ia) 0 >>= λiu=>
 (match iu with
 | some k=>(if k > 0 then
   (if(ia+k+1==a.size)=true then pure (.done (some<|kq a b (out++a.extract ia (ia+k)) (ia+k) ib,out++a.extract ia (ia+k),ia+k,ib,mg,k,bc))
   else(if(ia+k==a.size)=true then pure (.done (some<|fL a b (out++a.extract ia (ia+k)) (ia+k) ib,out++a.extract ia (ia+k),ia+k,ib,mg,k,bc))
   else tK a b (out++a.extract ia (ia+k)) (ia+k) ib mg k bc))
  else tK a b out ia ib mg k bc)
 | _=>pure<|.done (some<|fL a b out ia ib,out,ia,ib,mg,ac,bc))
def wB(a b:Array Keyed)(mg:Nat)(c:wu):StateT SortSt Sem (ForInStep wu):=
 elem' b c.snd.snd.snd.fst >>= λy=>elem' a c.snd.snd.fst >>= λx=>lt' y x >>= λiu=>
 (match iu with
 | some lL=>(if lL=true then(elem' b c.snd.snd.snd.fst >>= λy=>
   (if(c.snd.snd.snd.fst+1==b.size)=true then pure (.done (some<|fL a b (c.snd.fst.push y) c.snd.snd.fst<|c.snd.snd.snd.fst+1,c.snd.fst.push y,c.snd.snd.fst,c.snd.snd.snd.fst+1,0,c.snd.snd.snd.snd.snd+1))
   else(if c.snd.snd.snd.snd.snd+1>=mg then pure (.done (none,c.snd.fst.push y,c.snd.snd.fst,c.snd.snd.snd.fst+1,0,c.snd.snd.snd.snd.snd+1))
   else pure (.yield (none,c.snd.fst.push y,c.snd.snd.fst,c.snd.snd.snd.fst+1,0,c.snd.snd.snd.snd.snd+1)))))
  else(elem' a c.snd.snd.fst >>= λx=>
   (if(c.snd.snd.fst+1+1==a.size)=true then pure (.done (some<|kq a b (c.snd.fst.push x) (c.snd.snd.fst+1) c.snd.snd.snd.fst,c.snd.fst.push x,c.snd.snd.fst+1,c.snd.snd.snd.fst,c.snd.snd.snd.snd.fst+1,0))
   else(if c.snd.snd.snd.snd.fst+1>=mg then pure (.done (none,c.snd.fst.push x,c.snd.snd.fst+1,c.snd.snd.snd.fst,c.snd.snd.snd.snd.fst+1,0))
   else pure (.yield (none,c.snd.fst.push x,c.snd.snd.fst+1,c.snd.snd.snd.fst,c.snd.snd.snd.snd.fst+1,0))))))
 | _=>pure<|.done (some<|fL a b c.snd.fst c.snd.snd.fst c.snd.snd.snd.fst,c.snd.fst,c.snd.snd.fst,c.snd.snd.snd.fst,c.snd.snd.snd.snd.fst,c.snd.snd.snd.snd.snd))
def AR(a b:Array Keyed)(c:we)(d:wu):StateT SortSt Sem (ForInStep we):=
 (match d.fst with
 | some r=>pure<|.done (some r,d.snd.fst,d.snd.snd.fst,d.snd.snd.snd.fst,c.snd.snd.snd.snd)
 | none=>(liftM (rule "list.sort.gallop") >>= λ(_:Unit)=>
  forIn [0:a.size+b.size] ((none,d.snd.fst,d.snd.snd.fst,d.snd.snd.snd.fst,c.snd.snd.snd.snd+1,d.snd.snd.snd.snd.fst,d.snd.snd.snd.snd.snd):tG) (λ_ e=>
   (if e.snd.snd.snd.snd.fst > 1 then tJ a b e.snd.fst e.snd.snd.fst e.snd.snd.snd.fst (e.snd.snd.snd.snd.fst - 1) e.snd.snd.snd.snd.snd.fst e.snd.snd.snd.snd.snd.snd
   else tJ a b e.snd.fst e.snd.snd.fst e.snd.snd.snd.fst e.snd.snd.snd.snd.fst e.snd.snd.snd.snd.snd.fst e.snd.snd.snd.snd.snd.snd)) >>= λe=>
  (match e.fst with
  | some r=>pure<|.done (some r,e.snd.fst,e.snd.snd.fst,e.snd.snd.snd.fst,e.snd.snd.snd.snd.fst)
  | none=>(nD (e.snd.snd.snd.snd.fst+1) >>= λ_=>pure<|.yield (none,e.snd.fst,e.snd.snd.fst,e.snd.snd.snd.fst,e.snd.snd.snd.snd.fst+1)))))
def wA(a b:Array Keyed)(c:we):StateT SortSt Sem (ForInStep we):=
 forIn [0:a.size+b.size] ((none,c.snd.fst,c.snd.snd.fst,c.snd.snd.snd.fst,0,0):wu) (λ_ d=>wB a b c.snd.snd.snd.snd d) >>= AR a b c
theorem Xq(a b:Array Keyed):yy a b=(do
 rule "list.sort.merge-lo"
 let total:=a.size+b.size
 let mut out:Array Keyed:=#[<-elem' b 0]
 let mut ia:=0
 let mut ib:=1
 if ib==b.size then return fL a b out ia ib
 if ia+1==a.size then return kq a b out ia ib
 let mut aw:=gallopOf (<-get)
 for _ in [0:total] do
  let mut bj:=0
  let mut bh:=0
  for _ in [0:total] do
   let some lL <-lt' (<-elem' b ib) (<-elem' a ia) | return fL a b out ia ib
   if lL then
    out:=out.push (<-elem' b ib); ib:=ib+1; bh:=bh+1; bj:=0
    if ib==b.size then return fL a b out ia ib
    if bh>=aw then break
   else
    out:=out.push (<-elem' a ia); ia:=ia+1; bj:=bj+1; bh:=0
    if ia+1==a.size then return kq a b out ia ib
    if bj>=aw then break
  rule "list.sort.gallop"
  aw:=aw+1
  for _ in [0:total] do
   if aw > 1 then aw:=aw - 1
   nD aw
   let some k <-kz false (<-elem' b ib) a ia (a.size - ia) 0|return fL a b out ia ib
   bj:=k
   if k > 0 then
    out:=out++a.extract ia (ia+k); ia:=ia+k
    if ia+1==a.size then return kq a b out ia ib
    if ia==a.size then return fL a b out ia ib
   out:=out.push (<-elem' b ib); ib:=ib+1
   if ib==b.size then return fL a b out ia ib
   let some k <-kz true (<-elem' a ia) b ib (b.size - ib) 0|return fL a b out ia ib
   bh:=k
   if k > 0 then
    out:=out++b.extract ib (ib+k); ib:=ib+k
    if ib==b.size then return fL a b out ia ib
   out:=out.push (<-elem' a ia); ia:=ia+1
   if ia+1==a.size then return kq a b out ia ib
   if bj < 7 && bh < 7 then break
  aw:=aw+1
  nD aw
 unsupported "internal:list.sort.merge-bound"):=rfl
theorem WR(a b:Array Keyed):yy a b=(do
 liftM (rule "list.sort.merge-lo")
 let x <-elem' b 0
 if(1==b.size)=true then pure (fL a b #[x] 0 1)
 else if(0+1==a.size)=true then pure (kq a b #[x] 0 1)
 else do
  let st <-get
  let c <-forIn [0:a.size+b.size] ((none,#[x],0,1,gallopOf st):we) λ_ c=>wA a b c
  match c.fst with
  | some r=>pure r
  | none=>unsupported "internal:list.sort.merge-bound"):=by
 rw[Xq];dsimp only;refine bind_congr λ_=>bind_congr λx=>?_;refine ite_congr rfl (λ_=>rfl) λ_=>ite_congr rfl (λ_=>rfl) λ_=>bind_congr λst=>?_;refine rX (rJ λi c=>?_) λc=>?_
 .unfold wA
  refine rX (rJ λi d=>?_) λd=>?_
  .unfold wB
   rfl
  .unfold AR
   have(d,d1,d2,d3,d4,d5):=d;cases d with
   | some d=>rfl
   | none=>
    dsimp only;refine bind_congr λ_=>rX (rJ λi e=>?_) λe=>?_
    .have(e,e1,e2,e3,e4,e5,e6):=e
     dsimp only;unfold tJ;refine ite_congr rfl (λ_=>bind_congr λ_=>bind_congr λy=>bind_congr λk=>?_) λ_=>bind_congr λ_=>bind_congr λy=>bind_congr λk=>?_
     all_goals (cases k with
      | none=>rfl
      | some k=>?_)
     all_goals dsimp only
     all_goals unfold tK
     all_goals refine ite_congr rfl (λ_=>ite_congr rfl (λ_=>rfl) λ_=>ite_congr rfl (λ_=>rfl) λ_=>?_) λ_=>?_
     all_goals refine bind_congr λy=>ite_congr rfl (λ_=>rfl) λ_=>bind_congr λx=>bind_congr λk1=>?_
     all_goals (cases k1 with
      | none=>rfl
      | some k1=>?_)
     all_goals dsimp only
     all_goals exact ite_congr rfl (λ_=>ite_congr rfl (λ_=>rfl) λ_=>rfl) λ_=>rfl
    .have(e,e1,e2,e3,e4,e5,e6):=e
     cases e<;>rfl
 .have(c,_):=c
  cases c<;>rfl
structure Mg (r:Keyed->Int) (a b out:Array Keyed) (ia ib:Nat):Prop where
 la:ia<=a.size
 lb:ib<=b.size
 perm:out.toList.Perm (a.toList.take ia++b.toList.take ib)
 up:out.toList.Pairwise λx y=>r x < r y
 ba:∀ x∈out.toList,∀ j,ia<=j->j < a.size->r x < R r a j
 bb:∀ x∈out.toList,∀ j,ib<=j->j < b.size->r x < R r b j
section
variable{a b out:Array Keyed}{ia ib:Nat}
theorem Mg.swap(h:Mg r a b out ia ib):Mg r b a out ib ia:=⟨h.lb,h.la,h.perm.trans á,h.up,h.bb,h.ba⟩
theorem Mg.push{x:Keyed}(h:Mg r a b out ia ib)(ex:a[ia]?=some x)(sa:Seg r a 0 a.size)(hb:∀ j,ib<=j->j < b.size->r x < R r b j):Mg r a b (out.push x) (ia+1) ib:=by
 have(hi,e):=Ç.mp ex;have rx:R r a ia=r x:=du ex;refine⟨hi,h.lb,?_,?_,λy hy j h1 h2=>?_,λy hy j h1 h2=>?_⟩
 .rw[Array.toList_push,List.take_succ_eq_append_getElem (by simpa using hi)]
  have e2:a.toList[ia]=x:=by simpa using e
  rw[e2];have h1:=h.perm.append_right [x];refine h1.trans ?_;rw[List.append_assoc,List.append_assoc];exact List.Perm.append_left _ á
 .rw[Array.toList_push]
  refine List.pairwise_append.mpr ⟨h.up,List.pairwise_singleton _ _,λy hy z hz=>?_⟩;rw[qp.mp hz,<-rx];exact h.ba y hy ia (qe _) hi
 .rw[Array.toList_push]at hy
  rcases Ò.mp hy with hy|hy
  .exact h.ba y hy j (by omega) h2
  .rw[qp.mp hy,<-rx]
   exact sa ia j (Ä _) (by omega) h2
 .rw[Array.toList_push]at hy
  rcases Ò.mp hy with hy|hy
  .exact h.bb y hy j h1 h2
  .rw[qp.mp hy]
   exact hb j h1 h2
theorem Mg.app(sa:Seg r a 0 a.size):∀ {k:Nat} {out:Array Keyed} {ia:Nat},Mg r a b out ia ib->ia+k<=a.size->(∀ i,i < k->∀ j,ib<=j->j < b.size->R r a (ia+i) < R r b j)->Mg r a b (out++a.extract ia (ia+k)) (ia+k) ib
 | 0,out,ia,h,hk,hb=>by
  have e:a.extract ia (ia+0)=#[]:=by
   apply Array.ext';simp
  rw[e,Array.append_empty];exact h
 | k+1,out,ia,h,hk,hb=>by
  have hi:ia < a.size:=by omega
  have ex:a[ia]?=some a[ia]:=getElem?_pos a ia hi;have h1:=h.push ex sa λj j1 j2=>by
   have:=hb 0 (by omega) j j1 j2;rw[Nat.add_zero,du ex]at this;exact this
  have h2:=Mg.app sa (k:=k) h1 (by omega) λi hi j j1 j2=>by
   have:=hb (i+1) (by omega) j j1 j2
   rwa[show ia+(i+1)=ia+1+i by omega]at this
  have e:out++a.extract ia (ia+(k+1))=out.push a[ia]++a.extract (ia+1) (ia+1+k):=by
   apply Array.ext';rw[Array.toList_append,Array.toList_append,Array.toList_push,Array.toList_extract,Array.toList_extract,List.append_assoc];congr 1;rw[List.extract_eq_drop_take,List.extract_eq_drop_take,show ia+(k+1) - ia=k+1 by omega,show ia+1+k - (ia+1)=k by omega,List.drop_eq_getElem_cons (by simpa using hi),List.take_succ_cons];simp
  rw[e,show ia+(k+1)=ia+1+k by omega];exact h2
def gO(r:Keyed->Int)(a b o:Array Keyed):Prop:=o.toList.Perm (a.toList++b.toList)/\o.toList.Pairwise λx y=>r x < r y
theorem Mg.fin(h:Mg r a b out a.size b.size):gO r a b out:=by
 have:=h.perm;rw[List.take_of_length_le (by simp),List.take_of_length_le (by simp)]at this;exact⟨this,h.up⟩
theorem Mg.done(h:Mg r a b out ia ib)(sa:Seg r a 0 a.size)(sb:Seg r b 0 b.size)(c:ia=a.size\/ib=b.size):gO r a b (fL a b out ia ib):=by
 have la:=h.la;have lb:=h.lb;unfold fL;rcases c with rfl|rfl
 .have e:a.extract a.size a.size=#[]:=by
   apply Array.ext';simp
  rw[e,Array.append_empty];have:=(h.swap.app sb (k:=b.size - ib) (by omega) λi hi j h1 h2=>by omega).swap;rw[show ib+(b.size - ib)=b.size by omega]at this;exact this.fin
 .have h1:=h.app sa (k:=a.size - ia) (by omega) λi hi j h1 h2=>by omega
  rw[show ia+(a.size - ia)=a.size by omega]at h1;have e:b.extract b.size b.size=#[]:=by
   apply Array.ext';simp
  rw[e,Array.append_empty];exact h1.fin
theorem Mg.last(h:Mg r a b out ia ib)(sa:Seg r a 0 a.size)(sb:Seg r b 0 b.size)(c:ia+1=a.size)(lst:∀ j,j < b.size->R r b j < R r a (a.size - 1)):gO r a b (kq a b out ia ib):=by
 have lb:=h.lb;unfold kq;have h1:=(h.swap.app sb (k:=b.size - ib) (by omega) λi hi j h1 h2=>by
  rw[show j=a.size - 1 by omega];exact lst _ (by omega)).swap
 rw[show ib+(b.size - ib)=b.size by omega]at h1;have h2:=h1.app sa (k:=a.size - ia) (by omega) λi hi j h1 h2=>by omega
 rw[show ia+(a.size - ia)=a.size by omega]at h2;exact h2.fin
end
section
variable{s:Qd}{st:SortSt}{a b:Array Keyed}
structure eD (r:Keyed->Int) (ah a b:Array Keyed):Prop where
 ma:∀ x∈a.toList,x∈ah.toList
 mb:∀ x∈b.toList,x∈ah.toList
 sa:Seg r a 0 a.size
 sb:Seg r b 0 b.size
 ne:∀ i j,i < a.size->j < b.size->R r a i≠R r b j
theorem eD.swap(h:eD r ah a b):eD r ah b a:=⟨h.mb,h.ma,h.sb,h.sa,λi j hi hj e=>h.ne j i hj hi e.symm⟩
theorem eD.at(h:eD r ah a b)(hi:i < a.size):∃ x,a[i]?=some x/\x∈ah.toList:=⟨a[i],getElem?_pos a i hi,h.ma _ (by simp)⟩
def jN(r:Keyed->Int)(a b:Array Keyed)(lo:Nat)(o:Qb (Array Keyed))(out:Array Keyed)(ia ib:Nat):Prop:=match o with
 | some o=>gO r a b o
 | none=>Mg r a b out ia ib/\ia+1 < a.size/\ib < b.size/\lo<=ia+ib
def GP(r:Keyed->Int)(a b:Array Keyed)(lo:Nat)(st:SortSt)(f:ForInStep tG)(aq:SortSt):Prop:=(∃ g,aq=dw st g)/\match f with
 | .done c=>jN r a b lo c.1 c.2.1 c.2.2.1 c.2.2.2.1
 | .yield c=>c.1=none/\jN r a b lo none c.2.1 c.2.2.1 c.2.2.2.1
variable{out:Array Keyed}{ia ib mg ac bc lo:Nat}
theorem GF(T:eD r ah a b)(lst:∀ j,j < b.size->R r b j < R r a (a.size - 1))(M:Mg r a b out ia ib)(h1:ia+1 < a.size)(h2:ib < b.size)(h3:lo<=ia+ib+1)(hx:∀ j,ib<=j->j < b.size->R r a ia < R r b j):
  wpS (model prog w) A E s (wC a b out ia ib mg ac bc) (GP r a b lo st) st:=by
 unfold wC;have(x,ex,mx):=T.at (i:=ia) (by omega);refine wpS_bind<|eM ex ?_;have M1:=M.push ex T.sa λj j1 j2=>by
  rw[<-du (r:=r) ex];exact hx j j1 j2
 by_cases c:ia+1+1=a.size
 .rw[if_pos (by simpa using c)]
  exact wpS_pure ⟨⟨gallopOf st,rfl⟩,M1.last T.sa T.sb c lst⟩
 .rw[if_neg (by simpa using c)]
  have ok:jN r a b lo none (out.push x) (ia+1) ib:=⟨M1,by omega,h2,by omega⟩;split
  .exact wpS_pure ⟨⟨gallopOf st,rfl⟩,ok⟩
  .exact wpS_pure ⟨⟨gallopOf st,rfl⟩,rfl,ok⟩
theorem GD(S:fg prog w A s κ ah r)(hk:kindOf st=κ)(T:eD r ah a b)(lst:∀ j,j < b.size->R r b j < R r a (a.size - 1))(M:Mg r a b out ia ib)(h1:ia+1 < a.size)(h2:ib < b.size)(h3:lo<=ia+ib+1)(hy:∀ j,ia<=j->j < a.size->R r b ib < R r a j):
  wpS (model prog w) A E s (tK a b out ia ib mg ac bc) (GP r a b lo st) st:=by
 unfold tK;have(y,ey,my):=T.swap.at (i:=ib) h2;refine wpS_bind<|eM ey ?_;have M1:=(M.swap.push ey T.sb λj j1 j2=>by
  rw[<-du (r:=r) ey];exact hy j j1 j2).swap
 by_cases c:ib+1=b.size
 .rw[if_pos (by simpa using c)]
  exact wpS_pure ⟨⟨gallopOf st,rfl⟩,M1.done T.sa T.sb<|.inr c⟩
 .rw[if_neg (by simpa using c)]
  have(x,ex,mx):=T.at (i:=ia) (by omega);have rx:R r a ia=r x:=du ex;refine wpS_bind<|eM ex<|wpS_bind<|sG S hk mx (λi hi=>T.swap.at (by omega)) (λi j d0 hj hb=>?_) (by omega) λk k1 k2 k3=>?_
  .unfold cf at hb ⊢
   rw[if_pos rfl]at hb ⊢;have hb:=of_decide_eq_true hb;refine decide_eq_true ?_
   by_cases e:i=j
   .rw[e]; exact hb
   .have:=T.sb (ib+1+i) (ib+1+j) (by omega) (by omega) (by omega)
    omega
  .dsimp only
   have below:∀ i,i < k->R r b (ib+1+i) < R r a ia:=λi hi=>by
    have:=k2 i hi;unfold cf at this;rw[if_pos rfl]at this;have:=of_decide_eq_true this;omega
   have above:∀ j,ib+1+k<=j->j < b.size->R r a ia < R r b j:=λj j1 j2=>by
    have:=k3 (j - (ib+1)) (by omega) (by omega);unfold cf at this;rw[if_pos rfl,show ib+1+(j - (ib+1))=j by omega]at this;have:=of_decide_eq_false this;have:=T.ne ia j (by omega) j2;omega
   by_cases kp:k > 0
   .rw[if_pos kp]
    have M2:=(M1.swap.app T.sb (k:=k) (by omega) λi hi j j1 j2=>by
     have h5:=below i hi
     by_cases e:j=ia
     .rw[e]; exact h5
     .have:=T.sa ia j (Ä _) (by omega) j2
      omega).swap
    by_cases c2:ib+1+k=b.size
    .rw[if_pos (by simpa using c2)]
     exact wpS_pure ⟨⟨gallopOf st,rfl⟩,M2.done T.sa T.sb<|.inr c2⟩
    .rw[if_neg (by simpa using c2)]
     exact GF T lst M2 h1 (by omega) (by omega) above
   .rw[if_neg kp]
    have k0:k=0:=by omega
    subst k0;exact GF T lst M1 h1 (by omega) (by omega) above
theorem Oa(S:fg prog w A s κ ah r)(hk:kindOf st=κ)(T:eD r ah a b)(lst:∀ j,j < b.size->R r b j < R r a (a.size - 1))(M:Mg r a b out ia ib)(h1:ia+1 < a.size)(h2:ib < b.size)(h3:lo<=ia+ib):
  wpS (model prog w) A E s (tJ a b out ia ib mg ac bc) (GP r a b lo st) st:=by
 unfold tJ;rw[yP];refine wpS_bind<|wpS_modify ?_;have(y,ey,my):=T.swap.at (i:=ib) h2;have ry:R r b ib=r y:=du ey;refine wpS_bind<|eM ey<|wpS_bind<|sG (st:=dw st mg) S hk my (λi hi=>T.at (by omega)) (λi j d0 hj hb=>?_) (by omega) λk k1 k2 k3=>?_
 .unfold cf at hb ⊢
  rw[if_neg qf]at hb ⊢;rw[Bool.not_eq_true',decide_eq_false_iff_not]at hb ⊢
  by_cases e:i=j
  .rw[e]; exact hb
  .have:=T.sa (ia+i) (ia+j) (by omega) (by omega) (by omega)
   omega
 .dsimp only
  have below:∀ i,i < k->R r a (ia+i) < R r b ib:=λi hi=>by
   have:=k2 i hi;unfold cf at this;rw[if_neg qf,Bool.not_eq_true',decide_eq_false_iff_not]at this;have:=T.ne (ia+i) ib (by omega) h2;omega
  have above:∀ j,ia+k<=j->j < a.size->R r b ib < R r a j:=λj j1 j2=>by
   have:=k3 (j - ia) (by omega) (by omega);unfold cf at this;rw[if_neg qf,Bool.not_eq_false',decide_eq_true_iff,show ia+(j - ia)=j by omega]at this;omega
  have gp:∀ {m:StateT SortSt Sem (ForInStep tG)},wpS (model prog w) A E s m (GP r a b lo<|dw st mg) (dw st mg)->wpS (model prog w) A E s m (GP r a b lo st) (dw st mg):=λh=>wpS_mono h λc aq hc=>by
   obtain⟨⟨g,rfl⟩,hc⟩:=hc;exact⟨⟨g,rfl⟩,hc⟩
  by_cases kp:k > 0
  .rw[if_pos kp]
   have M1:=M.app T.sa (k:=k) (by omega) λi hi j j1 j2=>by
    have h5:=below i hi
    by_cases e:j=ib
    .rw[e]; exact h5
    .have:=T.sb ib j (Ä _) (by omega) j2
     omega
   by_cases c1:ia+k+1=a.size
   .rw[if_pos (by simpa using c1)]
    exact wpS_pure ⟨⟨mg,rfl⟩,M1.last T.sa T.sb c1 lst⟩
   .rw[if_neg (by simpa using c1)]
    by_cases c2:ia+k=a.size
    .rw[if_pos (by simpa using c2)]
     exact wpS_pure ⟨⟨mg,rfl⟩,M1.done T.sa T.sb<|.inl c2⟩
    .rw[if_neg (by simpa using c2)]
     exact gp<|GD S hk T lst M1 (by omega) h2 (by omega) above
  .rw[if_neg kp]
   have k0:k=0:=by omega
   subst k0;exact gp<|GD S hk T lst M h1 h2 (by omega) above
def FP(r:Keyed->Int)(a b:Array Keyed)(lo:Nat)(st:SortSt)(f:ForInStep wu)(aq:SortSt):Prop:=aq=st/\match f with
 | .done c=>jN r a b lo c.1 c.2.1 c.2.2.1 c.2.2.2.1
 | .yield c=>c.1=none/\jN r a b lo none c.2.1 c.2.2.1 c.2.2.2.1
theorem N9(S:fg prog w A s κ ah r)(hk:kindOf st=κ)(T:eD r ah a b)(lst:∀ j,j < b.size->R r b j < R r a (a.size - 1))(M:Mg r a b out ia ib)(h1:ia+1 < a.size)(h2:ib < b.size)(h3:lo<=ia+ib+1):
  wpS (model prog w) A E s (wB a b mg (none,out,ia,ib,ac,bc)) (FP r a b lo st) st:=by
 unfold wB;dsimp only;have(y,ey,my):=T.swap.at (i:=ib) h2;have(x,ex,mx):=T.at (i:=ia) (by omega);have rx:R r a ia=r x:=du ex;have ry:R r b ib=r y:=du ey;refine wpS_bind<|eM ey<|wpS_bind<|eM ex<|wpS_bind<|tU S hk my mx ?_
 by_cases c:r y < r x
 .rw[decide_eq_true c]
  dsimp only;rw[if_pos rfl];refine wpS_bind<|eM ey ?_;have M1:=(M.swap.push ey T.sb λj j1 j2=>by
   by_cases e:j=ia
   .rw[e]; omega
   .have:=T.sa ia j (Ä _) (by omega) j2
    omega).swap
  by_cases c1:ib+1=b.size
  .rw[if_pos (by simpa using c1)]
   exact wpS_pure ⟨rfl,M1.done T.sa T.sb<|.inr c1⟩
  .rw[if_neg (by simpa using c1)]
   have ok:jN r a b lo none (out.push y) ia (ib+1):=⟨M1,h1,by omega,by omega⟩;split
   .exact wpS_pure ⟨rfl,ok⟩
   .exact wpS_pure ⟨rfl,rfl,ok⟩
 .rw[decide_eq_false c]
  dsimp only;rw[if_neg qf];refine wpS_bind<|eM ex ?_;have ne:=T.ne ia ib (by omega) h2;have M1:=M.push ex T.sa λj j1 j2=>by
   by_cases e:j=ib
   .rw[e]; omega
   .have:=T.sb ib j (Ä _) (by omega) j2
    omega
  by_cases c1:ia+1+1=a.size
  .rw[if_pos (by simpa using c1)]
   exact wpS_pure ⟨rfl,M1.last T.sa T.sb c1 lst⟩
  .rw[if_neg (by simpa using c1)]
   have ok:jN r a b lo none (out.push x) (ia+1) ib:=⟨M1,by omega,h2,by omega⟩;split
   .exact wpS_pure ⟨rfl,ok⟩
   .exact wpS_pure ⟨rfl,rfl,ok⟩
theorem N8(S:fg prog w A s κ ah r)(hk:kindOf st=κ)(T:eD r ah a b)(lst:∀ j,j < b.size->R r b j < R r a (a.size - 1))(M:Mg r a b out ia ib)(h1:ia+1 < a.size)(h2:ib < b.size)(h3:lo<=ia+ib):
  wpS (model prog w) A E s (wA a b (none,out,ia,ib,mg)) (λf aq=>(∃ g,aq=dw st g)/\match f with
   | .done c=>∃ o,c.1=some o/\gO r a b o
   | .yield c=>c.1=none/\jN r a b (lo+1) none c.2.1 c.2.2.1 c.2.2.2.1) st:=by
 unfold wA;dsimp only;refine wpS_bind<|wpS_mono (wpS_forRange (I:=λx c aq=>aq=st/\c.1=none/\jN r a b (lo+min x 1) none c.2.1 c.2.2.1 c.2.2.2.1) (Q:=λc aq=>aq=st/\jN r a b (lo+1) c.1 c.2.1 c.2.2.1 c.2.2.2.1) ?step ?fin ⟨rfl,rfl,M,h1,h2,h3⟩) ?post
 case fin=>
  rintro⟨c,c1,c2,c3,c4,c5⟩ aq ⟨i7,e,hc⟩;have e':c=none:=e;have fH:jN r a b (lo+min (max 0<|a.size+b.size) 1) none c1 c2 c3:=hc;rw[show min (max 0<|a.size+b.size) 1=1 by omega]at fH;subst e';exact⟨i7,fH⟩
 case step=>
  rintro x ⟨c,c1,c2,c3,c4,c5⟩ aq _ hx ⟨rfl,e,hc⟩;dsimp only at e hc;subst e;have(q1,q2,q3,q4):=hc;refine wpS_mono (N9 (lo:=lo+1) S hk T lst q1 q2 q3 (by omega)) λf bz hf=>?_;have(rfl,hf):=hf;cases f with
  | done d=>exact⟨rfl,hf⟩
  | yield d=>
   refine⟨rfl,hf.1,?_⟩;rw[show min (x+1) 1=1 by omega];exact hf.2
 case post=>
  rintro⟨d,d1,d2,d3,d4,d5⟩ aq ⟨rfl,hd⟩;unfold AR;dsimp only at hd ⊢;cases d with
  | some o=>exact wpS_pure ⟨⟨gallopOf aq,rfl⟩,o,rfl,hd⟩
  | none=>
   dsimp only;refine wpS_bind<|wpS_lift<|wpAny_rule ⟨rfl,?_⟩;refine wpS_bind<|wpS_mono (wpS_forRange (I:=λx c bz=>(∃ g,bz=dw aq g)/\c.1=none/\jN r a b (lo+1) none c.2.1 c.2.2.1 c.2.2.2.1) (Q:=λc bz=>(∃ g,bz=dw aq g)/\jN r a b (lo+1) c.1 c.2.1 c.2.2.1 c.2.2.2.1) ?gT ?lJ ⟨⟨gallopOf aq,rfl⟩,rfl,hd⟩) ?gX
   case lJ=>
    rintro⟨c,c1,c2,c3,c4,c5⟩ bz ⟨hg,e,hc⟩;dsimp only at e hc ⊢;subst e;exact⟨hg,hc⟩
   case gT=>
    rintro x ⟨c,c1,c2,c3,c4,c5,c6⟩ bz _ hx ⟨⟨g,rfl⟩,e,hc⟩;dsimp only at e hc ⊢;have(q1,q2,q3,q4):=hc;split
    all_goals
     refine wpS_mono (Oa (st:=dw aq g) (lo:=lo+1) S hk T lst q1 q2 q3 q4) λf lA hf=>?_;obtain⟨⟨g',rfl⟩,hf⟩:=hf;cases f with
     | done d=>exact⟨⟨g',rfl⟩,hf⟩
     | yield d=>exact⟨⟨g',rfl⟩,hf⟩
   case gX=>
    rintro⟨e,e1,e2,e3,e4,e5,e6⟩ bz ⟨⟨g,rfl⟩,he⟩;dsimp only at he ⊢;cases e with
    | some o=>exact wpS_pure ⟨⟨g,rfl⟩,o,rfl,he⟩
    | none=>
     dsimp only;rw[yP];exact wpS_bind<|wpS_modify<|wpS_pure ⟨⟨_,rfl⟩,rfl,he⟩
theorem Vs{Q:Array Keyed->SortSt->Prop}(S:fg prog w A s κ ah r)(hk:kindOf st=κ)(T:eD r ah a b)(a1:1<=a.size)(b1:1<=b.size)(first:R r b 0 < R r a 0)(lst:∀ j,j < b.size->R r b j < R r a (a.size - 1))
  (h:∀ o g,gO r a b o->Q o (dw st g)):wpS (model prog w) A E s (yy a b) Q st:=by
 rw[WR];refine wpS_bind<|wpS_lift<|wpAny_rule ⟨rfl,?_⟩;have(x0,e0,m0):=T.swap.at (i:=0) (by omega);refine wpS_bind<|eM e0 ?_;have M0:Mg r a b #[x0] 0 1:=by
  have:Mg r b a #[] 0 0:=⟨Ä _,Ä _,by simp,by simp,λx hx=>by simp at hx,λx hx=>by simp at hx⟩;exact(this.push e0 T.sb λj h1 h2=>by
   rw[<-du (r:=r) e0]
   by_cases c:j=0
   .rw[c]; exact first
   .have:=T.sa 0 j (Ä _) (by omega) h2
    omega).swap
 by_cases c1:1=b.size
 .rw[if_pos (by simpa using c1)]
  exact wpS_pure<|h _ (gallopOf st)<|M0.done T.sa T.sb<|.inr c1
 rw[if_neg (by simpa using c1)]
 by_cases c2:0+1=a.size
 .rw[if_pos (by simpa using c2)]
  exact wpS_pure<|h _ (gallopOf st)<|M0.last T.sa T.sb c2 lst
 rw[if_neg (by simpa using c2)];refine wpS_bind<|wpS_get ?_;refine wpS_bind<|wpS_mono (wpS_forRange (I:=λx c aq=>(∃ g,aq=dw st g)/\c.1=none/\jN r a b (x+1) none c.2.1 c.2.2.1 c.2.2.2.1) (Q:=λc aq=>(∃ g,aq=dw st g)/\∃ o,c.1=some o/\gO r a b o) ?step ?fin ⟨⟨gallopOf st,rfl⟩,rfl,M0,by show 0+1 < a.size; omega,by show 1 < b.size; omega,by show 0+1<=0+1; omega⟩) ?post
 case fin=>
  rintro⟨c,c1,c2,c3,c4⟩ aq ⟨_,_,_,q2,q3,q4⟩;dsimp only at q2 q3 q4;omega
 case step=>
  rintro x ⟨c,c1,c2,c3,c4⟩ aq _ hx ⟨⟨g,rfl⟩,e,q1,q2,q3,q4⟩;dsimp only at e q1 q2 q3 q4;subst e;refine wpS_mono (N8 (st:=dw st g) S hk T lst q1 q2 q3 q4) λf lA hf=>?_;obtain⟨⟨g',rfl⟩,hf⟩:=hf;cases f with
  | done d=>exact⟨⟨g',rfl⟩,hf⟩
  | yield d=>exact⟨⟨g',rfl⟩,hf⟩
 case post=>
  rintro⟨c,c1⟩ aq ⟨⟨g,rfl⟩,o,e,ho⟩;dsimp only at e;subst e;exact wpS_pure<|h o g ho
end
def f9(a b:Array Keyed)(out:Array Keyed)(na nb:Nat):Array Keyed:=a.extract 0 na++b.extract 0 nb++out.reverse
def kZ(a b:Array Keyed)(out:Array Keyed)(na nb:Nat):Array Keyed:=b.extract 0 nb++a.extract 0 na++out.reverse
def yx:Array Keyed->Array Keyed->StateT SortSt Sem (Array Keyed):=sortPriv% PySem.Builtin.mergeHi
theorem Xp(a b:Array Keyed):yx a b=(do
 rule "list.sort.merge-hi"
 let total:=a.size+b.size
 let mut na:=a.size - 1
 let mut nb:=b.size
 let mut out:Array Keyed:=#[<-elem' a na]
 if na==0 then return f9 a b out na nb
 if nb==1 then return kZ a b out na nb
 let mut aw:=gallopOf (<-get)
 for _ in [0:total] do
  let mut bj:=0
  let mut bh:=0
  for _ in [0:total] do
   let some lM <-lt' (<-elem' b (nb - 1)) (<-elem' a (na - 1)) | return f9 a b out na nb
   if lM then
    na:=na - 1; out:=out.push (<-elem' a na); bj:=bj+1; bh:=0
    if na==0 then return f9 a b out na nb
    if bj>=aw then break
   else
    nb:=nb - 1; out:=out.push (<-elem' b nb); bh:=bh+1; bj:=0
    if nb==1 then return kZ a b out na nb
    if bh>=aw then break
  rule "list.sort.gallop"
  aw:=aw+1
  for _ in [0:total] do
   if aw > 1 then aw:=aw - 1
   nD aw
   let some at_ <-kz false (<-elem' b (nb - 1)) a 0 na (na - 1) | return f9 a b out na nb
   let k:=na - at_
   bj:=k
   if k > 0 then
    out:=out++(a.extract at_ na).reverse; na:=at_
    if na==0 then return f9 a b out na nb
   nb:=nb - 1; out:=out.push (<-elem' b nb)
   if nb==1 then return kZ a b out na nb
   let some at_ <-kz true (<-elem' a (na - 1)) b 0 nb (nb - 1) | return f9 a b out na nb
   let k:=nb - at_
   bh:=k
   if k > 0 then
    out:=out++(b.extract at_ nb).reverse; nb:=at_
    if nb==1 then return kZ a b out na nb
    if nb==0 then return f9 a b out na nb
   na:=na - 1; out:=out.push (<-elem' a na)
   if na==0 then return f9 a b out na nb
   if bj < 7 && bh < 7 then break
  aw:=aw+1
  nD aw
 unsupported "internal:list.sort.merge-bound"):=rfl
section
variable{a b out:Array Keyed}{na nb:Nat}
def mH(r:Keyed->Int):Keyed->Int:=λx=>- r x
theorem HL(hi:i < a.size):a.reverse[i]?=a[a.size - 1 - i]?:=by
 rw[Array.getElem?_reverse hi]
theorem pQ(hi:i < a.size):R (mH r) a.reverse i=- R r a (a.size - 1 - i):=by
 have e:a[a.size - 1 - i]?=some a[a.size - 1 - i]:=getElem?_pos a _ (by omega);rw[du (x:=a[a.size - 1 - i]) (by rw[HL hi]; exact e),du e];rfl
theorem Seg.rev(h:Seg r a 0 a.size):Seg (mH r) a.reverse 0 a.reverse.size:=λi j h1 h2 h3=>by
 rw[Array.size_reverse]at h3;rw[pQ (by omega),pQ h3];have:=h (a.size - 1 - j) (a.size - 1 - i) (Ä _) (by omega) (by omega);omega
theorem HK(h1:i<=j)(h2:j<=a.size):(a.extract i j).reverse=a.reverse.extract (a.size - j) (a.size - i):=by
 refine Array.ext (by simp; omega) λk k1 k2=>?_;have hs:k < j - i:=by simp at k1; omega
 simp only[Array.getElem_reverse,Array.getElem_extract,Array.size_extract];congr 1;omega
structure Hg (r:Keyed->Int) (a b out:Array Keyed) (na nb:Nat):Prop where
 la:na<=a.size
 lb:nb<=b.size
 mg:Mg (mH r) a.reverse b.reverse out (a.size - na) (b.size - nb)
theorem Hg.swap(h:Hg r a b out na nb):Hg r b a out nb na:=⟨h.lb,h.la,h.mg.swap⟩
theorem Hg.push{x:Keyed}(h:Hg r a b out na nb)(sa:Seg r a 0 a.size)(h1:1<=na)(ex:a[na - 1]?=some x)(hb:∀ j,j < nb->R r b j < r x):Hg r a b (out.push x) (na - 1) nb:=by
 have la:=h.la;have lb:=h.lb;have sr:Seg (mH r) a.reverse 0 a.reverse.size:=sa.rev;have:=h.mg.push (x:=x) (by rw[HL (by omega),show a.size - 1 - (a.size - na)=na - 1 by omega]; exact ex) sr λj j1 j2=>by
  rw[Array.size_reverse]at j2;rw[pQ j2];have:=hb (b.size - 1 - j) (by omega);show - r x < _;omega
 rw[show a.size - na+1=a.size - (na - 1) by omega]at this;exact⟨by omega,lb,this⟩
theorem Hg.app{c:Nat}(h:Hg r a b out na nb)(sa:Seg r a 0 a.size)(hc:c<=na)(hb:∀ i,c<=i->i < na->∀ j,j < nb->R r b j < R r a i):Hg r a b (out++(a.extract c na).reverse) c nb:=by
 have la:=h.la;have lb:=h.lb;have sr:Seg (mH r) a.reverse 0 a.reverse.size:=sa.rev;have:=h.mg.app sr (k:=na - c) (by rw[Array.size_reverse]; omega) λi hi j j1 j2=>by
  rw[Array.size_reverse]at j2;rw[pQ (by omega),pQ j2];have:=hb (a.size - 1 - (a.size - na+i)) (by omega) (by omega) (b.size - 1 - j) (by omega);omega
 rw[show a.size - na+(na - c)=a.size - c by omega,<-HK hc la]at this;exact⟨by omega,lb,this⟩
theorem HJ{o:Array Keyed}(h:gO (mH r) a.reverse b.reverse o):gO r a b o.reverse:=by
 have(p,u):=h;refine⟨?_,?_⟩
 .rw[Array.toList_reverse]
  refine(List.reverse_perm _).trans<|p.trans ?_;rw[Array.toList_reverse,Array.toList_reverse];exact(List.reverse_perm _).append<|List.reverse_perm _
 .rw[Array.toList_reverse,List.pairwise_reverse]
  refine u.imp λ{x y} vv=>?_;have vv:- r x < - r y:=vv;omega
theorem HI(x y z:Array Keyed):(x++y++z).reverse=z.reverse++y.reverse++x.reverse:=by
 apply Array.ext';simp
theorem wz(h:n<=a.size):(a.extract 0 n).reverse=a.reverse.extract (a.size - n) a.reverse.size:=by
 rw[HK (Nat.zero_le _) h,Array.size_reverse];rfl
theorem Hg.done(h:Hg r a b out na nb)(sa:Seg r a 0 a.size)(sb:Seg r b 0 b.size)(c:na=0\/nb=0):gO r a b (f9 a b out na nb):=by
 have la:=h.la;have lb:=h.lb;have sr:Seg (mH r) a.reverse 0 a.reverse.size:=sa.rev;have DO:Seg (mH r) b.reverse 0 b.reverse.size:=sb.rev;have:=HJ (h.mg.swap.done DO sr (by rw[Array.size_reverse,Array.size_reverse]; omega));have e:(fL b.reverse a.reverse out (b.size - nb)<|a.size - na).reverse=f9 a b out na nb:=by
  unfold fL f9;rw[<-wz la,<-wz lb,HI,Array.reverse_reverse,Array.reverse_reverse]
 rw[e]at this;exact⟨this.1.trans á,this.2⟩
theorem Hg.first(h:Hg r a b out na nb)(sa:Seg r a 0 a.size)(sb:Seg r b 0 b.size)(c:nb=1)(fst:∀ j,j < a.size->R r b 0 < R r a j):gO r a b (kZ a b out na nb):=by
 have la:=h.la;have lb:=h.lb;have sr:Seg (mH r) a.reverse 0 a.reverse.size:=sa.rev;have DO:Seg (mH r) b.reverse 0 b.reverse.size:=sb.rev;have:=HJ (h.mg.swap.last DO sr (by rw[Array.size_reverse]; omega) λj j2=>by
  rw[Array.size_reverse]at j2;rw[pQ j2,Array.size_reverse,pQ (by omega),show b.size - 1 - (b.size - 1)=0 by omega];have:=fst (a.size - 1 - j) (by omega);omega)
 have e:(kq b.reverse a.reverse out (b.size - nb)<|a.size - na).reverse=kZ a b out na nb:=by
  unfold kq kZ;rw[<-wz la,<-wz lb,HI,Array.reverse_reverse,Array.reverse_reverse]
 rw[e]at this;exact⟨this.1.trans á,this.2⟩
end
abbrev tH:=Qb (Array Keyed)×Nat×Nat×Array Keyed×Nat×Nat×Nat
abbrev wx:=Qb (Array Keyed)×Nat×Nat×Array Keyed×Nat×Nat
abbrev wg:=Qb (Array Keyed)×Nat×Nat×Array Keyed×Nat
def Aq(a b out:Array Keyed)(na nb mg ac bc:Nat):StateT SortSt Sem (ForInStep tH):=
 elem' a (na - 1) >>= λx=>
 (if(na - 1==0)=true then pure (.done (some<|f9 a b (out.push x) (na - 1) nb,na - 1,nb,out.push x,mg,ac,bc))
 else(if(decide (ac < 7) && decide (bc < 7))=true then pure (.done (none,na - 1,nb,out.push x,mg,ac,bc))
 else pure (.yield (none,na - 1,nb,out.push x,mg,ac,bc))))
def vN(a b out:Array Keyed)(na nb mg ac bc:Nat):StateT SortSt Sem (ForInStep tH):=
 elem' b (nb - 1) >>= λy=>
 (if(nb - 1==1)=true then pure (.done (some<|kZ a b (out.push y) na<|nb - 1,na,nb - 1,out.push y,mg,ac,bc))
 else(elem' a (na - 1) >>= λx=>kz true x b 0 (nb - 1) (nb - 1 - 1) >>= λiu=>
  (match iu with
  | some k=>(if nb - 1 - k > 0 then
    (if(k==1)=true then pure (.done (some<|kZ a b (out.push y++(b.extract k<|nb - 1).reverse) na k,na,k,out.push y++(b.extract k<|nb - 1).reverse,mg,ac,nb - 1 - k))
    else(if(k==0)=true then pure (.done (some<|f9 a b (out.push y++(b.extract k<|nb - 1).reverse) na k,na,k,out.push y++(b.extract k<|nb - 1).reverse,mg,ac,nb - 1 - k))
    else Aq a b (out.push y++(b.extract k<|nb - 1).reverse) na k mg ac (nb - 1 - k)))
   else Aq a b (out.push y) na (nb - 1) mg ac (nb - 1 - k))
  | _=>pure<|.done (some<|f9 a b (out.push y) na<|nb - 1,na,nb - 1,out.push y,mg,ac,bc))))
def vO(a b out:Array Keyed)(na nb mg ac bc:Nat):StateT SortSt Sem (ForInStep tH):=
 nD mg >>= λ_=>elem' b (nb - 1) >>= λy=>kz false y a 0 na (na - 1) >>= λiu=>
 (match iu with
 | some k=>(if na - k > 0 then
   (if(k==0)=true then pure (.done (some<|f9 a b (out++(a.extract k na).reverse) k nb,k,nb,out++(a.extract k na).reverse,mg,na - k,bc))
   else vN a b (out++(a.extract k na).reverse) k nb mg (na - k) bc)
  else vN a b out na nb mg (na - k) bc)
 | _=>pure<|.done (some<|f9 a b out na nb,na,nb,out,mg,ac,bc))
def As(a b:Array Keyed)(mg:Nat)(c:wx):StateT SortSt Sem (ForInStep wx):=
 elem' b (c.snd.snd.fst - 1) >>= λy=>elem' a (c.snd.fst - 1) >>= λx=>lt' y x >>= λiu=>
 (match iu with
 | some lM=>(if lM=true then(elem' a (c.snd.fst - 1) >>= λx=>
   (if(c.snd.fst - 1==0)=true then pure (.done (some<|f9 a b (c.snd.snd.snd.fst.push x) (c.snd.fst - 1) c.snd.snd.fst,c.snd.fst - 1,c.snd.snd.fst,c.snd.snd.snd.fst.push x,c.snd.snd.snd.snd.fst+1,0))
   else(if c.snd.snd.snd.snd.fst+1>=mg then pure (.done (none,c.snd.fst - 1,c.snd.snd.fst,c.snd.snd.snd.fst.push x,c.snd.snd.snd.snd.fst+1,0))
   else pure (.yield (none,c.snd.fst - 1,c.snd.snd.fst,c.snd.snd.snd.fst.push x,c.snd.snd.snd.snd.fst+1,0)))))
  else(elem' b (c.snd.snd.fst - 1) >>= λy=>
   (if(c.snd.snd.fst - 1==1)=true then pure (.done (some<|kZ a b (c.snd.snd.snd.fst.push y) c.snd.fst<|c.snd.snd.fst - 1,c.snd.fst,c.snd.snd.fst - 1,c.snd.snd.snd.fst.push y,0,c.snd.snd.snd.snd.snd+1))
   else(if c.snd.snd.snd.snd.snd+1>=mg then pure (.done (none,c.snd.fst,c.snd.snd.fst - 1,c.snd.snd.snd.fst.push y,0,c.snd.snd.snd.snd.snd+1))
   else pure (.yield (none,c.snd.fst,c.snd.snd.fst - 1,c.snd.snd.snd.fst.push y,0,c.snd.snd.snd.snd.snd+1))))))
 | _=>pure<|.done (some<|f9 a b c.snd.snd.snd.fst c.snd.fst c.snd.snd.fst,c.snd.fst,c.snd.snd.fst,c.snd.snd.snd.fst,c.snd.snd.snd.snd.fst,c.snd.snd.snd.snd.snd))
def D3(a b:Array Keyed)(c:wg)(d:wx):StateT SortSt Sem (ForInStep wg):=
 (match d.fst with
 | some r=>pure<|.done (some r,d.snd.fst,d.snd.snd.fst,d.snd.snd.snd.fst,c.snd.snd.snd.snd)
 | none=>(liftM (rule "list.sort.gallop") >>= λ(_:Unit)=>
  forIn [0:a.size+b.size] ((none,d.snd.fst,d.snd.snd.fst,d.snd.snd.snd.fst,c.snd.snd.snd.snd+1,d.snd.snd.snd.snd.fst,d.snd.snd.snd.snd.snd):tH) (λ_ e=>
   (if e.snd.snd.snd.snd.fst > 1 then vO a b e.snd.snd.snd.fst e.snd.fst e.snd.snd.fst (e.snd.snd.snd.snd.fst - 1) e.snd.snd.snd.snd.snd.fst e.snd.snd.snd.snd.snd.snd
   else vO a b e.snd.snd.snd.fst e.snd.fst e.snd.snd.fst e.snd.snd.snd.snd.fst e.snd.snd.snd.snd.snd.fst e.snd.snd.snd.snd.snd.snd)) >>= λe=>
  (match e.fst with
  | some r=>pure<|.done (some r,e.snd.fst,e.snd.snd.fst,e.snd.snd.snd.fst,e.snd.snd.snd.snd.fst)
  | none=>(nD (e.snd.snd.snd.snd.fst+1) >>= λ_=>pure<|.yield (none,e.snd.fst,e.snd.snd.fst,e.snd.snd.snd.fst,e.snd.snd.snd.snd.fst+1)))))
def yZ(a b:Array Keyed)(c:wg):StateT SortSt Sem (ForInStep wg):=
 forIn [0:a.size+b.size] ((none,c.snd.fst,c.snd.snd.fst,c.snd.snd.snd.fst,0,0):wx) (λ_ d=>As a b c.snd.snd.snd.snd d) >>= D3 a b c
theorem WQ(a b:Array Keyed):yx a b=(do
 liftM (rule "list.sort.merge-hi")
 let x <-elem' a (a.size - 1)
 if(a.size - 1==0)=true then pure (f9 a b #[x] (a.size - 1) b.size)
 else if(b.size==1)=true then pure (kZ a b #[x] (a.size - 1) b.size)
 else do
  let st <-get
  let c <-forIn [0:a.size+b.size] ((none,a.size - 1,b.size,#[x],gallopOf st):wg) λ_ c=>yZ a b c
  match c.fst with
  | some r=>pure r
  | none=>unsupported "internal:list.sort.merge-bound"):=by
 rw[Xp];dsimp only;refine bind_congr λ_=>bind_congr λx=>?_;refine ite_congr rfl (λ_=>rfl) λ_=>ite_congr rfl (λ_=>rfl) λ_=>bind_congr λst=>?_;refine rX (rJ λi c=>?_) λc=>?_
 .unfold yZ
  refine rX (rJ λi d=>?_) λd=>?_
  .unfold As
   rfl
  .unfold D3
   have(d,d1,d2,d3,d4,d5):=d;cases d with
   | some d=>rfl
   | none=>
    dsimp only;refine bind_congr λ_=>rX (rJ λi e=>?_) λe=>?_
    .have(e,e1,e2,e3,e4,e5,e6):=e
     dsimp only;unfold vO;refine ite_congr rfl (λ_=>bind_congr λ_=>bind_congr λy=>bind_congr λk=>?_) λ_=>bind_congr λ_=>bind_congr λy=>bind_congr λk=>?_
     all_goals (cases k with
      | none=>rfl
      | some k=>?_)
     all_goals dsimp only
     all_goals unfold vN
     all_goals refine ite_congr rfl (λ_=>ite_congr rfl (λ_=>rfl) λ_=>?_) λ_=>?_
     all_goals refine bind_congr λy=>ite_congr rfl (λ_=>rfl) λ_=>bind_congr λx=>bind_congr λk1=>?_
     all_goals (cases k1 with
      | none=>rfl
      | some k1=>?_)
     all_goals dsimp only
     all_goals exact ite_congr rfl (λ_=>ite_congr rfl (λ_=>rfl) λ_=>ite_congr rfl (λ_=>rfl) λ_=>rfl) λ_=>rfl
    .have(e,e1,e2,e3,e4,e5,e6):=e
     cases e<;>rfl
 .have(c,_):=c
  cases c<;>rfl
def jq(r:Keyed->Int)(a b:Array Keyed)(lo:Nat)(o:Qb (Array Keyed))(out:Array Keyed)(na nb:Nat):Prop:=match o with
 | some o=>gO r a b o
 | none=>Hg r a b out na nb/\1<=na/\2<=nb/\na+nb+lo<=a.size+b.size
def HP(r:Keyed->Int)(a b:Array Keyed)(lo:Nat)(st:SortSt)(f:ForInStep tH)(aq:SortSt):Prop:=(∃ g,aq=dw st g)/\match f with
 | .done c=>jq r a b lo c.1 c.2.2.2.1 c.2.1 c.2.2.1
 | .yield c=>c.1=none/\jq r a b lo none c.2.2.2.1 c.2.1 c.2.2.1
section
variable{s:Qd}{st:SortSt}{a b out:Array Keyed}{na nb mg ac bc lo:Nat}
theorem Gg(T:eD r ah a b)(M:Hg r a b out na nb)(h1:1<=na)(h2:2<=nb)(h3:na+nb+lo<=a.size+b.size+1)(hx:∀ j,j < nb->R r b j < R r a (na - 1)):
  wpS (model prog w) A E s (Aq a b out na nb mg ac bc) (HP r a b lo st) st:=by
 have la:=M.la;unfold Aq;have(x,ex,mx):=T.at (i:=na - 1) (by omega);refine wpS_bind<|eM ex ?_;have M1:=M.push T.sa h1 ex λj j1=>by
  rw[<-du (r:=r) ex];exact hx j j1
 by_cases c:na - 1=0
 .rw[if_pos (by simpa using c)]
  exact wpS_pure ⟨⟨gallopOf st,rfl⟩,M1.done T.sa T.sb<|.inl c⟩
 .rw[if_neg (by simpa using c)]
  have ok:jq r a b lo none (out.push x) (na - 1) nb:=⟨M1,by omega,h2,by omega⟩;split
  .exact wpS_pure ⟨⟨gallopOf st,rfl⟩,ok⟩
  .exact wpS_pure ⟨⟨gallopOf st,rfl⟩,rfl,ok⟩
theorem Gf(S:fg prog w A s κ ah r)(hk:kindOf st=κ)(T:eD r ah a b)(fst:∀ j,j < a.size->R r b 0 < R r a j)(M:Hg r a b out na nb)(h1:1<=na)(h2:2<=nb)(h3:na+nb+lo<=a.size+b.size+1)(hy:∀ j,j < na->R r a j < R r b (nb - 1)):
  wpS (model prog w) A E s (vN a b out na nb mg ac bc) (HP r a b lo st) st:=by
 have la:=M.la;have lb:=M.lb;unfold vN;have(y,ey,my):=T.swap.at (i:=nb - 1) (by omega);refine wpS_bind<|eM ey ?_;have M1:=(M.swap.push T.sb (by omega) ey λj j1=>by
  rw[<-du (r:=r) ey];exact hy j j1).swap
 by_cases c:nb - 1=1
 .rw[if_pos (by simpa using c)]
  exact wpS_pure ⟨⟨gallopOf st,rfl⟩,M1.first T.sa T.sb c fst⟩
 .rw[if_neg (by simpa using c)]
  have(x,ex,mx):=T.at (i:=na - 1) (by omega);have rx:R r a (na - 1)=r x:=du ex;refine wpS_bind<|eM ex<|wpS_bind<|sG S hk mx (λi hi=>T.swap.at (by omega)) (λi j d0 hj hb=>?_) (by omega) λk k1 k2 k3=>?_
  .unfold cf at hb ⊢
   rw[if_pos rfl]at hb ⊢;have hb:=of_decide_eq_true hb;refine decide_eq_true ?_
   by_cases e:i=j
   .rw[e]; exact hb
   .have:=T.sb (0+i) (0+j) (by omega) (by omega) (by omega)
    omega
  .dsimp only
   have below:∀ i,i < k->R r b i < R r a (na - 1):=λi hi=>by
    have:=k2 i hi;unfold cf at this;rw[if_pos rfl,Nat.zero_add]at this;have:=of_decide_eq_true this;omega
   have above:∀ i,k<=i->i < nb - 1->R r a (na - 1) < R r b i:=λi j1 j2=>by
    have:=k3 i j1 j2;unfold cf at this;rw[if_pos rfl,Nat.zero_add]at this;have:=of_decide_eq_false this;have:=T.ne (na - 1) i (by omega) (by omega);omega
   by_cases kp:nb - 1 - k > 0
   .rw[if_pos kp]
    have M2:=(M1.swap.app T.sb (c:=k) (by omega) λi i1 i2 j j1=>by
     have h5:=above i i1 i2
     by_cases e:j=na - 1
     .rw[e]; exact h5
     .have:=T.sa j (na - 1) (Ä _) (by omega) (by omega)
      omega).swap
    by_cases c2:k=1
    .rw[if_pos (by simpa using c2)]
     exact wpS_pure ⟨⟨gallopOf st,rfl⟩,M2.first T.sa T.sb c2 fst⟩
    .rw[if_neg (by simpa using c2)]
     by_cases c3:k=0
     .rw[if_pos (by simpa using c3)]
      exact wpS_pure ⟨⟨gallopOf st,rfl⟩,M2.done T.sa T.sb<|.inr c3⟩
     .rw[if_neg (by simpa using c3)]
      exact Gg T M2 h1 (by omega) (by omega) below
   .rw[if_neg kp]
    have k0:k=nb - 1:=by omega
    subst k0;exact Gg T M1 h1 (by omega) (by omega) below
theorem NN(S:fg prog w A s κ ah r)(hk:kindOf st=κ)(T:eD r ah a b)(fst:∀ j,j < a.size->R r b 0 < R r a j)(M:Hg r a b out na nb)(h1:1<=na)(h2:2<=nb)(h3:na+nb+lo<=a.size+b.size):
  wpS (model prog w) A E s (vO a b out na nb mg ac bc) (HP r a b lo st) st:=by
 have la:=M.la;have lb:=M.lb;unfold vO;rw[yP];refine wpS_bind<|wpS_modify ?_;have(y,ey,my):=T.swap.at (i:=nb - 1) (by omega);have ry:R r b (nb - 1)=r y:=du ey;refine wpS_bind<|eM ey<|wpS_bind<|sG (st:=dw st mg) S hk my (λi hi=>T.at (by omega)) (λi j d0 hj hb=>?_) (by omega) λk k1 k2 k3=>?_
 .unfold cf at hb ⊢
  rw[if_neg qf]at hb ⊢;rw[Bool.not_eq_true',decide_eq_false_iff_not]at hb ⊢
  by_cases e:i=j
  .rw[e]; exact hb
  .have:=T.sa (0+i) (0+j) (by omega) (by omega) (by omega)
   omega
 .dsimp only
  have below:∀ i,i < k->R r a i < R r b (nb - 1):=λi hi=>by
   have:=k2 i hi;unfold cf at this;rw[if_neg qf,Bool.not_eq_true',decide_eq_false_iff_not,Nat.zero_add]at this;have:=T.ne i (nb - 1) (by omega) (by omega);omega
  have above:∀ i,k<=i->i < na->R r b (nb - 1) < R r a i:=λi j1 j2=>by
   have:=k3 i j1 j2;unfold cf at this;rw[if_neg qf,Bool.not_eq_false',decide_eq_true_iff,Nat.zero_add]at this;omega
  have gp:∀ {m:StateT SortSt Sem (ForInStep tH)},wpS (model prog w) A E s m (HP r a b lo<|dw st mg) (dw st mg)->wpS (model prog w) A E s m (HP r a b lo st) (dw st mg):=λh=>wpS_mono h λc aq hc=>by
   obtain⟨⟨g,rfl⟩,hc⟩:=hc;exact⟨⟨g,rfl⟩,hc⟩
  by_cases kp:na - k > 0
  .rw[if_pos kp]
   have M1:=M.app T.sa (c:=k) (by omega) λi i1 i2 j j1=>by
    have h5:=above i i1 i2
    by_cases e:j=nb - 1
    .rw[e]; exact h5
    .have:=T.sb j (nb - 1) (Ä _) (by omega) (by omega)
     omega
   by_cases c1:k=0
   .rw[if_pos (by simpa using c1)]
    exact wpS_pure ⟨⟨mg,rfl⟩,M1.done T.sa T.sb<|.inl c1⟩
   .rw[if_neg (by simpa using c1)]
    exact gp<|Gf S hk T fst M1 (by omega) h2 (by omega) below
  .rw[if_neg kp]
   have k0:k=na:=by omega
   subst k0;exact gp<|Gf S hk T fst M h1 h2 (by omega) below
def FH(r:Keyed->Int)(a b:Array Keyed)(lo:Nat)(st:SortSt)(f:ForInStep wx)(aq:SortSt):Prop:=aq=st/\match f with
 | .done c=>jq r a b lo c.1 c.2.2.2.1 c.2.1 c.2.2.1
 | .yield c=>c.1=none/\jq r a b lo none c.2.2.2.1 c.2.1 c.2.2.1
theorem Mz(S:fg prog w A s κ ah r)(hk:kindOf st=κ)(T:eD r ah a b)(fst:∀ j,j < a.size->R r b 0 < R r a j)(M:Hg r a b out na nb)(h1:1<=na)(h2:2<=nb)(h3:na+nb+lo<=a.size+b.size+1):
  wpS (model prog w) A E s (As a b mg (none,na,nb,out,ac,bc)) (FH r a b lo st) st:=by
 have la:=M.la;have lb:=M.lb;unfold As;dsimp only;have(y,ey,my):=T.swap.at (i:=nb - 1) (by omega);have(x,ex,mx):=T.at (i:=na - 1) (by omega);have rx:R r a (na - 1)=r x:=du ex;have ry:R r b (nb - 1)=r y:=du ey;refine wpS_bind<|eM ey<|wpS_bind<|eM ex<|wpS_bind<|tU S hk my mx ?_
 by_cases c:r y < r x
 .rw[decide_eq_true c]
  dsimp only;rw[if_pos rfl];refine wpS_bind<|eM ex ?_;have M1:=M.push T.sa h1 ex λj j1=>by
   by_cases e:j=nb - 1
   .rw[e]; omega
   .have:=T.sb j (nb - 1) (Ä _) (by omega) (by omega)
    omega
  by_cases c1:na - 1=0
  .rw[if_pos (by simpa using c1)]
   exact wpS_pure ⟨rfl,M1.done T.sa T.sb<|.inl c1⟩
  .rw[if_neg (by simpa using c1)]
   have ok:jq r a b lo none (out.push x) (na - 1) nb:=⟨M1,by omega,h2,by omega⟩;split
   .exact wpS_pure ⟨rfl,ok⟩
   .exact wpS_pure ⟨rfl,rfl,ok⟩
 .rw[decide_eq_false c]
  dsimp only;rw[if_neg qf];refine wpS_bind<|eM ey ?_;have ne:=T.ne (na - 1) (nb - 1) (by omega) (by omega);have M1:=(M.swap.push T.sb (by omega) ey λj j1=>by
   by_cases e:j=na - 1
   .rw[e]; omega
   .have:=T.sa j (na - 1) (Ä _) (by omega) (by omega)
    omega).swap
  by_cases c1:nb - 1=1
  .rw[if_pos (by simpa using c1)]
   exact wpS_pure ⟨rfl,M1.first T.sa T.sb c1 fst⟩
  .rw[if_neg (by simpa using c1)]
   have ok:jq r a b lo none (out.push y) na (nb - 1):=⟨M1,h1,by omega,by omega⟩;split
   .exact wpS_pure ⟨rfl,ok⟩
   .exact wpS_pure ⟨rfl,rfl,ok⟩
theorem My(S:fg prog w A s κ ah r)(hk:kindOf st=κ)(T:eD r ah a b)(fst:∀ j,j < a.size->R r b 0 < R r a j)(M:Hg r a b out na nb)(h1:1<=na)(h2:2<=nb)(h3:na+nb+lo<=a.size+b.size):
  wpS (model prog w) A E s (yZ a b (none,na,nb,out,mg)) (λf aq=>(∃ g,aq=dw st g)/\match f with
   | .done c=>∃ o,c.1=some o/\gO r a b o
   | .yield c=>c.1=none/\jq r a b (lo+1) none c.2.2.2.1 c.2.1 c.2.2.1) st:=by
 have la:=M.la;have lb:=M.lb;unfold yZ;dsimp only;refine wpS_bind<|wpS_mono (wpS_forRange (I:=λx c aq=>aq=st/\c.1=none/\jq r a b (lo+min x 1) none c.2.2.2.1 c.2.1 c.2.2.1) (Q:=λc aq=>aq=st/\jq r a b (lo+1) c.1 c.2.2.2.1 c.2.1 c.2.2.1) ?step ?fin ⟨rfl,rfl,M,h1,h2,h3⟩) ?post
 case fin=>
  rintro⟨c,c1,c2,c3,c4,c5⟩ aq ⟨i7,e,hc⟩;have e':c=none:=e;have fH:jq r a b (lo+min (max 0<|a.size+b.size) 1) none c3 c1 c2:=hc;rw[show min (max 0<|a.size+b.size) 1=1 by omega]at fH;subst e';exact⟨i7,fH⟩
 case step=>
  rintro x ⟨c,c1,c2,c3,c4,c5⟩ aq _ hx ⟨rfl,e,hc⟩;dsimp only at e hc;subst e;have(q1,q2,q3,q4):=hc;refine wpS_mono (Mz (lo:=lo+1) S hk T fst q1 q2 q3 (by omega)) λf bz hf=>?_;have(rfl,hf):=hf;cases f with
  | done d=>exact⟨rfl,hf⟩
  | yield d=>
   refine⟨rfl,hf.1,?_⟩;rw[show min (x+1) 1=1 by omega];exact hf.2
 case post=>
  rintro⟨d,d1,d2,d3,d4,d5⟩ aq ⟨rfl,hd⟩;unfold D3;dsimp only at hd ⊢;cases d with
  | some o=>exact wpS_pure ⟨⟨gallopOf aq,rfl⟩,o,rfl,hd⟩
  | none=>
   dsimp only;refine wpS_bind<|wpS_lift<|wpAny_rule ⟨rfl,?_⟩;refine wpS_bind<|wpS_mono (wpS_forRange (I:=λx c bz=>(∃ g,bz=dw aq g)/\c.1=none/\jq r a b (lo+1) none c.2.2.2.1 c.2.1 c.2.2.1) (Q:=λc bz=>(∃ g,bz=dw aq g)/\jq r a b (lo+1) c.1 c.2.2.2.1 c.2.1 c.2.2.1) ?gT ?lJ ⟨⟨gallopOf aq,rfl⟩,rfl,hd⟩) ?gX
   case lJ=>
    rintro⟨c,c1,c2,c3,c4,c5⟩ bz ⟨hg,e,hc⟩;dsimp only at e hc ⊢;subst e;exact⟨hg,hc⟩
   case gT=>
    rintro x ⟨c,c1,c2,c3,c4,c5,c6⟩ bz _ hx ⟨⟨g,rfl⟩,e,hc⟩;dsimp only at e hc ⊢;have(q1,q2,q3,q4):=hc;split
    all_goals
     refine wpS_mono (NN (st:=dw aq g) (lo:=lo+1) S hk T fst q1 q2 q3 q4) λf lA hf=>?_;obtain⟨⟨g',rfl⟩,hf⟩:=hf;cases f with
     | done d=>exact⟨⟨g',rfl⟩,hf⟩
     | yield d=>exact⟨⟨g',rfl⟩,hf⟩
   case gX=>
    rintro⟨e,e1,e2,e3,e4,e5,e6⟩ bz ⟨⟨g,rfl⟩,he⟩;dsimp only at he ⊢;cases e with
    | some o=>exact wpS_pure ⟨⟨g,rfl⟩,o,rfl,he⟩
    | none=>
     dsimp only;rw[yP];exact wpS_bind<|wpS_modify<|wpS_pure ⟨⟨_,rfl⟩,rfl,he⟩
theorem VW{Q:Array Keyed->SortSt->Prop}(S:fg prog w A s κ ah r)(hk:kindOf st=κ)(T:eD r ah a b)(a1:1<=a.size)(b1:1<=b.size)(fst:∀ j,j < a.size->R r b 0 < R r a j)(lst:∀ j,j < b.size->R r b j < R r a (a.size - 1))
  (h:∀ o g,gO r a b o->Q o (dw st g)):wpS (model prog w) A E s (yx a b) Q st:=by
 rw[WQ];refine wpS_bind<|wpS_lift<|wpAny_rule ⟨rfl,?_⟩;have(x0,e0,m0):=T.at (i:=a.size - 1) (by omega);refine wpS_bind<|eM e0 ?_;have M0:Hg r a b #[x0] (a.size - 1) b.size:=by
  have:Hg r a b #[] a.size b.size:=⟨qe _,qe _,by simp,by simp,by simp,by simp,λx hx=>by simp at hx,λx hx=>by simp at hx⟩;exact this.push T.sa a1 e0 λj j1=>by
   rw[<-du (r:=r) e0];exact lst j j1
 by_cases c1:a.size - 1=0
 .rw[if_pos (by simpa using c1)]
  exact wpS_pure<|h _ (gallopOf st)<|M0.done T.sa T.sb<|.inl c1
 rw[if_neg (by simpa using c1)]
 by_cases c2:b.size=1
 .rw[if_pos (by simpa using c2)]
  exact wpS_pure<|h _ (gallopOf st)<|M0.first T.sa T.sb c2 fst
 rw[if_neg (by simpa using c2)];refine wpS_bind<|wpS_get ?_;refine wpS_bind<|wpS_mono (wpS_forRange (I:=λx c aq=>(∃ g,aq=dw st g)/\c.1=none/\jq r a b (x+1) none c.2.2.2.1 c.2.1 c.2.2.1) (Q:=λc aq=>(∃ g,aq=dw st g)/\∃ o,c.1=some o/\gO r a b o) ?step ?fin ⟨⟨gallopOf st,rfl⟩,rfl,M0,by show 1<=a.size - 1; omega,by show 2<=b.size; omega,by show a.size - 1+b.size+(0+1)<=a.size+b.size; omega⟩) ?post
 case fin=>
  rintro⟨c,c1,c2,c3,c4⟩ aq ⟨_,_,_,q2,q3,q4⟩;dsimp only at q2 q3 q4;omega
 case step=>
  rintro x ⟨c,c1,c2,c3,c4⟩ aq _ hx ⟨⟨g,rfl⟩,e,q1,q2,q3,q4⟩;dsimp only at e q1 q2 q3 q4;subst e;refine wpS_mono (My (st:=dw st g) S hk T fst q1 q2 q3 q4) λf lA hf=>?_;obtain⟨⟨g',rfl⟩,hf⟩:=hf;cases f with
  | done d=>exact⟨⟨g',rfl⟩,hf⟩
  | yield d=>exact⟨⟨g',rfl⟩,hf⟩
 case post=>
  rintro⟨c,c1⟩ aq ⟨⟨g,rfl⟩,o,e,ho⟩;dsimp only at e;subst e;exact wpS_pure<|h o g ho
end
theorem RE{σ:Type}{M:Model}{s:Qd}{x:σ}{Q:PUnit->σ->Prop}{st:σ}(h:Q ⟨⟩ x):wpS M A E s (set x:StateT σ Sem PUnit) Q st:=by
 unfold wpS; rw[StateT.run_set]; exact qb ⟨rfl,h⟩
def jV(ms:Qa Keyed)(n s:Nat)(arr:Array Keyed):Array Keyed:=(ms.zipIdx n).foldl (λa (p,j)=>a.setIfInBounds (s+j) p) arr
theorem Iw:∀ {ms:Qa Keyed} {n s:Nat} {arr:Array Keyed},s+n+ms.length<=arr.size->∀ q,(jV ms n s arr)[q]?=if s+n<=q/\q < s+n+ms.length then ms[q - (s+n)]? else arr[q]?
 | [],n,s,arr,h,q=>by
  rw[if_neg (by simp)];rfl
 | m::ms,n,s,arr,h,q=>by
  rw[qt]at h ⊢;show(jV ms (n+1) s<|arr.setIfInBounds (s+n) m)[q]?=_;rw[Iw (by rw[Array.size_setIfInBounds]; omega),Array.getElem?_setIfInBounds]
  by_cases c1:s+n=q
  .subst c1
   rw[if_neg (by omega),if_pos rfl,if_pos (by omega),if_pos (by omega),Nat.sub_self];rfl
  .rw[if_neg c1]
   by_cases c2:s+(n+1)<=q/\q < s+(n+1)+ms.length
   .rw[if_pos c2,if_pos (by omega),show q - (s+n)=(q - (s+(n+1)))+1 by omega]
    rfl
   .rw[if_neg c2,if_neg (by omega)]
theorem WO(i:Nat):mergeAt' i=(do
 let s <-get
 let (some (sa,na,power),some (sb,nb,_)):=((pendingOf s)[i]?,(pendingOf s)[i+1]?) | unsupported "internal:list.sort.pending"
 set (setPending s<|((pendingOf s).setIfInBounds i (sa,na+nb,power)).eraseIdxIfInBounds<|i+1)
 let some k <-kz false (<-elem' (arrOf s) sb) (arrOf s) sa na 0|return false
 let (sa,na):=(sa+k,na - k)
 if na==0 then return true
 let some nb <-kz true (<-elem' (arrOf s) (sa+na - 1)) (arrOf s) sb nb (nb - 1) | return false
 if nb==0 then return true
 let x:=(arrOf s).extract sa sb
 let y:=(arrOf s).extract sb (sb+nb)
 let merged <-if na<=nb then yy x y else yx x y
 modify λs=>setArr s (jV merged.toList 0 sa<|arrOf s)
 return (failedOf<|<-get).isNone):=rfl
section
variable{s:Qd}{st:SortSt}
theorem GC(h1:j<=arr.size)(h2:q < j - i):(arr.extract i j)[q]?=arr[i+q]?:=by
 rw[Array.getElem?_extract,if_pos (by omega)]
theorem VV{sa na pw sb nb DT:Nat}{Q:Bool->SortSt->Prop}(S:fg prog w A s κ ah r)(hB:SS κ ah st)(p1:(pendingOf st)[i]?=some (sa,na,pw))(p2:(pendingOf st)[i+1]?=some (sb,nb,DT))(esb:sb=sa+na)(na1:1<=na)(nb1:1<=nb)(hn:sb+nb<=ah.size)
  (s1:Seg r (arrOf st) sa sb) (s2:Seg r (arrOf st) sb (sb+nb))
  (h:∀ aq,(arrOf aq).Perm (arrOf st)->(∀ k,k < sa\/sb+nb<=k->(arrOf aq)[k]?=(arrOf st)[k]?)->kindOf aq=kindOf st->failedOf aq=failedOf st->pendingOf aq=((pendingOf st).setIfInBounds i (sa,na+nb,pw)).eraseIdxIfInBounds (i+1)->Seg r (arrOf aq) sa (sb+nb)->Q true aq):wpS (model prog w) A E s (mergeAt' i) Q st:=by
 have hz:=hB.size;rw[WO];refine wpS_bind<|wpS_get ?_;rw[p1,p2];dsimp only;refine wpS_bind<|RE ?_;have(y,ey):=hB.at (i:=sb) (by omega);have ry:R r (arrOf st) sb=r y:=du ey;refine wpS_bind<|eM ey<|wpS_bind<|sG S hB.kind (hB.mem ey) (λi hi=>?_) (λi j d0 hj hb=>?_) (by omega) λk k1 k2 k3=>?_
 .have(x,ex):=hB.at (i:=sa+i) (by omega)
  exact⟨x,ex,hB.mem ex⟩
 .unfold cf at hb ⊢
  rw[if_neg qf]at hb ⊢;rw[Bool.not_eq_true',decide_eq_false_iff_not]at hb ⊢
  by_cases e:i=j
  .rw[e]; exact hb
  .have:=s1 (sa+i) (sa+j) (by omega) (by omega) (by omega)
   omega
 dsimp only;have vm:∀ q,sa<=q->q < sa+k->R r (arrOf st) q < R r (arrOf st) sb:=λq q1 q2=>by
  have:=k2 (q - sa) (by omega);unfold cf at this;rw[if_neg qf,Bool.not_eq_true',decide_eq_false_iff_not,show sa+(q - sa)=q by omega]at this;have:=hB.ne S (i:=q) (j:=sb) (by omega) (by omega) (by omega);omega
 have ph:∀ q,sa+k<=q->q < sb->R r (arrOf st) sb < R r (arrOf st) q:=λq q1 q2=>by
  have:=k3 (q - sa) (by omega) (by omega);unfold cf at this;rw[if_neg qf,Bool.not_eq_false',decide_eq_true_iff,show sa+(q - sa)=q by omega]at this;omega
 by_cases c1:na - k=0
 .rw[if_pos (by simpa using c1)]
  refine wpS_pure<|h _ (Array.Perm.refl _) (λ_ _=>rfl) rfl rfl rfl λi j h1 h2 h3=>?_;show R r (arrOf st) i < R r (arrOf st) j
  by_cases ci:i < sb
  .by_cases cj:j < sb
   .exact s1 i j h1 h2 cj
   .have:=vm i h1 (by omega)
    by_cases e:j=sb
    .rw[e]; exact this
    .have:=s2 sb j (qe _) (by omega) h3
     omega
  .exact s2 i j (by omega) h2 h3
 rw[if_neg (by simpa using c1)];have Fc:sa+k+(na - k) - 1=sb - 1:=by omega
 have(x,ex):=hB.at (i:=sb - 1) (by omega);have rx:R r (arrOf st) (sb - 1)=r x:=du ex;rw[Fc];refine wpS_bind<|eM ex<|wpS_bind<|sG S hB.kind (hB.mem ex) (λi hi=>?_) (λi j d0 hj hb=>?_) (by omega) λm m1 m2 m3=>?_
 .have(x,ex):=hB.at (i:=sb+i) (by omega)
  exact⟨x,ex,hB.mem ex⟩
 .unfold cf at hb ⊢
  rw[if_pos rfl]at hb ⊢;have hb:=of_decide_eq_true hb;refine decide_eq_true ?_
  by_cases e:i=j
  .rw[e]; exact hb
  .have:=s2 (sb+i) (sb+j) (by omega) (by omega) (by omega)
   omega
 dsimp only;have D9:∀ q,sb<=q->q < sb+m->R r (arrOf st) q < R r (arrOf st) (sb - 1):=λq q1 q2=>by
  have:=m2 (q - sb) (by omega);unfold cf at this;rw[if_pos rfl,show sb+(q - sb)=q by omega]at this;have:=of_decide_eq_true this;omega
 have pf:∀ q,sb+m<=q->q < sb+nb->R r (arrOf st) (sb - 1) < R r (arrOf st) q:=λq q1 q2=>by
  have:=m3 (q - sb) (by omega) (by omega);unfold cf at this;rw[if_pos rfl,show sb+(q - sb)=q by omega]at this;have:=of_decide_eq_false this;have:=hB.ne S (i:=q) (j:=sb - 1) (by omega) (by omega) (by omega);omega
 by_cases c2:m=0
 .exfalso
  have h1:=pf sb (by omega) (by omega);have h2:=ph (sb - 1) (by omega) (by omega);omega
 rw[if_neg (by simpa using c2)];have zx:((arrOf st).extract (sa+k) sb).size=na - k:=by rw[Array.size_extract]; omega
 have zy:((arrOf st).extract sb<|sb+m).size=m:=by rw[Array.size_extract]; omega
 have Rx:∀ q,q < na - k->R r ((arrOf st).extract (sa+k) sb) q=R r (arrOf st) (sa+k+q):=λq hq=>iI<|GC (by omega) (by omega);have Ry:∀ q,q < m->R r ((arrOf st).extract sb<|sb+m) q=R r (arrOf st) (sb+q):=λq hq=>iI<|GC (by omega) (by omega);have vg:∀ i j,∀ z∈((arrOf st).extract i j).toList,z∈ah.toList:=λi j z hz=>by
  refine(Ó.mp hB.perm).mem_iff.mp ?_;rw[Array.toList_extract,List.extract_eq_drop_take]at hz;exact List.mem_of_mem_drop<|List.mem_of_mem_take hz
 have T:eD r ah ((arrOf st).extract (sa+k) sb) ((arrOf st).extract sb<|sb+m):=by
  refine⟨vg _ _,vg _ _,λi j h1 h2 h3=>?_,λi j h1 h2 h3=>?_,λi j h1 h2=>?_⟩
  .rw[zx]at h3
   rw[Rx i (by omega),Rx j h3];exact s1 _ _ (by omega) (by omega) (by omega)
  .rw[zy]at h3
   rw[Ry i (by omega),Ry j h3];exact s2 _ _ (by omega) (by omega) (by omega)
  .rw[zx]at h1
   rw[zy]at h2;rw[Rx i h1,Ry j h2];exact hB.ne S (by omega) (by omega) (by omega)
 have fst:∀ j,j < ((arrOf st).extract (sa+k) sb).size->R r ((arrOf st).extract sb<|sb+m) 0 < R r ((arrOf st).extract (sa+k) sb) j:=λj hj=>by
  rw[zx]at hj;rw[Ry 0 (by omega),Rx j hj];exact ph _ (by omega) (by omega)
 have lst:∀ j,j < ((arrOf st).extract sb<|sb+m).size->R r ((arrOf st).extract sb<|sb+m) j < R r ((arrOf st).extract (sa+k) sb) (((arrOf st).extract (sa+k) sb).size - 1):=λj hj=>by
  rw[zy]at hj;rw[zx,Ry j hj,Rx _ (by omega),show sa+k+(na - k - 1)=sb - 1 by omega];exact D9 _ (by omega) (by omega)
 have done:∀ (o:Array Keyed) (g:Nat),gO r ((arrOf st).extract (sa+k) sb) ((arrOf st).extract sb<|sb+m) o->∀ bz,bz=SortSt.mk' (kindOf st) (jV o.toList 0 (sa+k)<|arrOf st) (((pendingOf st).setIfInBounds i (sa,na+nb,pw)).eraseIdxIfInBounds<|i+1) g (failedOf st)->Q true bz:=λo g ho bz e2=>by
  have(po,uo):=ho;have lo:o.toList.length=(na - k)+m:=by
   have:=po.length_eq;rw[qr,Array.length_toList,Array.length_toList,Array.length_toList,zx,zy]at this;rw[Array.length_toList];exact this
  have at_:∀ q,(jV o.toList 0 (sa+k)<|arrOf st)[q]?=if sa+k<=q/\q < sb+m then o.toList[q - (sa+k)]? else(arrOf st)[q]?:=λq=>by
   rw[Iw (by rw[lo]; omega),lo];rw[show sa+k+0=sa+k by omega,show sa+k+(na - k+m)=sb+m by omega]
  have Lz:((arrOf st).extract (sa+k) sb).toList++((arrOf st).extract sb<|sb+m).toList=((arrOf st).toList.drop<|sa+k).take (na - k+m):=by
   rw[Array.toList_extract,Array.toList_extract,List.extract_eq_drop_take,List.extract_eq_drop_take,show sb - (sa+k)=na - k by omega,show sb+m - sb=m by omega,List.take_add,List.drop_drop,show sa+k+(na - k)=sb by omega]
  have el:(jV o.toList 0 (sa+k)<|arrOf st).toList=(arrOf st).toList.take (sa+k)++(o.toList++(arrOf st).toList.drop (sb+m)):=by
   apply à;intro q;have:=at_ q;rw[<-Array.getElem?_toList,<-Array.getElem?_toList]at this;rw[this]
   by_cases c3:q < sa+k
   .rw[if_neg (by omega),List.getElem?_append_left (by rw[List.length_take,Array.length_toList]; omega),List.getElem?_take,if_pos c3]
   .rw[List.getElem?_append_right (by rw[List.length_take,Array.length_toList]; omega),List.length_take,Array.length_toList,show min (sa+k) (arrOf st).size=sa+k by omega]
    by_cases c4:q < sb+m
    .rw[if_pos (by omega),List.getElem?_append_left (by omega)]
    .rw[if_neg (by omega),List.getElem?_append_right (by omega),lo,List.getElem?_drop]
     congr 1;omega
  have pm:(jV o.toList 0 (sa+k)<|arrOf st).Perm (arrOf st):=by
   rw[Array.perm_iff_toList_perm,el];have e3:(arrOf st).toList=(arrOf st).toList.take (sa+k)++(((arrOf st).toList.drop<|sa+k).take (na - k+m)++(arrOf st).toList.drop (sb+m)):=by
    have e4:(arrOf st).toList.drop (sb+m)=((arrOf st).toList.drop<|sa+k).drop (na - k+m):=by
     rw[List.drop_drop];congr 1;omega
    rw[e4,List.take_append_drop,List.take_append_drop]
   have p3:((arrOf st).toList.take (sa+k)++(o.toList++(arrOf st).toList.drop (sb+m))).Perm ((arrOf st).toList.take (sa+k)++(((arrOf st).toList.drop<|sa+k).take (na - k+m)++(arrOf st).toList.drop (sb+m))):=(List.Perm.append_right _ (by rw[<-Lz]; exact po)).append_left _;exact p3.trans (by rw[<-e3])
  have Ag:∀ q,sa+k<=q->q < sb+m->∃ z,o.toList[q - (sa+k)]?=some z/\R r (jV o.toList 0 (sa+k)<|arrOf st) q=r z/\∃ q',sa+k<=q'/\q' < sb+m/\R r (arrOf st) q'=r z:=λq q1 q2=>by
   have hq:q - (sa+k) < o.toList.length:=by omega
   refine⟨o.toList[q - (sa+k)],ql hq,?_,?_⟩
   .exact du (by rw[at_,if_pos ⟨q1,q2⟩]; exact ql hq)
   .have hm:o.toList[q - (sa+k)]∈((arrOf st).toList.drop<|sa+k).take (na - k+m):=by
     rw[<-Lz];exact po.mem_iff.mp<|List.getElem_mem hq
    have(n,pe,en):=List.getElem_of_mem hm;rw[List.length_take,List.length_drop,Array.length_toList]at pe;refine⟨sa+k+n,by omega,by omega,?_⟩;rw[List.getElem_take,List.getElem_drop]at en;refine du ?_;rw[<-Array.getElem?_toList,ql (by rw[Array.length_toList]; omega),en]
  have lB:∀ q,¬(sa+k<=q/\q < sb+m)->R r (jV o.toList 0 (sa+k)<|arrOf st) q=R r (arrOf st) q:=λq hq=>iI (by rw[at_,if_neg hq]);subst e2;refine h _ pm (λq hq=>?_) rfl rfl rfl λi j h1 h2 h3=>?_
  .show(jV o.toList 0 (sa+k)<|arrOf st)[q]?=_
   rw[at_,if_neg (by omega)]
  .show R r (jV o.toList 0 (sa+k)<|arrOf st) i < R r (jV o.toList 0 (sa+k)<|arrOf st) j
   have lC:∀ q',sa+k<=q'->q' < sb+m->∀ i,sa<=i->i < sa+k->R r (arrOf st) i < R r (arrOf st) q':=λq' a1 a2 i i1 i2=>by
    by_cases c5:q' < sb
    .exact s1 i q' i1 (by omega) c5
    .have:=vm i i1 i2
     by_cases e:q'=sb
     .rw[e]; exact this
     .have:=s2 sb q' (qe _) (by omega) (by omega)
      omega
   have jF:∀ q',sa+k<=q'->q' < sb+m->∀ j,sb+m<=j->j < sb+nb->R r (arrOf st) q' < R r (arrOf st) j:=λq' a1 a2 j j1 j2=>by
    by_cases c5:q' < sb
    .have:=pf j j1 j2
     by_cases e:q'=sb - 1
     .rw[e]; exact this
     .have:=s1 q' (sb - 1) (by omega) (by omega) (by omega)
      omega
    .exact s2 q' j (by omega) (by omega) j2
   by_cases ci:i < sa+k
   .rw[lB i (by omega)]
    by_cases cj:sa+k<=j/\j < sb+m
    .have(z,_,ez,q',a1,a2,a3):=Ag j cj.1 cj.2
     rw[ez,<-a3];exact lC q' a1 a2 i h1 ci
    .rw[lB j cj]
     by_cases cj2:j < sa+k
     .exact s1 i j h1 h2 (by omega)
     .have:=lC sb (by omega) (by omega) i h1 ci
      have:=jF sb (by omega) (by omega) j (by omega) h3;omega
   .by_cases ZZ:i < sb+m
    .have(z,oz,ez,q',a1,a2,a3):=Ag i (by omega) ZZ
     rw[ez]
     by_cases cj:j < sb+m
     .have(z',Yp,E9,_):=Ag j (by omega) cj
      rw[E9];have(l1,e1):=qk.mp oz;have(l2,e2):=qk.mp Yp;have:=Ï.mp uo _ _ l1 l2 (by omega);rw[e1,e2]at this;exact this
     .rw[lB j (by omega),<-a3]
      exact jF q' a1 a2 j (by omega) h3
    .rw[lB i (by omega),lB j (by omega)]
     exact s2 i j (by omega) h2 h3
 have last:∀ (o:Array Keyed) (g:Nat),gO r ((arrOf st).extract (sa+k) sb) ((arrOf st).extract sb<|sb+m) o->wpS (model prog w) A E s (do
   modify λs=>setArr s<|jV o.toList 0 (sa+k)<|arrOf s
   let ke <-get
   pure (failedOf ke).isNone) Q (dw (setPending st<|((pendingOf st).setIfInBounds i (sa,na+nb,pw)).eraseIdxIfInBounds<|i+1) g):=λo g ho=>by
  refine wpS_bind<|wpS_modify<|wpS_bind<|wpS_get ?_;have e:(failedOf st).isNone=true:=by rw[hB.failed]; rfl
  show wpS _ _ _ _ (pure (failedOf st).isNone) _ _;rw[e];exact wpS_pure<|done o g ho _ rfl
 split
 .exact wpS_bind (Vs S hB.kind T (by omega) (by omega) (fst 0 (by omega)) lst last)
 .exact wpS_bind (VW S hB.kind T (by omega) (by omega) fst lst last)
end
def gB:Nat->Qa (Nat×Nat)->Nat->Prop
 | s,[],e=>s=e
 | s,t::l,e=>t.1=s/\1<=t.2/\gB (s+t.2) l e
theorem gB.app:∀ {l:Qa (Nat×Nat)} {s e:Nat} {l':Qa (Nat×Nat)},gB s (l++l') e↔∃ m,gB s l m/\gB m l' e
 | [],s,e,l'=>⟨λh=>⟨s,rfl,h⟩,λ⟨m,h1,h2⟩=>by cases h1; exact h2⟩
 | t::l,s,e,l'=>by
  show(t.1=s/\1<=t.2/\gB (s+t.2) (l++l') e)↔∃ m,(t.1=s/\1<=t.2/\gB (s+t.2) l m)/\gB m l' e;rw[gB.app];constructor
  .rintro⟨h1,h2,m,h3,h4⟩
   exact⟨m,⟨h1,h2,h3⟩,h4⟩
  .rintro⟨m,⟨h1,h2,h3⟩,h4⟩
   exact⟨h1,h2,m,h3,h4⟩
theorem gB.bd:∀ {l:Qa (Nat×Nat)} {s e:Nat},gB s l e->s+l.length<=e/\∀ t∈l,s<=t.1/\t.1+t.2<=e
 | [],s,e,h=>⟨Nat.le_of_eq h,λt ht=>by cases ht⟩
 | t::l,s,e,h=>by
  have(h1,h2,h3):=h;have(i1,i2):=gB.bd h3;refine⟨by rw[qt]; omega,λu hu=>?_⟩;rcases qu.mp hu with rfl|hu
  .omega
  .have:=i2 u hu
   omega
def sl(p:Array (Nat×Nat×Nat)):Qa (Nat×Nat):=p.toList.map λt=>(t.1,t.2.1)
structure RS (r:Keyed->Int) (κ:SortKind) (ah:Array Keyed) (lo:Nat) (st:SortSt):Prop where
 ss:SS κ ah st
 le:lo<=ah.size
 runs:gB 0 (sl<|pendingOf st) lo
 seg:∀ t∈sl (pendingOf st),Seg r (arrOf st) t.1<|t.1+t.2
theorem GB{l:Qa α}{x y:α}(h1:l[i]?=some x)(h2:l[i+1]?=some y):l=l.take i++x::y::l.drop (i+2):=by
 have(a1,e1):=qk.mp h1;have(a2,e2):=qk.mp h2
 conv=>lhs; rw[<-List.take_append_drop i l,List.drop_eq_getElem_cons a1,List.drop_eq_getElem_cons a2,e1,e2]
theorem VR{l:Qa α}{x y z:α}(h1:l[i]?=some x)(h2:l[i+1]?=some y):(l.set i z).eraseIdx (i+1)=l.take i++z::l.drop (i+2):=by
 have(a1,e1):=qk.mp h1;have(a2,e2):=qk.mp h2;have h:=GB h1 h2;have hp:(l.take i).length=i:=by rw[List.length_take]; omega
 conv=>lhs; rw[h]
 rw[List.set_append_right _ _ (by omega),List.eraseIdx_append_of_length_le (by omega),hp,Nat.sub_self,show i+1 - i=1 by omega];rfl
section
variable{s:Qd}{st:SortSt}{lo:Nat}
theorem CY{Q:Bool->SortSt->Prop}(S:fg prog w A s κ ah r)(h:RS r κ ah lo st)(hi:i+1 < (pendingOf st).size)
  (k:∀ aq,RS r κ ah lo aq->(pendingOf aq).size+1=(pendingOf st).size->(∀ q,lo<=q->(arrOf aq)[q]?=(arrOf st)[q]?)->Q true aq):wpS (model prog w) A E s (mergeAt' i) Q st:=by
 obtain⟨t1,p1⟩:∃ t,(pendingOf st)[i]?=some t:=⟨_,getElem?_pos _ i (by omega)⟩;obtain⟨t2,p2⟩:∃ t,(pendingOf st)[i+1]?=some t:=⟨_,getElem?_pos _ (i+1) hi⟩;have(sa,na,pw):=t1;have(sb,nb,DT):=t2;have q1:(pendingOf st).toList[i]?=some (sa,na,pw):=by rw[Array.getElem?_toList]; exact p1
 have q2:(pendingOf st).toList[i+1]?=some (sb,nb,DT):=by rw[Array.getElem?_toList]; exact p2
 have e1:=GB q1 q2;have rn:=h.runs;have es:sl (pendingOf st)=((pendingOf st).toList.take i).map (λt=>(t.1,t.2.1))++(sa,na)::(sb,nb)::((pendingOf st).toList.drop<|i+2).map (λt=>(t.1,t.2.1)):=by
  unfold sl
  conv=>lhs; rw[e1]
  rw[List.map_append,List.map_cons,List.map_cons]
 have sg:=h.seg;rw[es]at rn sg;have(m,r1,r2):=gB.app.mp rn;have(x1,x2,x3,x4,r3):=r2;dsimp only at x1 x2 x3 x4 r3;have(b1,b2):=r1.bd;have(b3,b4):=r3.bd;subst x1;have hle:=h.le;refine VV S h.ss p1 p2 x3 x2 x4 (by omega) (sg (sa,na) (by simp) |> λz=>by rw[x3]; exact z) (sg (sb,nb) (by simp)) λaq a1 a2 a3 a4 a5 a6=>?_;have en:sl (pendingOf aq)=((pendingOf st).toList.take i).map (λt=>(t.1,t.2.1))++(sa,na+nb)::((pendingOf st).toList.drop<|i+2).map (λt=>(t.1,t.2.1)):=by
  unfold sl;rw[a5,Array.toList_eraseIdxIfInBounds,Array.toList_setIfInBounds,VR q1 q2,List.map_append,List.map_cons]
 have keep:∀ u v:Nat,(v<=sa\/sb+nb<=u)->Seg r (arrOf st) u v->Seg r (arrOf aq) u v:=λu v huv hs i j h1 h2 h3=>by
  rw[iI (r:=r)<|a2 i (by omega),iI (r:=r)<|a2 j (by omega)];exact hs i j h1 h2 h3
 refine k aq ⟨⟨a1.trans h.ss.perm,a3.trans h.ss.kind,a4.trans h.ss.failed⟩,hle,?_,λt ht=>?_⟩ ?_ λq hq=>a2 q (by omega)
 .rw[en]
  refine gB.app.mpr ⟨sa,r1,rfl,by omega,?_⟩;rw[<-Nat.add_assoc];exact r3
 .rw[en]at ht
  rcases Ò.mp ht with ht|ht
  .have:=b2 t ht
   exact keep _ _ (by omega)<|sg t<|Ö _ ht
  .rcases qu.mp ht with rfl|ht
   .dsimp only
    rw[show sa+(na+nb)=sb+nb by omega];exact a6
   .have:=b4 t ht
    exact keep _ _ (by omega)<|sg t<|qv _<|qm _<|qm _ ht
 .have z1:(sl<|pendingOf aq).length=(pendingOf aq).size:=by simp[sl]
  rw[en]at z1;rw[<-z1];simp;omega
theorem RS.chg(h:RS r κ ah lo st)(c:fY lo hi st aq):RS r κ ah lo aq:=by
 refine⟨h.ss.chg c,h.le,by rw[c.pend]; exact h.runs,λt ht=>?_⟩;rw[c.pend]at ht;have:=h.runs.bd.2 t ht;intro i j h1 h2 h3;rw[iI (r:=r)<|c.out i<|.inl (by omega),iI (r:=r)<|c.out j<|.inl (by omega)];exact h.seg t ht i j h1 h2 h3
theorem RS.push(h:RS r κ ah lo st)(n1:1<=n)(hn:lo+n<=ah.size)(hs:Seg r (arrOf st) lo (lo+n)):RS r κ ah (lo+n) (setPending st<|(pendingOf st).push (lo,n,0)):=by
 have e:sl ((pendingOf st).push (lo,n,0))=sl (pendingOf st)++[(lo,n)]:=by
  unfold sl;rw[Array.toList_push,List.map_append];rfl
 refine⟨⟨h.ss.perm,h.ss.kind,h.ss.failed⟩,hn,?_,λt ht=>?_⟩
 .show gB 0 (sl<|(pendingOf st).push (lo,n,0)) _
  rw[e];exact gB.app.mpr ⟨lo,h.runs,rfl,n1,rfl⟩
 .have ht:t∈sl ((pendingOf st).push (lo,n,0)):=ht
  rw[e]at ht;rcases Ò.mp ht with ht|ht
  .exact h.seg t ht
  .rw[qp.mp ht]
   exact hs
theorem RS.pow{pw:Nat}(h:RS r κ ah lo st):RS r κ ah lo (setPending st<|(pendingOf st).modify k λ(a,b,_)=>(a,b,pw)):=by
 have e:sl ((pendingOf st).modify k λ(a,b,_)=>(a,b,pw))=sl (pendingOf st):=by
  unfold sl;rw[Array.toList_modify];apply à;intro i;rw[List.getElem?_map,List.getElem?_map,List.getElem?_modify];cases(pendingOf st).toList[i]? with
  | none=>rfl
  | some t=>
   by_cases c:k=i
   .simp[c]
   .simp[c]
 refine⟨⟨h.ss.perm,h.ss.kind,h.ss.failed⟩,h.le,?_,λt ht=>?_⟩
 .show gB 0 (sl<|(pendingOf st).modify k λ(a,b,_)=>(a,b,pw)) _
  rw[e];exact h.runs
 .have ht:t∈sl ((pendingOf st).modify k λ(a,b,_)=>(a,b,pw)):=ht
  rw[e]at ht;exact h.seg t ht
theorem WL{Q:Unit->SortSt->Prop}(S:fg prog w A s κ ah r)(h0:RS r κ ah 0 st)(h2:2<=ah.size)
  (h:∀ aq,SS κ ah aq->Seg r (arrOf aq) 0 ah.size->Q () aq):wpS (model prog w) A E s sortRuns' Q st:=by
 rw[sortRuns'_eq];refine wpS_bind<|wpS_get ?_;dsimp only;simp only[h0.ss.size];generalize minRun' ah.size ah.size 0=mr;refine wpS_bind<|wpS_mono (wpS_forRange
  (I:=λx c aq=>∃ lo,c=(none,lo)/\RS r κ ah lo aq/\(x<=lo))
  (Q:=λc aq=>∃ lo,c=(none,lo)/\RS r κ ah lo aq/\ah.size<=lo) ?step ?fin ⟨0,rfl,h0,qe _⟩) ?post
 case fin=>
  rintro c aq ⟨lo,rfl,h1,h3⟩;exact⟨lo,rfl,h1,by omega⟩
 case step=>
  rintro x c DN _ hx ⟨lo,rfl,h1,h3⟩;dsimp only
  by_cases c1:lo>=ah.size
  .rw[if_pos c1]
   exact wpS_pure ⟨lo,rfl,h1,c1⟩
  rw[if_neg c1];have hle:=h1.le;refine wpS_bind<|WN S (by omega) (by omega) h1.ss λm bz g1 m1 m2 hm=>?_;dsimp only;have h4:=h1.chg g1
  by_cases cm:m < mr
  .rw[if_pos cm]
   refine wpS_bind<|wpS_lift<|wpAny_rule ⟨rfl,?_⟩;refine wpS_bind<|Xr (n:=min (ah.size - lo) mr) S (by omega) (by omega) h4.ss hm λlA g3 K9=>?_;simp only[Bool.not_true,Bool.false_eq_true,if_false];have h5:=h4.chg g3;refine wpS_bind<|wpS_get ?_;cases hb:(pendingOf lA).back? with
   | none=>
    dsimp only;exact wpS_bind<|wpS_modify<|wpS_pure ⟨lo+min (ah.size - lo) mr,rfl,h5.push (by omega) (by omega) K9,by omega⟩
   | some b0=>
    have(s1,qQ,Yo):=b0;dsimp only;refine wpS_bind<|wpS_mono (wpS_forRange (I:=λx c eS=>c=(none,())/\RS r κ ah lo eS/\Seg r (arrOf eS) lo (lo+min (ah.size - lo) mr)) (Q:=λc eS=>c=(none,())/\RS r κ ah lo eS/\Seg r (arrOf eS) lo (lo+min (ah.size - lo) mr)) ?_ (λ_ _ hh=>hh) ⟨rfl,h5,K9⟩) ?_
    .rintro x' c eS _ _ ⟨rfl,q1,q2⟩
     refine wpS_bind<|wpS_get ?_
     by_cases cp:(pendingOf eS).size > 1
     .rw[if_pos cp]
      obtain⟨⟨f1,f2,u6⟩,eo⟩:∃ t,(pendingOf eS)[(pendingOf eS).size - 2]?=some t:=⟨_,getElem?_pos _ _ (by omega)⟩;rw[eo];dsimp only;split
      .exact wpS_pure ⟨rfl,q1,q2⟩
      .refine wpS_bind (CY S q1 (by omega) λmD k1 k2 k3=>?_)
       simp only[Bool.not_true,Bool.false_eq_true,if_false];refine wpS_pure ⟨rfl,k1,λi j i1 i2 i3=>?_⟩;rw[iI (r:=r)<|k3 i (by omega),iI (r:=r)<|k3 j (by omega)];exact q2 i j i1 i2 i3
     .rw[if_neg cp]
      exact wpS_pure ⟨rfl,q1,q2⟩
    .rintro c eS ⟨rfl,q1,q2⟩
     dsimp only;have q3:=q1.pow (pw:=power' ah.size (2 * s1+qQ) (2 * s1+qQ+qQ+min (ah.size - lo) mr) ah.size) (k:=(pendingOf eS).size - 1);exact wpS_bind<|wpS_modify<|wpS_bind<|wpS_modify<|wpS_pure ⟨lo+min (ah.size - lo) mr,rfl,q3.push (by omega) (by omega) q2,by omega⟩
  .rw[if_neg cm]
   refine wpS_bind<|wpS_get ?_;cases hb:(pendingOf bz).back? with
   | none=>
    dsimp only;exact wpS_bind<|wpS_modify<|wpS_pure ⟨lo+m,rfl,h4.push m1 (by omega) hm,by omega⟩
   | some b0=>
    have(s1,qQ,Yo):=b0;dsimp only;refine wpS_bind<|wpS_mono (wpS_forRange (I:=λx c eS=>c=(none,())/\RS r κ ah lo eS/\Seg r (arrOf eS) lo (lo+m)) (Q:=λc eS=>c=(none,())/\RS r κ ah lo eS/\Seg r (arrOf eS) lo (lo+m)) ?_ (λ_ _ hh=>hh) ⟨rfl,h4,hm⟩) ?_
    .rintro x' c eS _ _ ⟨rfl,q1,q2⟩
     refine wpS_bind<|wpS_get ?_
     by_cases cp:(pendingOf eS).size > 1
     .rw[if_pos cp]
      obtain⟨⟨f1,f2,u6⟩,eo⟩:∃ t,(pendingOf eS)[(pendingOf eS).size - 2]?=some t:=⟨_,getElem?_pos _ _ (by omega)⟩;rw[eo];dsimp only;split
      .exact wpS_pure ⟨rfl,q1,q2⟩
      .refine wpS_bind (CY S q1 (by omega) λmD k1 k2 k3=>?_)
       simp only[Bool.not_true,Bool.false_eq_true,if_false];refine wpS_pure ⟨rfl,k1,λi j i1 i2 i3=>?_⟩;rw[iI (r:=r)<|k3 i (by omega),iI (r:=r)<|k3 j (by omega)];exact q2 i j i1 i2 i3
     .rw[if_neg cp]
      exact wpS_pure ⟨rfl,q1,q2⟩
    .rintro c eS ⟨rfl,q1,q2⟩
     dsimp only;have q3:=q1.pow (pw:=power' ah.size (2 * s1+qQ) (2 * s1+qQ+qQ+m) ah.size) (k:=(pendingOf eS).size - 1);exact wpS_bind<|wpS_modify<|wpS_bind<|wpS_modify<|wpS_pure ⟨lo+m,rfl,q3.push m1 (by omega) q2,by omega⟩
 case post=>
  rintro c aq ⟨lo,rfl,h1,h3⟩;have hle:=h1.le;have ZQ:lo=ah.size:=by omega
  subst ZQ;dsimp only;have pl:(pendingOf aq).size<=ah.size:=by
   have:=h1.runs.bd.1;have e:(sl<|pendingOf aq).length=(pendingOf aq).size:=by simp[sl]
   omega
  refine wpS_bind<|wpS_mono (wpS_forRange (I:=λx c bz=>c=(none,())/\RS r κ ah ah.size bz/\((pendingOf bz).size<=1\/(pendingOf bz).size+x<=ah.size)) (Q:=λc bz=>c=(none,())/\RS r κ ah ah.size bz/\(pendingOf bz).size<=1) ?gT ?lJ ⟨rfl,h1,.inr (by omega)⟩) ?gX
  case lJ=>
   rintro c bz ⟨rfl,q1,q2⟩;exact⟨rfl,q1,by omega⟩
  case gT=>
   rintro x c bz _ hx ⟨rfl,q1,q2⟩;refine wpS_bind<|wpS_get ?_
   by_cases cp:(pendingOf bz).size<=1
   .rw[if_pos cp]
    exact wpS_pure ⟨rfl,q1,cp⟩
   .rw[if_neg cp]
    refine wpS_bind<|CY S q1 ?_ λmD k1 k2 k3=>?_
    .have key:∀ b:Bool,(if b=true then(pendingOf bz).size - 2 - 1 else(pendingOf bz).size - 2)+1 < (pendingOf bz).size:=λb=>by
      cases b
      .rw[if_neg qf]; omega
      .rw[if_pos rfl]; omega
     exact key _
    .simp only[Bool.not_true,Bool.false_eq_true,if_false]
     exact wpS_pure ⟨rfl,k1,by omega⟩
  case gX=>
   rintro c bz ⟨rfl,q1,q2⟩;dsimp only;refine wpS_pure<|h bz q1.ss ?_;have e:(sl<|pendingOf bz).length=(pendingOf bz).size:=by simp[sl]
   have rn:=q1.runs;have sg:=q1.seg
   match hl:sl (pendingOf bz),rn,sg with
   | [],rn,_=>
    have:0=ah.size:=rn;omega
   | [u],rn,sg=>
    have(u1,u2,u3):=rn;have u3:0+u.2=ah.size:=u3;have:=sg u (by simp);rw[u1,u3]at this;exact this
   | u::v::l,_,_=>
    rw[hl]at e;simp at e;omega
end
end L2
namespace L2
open PySem PySem.Spec PySem.W PyProof.Rows
open Classical in
def lF(vs:Qa Qc)(v:Qc):Nat:=if h:∃ i,i < vs.length/\vs.getD i Value.none=v then h.choose else 0
theorem sv{vs:Qa Qc}(nd:∀ i j,i < vs.length->j < vs.length->vs.getD i Value.none=vs.getD j Value.none->i=j)(hi:i < vs.length):lF vs (vs.getD i Value.none)=i:=by
 have h:∃ j,j < vs.length/\vs.getD j Value.none=vs.getD i Value.none:=⟨i,hi,rfl⟩;unfold lF;rw[dif_pos h];exact nd _ _ h.choose_spec.1 hi h.choose_spec.2
theorem CW{vs:Qa Qc}:(vs.toArray.zip vs.toArray).toList=(List.range vs.length).map λi=>(vs.getD i Value.none,vs.getD i Value.none):=by
 apply à;intro i;rw[List.getElem?_map]
 by_cases hi:i < vs.length
 .rw[List.getElem?_range hi]
  simp[hi,List.getElem?_zip_eq_some]
 .rw[List.getElem?_eq_none (by simp; omega),List.getElem?_eq_none (by simp; omega)]
  rfl
section
variable{s:Qd}
theorem S9{vs:Qa Qc}{Q:Unit->SortSt->Prop}(h2:2<=vs.length)(nd:∀ i j,i < vs.length->j < vs.length->vs.getD i Value.none=vs.getD j Value.none->i=j)(inj:∀ i j,i < vs.length->j < vs.length->rk i=rk j->i=j)
  (ask:FF prog w A rk vs κ s) (h:∀ aq p,Pm vs.length p->Up rk p vs.length->arrOf aq=p.map (kas_item<|vs.toArray.zip vs.toArray)->failedOf aq=none->Q () aq):
  wpS (model prog w) A E s sortRuns' Q (SortSt.mk' κ (vs.toArray.zip vs.toArray) #[] 7 none):=by
 have mem:∀ x∈(vs.toArray.zip vs.toArray).toList,∃ i,i < vs.length/\x=(vs.getD i Value.none,vs.getD i Value.none):=λx hx=>by
  rw[CW]at hx;have(i,hi,rfl):=List.mem_map.mp hx;exact⟨i,Î.mp hi,rfl⟩
 have zs:(vs.toArray.zip vs.toArray).size=vs.length:=by simp
 have S:fg prog w A s κ (vs.toArray.zip vs.toArray) (λx=>rk<|lF vs x.1):=by
  refine⟨λx hx y hy C hC=>?_,?_⟩
  .have(i,hi,rfl):=mem x hx
   have(j,hj,rfl):=mem y hy;dsimp only at hC;rw[sv nd hi,sv nd hj]at hC;exact ask i j C hi hj hC
  .rw[CW,List.map_map]
   refine List.pairwise_map.mpr<|List.Pairwise.imp_of_mem (λ{a b} ha hb (EB:a≠b)=>?_) List.nodup_range;have ha:=Î.mp ha;have hb:=Î.mp hb;show rk (lF vs<|vs.getD a Value.none)≠rk (lF vs<|vs.getD b Value.none);rw[sv nd ha,sv nd hb];exact λe=>EB<|inj a b ha hb e
 refine WL S ⟨⟨Array.Perm.refl _,rfl,rfl⟩,Ä _,rfl,λt ht=>by cases ht⟩ (by omega) λaq hB hs=>?_;have ar:∀ x∈(arrOf aq).toList,∃ i,i < vs.length/\x=(vs.getD i Value.none,vs.getD i Value.none):=λx hx=>mem x<|(Ó.mp hB.perm).mem_iff.mp hx;have ki:∀ i,i < vs.length->kas_item (vs.toArray.zip vs.toArray) i=(vs.getD i Value.none,vs.getD i Value.none):=λi hi=>by
  unfold kas_item;simp[Array.getD,hi]
 refine h aq ((arrOf aq).map λx=>lF vs x.1) ?_ (λi j d0 hj=>?_) ?_ hB.failed
 .have:=(Ó.mp hB.perm).map λx:Keyed=>lF vs x.1
  unfold Pm;rw[Array.perm_iff_toList_perm,Array.toList_map];refine this.trans ?_;rw[CW,List.map_map];have e:(List.range vs.length).map ((λx:Keyed=>lF vs x.1) ∘ λi=>(vs.getD i Value.none,vs.getD i Value.none))=List.range vs.length:=by
   conv=>rhs; rw[<-List.map_id (List.range vs.length)]
   exact List.map_congr_left λi hi=>sv nd<|Î.mp hi
  rw[e]
 .have z:=hB.size
  have kr:∀ q,q < vs.length->KR rk ((arrOf aq).map λx=>lF vs x.1) q=R (λx=>rk<|lF vs x.1) (arrOf aq) q:=λq hq=>by
   have e:(arrOf aq)[q]?=some (arrOf aq)[q]:=getElem?_pos _ q (by omega);rw[du e];unfold KR;have:q < (arrOf aq).size:=by omega
   simp[Array.getD,this]
  by_cases e:i=j
  .rw[e]; exact Int.le_refl _
  .rw[kr i (by omega),kr j hj]
   have:=hs i j (Ä _) (by omega) (by omega);omega
 .apply Array.ext'
  rw[Array.toList_map,Array.toList_map,List.map_map]
  conv=>lhs; rw[<-List.map_id (arrOf aq).toList]
  refine List.map_congr_left λx hx=>?_;have(i,hi,rfl):=ar x hx;show _=kas_item _ (lF vs<|vs.getD i Value.none);rw[sv nd hi,ki i hi];rfl
theorem XH{vs:Qa Qc}{P:PySem.Fin->Qd->Prop}(ho:s.heap.get? a=some (seqObj "list" vs.toArray n))(Zz:vs.length<=100000)(nd:∀ i j,i < vs.length->j < vs.length->vs.getD i Value.none=vs.getD j Value.none->i=j)(inj:∀ i j,i < vs.length->j < vs.length->rk i=rk j->i=j)
  (hk:2<=vs.length->∀ h':Heap,(∀ b o,b≠a->s.heap.get? b=some o->h'.get? b=some o)->∀ Q:SortKind->Qd->Prop,(∀ κ,FF prog w A rk vs κ {s with heap:=h'}->Q κ {s with heap:=h'})->wpAny (model prog w) A (keyKind' vs.toArray) Q (λ_ _=>False) {s with heap:=h'})
  (h:∀ p:Array Nat,Pm vs.length p->Up rk p vs.length->P (.done<|.ret .none) {s with heap:=sortedHeap s.heap a vs (List.toArray<|p.toList.map λi=>vs.getD i Value.none)}):
  wpAny (model prog w) A (Builtin.«list.sort» ⟨[.ref a],[]⟩) P E s:=by
 have line:(100000:Nat)<=sizeLine:=by decide
 have ha:a < s.heap.objs.size:=qh ho;obtain⟨e1,Lb⟩:∃ e1,(s.heap.update a<|Obj.mapSeq λ_=>#[]).get? a=some (seqObj "list" #[] e1):=⟨_,get?_update_seq ho λ_=>#[]⟩;have old:∀ b o,(s.heap.update a<|Obj.mapSeq λ_=>#[]).get? b=some o->(((s.heap.update a<|Obj.mapSeq λ_=>#[]).push<|seqObj "tuple" vs.toArray 0).push<|seqObj "list" #[] 0).get? b=some o :=
  λb o e=>qd _<|qd _ e
 have Ai:=old _ _ Lb;have keep:∀ b o,b≠a->s.heap.get? b=some o->(((s.heap.update a<|Obj.mapSeq λ_=>#[]).push<|seqObj "tuple" vs.toArray 0).push<|seqObj "list" #[] 0).get? b=some o :=
  λb o ne e=>old b o (by rw[Heap.get?_update_ne _ _ _ _ ne]; exact e)
 rw[list_sort_plain];refine qa<|listItems_at ho rfl<|qa<|listUpdate_at ho rfl (qa<|seqEpoch_at Lb rfl<|qa<|wpAny_newTuple (qa<|wpAny_newList (wpAny_holding ?_) ?_) ?_) ?_ ?_
 case refine_2=>exact Ä _
 case refine_3=>show vs.length<=_; omega
 case refine_4=>show vs.toArray.size<=_; rw[List.size_toArray]; omega
 case refine_5=>exact Ä _
 show wpAny (model prog w) A _ P E {s with heap:=((s.heap.update a<|Obj.mapSeq λ_=>#[]).push<|seqObj "tuple" vs.toArray 0).push (seqObj "list" #[] 0)};dsimp only;generalize hH:((s.heap.update a<|Obj.mapSeq λ_=>#[]).push<|seqObj "tuple" vs.toArray 0).push (seqObj "list" #[] 0)=h6 at *;have o5:vs.toArray.size=vs.length:=by simp
 have fin:∀ p:Array Nat,Pm vs.length p->Up rk p vs.length->P (.done<|.ret .none) {s with heap:=h6.update a (Obj.mapSeq λ_=>List.toArray<|p.toList.map λi=>vs.getD i Value.none)}:=λp a1 a2=>by
  have:=h p a1 a2;unfold sortedHeap at this;rw[hH]at this;exact this
 by_cases h2:vs.toArray.size < 2
 .rw[if_pos h2,if_pos h2]
  refine qa<|qb ?_;rw[StateT.run_pure];refine qa<|qb ?_;dsimp only;have hz:(vs.toArray.zip vs.toArray).size=vs.length:=by simp
  have EU:arrOf (SortSt.mk' general' (vs.toArray.zip vs.toArray) #[] 7 none)=(List.range vs.length).toArray.map (kas_item<|vs.toArray.zip vs.toArray):=by
   have:=kas_range (vs.toArray.zip vs.toArray);rw[hz]at this;exact this.symm
  have e:=kat_snds (ks:=vs) (vs:=vs) rfl EU;rw[e];refine qa<|seqEpoch_at Ai rfl<|qa<|listUpdate_at Ai rfl ?_ ?_ ?_
  .show wpAny _ _ (if(e1 != e1)=true then _ else _) _ _ _
   rw[bne_self_eq_false,if_neg qf];refine qb<|fin _ (Array.Perm.refl _) λi j d0 hj=>?_;have:i=j:=by omega
   subst this;exact Int.le_refl _
  .exact Ä _
  .rw[List.size_toArray,List.length_map]
   simp;omega
 .rw[if_neg h2,if_neg h2]
  have Ao:2<=vs.length:=by omega
  refine qa<|wpAny_mono (hk Ao h6 keep _ λκ ask=>?_) (λ_ _ x=>x) λ_ _ x=>x.elim;refine qa<|wpAny_mono (S9 (E:=E) (s:={s with heap:=h6}) (Q:=λ_ aq=>∃ p:Array Nat,Pm vs.length p/\Up rk p vs.length/\arrOf aq=p.map (kas_item<|vs.toArray.zip vs.toArray)/\failedOf aq=none) Ao nd inj ask λaq p a1 a2 a3 a4=>⟨p,a1,a2,a3,a4⟩) ?_ λ_ _ x=>x;rintro⟨⟨⟩,aq⟩ s' ⟨rfl,p,a1,a2,EU,hf⟩;dsimp only;have e:=kat_snds (ks:=vs) (vs:=vs) rfl EU;rw[e,hf];refine qa<|seqEpoch_at Ai rfl<|qa<|listUpdate_at Ai rfl ?_ ?_ ?_
  .show wpAny _ _ (if(e1 != e1)=true then _ else _) _ _ _
   rw[bne_self_eq_false,if_neg qf];exact qb<|fin p a1 a2
  .exact Ä _
  .rw[List.size_toArray,List.length_map,Array.length_toList,a1.size]
   omega
end
def n8(h:Heap)(v:Qc)(ns:Qa Int):Prop:=∃ (a:Qg) (i j:Int) (t t':Tok) (u:Qc),v=.ref a/\IsTup h a #[.int i t,.int j t',u]/\ns=[i,j]
section
variable{s:Qd}
theorem Mx{v v':Qc}{D5:Qa Int}{C:Bool->Qd->Prop}(p:n8 s.heap v ns)(p':n8 s.heap v' D5)(ne:v=v'\/ns≠D5)(h:C (cN ns D5) s):wpAny (model prog w) A (keyLt' (tuples' true) v v') C (λ_ _=>False) s:=by
 obtain⟨a,i,j,t,t',u,rfl,⟨oa,ea,ca,na,da⟩,rfl⟩:=p;obtain⟨a',i',j',q,q',u',rfl,⟨oa',fW,ca',D8,Fe⟩,rfl⟩:=p';refine kat_lt ea da fW Fe ?_;show KatLex prog w A true _ C [(.int i t,.int i' q),(.int j t',.int j' q'),(u,u')] 0 s;refine kat_cons<|wpAny_eqBool_int ?_
 by_cases e1:i=i'
 .subst e1
  rw[beq_self_eq_true];refine kat_yes<|kat_cons<|wpAny_eqBool_int ?_
  by_cases e2:j=j'
  .subst e2
   rw[beq_self_eq_true];rcases ne with z|z
   .cases z
    rw[ea]at fW;cases fW;rw[da]at Fe;injection Fe with d1 d2;have d3:=congrArg Array.toList d1;have e3:u=u':=by
     have:=congrArg (λl:Qa Qc=>l[2]?) d3;simpa using this
    subst e3;refine kat_yes<|kat_cons<|SeqAt.EqAt.same u prog w _ _<|kat_yes<|kat_nil ?_;rw[yj]at h;exact h
   .exact absurd rfl z
  .rw[show(j==j')=false by simpa using e2]
   refine kat_no<|kat_one _ _<|VF ?_;have e3:cN [i,j] [i,j']=decide (j < j'):=by simp[cN,e2]
   rw[e3]at h;exact h
 .rw[show(i==i')=false by simpa using e1]
  refine kat_no (show wpAny (model prog w) A (oneLt' true (.int i t)<|.int i' q) C _ s from oneLt_int ?_);have e3:cN [i,j] [i',j']=decide (i < i'):=by simp[cN,e1]
  rw[e3]at h;exact h
end
theorem n8.kept{v:Qc}(p:n8 h v ns)(k:∀ b o,h.get? b=some o->h'.get? b=some o):n8 h' v ns:=by
 have(a,i,j,t,t',u,e,ta,r):=p;exact⟨a,i,j,t,t',u,e,U1 ta<|k a,r⟩
theorem Jw:∀ {vs:Qa Qc},(∀ v∈vs,∃ ns,n8 h v ns)->∃ fs,KatTups h vs fs/\fs.length=vs.length/\∀ f∈fs,∃ (i:Int) (t:Tok),f=.int i t
 | [],_=>⟨[],.nil,rfl,λf hf=>by cases hf⟩
 | v::vs,hv=>by
  have(fs,k,l,q):=Jw (vs:=vs) λx hx=>hv x<|qm _ hx;obtain⟨ns,a,i,j,t,t',u,rfl,⟨o,eo,co,n,dO⟩,_⟩:=hv v qo;refine⟨.int i t::fs,.cons eo co dO rfl k,by rw[qt,qt,l],λf hf=>?_⟩;rcases qu.mp hf with e|hf
  .exact⟨i,t,e⟩
  .exact q f hf
def N7(K:qc)(H:Hp)(vs:Qa V)(ps:Qa (Qa Int)):Prop:=vs.length=ps.length/\∀ i v,vs[i]?=some v->∃ (a:Qg) (m n:Int) (y:V),v=.ref a/\cy K H a [.int m,.int n,y]/\ps.getD i []=[m,n]
def GA(K:qc):Qa V->Hp->VK->Prop:=λxs H Q=>∃ (l:Qg) (vs:Qa V) (ps:Qa (Qa Int)),xs=[.ref l]/\bE K H l vs/\vs.length<=100000/\N7 K H vs ps/\ps.Nodup/\
 ∀ (is:Qa Nat) r,is.Perm (List.range vs.length)->(is.map λi=>ps.getD i []).Pairwise (λa b=>cN a b=true)->H r=none->Q (.ref r) (upd H r<|.lst<|is.map λi=>vs.getD i .aK)
section
variable{X:Cx}
theorem Mw{x y z:V}(h:zH [x,y,z] us):∃ u1 u2 u3,us=[u1,u2,u3]/\zQ x u1/\zQ y u2/\zQ z u3:=by
 cases h with
 | cons h1 t=>
  cases t with
  | cons h2 t=>
   cases t with
   | cons h3 t=>
    cases t;exact⟨_,_,_,rfl,h1,h2,h3⟩
theorem WK(K:qc)(hK:X.K=K)(hr:aE k X.A):fQ X (.builtin "sorted") (GA K):=by
 subst hK;intro pins s σ H xs us Q I r h;obtain⟨l,vs,ps,rfl,hl,Zz,⟨lp,hp⟩,nd,q⟩:=h;have(u,rfl,ru):=oC r;cases ru;obtain⟨aj,rv,⟨o,n,eo,co,_,dO⟩,_⟩:=I.list hl;have line:(100000:Nat)<=sizeLine:=by decide
 have lv:aj.length=vs.length:=rv.length.symm;have pr:∀ i,i < aj.length->n8 s.heap (aj.getD i Value.none) (ps.getD i []):=λi hi=>by
  have hG:i < vs.length:=by omega
  have(a,m,n,y,ev,ha,hb):=hp i _ (ql hG);have(u,eu,ru):=rv.get (ql hG);rw[ev]at ru;cases ru;have(ia,ra,ta,_):=I.tuple ha;obtain⟨u1,u2,u3,rfl,⟨t1,rfl⟩,⟨t2,rfl⟩,r3⟩:=Mw ra;refine⟨a,m,n,t1,t2,u3,?_,ta,hb⟩;rw[qA,eu];rfl
 have Yx:∀ i j,i < aj.length->j < aj.length->aj.getD i Value.none=aj.getD j Value.none->i=j:=λi j hi hj e=>by
  by_cases c:i=j
  .exact c
  .exfalso
   have h1:=pr i hi;have h2:=pr j hj;rw[e]at h1;obtain⟨a,m,n,t,t',u,e1,⟨o1,g1,_,n1,d1⟩,z1⟩:=h1;obtain⟨a',m',n',q,q',u',e2,⟨o2,g2,_,n2,d2⟩,z2⟩:=h2;rw[e1]at e2;cases e2;rw[g1]at g2;cases g2;rw[d1]at d2;injection d2 with d3 _;have d4:=congrArg Array.toList d3;have k1:Value.int m t=.int m' q:=by
    have:=congrArg (λl:Qa Qc=>l[0]?) d4;simpa using this
   have k2:Value.int n t'=.int n' q':=by
    have:=congrArg (λl:Qa Qc=>l[1]?) d4;simpa using this
   cases k1;cases k2;exact uJ nd (by omega) (by omega) c<|z1.trans z2.symm
 have Ej:∀ i j,i < aj.length->j < aj.length->lS ps i=lS ps j->i=j:=λi j hi hj e=>by
  by_cases c:i=j
  .exact c
  .exfalso
   rcases yq (uJ nd (by omega:i < ps.length) (by omega:j < ps.length) c)with z|z
   .have:=uD (by omega) z
    omega
   .have:=uD (by omega) z
    omega
 refine Calls.call_function_entry kind_sorted plain_sorted entry_sorted (args_sorted1 _) ?_;unfold Builtin.«sorted»;refine qa (m:=checkCount "sorted" 1 1 _)<|qb ?_;refine qa<|collect_list (vs:=aj) ⟨o,eo,co,n,dO⟩ (qa<|wpAny_newList ?_ ?_) (by omega)
 case refine_2=>omega
 generalize hH:(s.heap.push<|seqObj "list" #[] 0).update s.heap.objs.size (Obj.mapSeq (·++aj.toArray))=h1 at *;have o5:h1.objs.size=s.heap.objs.size+1:=by rw[<-hH,Heap.size_update,size_push']
 have oY:∀ b o,s.heap.get? b=some o->h1.get? b=some o:=λb o e=>by
  have eB:b < s.heap.objs.size:=qh e;rw[<-hH,Heap.get?_update_ne _ _ _ _<|qj eB,Heap.get?_push_ne _ _ _<|qj eB];exact e
 have I1:Inv X pins σ H {s with heap:=h1,toks:=s.toks}:=I.kept oY;have vz:(h1.push<|seqObj "list" aj.toArray 0).get? h1.objs.size=some (seqObj "list" aj.toArray 0):=qg _ rfl;have hu:X.A.units+64 < cLine:=hr.units;refine qa<|wpAny_holding<|wpAny_call_entry slot_list_sort ⟨_,vz,rfl⟩ entry_list_sort (XH (rk:=lS ps) (s:={s with heap:=h1.push (seqObj "list" aj.toArray 0)}) vz (by omega) Yx Ej (λh2 h' kp Q' hQ=>?_) λp a1 a2=>⟨_,rfl,?_⟩)<|args_list_sort _
 .have YC:∀ b o,s.heap.get? b=some o->h'.get? b=some o:=λb o e=>by
   have eB:b < s.heap.objs.size:=qh e;exact kp b o (qj (by rw[o5]; exact Nat.lt_succ_of_lt eB))<|qd _<|oY b o e
  have DU:∀ i,i < aj.length->n8 h' (aj.getD i Value.none) (ps.getD i []):=λi hi=>(pr i hi).kept YC;have(fs,kt,lf,tf):=Jw (h:=h') (vs:=aj) λv hv=>by
   have(i,hi,e):=List.getElem_of_mem hv;have:=DU i hi;rw[show aj.getD i Value.none=v by simp[hi,e]]at this;exact⟨_,this⟩
  refine kat_kind (fs:=fs) (T:=.type "int") kt (by omega) (λv hv=>?_) (by decide) ?_
  .have(i,t,rfl):=tf v hv
   exact .now
  .refine hQ _ λi j C hi hj hc=>?_
   rw[SQ nd (by omega) (by omega)]at hc;refine Mx (DU i hi) (DU j hj) ?_ hc
   by_cases e:i=j
   .exact .inl (by rw[e])
   .exact .inr (uJ nd (by omega) (by omega) e)
 .refine qb ⟨_,rfl,?_⟩
  have(en,ho):=sortedHeap_at (vs:=aj) (out:=List.toArray (p.toList.map λi=>aj.getD i Value.none)) vz;have fresh:H h1.objs.size=none:=I1.aD.fresh (qe _);have perm:p.toList.Perm (List.range vs.length):=by
   have:=a1.list;rw[lv]at this;exact this
  have mem:∀ i∈p.toList,i < vs.length:=λi hi=>Î.mp<|perm.mem_iff.mp hi;have lm:p.toList.length=vs.length:=by
   have:=perm.length_eq;simpa using this
  rw[lv,lp]at a1 a2;refine⟨.ref h1.objs.size,_,I1.laid (t':=s.toks) (a:=h1.objs.size) (o:=.lst (p.toList.map λi=>vs.getD i .aK)) (λb o e=>?_) (qe _) ⟨by rw[List.length_map]; omega,p.toList.map λi=>aj.getD i Value.none,en,Jk rv p.toList mem,by simpa using ho⟩,rfl,q p.toList _ perm (Pa nd a1 a2) fresh⟩;have hb:b < h1.objs.size:=qh e;rw[sortedHeap_old (qj hb) (by rw[Heap.size_push]; exact Nat.lt_succ_of_lt hb)];exact qd _ e
end
end L2
namespace L2
open PySem PySem.Spec PyProof.Rows
section
def wk:D->Qb (Qa Int)
 | .tuple [.int m,.int n,_]=>some [m,n]
 | _=>none
def uO:Qa D->Qb (Qa<|Qa Int)
 | []=>some []
 | d::ds=>(wk d).bind λk=>(uO ds).bind λks=>some<|k::ks
def pF(a b:D):Prop:=∃ k m,wk a=some k/\wk b=some m/\cN k m=true
theorem pF.Fg(a b:D)(h:pF a b):¬pF b a:=by
 rintro⟨k',m',e1,e2,h'⟩;have(k,m,e3,e4,h):=h;rw[e3]at e2;rw[e4]at e1;cases e1;cases e2;have:=Dl h h';rw[yj]at this;cases this
open Classical in
def xm(xs:Qa D):Qa D:=if h:∃ L,L.Perm xs/\L.Pairwise pF then h.choose else []
theorem Iu{xs L:Qa D}(p:L.Perm xs)(s:L.Pairwise pF):xm xs=L:=by
 have h:∃ L:Qa D,L.Perm xs/\L.Pairwise pF:=⟨L,p,s⟩;unfold xm;rw[dif_pos h];exact JS pF.Fg (h.choose_spec.1.trans p.symm) h.choose_spec.2 s
def xG(u:U):Qb U:=u.lst.bind λxs=>(uO xs).bind λks=>if xs.length<=100000/\ks.Nodup then some (.l<|xm xs)else none
theorem Hm:∀ {xs:Qa D} {ks:Qa (Qa Int)},uO xs=some ks->ks.length=xs.length
 | [],ks,e=>by cases e; rfl
 | x::xs,ks,e=>by
  have(k,e1,e):=bQ e;have(nJ,e2,e):=bQ e;cases e;simp[Hm e2]
theorem xF:∀ {xs:Qa D} {ks:Qa (Qa Int)} {i:Nat} {x:D},uO xs=some ks->xs[i]?=some x->wk x=some (ks.getD i [])
 | [],ks,i,x,e,ex=>by simp at ex
 | y::xs,ks,i,x,e,ex=>by
  have(k,e1,e):=bQ e;have(nJ,e2,e):=bQ e;cases e;cases i with
  | zero=>cases(show some y=some x from ex); exact e1
  | succ i=>exact xF (i:=i) e2 ex
theorem S8:VC K (GA K) (f1 xG):=rN λv a u H Q h e q=>by
 have(xs,ex,e):=bQ e;have(ks,ek,e):=bQ e;split at e
 .rename_i hc
  cases e;have(p,ys,rfl,sq,ds):=h.lst ex;have ly:=ds.len;have lk:=Hm ek;refine⟨p,ys,ks,rfl,sq,by omega,⟨by omega,λi v ev=>?_⟩,hc.2,λis r hp hs hr=>?_⟩
  .have(d,ed,dv):=ds.get' ev
   have kd:=xF ek ed;unfold wk at kd;split at kd
   .rename_i m n y
    have kd:=qw kd;have(a,zs,rfl,h1,h2):=DF.aV dv;cases h2 with
    | @cons z1 _ _ _ h3 t=>
     cases t with
     | @cons z2 _ _ _ h4 t=>
      cases t with
      | @cons z3 _ _ _ h5 t=>
       cases t;cases DF.int_inv h3;cases DF.int_inv h4;exact⟨a,m,n,z3,rfl,cq.sq h1,kd.symm⟩
   .cases kd
  .have sm:=lg hr (.lst<|is.map λi=>ys.getD i .aK)
   have lt:∀ i∈is,i < xs.length:=λi hi=>by
    have:=Î.mp (hp.mem_iff.mp hi);omega
   have ext:(List.range xs.length).map (λi=>xs.getD i .none)=xs:=by
    apply à;intro j;rw[List.getElem?_map]
    by_cases hj:j < xs.length
    .rw[List.getElem?_range hj,Option.map_some,qA,ql hj]
     rfl
    .rw[List.getElem?_eq_none (by simpa using hj),List.getElem?_eq_none (by omega)]
     rfl
   have pd:(is.map λi=>xs.getD i .none).Perm xs:=by
    have:=hp.map λi=>xs.getD i .none;rw[ly,ext]at this;exact this
   have o6:(is.map λi=>xs.getD i .none).Pairwise pF:=by
    rw[List.pairwise_map]at hs ⊢;refine hs.imp_of_mem λ{i j} hi hj d0=>?_;have gi:=ql (lt i hi);have gj:=ql (lt j hj);refine⟨_,_,?_,?_,d0⟩
    .rw[qA,gi]
     exact xF ek gi
    .rw[qA,gj]
     exact xF ek gj
   rw[Iu pd o6]at q;refine q _ _ sm ⟨r,_,rfl,zt,?_⟩ λ_=>⟨r,rfl,hr⟩;refine aR.kp sm.kp ?_;clear hs hp pd o6 q sm
   induction is with
   | nil=>exact .nil
   | cons i is ih=>
    refine .cons ?_<|ih λj hj=>lt j<|qm _ hj;have gi:=ql (lt i qo);have(v,ev,dv):=ds.get gi;dsimp only;rw[qA,qA,gi,ev];exact dv
 .cases e
end
section
def BO(w:U):Qb (D×U):=w.lo.bind λxs=>(xs[xs.length - 1]?).bind λx=>some (x,.l xs.dropLast)
def BN(i:Nat):ME:=λρ=>(ρ[i]?).join.bind λw=>(BO w).bind λz=>some (.u<|.d z.1,ρ.set i<|some z.2)
theorem aR.pB:∀ {vs:Qa V} {ds:Qa D},aR K H vs ds->aR K H vs.dropLast ds.dropLast
 | _,_,.nil=>.nil
 | _,_,.cons a .nil=>.nil
 | _,_,.cons a (.cons b t)=>.cons a<|aR.pB<|.cons b t
theorem N6:VE K (Bg K "list" FK<|kO i) (BN i):=by
 intro ρ σ H a af Q r e q;have(w,e0,e):=bQ e;obtain⟨⟨x,w'⟩,ez,e⟩:=bQ e;cases e;have(xs,ex,ez):=bQ ez;have(y,ey,ez):=bQ ez;cases ez;cases RI ex;have(v0,mU,p0):=r.rep i _ (Dj e0);have(l,us,rfl,hl,ds):=p0;have(z,hz,dz):=ds.get ey;have kp:=pY hl trivial (.lst us.dropLast);have ln:=ds.len;refine⟨_,mU,.inl ⟨rfl,us,bE.of hl⟩,l,us,z,rfl,rfl,hl,by rw[ln]; exact hz,q _ _ (Go.own (u':=.l xs.dropLast) r (Dj e0) rfl mU ⟨l,_,rfl,zt,(ds.kp kp).pB⟩) ⟨DF.kp kp dz,Nw.data⟩⟩
end
section
variable{QE:Ar×En->Prop}{ρ:En}
theorem Vr:Wo (BN i ρ) QE=Wo (ρ[i]?).join (Co (λw=>(BO w).bind λz=>some (.u<|.d z.1,ρ.set i<|some z.2)) ⟨0⟩ QE):=by
 show Wo (Option.bind _ _) QE=_;rw[zj]
end
theorem IQ{xs:Qa D}{x:D}:BO (.l<|xs++[x])=some (x,.l xs):=by
 show((xs++[x])[(xs++[x]).length - 1]?).bind (λy=>some (y,U.l (xs++[x]).dropLast))=_;rw[qr,List.dropLast_concat];simp
structure n6 (K:qc) (x qual:Str) (st:Stmt) (d:Int) (f:Qg) (fd:FuncData):Prop where
 ex:∃ (oc:Qc) (od:Qb Qg) (dA:Qg) (kV doc pm:Qc) (an:Qb Qg) (aO ct:Qc) (iK:Array (Qb Qc)) (oT:Obj) (tk:Tok) (m0:Nat),
  fd=PySem.W.fnOf x qual (jx st) (fE st) (zo st) (.ref dA) kV doc pm an aO ct/\K.lookup f=some ⟨oc,od,.func fd,iK⟩/\PySem.W.codeIn K aO qual=true/\K.lookup dA=some oT/\oT.data=.seq #[.int d tk] m0
 kp:PySem.W.keepIn K (.ref f)=true
section
theorem n6.D1{f:Qg}{m:MS}{d:Int}(F:n6 K x qual st d f fd)(S:aQ N ps (zo st))(o9:ps.length=n)(hN:N.length=nn)(jI:n<=nn)
  (aX:∀ (aO:Qc) (A:Qf) (outer:Qa Env) (s:Qd) (H:Hp) (E:XK),aE k (A.deeper<|envOfC qual (zo st) s.heap.objs.size f aO)->iS (iE (jO P w K) P w K mg base N qual (zo st) f aO A outer s H E) (rD E)->
   ∃ t,Wr (cW (iE (jO P w K) P w K mg base N qual (zo st) f aO A outer s H E) (fE st) t)/\VS K pn (rD E) t m):bp P w K mg base (jO P w K) (k+1) f fd ps (uX K n<|pG nn pn m):=by
 have(oc,od,dA,kV,doc,pm,an,aO,ct,iK,oT,tk,m0,rfl,lk,gL,_):=F.ex;refine BX lk gL S (λvs H Q E h=>?_) λA outer s H vs Q E hr h=>?_
 .have(us,r,hl,rs,_):=h
  have:=rs.len;unfold sm dg at this;simp at this;omega
 have(us,r,hl,rs,ef,q):=h;have(t,wt,vt):=aX aO A outer s H E hr Gm;refine⟨t,wt.run,?_⟩;have(fl,em,ef):=bQ ef;have go:∀ (af:En) (outs:Qa U),zZ pn af 0 us=some outs->Sn K pn (ft N vs) (Ow (sm us)<|dg vs) H H (sm us++List.replicate (N.length - us.length) none) (ft N vs) H:=λaf outs ho=>De rs (by omega) ho;subst hN;cases fl with
 | nx af=>
  have(os,eo,ef):=bQ (show(zZ pn af 0 us).bind _=_ from ef);cases ef;refine vt _ _ _ _ _ _ _ (.nx af) _ (go af _ eo) em λaC H' s'=>?_;exact q _ _ (oF rs s' eo) .aK Nw.data
 | rt u af=>
  have(os,eo,ef):=bQ (show(zZ pn af 0 us).bind _=_ from ef);cases ef;refine vt _ _ _ _ _ _ _ (.rt u af) _ (go af _ eo) em λv aC H' s' p n'=>?_;exact q _ _ (oF rs s' eo) p n'
 | ex x af=>
  have(os,eo,ef):=bQ (show(zZ pn af 0 us).bind _=_ from ef);cases ef;refine vt _ _ _ _ _ _ _ (.ex x af) _ (go af _ eo) em λa aC H' s' hn fl=>?_;have(n,C,fs,ds,rfl,fv,xn,t):=fl;refine⟨C,fs,fv,λH2 E5 kk dm=>?_⟩;exact q a H2 (oF rs (s'.mv hn fv.ext kk dm) eo) hn ⟨n,C,fs,ds,rfl,E5,xn,t.kp (s'.rs.mv fv.ext kk).2⟩
 | bk=>cases ef
 | ct=>cases ef
end
def wM(K:qc)(x:Str)(st:Stmt)(d:Int):Prop:=∃ (f:Qg) (fd:FuncData),n6 K x x st d f fd/\PySem.W.nsIn K mainGlobals x=some (some<|.ref f)
theorem E8{d:Int}{f dA:Qg}{oc:Qc}{od an Yv:Qb Qg}{Yj:Array (Qb Qc)}{kV doc pm aO ct ZY:Qc}{tk:Tok}{m0:Nat}(a:PySem.W.nsIn K mainGlobals x=some (some<|.ref f))(l:K.lookup f=some ⟨oc,od,.func<|PySem.W.fnOf x x (jx st) (fE st) (zo st) (.ref dA) kV doc pm an aO ct,iK⟩)
  (c:PySem.W.codeIn K aO x=true) (k:PySem.W.keepIn K (.ref f)=true) (t:K.lookup dA=some ⟨ZY,Yv,.seq #[.int d tk] m0,Yj⟩):wM K x st d:=⟨f,_,⟨⟨_,_,_,_,_,_,_,_,_,_,_,_,_,rfl,l,c,t,rfl⟩,k⟩,a⟩
def AQ(Z:Zs)(x:Str)(st:Stmt)(d:Int):Prop:=∃ (f:Qg) (fd:FuncData),n6 Z.K x x st d f fd/\Z.mg x=some (.ref f)
theorem wM.z{d:Int}(a:wM K x st d)(X:K.In h)(G:h.Ns mainGlobals mg):AQ ⟨P,w,K,mg,base⟩ x st d:=by
 have(f,fd,F,g):=a;exact⟨f,fd,F,Ë X G g⟩
structure iy (P:Qe) (w:Qh) (K:qc) (mg:Str->Qb Qc) (base:Heap) (x:Str) (k:Nat) (py ky:Str) (d:Int) (sp:Sp):Prop where
 ex:∃ (f:Qg) (fd:FuncData) (tk:Tok),bp P w K mg base (jO P w K) k f fd [py,ky] sp/\(∀ (s:Qd) (u:Qc),K.In s.heap->BindsTo s fd ⟨[u],[]⟩ [(py,u),(ky,.int d tk)])/\
  (∀ (s:Qd) (u v:Qc),K.In s.heap->BindsTo s fd ⟨[u,v],[]⟩ [(py,u),(ky,v)])/\(∀ (s:Qd) (u v:Qc),K.In s.heap->BindsTo s fd ⟨[u],[(ky,v)]⟩ [(py,u),(ky,v)])/\PySem.W.keepIn K (.ref f)=true/\mg x=some (.ref f)
theorem iy.all{py ky:Str}{d:Int}(C:iy P w K mg base x k py ky d sp):rE P w K mg base x k [py,ky] sp:=by
 have(f,fd,tk,F,_,h,_,hk,hm):=C.ex;refine⟨⟨f,fd,F,λs us X hl=>?_,hk,hm⟩⟩;rw[List.append_nil]at hl ⊢;have(a,b,rfl):=tL hl;exact h s a b X
section
variable{X:Cx}{EX:cJ}{py ky:Str}{d:Int}{e2:Expr}
theorem Ir{f:Qg}{s:Qd}{Q:VK}{as:Qa Qc}{kw:Qa (Str×Qc)}{vs:Qa V}(F:bp X.prog X.w X.K X.mg X.base (jO X.prog X.w X.K) k f fd ps sp)(hr:aE k X.A)(hb:BindsTo s fd ⟨as,kw⟩ (ps.zip us))(hx:iS X EX)
  (I:Inv X pins σ H s) (r:zH vs us) (h:sp vs H Q (oh EX σ)):wpAny (model X.prog X.w) X.A (call (.ref f) as kw) (EP X pins σ Q) X.xe s:=by
 refine wpAny_call<|codeAny_mono (F.run X.A X.stack s H ⟨as,kw⟩ us vs Q (oh EX σ) hr I.nY hb r h) λr s' hq=>?_;cases r with
 | error e=>
  have(a,H',rfl,os,bare,un,aD,a',ea,q):=hq;cases ea;have(hh,g,d,t,oU):=s';obtain rfl:oU=s.os:=os;exact hx pins σ H' _ a (I.call (h':=hh) (g':=g) (d':=d) (t':=t) (ch:=[]) un aD bare (λb z=>absurd z (by simp))) q
 | ok fl=>
  cases fl with
  | ret u=>exact I.after hq
  | next=>exact False.elim hq
  | brk=>exact False.elim hq
  | cont=>exact False.elim hq
def wL(P:V->Hp->Prop):Qa V->Hp->Prop
 | [v],H=>P v H
 | _,_=>False
theorem CV{P:V->Hp->Prop}:∀ {vs:Qa V} {H:Hp},wL P vs H->∃ v,vs=[v]/\P v H
 | [v],H,h=>⟨v,rfl,h⟩
theorem R8(C:iy X.prog X.w X.K X.mg X.base x k py ky d sp)(hx:iS X EX)(ha:Wr (PE X e te))(hr:aE k X.A:=by exact aE.mono ‹aE _ _› (by decide))(hg:Gl X x:=by exact rfl)(cx:(x==("__debug__":Str))=false:=by decide)
  (he:zN e=true:=by rfl):Wr (PE X (.Call (.Name x p) [e] [] pos)<|ud sp EX<|fP te<|fP (tC<|.int d) jo):=by
 have(f,fd,tk,F,hb,_,_,hk,hm):=C.ex;refine⟨λpins s σ H Q I h=>?_⟩;refine wpAny_Call_Name_kw<|p4 I hg hm ?_ cx;refine ç (h₀:=X.base) I.ok.mod.oX hk (aJ (CN ha.run Ct (iW he) pos pins s σ H (wL λv H1=>sp [v,.int d] H1 Q<|oh EX σ) I h) λus s1 ⟨vs,H1,I1,r,q⟩=>⟨I1.cB,?_⟩) (iW he)<|oI rfl;have(v,rfl,q):=CV q;have(u,rfl,ru):=r.one;exact Ir (as:=[u]) (kw:=[]) (us:=[u,.int d tk]) (vs:=[v,.int d]) F hr (hb _ u I1.cB) hx I1 (.cons ru<|.cons ⟨tk,rfl⟩ .nil) q
theorem R7{kpos:Pos}(C:iy X.prog X.w X.K X.mg X.base x k py ky d sp)(hx:iS X EX)(ha:Wr (PE X e te))(rh:Wr (PE X e2 tb))(hr:aE k X.A:=by exact aE.mono ‹aE _ _› (by decide))(hg:Gl X x:=by exact rfl)(cx:(x==("__debug__":Str))=false:=by decide)
  (he:zN e=true:=by rfl):Wr (PE X (.Call (.Name x p) [e] [⟨some ky,e2,kpos⟩] pos)<|ud sp EX<|fP te<|fP tb jo):=by
 have(f,fd,tk,F,_,_,hb,hk,hm):=C.ex;refine⟨λpins s σ H Q I h=>?_⟩;refine wpAny_Call_Name_kw<|p4 I hg hm ?_ cx;refine PySem.W.callWith_KW (h₀:=X.base) I.ok.mod.oX hk rfl (aJ (CN ha.run Ct (iW he) pos pins s σ H (wL λv H1=>tb σ H1 λz H2=>sp [v,z] H2 Q<|oh EX σ) I h) λus s1 hZ=>?_) ?_<|iW he
 .have(vs,H1,I1,r,q):=hZ
  have(v,rfl,q):=CV q;have(u,rfl,ru):=r.one;refine aJ (So (kws:=[]) (nm:=some ky) (kpos:=kpos) rh.run Qp pos pins s1 σ H1 (wL λz H2=>sp [v,z] H2 Q<|oh EX σ) I1 q) λws s2 ⟨zs,H2,I2,rz,q2⟩=>⟨I2.cB,?_⟩;have(z,rfl,q2):=CV q2;have(y,rfl,ry):=rz.one;exact Ir (as:=[u]) (kw:=[(ky,y)]) (us:=[u,y]) F hr (hb _ u y I2.cB) hx I2 (.cons ru<|.cons ry .nil) q2
 .rw[Bool.or_eq_false_iff]
  exact⟨by rw[iW he]; rfl,rfl⟩
end
abbrev Zs.XD(Z:Zs)(x:Str)(k:Nat)(py ky:Str)(d:Int)(F:FX):Prop:=iy Z.P Z.w Z.K Z.mg Z.base x k py ky d (uX Z.K 2 F)
section
variable{Z:Zs}{py ky:Str}{d:Int}{m:MS}
theorem Mv(A:AQ Z x st d)(N:Qa Str)(aX:∀ {f},F5 Z x st k pn m N f)(S:aQ N [py,ky] (zo st):=by exact⟨rfl,rfl,rfl,by decide +kernel,rfl,by decide +kernel,by decide +kernel⟩)(hN:N.length=nn:=by rfl)(jI:2<=nn:=by decide)
  (h1:∀ (dA:Qg) (kV doc pm:Qc) (an:Qb Qg) (aO ct:Qc) (s:Qd) (oT:Obj) (tk:Tok) (m0:Nat) (u:Qc),s.heap.get? dA=some oT->oT.data=.seq #[.int d tk] m0->BindsTo s (PySem.W.fnOf x x (jx st) (fE st) (zo st) (.ref dA) kV doc pm an aO ct) ⟨[u],[]⟩ [(py,u),(ky,.int d tk)]:=by
   intro _ _ _ _ _ _ _ _ _ _ _ _ h1 h2;exact BindsTo.of_defaults rfl h1 h2 rfl rfl)
  (h2:∀ (dA:Qg) (kV doc pm:Qc) (an:Qb Qg) (aO ct:Qc) (s:Qd) (oT:Obj) (tk:Tok) (m0:Nat) (u v:Qc),s.heap.get? dA=some oT->oT.data=.seq #[.int d tk] m0->BindsTo s (PySem.W.fnOf x x (jx st) (fE st) (zo st) (.ref dA) kV doc pm an aO ct) ⟨[u,v],[]⟩ [(py,u),(ky,v)]:=by
   intro _ _ _ _ _ _ _ _ _ _ _ _ _ h1 h2
   first|exact BindsTo.of_eq rfl|exact BindsTo.of_defaults rfl h1 h2 rfl rfl)
  (h3:∀ (dA:Qg) (kV doc pm:Qc) (an:Qb Qg) (aO ct:Qc) (s:Qd) (oT:Obj) (tk:Tok) (m0:Nat) (u v:Qc),s.heap.get? dA=some oT->oT.data=.seq #[.int d tk] m0->BindsTo s (PySem.W.fnOf x x (jx st) (fE st) (zo st) (.ref dA) kV doc pm an aO ct) ⟨[u],[(ky,v)]⟩ [(py,u),(ky,v)]:=by
   intro _ _ _ _ _ _ _ _ _ _ _ _ _ h1 h2
   first|exact BindsTo.of_eq rfl|exact BindsTo.of_defaults rfl h1 h2 rfl rfl):Z.XD x (k+1) py ky d (pG nn pn m):=by
 have(f,fd,F,g):=A;have ok:=F.D1 (P:=Z.P) (w:=Z.w) (mg:=Z.mg) (base:=Z.base) (k:=k) (pn:=pn) (m:=m) S rfl hN jI λaO A outer s H E hr hx=>let ⟨t,a,b⟩:=aX S.nd hr hx; ⟨t,b,a⟩;have(oc,od,dA,kV,doc,pm,an,aO,ct,iK,oT,tk,m0,rfl,lk,gL,lt,ht):=F.ex;exact⟨⟨f,_,tk,ok,λs u X=>h1 dA kV doc pm an aO ct s oT tk m0 u (X _ _ lt) ht,λs u v X=>h2 dA kV doc pm an aO ct s oT tk m0 u v (X _ _ lt) ht,λs u v X=>h3 dA kV doc pm an aO ct s oT tk m0 u v (X _ _ lt) ht,F.kp,g⟩⟩
end
end L2
namespace K49
open PySem L2
def top(i:Nat):Stmt:=PySem.Challenge.pw_undivide_k49_too_wide_or_not_whole.main.body.getD i (.Pass ⟨0,0,0,0⟩)
abbrev Iq:Stmt:=top 14
abbrev Hl:Stmt:=top 15
abbrev Ke:Stmt:=top 16
abbrev J5:Stmt:=top 17
abbrev IM:Stmt:=top 18
abbrev JR:Stmt:=top 20
abbrev JN:Stmt:=top 21
abbrev JZ:Stmt:=top 22
abbrev Kl:Stmt:=top 23
abbrev Kq:Stmt:=top 24
abbrev Kx:Stmt:=top 25
abbrev Kk:Stmt:=top 26
abbrev Kj:Stmt:=top 27
abbrev Ko:Stmt:=top 28
abbrev Kn:Stmt:=top 29
abbrev JM:Stmt:=top 30
abbrev KA:Stmt:=top 31
abbrev JY:Stmt:=top 32
abbrev JX:Stmt:=top 33
abbrev Ge:Stmt:=top 34
def eE:Qa (Str×Qa Str):=[("UndivideError",["ValueError", "Exception", "BaseException", "object"]),("BadText",["UndivideError", "ValueError", "Exception", "BaseException", "object"]),("BadLetters",["UndivideError", "ValueError", "Exception", "BaseException", "object"]),("BadRow",["UndivideError", "ValueError", "Exception", "BaseException", "object"]),("NoOver",["UndivideError", "ValueError", "Exception", "BaseException", "object"]),("TooMany",["UndivideError", "ValueError", "Exception", "BaseException", "object"]),("NoPaper",["UndivideError", "ValueError", "Exception", "BaseException", "object"]),("BadNode",["UndivideError", "ValueError", "Exception", "BaseException", "object"]),("BadWay",["UndivideError", "ValueError", "Exception", "BaseException", "object"]),("NotWhole",["UndivideError", "ValueError", "Exception", "BaseException", "object"])]
abbrev KD:Qa Str:=["at"]
def Cr:Stmt->Stmt
 | .ClassDef _ _ _ (b::_) _ _ _ _ _ _ _=>b
 | s=>s
abbrev WJ:Stmt:=Cr (top 2)
theorem zr4:aQ ["self", "at"] ["self", "at"] (zo WJ):=⟨rfl,rfl,rfl,by decide +kernel,rfl,by decide +kernel,by decide +kernel⟩
abbrev uI:Stmt:=Cr (top 6)
theorem Xc:aQ ["self", "at"] ["self", "at"] (zo uI):=⟨rfl,rfl,rfl,by decide +kernel,rfl,by decide +kernel,by decide +kernel⟩
abbrev uH:Stmt:=Cr (top 10)
theorem Xo:aQ ["self", "at"] ["self", "at"] (zo uH):=⟨rfl,rfl,rfl,by decide +kernel,rfl,by decide +kernel,by decide +kernel⟩
section
variable{f:Qg}
end
section
def Bs(Z:Zs):Prop:=Bl Z.mg ["enumerate", "len", "tuple", "sorted", "int", "range", "abs", "isinstance", "bool", "list", "ValueError", "min"]/\XT Z.K eE KD/\(∃ G,Z.mg "NOUGHT"=some (.ref G)/\mW Z.K G [0,1])/\(∃ G,Z.mg "ONE"=some (.ref G)/\mW Z.K G [1,1])/\(∃ C,XN Z.K "UndivideError" C/\Z.mg "UndivideError"=some (.ref C)/\XM Z.K eE "UndivideError" C)/\(∃ C,XN Z.K "BadText" C/\Z.mg "BadText"=some (.ref C))/\(∃ C,XN Z.K "BadLetters" C/\Z.mg "BadLetters"=some (.ref C))/\(∃ C,XN Z.K "BadRow" C/\Z.mg "BadRow"=some (.ref C))/\(∃ C,XN Z.K "NoOver" C/\Z.mg "NoOver"=some (.ref C))/\(∃ C,XN Z.K "TooMany" C/\Z.mg "TooMany"=some (.ref C)/\lO Z.P Z.w Z.K Z.mg Z.base "TooMany" C "at")/\(∃ C,XN Z.K "NoPaper" C/\Z.mg "NoPaper"=some (.ref C))/\(∃ C,XN Z.K "BadNode" C/\Z.mg "BadNode"=some (.ref C))/\(∃ C,XN Z.K "BadWay" C/\Z.mg "BadWay"=some (.ref C))/\(∃ C,XN Z.K "NotWhole" C/\Z.mg "NotWhole"=some (.ref C)/\lO Z.P Z.w Z.K Z.mg Z.base "NotWhole" C "at")
variable{Z:Zs}
def Ds:MS:=(bX<|vi (mB<|ao (cL false) (ao zY (ze 0)<|mC<|.int 0)<|mC<|.str "number") (bG<|zb (ao zY (ze 0)<|mC<|.int 1)<|zb (mC .none) zk)<|bG<|zb (mC<|.tuple [.int 1,.int 1])<|zb (ao zY (ze 0)<|mC<|.int 1) zk)
def sO:FD:=eK 1 [0] Ds
abbrev JL(Z:Zs):Prop:=Z.C "leaf_entry" 1 ["row"] 1 sO
theorem Xn(B:Bs Z)(A:fJ Z "leaf_entry" Ke):JL Z :=
 by obtain⟨hB,_,_,⟨jg,hJ,eY⟩,_⟩:=B; exact gP A ["row"] λnd hr=>⟨_,(cu<|FR (zq<|zi gH (zi zr zc zf) zE) (zO<|za (zi zr zc zf)<|za jW zh)<|zO<|za (GX eY)<|za (zi zr zc zf) zh),
 (zC<|zU<|Gs (zv gG (zw zz ae zg) zD) (zK<|aa (zw zz ae zg)<|aa jX zd)<|zK<|aa (Cy (v:=.ref jg) rfl hJ rfl)<|aa (zw zz ae zg) zd)⟩
def JQ:MS:=(zu (zS 2<|ao cY (ao jT (mC<|.int 7919)<|ze 1)<|mC<|.int 11)
  (zu (bL (mB<|ao mT (ze 1)<|cw (f1 eL)<|zb (ze 0) zk) (zS 2<|ao cX (ze 0)<|ze 1)<|bL (mB<|ao nW (cw (f1 eL)<|zb (ze 0) zk)<|mC<|.int 0) (zS 2<|ao cY (ze 2)<|ao jT (ao jn (ao cX (ze 0)<|ao jn (ze 1)<|cw (f1 eL)<|zb (ze 0) zk)<|mC<|.int 2147483629)<|mC<|.int 69623) cv)
  (zu (zS 3<|ao cY (ao jn (ao cY (ao jT (ao jn (ze 2)<|mC<|.int 2147483629)<|mC<|.int 48271)<|ao jT (mC<|.int 40692)<|ze 1)<|mC<|.int 2147483629)<|mC<|.int 1)
  (bX<|f7<|zb (ao jT (ze 2)<|cw (f1 kU)<|zb (ao vS (ze 2)<|ao xi (mC<|.int 10)<|mC<|.int 18) zk)<|zb (ze 3) zk))))
def yK:FD:=eK 4 [0,1] JQ
abbrev JP(Z:Zs):Prop:=Z.C "_law_box" 1 ["_law_script", "_law_k"] 2 yK
theorem Xb(B:Bs Z)(A:fJ Z "_law_box" JR):JP Z :=
 have hB:=B.1; gP A ["_law_script", "_law_k", "_law_cell", "_law_seed"] λnd hr=>⟨_,(zn (zB<|zi dC (zi nB zf zc) zf)
 (zn (pX<|bW (zq<|zi oB zc<|cM gg<|za zc zh) (zB<|zi dU zc zc)<|bW (zq<|zi pU (cM gg<|za zc zh) zf) (zB<|zi dC zc<|zi nB (zi k7 (zi dU zc<|zi k7 zc<|cM gg<|za zc zh) zf) zf) zM)
 (zn (zB<|zi dC (zi k7 (zi dC (zi nB (zi k7 zc zf) zf)<|zi nB zf zc) zf) zf)
 (cu<|iG<|za (zi nB zc<|cM uy<|za (zi B6 zc<|zi O5 zf zf) zh)<|za zc zh)))),
 (aG (zA<|zJ dD (zJ nv zg ae) zg)
 (aG (pZ<|bY (zv oE ae<|b8 gf Å<|aa ae zd) (zC<|zA<|zw dW ae ae)<|zC<|bY (zv pP (b8 gf Å<|aa ae zd) zg) (zC<|zA<|zJ dD ae<|zJ nv (zJ k9 (zw dW ae<|zJ k9 ae<|b8 gf Å<|aa ae zd) zg) zg) zL)
 (aG (zA<|zJ dD (zJ k9 (zJ dD (zJ nv (zJ k9 ae zg) zg)<|zJ nv zg ae) zg) zg)
 (zC<|zU<|iH<|aa (zJ nv ae<|lT uB Ì<|aa (nj BY ae<|zJ Qu zg zg) zd)<|aa ae zd))))⟩
def JK:MS:=(zu (bL (mB<|ao nW (ao cX (ze 0)<|mC<|.int 0)<|mC<|.int 0) (zu (zS 2<|ao jn (ao cX (ze 0)<|mC<|.int 0)<|ze 1)
  (zu (pV 0 (ao t4 (ao cX (ze 0)<|mC<|.int 0)<|ze 1)<|mC<|.int 0)
  (bX<|ze 2))) cv)
  (zu (zS 3<|ao jn (ao jT (ao cX (ze 0)<|mC<|.int 1)<|mC<|.int 69623)<|mC<|.int 2147483647)
  (zu (pV 0 (ao cY (ao jn (ao cY (ao jT (ze 3)<|mC<|.int 48271)<|mC<|.int 30103)<|mC<|.int 2147483629)<|mC<|.int 1)<|mC<|.int 1)
  (bX<|ao jn (ao t4 (ao cY (ao jT (ze 3)<|mC<|.int 2147483647)<|ao cX (ze 0)<|mC<|.int 1)<|mC<|.int 8191)<|ze 1))))
def zm:FD:=eK 4 [0,1] JK
abbrev sN(Z:Zs):Prop:=Z.C "_law_take" 1 ["_law_box_here", "_law_wide"] 2 zm
theorem Xm(B:Bs Z)(A:fJ Z "_law_take" JN):sN Z :=
 have hB:=B.1; gP A ["_law_box_here", "_law_wide", "_law_digit", "_law_one"] λnd hr=>⟨_,(zn (bW (zq<|zi pU (zi dU zc zf) zf) (zn (zB<|zi k7 (zi dU zc zf) zc)
 (zn (CP (zi Ik (zi dU zc zf) zc) zf)
 (cu zc))) zM)
 (zn (zB<|zi k7 (zi nB (zi dU zc zf) zf) zf)
 (zn (CP (zi dC (zi k7 (zi dC (zi nB zc zf) zf) zf) zf) zf)
 (cu<|zi k7 (zi Ik (zi dC (zi nB zc zf)<|zi dU zc zf) zf) zc)))),
 (aG (bY (zv pP (zw dW ae zg) zg) (aG (zA<|zJ k9 (zw dW ae zg) ae)
 (aG (pN (zJ I9 (zw dW ae zg) ae)<|Cz ae zg CS)
 (zC<|zU ae))) zL)
 (aG (zA<|zJ k9 (zJ nv (zw dW ae zg) zg) zg)
 (aG (pN (zJ dD (zJ k9 (zJ dD (zJ nv ae zg) zg) zg) zg)<|Cz ae zg CS)
 (zC<|zU<|zJ k9 (zJ I9 (zJ dD (zJ nv ae zg)<|zw dW ae zg) zg) ae))))⟩
def Ki:MS:=(zu (zS 2<|cw (f1 tP)<|zb (ze 0) zk)
  (zu (zS 3<|cw (f1 tP)<|zb (ze 1) zk)
  (zu (pW (mB<|ao (cL true) (ze 3)<|mC<|.int 0)<|w9 2 3<|zb (ze 3)<|zb (ao jn (ze 2)<|ze 3) zk)
  (zu (bL (mB<|ao mT (ze 1)<|mC<|.int 0) (zS 2<|ao iC (mC<|.int 0)<|ze 2) cv)
  (bX<|bG<|zb (ao xC (ze 0)<|ze 2)<|zb (ao xC (ze 1)<|ze 2) zk)))))
def sM:FD:=eK 4 [0,1] Ki
abbrev Du(Z:Zs):Prop:=Z.C "_law_fraction" 1 ["_law_n", "_law_d"] 2 sM
theorem X7(B:Bs Z)(A:fJ Z "_law_fraction" Kl):Du Z :=
 have hB:=B.1; gP A ["_law_n", "_law_d", "_law_one", "_law_two"] λnd hr=>⟨_,(zn (zB<|cM G5<|za zc zh)
 (zn (zB<|cM G5<|za zc zh)
 (zn (Hy (zq<|zi r0 zc zf)<|OK<|za zc<|za (zi k7 zc zc) zh)
 (zn (pX<|bW (zq<|zi oB zc zf) (zB<|zi jt zf zc) zM)
 (cu<|zO<|za (zi Ij zc zc)<|za (zi Ij zc zc) zh))))),
 (aG (zA<|b8 Jd PyProof.Rows.boot_abs<|aa ae zd)
 (aG (zA<|b8 Jd PyProof.Rows.boot_abs<|aa ae zd)
 (aG (HR (zv rV ae zg)<|zC<|Oo<|aa ae<|aa (zJ k9 ae ae) zd)
 (aG (pZ<|bY (zv oE ae zg) (zC<|zA<|zJ ju zg ae) zL)
 (zC<|zU<|zK<|aa (zJ I0 ae ae)<|aa (zJ I0 ae ae) zd)))))⟩
def Kh:MS:=(bX<|oA (cn (iA "int")<|ze 0)<|tZ<|cn (iA "bool")<|ze 0)
def qD:FD:=eK 1 [0] Kh
abbrev Dt(Z:Zs):Prop:=Z.C "_law_is_whole" 1 ["_law_thing"] 1 qD
theorem X6(B:Bs Z)(A:fJ Z "_law_is_whole" Kj):Dt Z :=
 have hB:=B.1; gP A ["_law_thing"] λnd hr=>⟨_,(cu<|uw (kS (T := "int") zc)<|G4<|kS (T := "bool") zc),
 (zC<|zU<|t6 (b8 kW Ã<|aa ae<|aa (ku (v:=.ty "int") Ì rfl) zd)<|xw<|w_not<|b8 kW Ã<|aa ae<|aa (ku (v:=.ty "bool") PyProof.Rows.boot_bool rfl) zd)⟩
def Dw:MS:=(zu (zS 1<|f7 zk)
  (zu (pR 0 (dB 2)<|bL (fG (mB<|ao (cL false) (ao zY (ze 2)<|mC<|.int 0)<|mC<|.str "number")<|mB<|ao (cL false) (ao zY (ze 2)<|mC<|.int 0)<|mC<|.str "letter") (eF<|eA 1<|mC<|.int 1)<|eF<|eA 1<|ao cY (ao cY (ao cX (ze 1)<|ao zY (ze 2)<|mC<|.int 1)<|ao cX (ze 1)<|ao zY (ze 2)<|mC<|.int 2)<|cw (f1 kU)<|zb (ao (ic false) (ao zY (ze 2)<|mC<|.int 0)<|bG<|zb (mC<|.str "less")<|zb (mC<|.str "times") zk) zk)
  (lZ [0] 1)))
def qC:FD:=eK 3 [0] Dw
abbrev Dv(Z:Zs):Prop:=Z.C "_law_widths" 1 ["_law_rows_here"] 1 qC
theorem XY(B:Bs Z)(A:fJ Z "_law_widths" Kn):Dv Z :=
 have hB:=B.1; gP A ["_law_rows_here", "_law_found", "_law_row"] λnd hr=>⟨_,(zn (zB<|iG zh)
 (zn (Oe (by decide) zT<|bW (gE (zq<|zi gH (zi zr zc zf) zE)<|zq<|zi gH (zi zr zc zf) zE) (fN<|fM zf)<|fN<|fM<|zi dC (zi dC (zi dU zc<|zi zr zc zf)<|zi dU zc<|zi zr zc zf)<|cM uy<|za (zi (uc false) (zi zr zc zf)<|zO<|za zE<|za zE zh) zh)
 uu)),
 (aG (zA<|iH zd)
 (aG (l0 (Pz _ rfl ae) zR<|zC<|bY (iD<|gF (zv gG (zw zz ae zg) zD)<|jZ<|zv gG (zw zz ae zg) zD) (zC<|fO<|fq _ rfl À Á Â zI ae<|aa zg zd)<|zC<|fO<|fq _ rfl À Á Â zI ae<|aa (zJ dD (zJ dD (zw dW ae<|zw zz ae zg)<|zw dW ae<|zw zz ae zg)<|lT uB Ì<|aa (nj Bq (zw zz ae zg) (zK<|aa zD<|aa zD zd) rfl) zd) zd)
 (zC<|zU ae)))⟩
def JW:MS:=(zu (zS 2<|f7 zk)
  (zu (zS 3<|f7<|zb (bG<|zb (ao iC (cw (f1 eL)<|zb (ze 0) zk)<|mC<|.int 1)<|zb (mC<|.int 0)<|zb (ao cY (ao cX (ze 1)<|cn jS<|mC<|.int 1)<|mC<|.int 1)<|zb (mC<|.int 1) zk) zk)
  (zu (pW (xb<|ze 3) (zu (og (BN 3)<|kT 4<|gS (dB 4)<|gS (dB 5)<|gS (dB 6)<|gS (dB 7) nh)
  (zu (zS 8<|ao zY (ze 0)<|ze 4)
  (zu (bL (fG (mB<|ao (cL false) (ao zY (ze 8)<|mC<|.int 0)<|mC<|.str "number")<|mB<|ao (cL false) (ao zY (ze 8)<|mC<|.int 0)<|mC<|.str "letter") (zu (eF<|eA 2<|bG<|zb (ze 5)<|zb (ze 7)<|zb (be sO<|zb (ze 8) zk) zk)
  (zu (eF<|eA 2<|bG<|zb (ze 7)<|zb (ze 6)<|zb (bG<|zb (mC<|.tuple [.int 1,.int 1])<|zb (mC .none) zk) zk)
  (λρ=>some<|.ct ρ))) cv)
  (zu (zS 9<|ao cY (ze 7)<|ao cX (ze 1)<|ao zY (ze 8)<|mC<|.int 1)
  (bL (mB<|ao (cL false) (ao zY (ze 8)<|mC<|.int 0)<|mC<|.str "plus") (zu (eF<|eA 3<|bG<|zb (ao zY (ze 8)<|mC<|.int 1)<|zb (ze 5)<|zb (ze 6)<|zb (ze 7) zk)
  (eF<|eA 3<|bG<|zb (ao zY (ze 8)<|mC<|.int 2)<|zb (ze 5)<|zb (ze 6)<|zb (ze 9) zk))<|bL (mB<|ao (cL false) (ao zY (ze 8)<|mC<|.int 0)<|mC<|.str "less") (zu (eF<|eA 2<|bG<|zb (ze 5)<|zb (ze 9)<|zb (bG<|zb (bG<|zb (cn jS<|mC<|.int 1)<|zb (mC<|.int 1) zk)<|zb (mC .none) zk) zk)
  (zu (eF<|eA 3<|bG<|zb (ao zY (ze 8)<|mC<|.int 1)<|zb (ze 5)<|zb (ze 6)<|zb (ze 7) zk)
  (eF<|eA 3<|bG<|zb (ao zY (ze 8)<|mC<|.int 2)<|zb (ze 9)<|zb (ze 6)<|zb (ao cY (ze 9)<|mC<|.int 1) zk))) (zu (eF<|eA 3<|bG<|zb (ao zY (ze 8)<|mC<|.int 1)<|zb (ze 5)<|zb (ze 9)<|zb (ze 7) zk)
  (eF<|eA 3<|bG<|zb (ao zY (ze 8)<|mC<|.int 2)<|zb (ze 9)<|zb (ze 6)<|zb (ao cY (ze 9)<|mC<|.int 1) zk))))))))
  (lZ [0,1] 2))))
def yG:FD:=eK 10 [0,1] JW
abbrev JV(Z:Zs):Prop:=Z.C "opened_ways" 2 ["rows", "wide"] 2 yG
theorem XG(B:Bs Z)(A:fJ Z "opened_ways" J5)(c0:JL Z):JV Z :=
 by obtain⟨hB,_,_,⟨jg,hJ,eY⟩,_⟩:=B; exact gP A ["rows", "wide", "ways", "waiting", "at", "start", "end", "own", "row", "between"] λnd hr=>⟨_,(zn (zB<|iG zh)
 (zn (zB<|iG<|za (zO<|za (zi jt (cM gg<|za zc zh) zf)<|za zf<|za (zi dC (zi dU zc<|kl l8 zf) zf)<|za zf zh) zh)
 (zn (Hy (O2 zc) (zn (xp (N6)<|sd<|jw zT<|jw zT<|jw zT<|jw zT zev)
 (zn (zB<|zi zr zc zc)
 (zn (bW (gE (zq<|zi gH (zi zr zc zf) zE)<|zq<|zi gH (zi zr zc zf) zE) (zn (fN<|fM<|zO<|za zc<|za zc<|za (zG 1<|za zc zh) zh)
 (zn (fN<|fM<|zO<|za zc<|za zc<|za (zO<|za (GX eY)<|za jW zh) zh)
 O1)) zM)
 (zn (zB<|zi dC zc<|zi dU zc<|zi zr zc zf)
 (bW (zq<|zi gH (zi zr zc zf) zE) (zn (fN<|fM<|zO<|za (zi zr zc zf)<|za zc<|za zc<|za zc zh)
 (fN<|fM<|zO<|za (zi zr zc zf)<|za zc<|za zc<|za zc zh))<|bW (zq<|zi gH (zi zr zc zf) zE) (zn (fN<|fM<|zO<|za zc<|za zc<|za (zO<|za (zO<|za (kl l8 zf)<|za zf zh)<|za jW zh) zh)
 (zn (fN<|fM<|zO<|za (zi zr zc zf)<|za zc<|za zc<|za zc zh)
 (fN<|fM<|zO<|za (zi zr zc zf)<|za zc<|za zc<|za (zi dC zc zf) zh))) (zn (fN<|fM<|zO<|za (zi zr zc zf)<|za zc<|za zc<|za zc zh)
 (fN<|fM<|zO<|za (zi zr zc zf)<|za zc<|za zc<|za (zi dC zc zf) zh))))))))
 uu))),
 (aG (zA<|iH zd)
 (aG (zA<|iH<|aa (zK<|aa (zJ ju (b8 gf Å<|aa ae zd) zg)<|aa zg<|aa (zJ dD (zw dW ae<|lU mf zg) zg)<|aa zg zd) zd)
 (aG (HR (Oq ae) (aG (pN (Om _ rfl À PySem.F.slot_list_pop PySem.F.type_list_pop QL ae)<|si<|jz zR<|jz zR<|jz zR<|jz zR so)
 (aG (zA<|zw zz ae ae)
 (aG (bY (iD<|gF (zv gG (zw zz ae zg) zD)<|jZ<|zv gG (zw zz ae zg) zD) (aG (fO<|fq _ rfl À Á Â zI ae<|aa (zK<|aa ae<|aa ae<|aa (zF<|aa ae zd) zd) zd)
 (aG (fO<|fq _ rfl À Á Â zI ae<|aa (zK<|aa ae<|aa ae<|aa (zK<|aa (Cy (v:=.ref jg) rfl hJ rfl)<|aa jX zd) zd) zd)
 (zC Xe))) zL)
 (aG (zA<|zJ dD ae<|zw dW ae<|zw zz ae zg)
 (zC<|bY (zv gG (zw zz ae zg) zD) (aG (fO<|fq _ rfl À Á Â zI ae<|aa (zK<|aa (zw zz ae zg)<|aa ae<|aa ae<|aa ae zd) zd)
 (zC<|fO<|fq _ rfl À Á Â zI ae<|aa (zK<|aa (zw zz ae zg)<|aa ae<|aa ae<|aa ae zd) zd))<|zC<|bY (zv gG (zw zz ae zg) zD) (aG (fO<|fq _ rfl À Á Â zI ae<|aa (zK<|aa ae<|aa ae<|aa (zK<|aa (zK<|aa (lU mf zg)<|aa zg zd)<|aa jX zd) zd) zd)
 (aG (fO<|fq _ rfl À Á Â zI ae<|aa (zK<|aa (zw zz ae zg)<|aa ae<|aa ae<|aa ae zd) zd)
 (zC<|fO<|fq _ rfl À Á Â zI ae<|aa (zK<|aa (zw zz ae zg)<|aa ae<|aa ae<|aa (zJ dD ae zg) zd) zd))) (aG (fO<|fq _ rfl À Á Â zI ae<|aa (zK<|aa (zw zz ae zg)<|aa ae<|aa ae<|aa ae zd) zd)
 (zC<|fO<|fq _ rfl À Á Â zI ae<|aa (zK<|aa (zw zz ae zg)<|aa ae<|aa ae<|aa (zJ dD ae zg) zd) zd))))))))
 (zC<|zU ae))))⟩
def Kd:MS:=(zu (zS 2<|mC<|.str "abcdefghijklmnopqrstuvwxyz")
  (zu (zS 3<|qS (pT<|zb (ao cY (mC<|.int 1)<|be zm<|zb (ze 0)<|zb (mC<|.int 4) zk) zk) 1 [0,2] (dB 0) w5<|ao pI (ze 2)<|be zm<|zb (ze 1)<|zb (mC<|.int 26) zk)
  (zu (zS 4<|be zm<|zb (ze 0)<|zb (cw (f1 eL)<|zb (ze 3) zk) zk)
  (zu (zS 5<|be zm<|zb (ze 0)<|zb (mC<|.int 26) zk)
  (zu (zS 6<|f7 zk)
  (zu (jk (pT<|zb (ze 1) zk) (dB 7) (zu (zS 8<|ao pI (ze 2)<|ao jn (ao cY (ze 5)<|ao jT (mC<|.int 7)<|ze 7)<|mC<|.int 26)
  (zu (zS 9<|ao nq (ao nq (Ab uR rY (mC<|.str "")<|nI pJ (ze 3) nC<|nu<|ze 4)<|ze 8)<|Ab uR rY (mC<|.str "")<|nI pJ (ze 3) (nu<|ao cY (ze 4)<|mC<|.int 1) nC)
  (zu (zS 9<|ao nq (ze 9)<|ao ub (mC<|.str "q")<|be zm<|zb (ze 0)<|zb (mC<|.int 2) zk)
  (zu (bL (fG (mB<|ao (ic false) (ze 9)<|ze 6)<|mB<|ao (ic false) (ze 9)<|bG<|zb (mC<|.str "part")<|zb (mC<|.str "end")<|zb (mC<|.str "give")<|zb (mC<|.str "rounds")<|zb (mC<|.str "letters") zk) (zS 9<|ao nq (mC<|.str "zz")<|ao pI (ze 2)<|ze 7) cv)
  (eF<|eA 6<|ze 9))))))
  (zu (bL (mB<|ao (cL false) (be zm<|zb (ze 0)<|zb (mC<|.int 5) zk)<|mC<|.int 0) (zu (zS 10<|ao cX (f7<|zb (mC<|.str "ends")<|zb (mC<|.str "pa")<|zb (mC<|.str "gives")<|zb (mC<|.str "giv")<|zb (mC<|.str "x")<|zb (mC<|.str "y")<|zb (mC<|.str "r")<|zb (mC<|.str "rk") zk)<|be zm<|zb (ze 0)<|zb (mC<|.int 8) zk)
  (bL (mB<|ao (ic true) (ze 10)<|ze 6) (pV 6 (ze 10)<|be zm<|zb (ze 0)<|zb (ze 1) zk) cv)) cv)
  (bX<|cw (f1 sf)<|zb (ze 6) zk))))))))
def yF:FD:=eK 11 [0,1] Kd
abbrev Kc(Z:Zs):Prop:=Z.C "_law_names" 2 ["_law_box_here", "_law_many"] 2 yF
theorem XF(B:Bs Z)(A:fJ Z "_law_names" JZ)(c0:sN Z):Kc Z :=
 have hB:=B.1; gP A ["_law_box_here", "_law_many", "_law_alphabet", "_law_signs", "_law_spot", "_law_first", "_law_found", "_law_k", "_law_one", "_law_name", "_law_odd"] λnd hr=>⟨_,(zn (zB zE)
 (zn (zB<|AW (yg<|za (zi dC zf<|zG 2<|za zc<|za zf zh) zh) zT OZ<|zi Cf zc<|zG 2<|za zc<|za zf zh)
 (zn (zB<|zG 2<|za zc<|za (cM gg<|za zc zh) zh)
 (zn (zB<|zG 2<|za zc<|za zf zh)
 (zn (zB<|iG zh)
 (zn (lY (yg<|za zc zh) zT (zn (zB<|zi Cf zc<|zi k7 (zi dC zc<|zi nB zf zc) zf)
 (zn (zB<|zi xZ (zi xZ (FE GS Hs zE<|rK yc zc sD<|sC zc) zc)<|FE GS Hs zE<|rK yc zc (sC<|zi dC zc zf) sD)
 (zn (zB<|zi xZ zc<|zi RT zE<|zG 2<|za zc<|za zf zh)
 (zn (pX<|bW (gE (zq<|zi (uc false) zc zc)<|zq<|zi (uc false) zc<|zO<|za zE<|za zE<|za zE<|za zE<|za zE zh) (zB<|zi xZ zE<|zi Cf zc zc) zM)
 (fN<|fM zc))))))
 (zn (pX<|bW (zq<|zi gH (zG 2<|za zc<|za zf zh) zf) (zn (zB<|zi dU (iG<|za zE<|za zE<|za zE<|za zE<|za zE<|za zE<|za zE<|za zE zh)<|zG 2<|za zc<|za zf zh)
 (bW (zq<|zi (uc true) zc zc) (CP zc<|zG 2<|za zc<|za zc zh) zM)) zM)
 (cu<|cM yu<|za zc zh)))))))),
 (aG (zA zD)
 (aG (B7 (yw<|aa (zJ dD zg<|zF<|aa ae<|aa zg zd) zd) zR QC<|zw Cs ae<|zF<|aa ae<|aa zg zd)
 (aG (zA<|zF<|aa ae<|aa (b8 gf Å<|aa ae zd) zd)
 (aG (zA<|zF<|aa ae<|aa zg zd)
 (aG (zA<|iH zd)
 (aG (l0 (yw<|aa ae zd) zR (aG (zA<|zw Cs ae<|zJ k9 (zJ dD ae<|zJ nv zg ae) zg)
 (aG (zA<|zJ yB (zJ yB (fq _ rfl PySem.F.plainAttrs_str PySem.F.slot_str_join PySem.F.type_str_join (Ip _ rfl) zD<|aa (sE xu ae sI<|sF ae) zd) ae)<|fq _ rfl PySem.F.plainAttrs_str PySem.F.slot_str_join PySem.F.type_str_join (Ip _ rfl) zD<|aa (sE xu ae (sF<|zJ dD ae zg) sI) zd)
 (aG (zA<|zJ yB ae<|zJ Xd zD<|zF<|aa ae<|aa zg zd)
 (aG (pZ<|bY (iD<|gF (zv Bq ae ae rfl)<|jZ<|zv Bq ae (zK<|aa zD<|aa zD<|aa zD<|aa zD<|aa zD zd) rfl) (zC<|zA<|zJ yB zD<|zw Cs ae ae) zL)
 (zC<|fO<|fq _ rfl À Á Â zI ae<|aa ae zd))))))
 (aG (pZ<|bY (zv gG (zF<|aa ae<|aa zg zd) zg) (aG (zA<|zw dW (iH<|aa zD<|aa zD<|aa zD<|aa zD<|aa zD<|aa zD<|aa zD<|aa zD zd)<|zF<|aa ae<|aa zg zd)
 (zC<|bY (zv HS ae ae rfl) (zC<|pN ae<|Cz ae (zF<|aa ae<|aa ae zd) CS) zL)) zL)
 (zC<|zU<|lT yr É<|aa ae zd))))))))⟩
def Ku:MS:=(zu (zS 1<|be zm<|zb (ze 0)<|zb (mC<|.int 12) zk)
  (zu (bL (mB<|ao mT (ze 1)<|mC<|.int 7) (bX<|ao cX (f7<|zb (bG<|zb (mC<|.int 0)<|zb (mC<|.int 1) zk)<|zb (bG<|zb (mC<|.int 1)<|zb (mC<|.int 1) zk)<|zb (bG<|zb (mC<|.int 1)<|zb (mC<|.int 1) zk)<|zb (bG<|zb (cn jS<|mC<|.int 1)<|zb (mC<|.int 1) zk)<|zb (bG<|zb (mC<|.int 2)<|zb (mC<|.int 1) zk)<|zb (bG<|zb (mC<|.int 1)<|zb (mC<|.int 2) zk)<|zb (bG<|zb (cn jS<|mC<|.int 2)<|zb (mC<|.int 3) zk) zk)<|ze 1) cv)
  (zu (bL (mB<|ao mT (ze 1)<|mC<|.int 11) (bX<|be sM<|zb (ao iC (be zm<|zb (ze 0)<|zb (mC<|.int 19) zk)<|mC<|.int 9)<|zb (ao cY (mC<|.int 1)<|be zm<|zb (ze 0)<|zb (mC<|.int 4) zk) zk) cv)
  (bX<|be sM<|zb (ao iC (be zm<|zb (ze 0)<|zb (mC<|.int 1999999) zk)<|mC<|.int 999999)<|zb (ao cY (mC<|.int 1)<|be zm<|zb (ze 0)<|zb (mC<|.int 4) zk) zk))))
def yI:FD:=eK 2 [0] Ku
abbrev Kt(Z:Zs):Prop:=Z.C "_law_number" 2 ["_law_box_here"] 1 yI
theorem XX(B:Bs Z)(A:fJ Z "_law_number" Kq)(c0:sN Z)(c1:Du Z):Kt Z :=
 have hB:=B.1; gP A ["_law_box_here", "_law_kind"] λnd hr=>⟨_,(zn (zB<|zG 2<|za zc<|za zf zh)
 (zn (bW (zq<|zi oB zc zf) (cu<|zi dU (iG<|za (zO<|za zf<|za zf zh)<|za (zO<|za zf<|za zf zh)<|za (zO<|za zf<|za zf zh)<|za (zO<|za (kl l8 zf)<|za zf zh)<|za (zO<|za zf<|za zf zh)<|za (zO<|za zf<|za zf zh)<|za (zO<|za (kl l8 zf)<|za zf zh) zh) zc) zM)
 (zn (bW (zq<|zi oB zc zf) (cu<|zG 2<|za (zi jt (zG 2<|za zc<|za zf zh) zf)<|za (zi dC zf<|zG 2<|za zc<|za zf zh) zh) zM)
 (cu<|zG 2<|za (zi jt (zG 2<|za zc<|za zf zh) zf)<|za (zi dC zf<|zG 2<|za zc<|za zf zh) zh)))),
 (aG (zA<|zF<|aa ae<|aa zg zd)
 (aG (bY (zv oE ae zg) (zC<|zU<|zw dW (iH<|aa (zK<|aa zg<|aa zg zd)<|aa (zK<|aa zg<|aa zg zd)<|aa (zK<|aa zg<|aa zg zd)<|aa (zK<|aa (lU mf zg)<|aa zg zd)<|aa (zK<|aa zg<|aa zg zd)<|aa (zK<|aa zg<|aa zg zd)<|aa (zK<|aa (lU mf zg)<|aa zg zd) zd) ae) zL)
 (aG (bY (zv oE ae zg) (zC<|zU<|zF<|aa (zJ ju (zF<|aa ae<|aa zg zd) zg)<|aa (zJ dD zg<|zF<|aa ae<|aa zg zd) zd) zL)
 (zC<|zU<|zF<|aa (zJ ju (zF<|aa ae<|aa zg zd) zg)<|aa (zJ dD zg<|zF<|aa ae<|aa zg zd) zd))))⟩
def Kw:MS:=(zu (bL (fG (fC<|mB<|cn (iA "tuple")<|ze 0)<|mB<|ao (cL true) (cw (f1 eL)<|zb (ze 0) zk)<|mC<|.int 2) (bX<|mC<|.bool false) cv)
  (zu (jk (j9 tT<|ze 0) (dB 1)<|bL (fG (fC<|mB<|cn (iA "int")<|ze 1)<|mB<|cn (iA "bool")<|ze 1) (bX<|mC<|.bool false) cv)
  (bX<|oA (ao nW (ao zY (ze 0)<|mC<|.int 1)<|mC<|.int 0)<|ao (lQ false) (be sM<|zb (ao zY (ze 0)<|mC<|.int 0)<|zb (ao zY (ze 0)<|mC<|.int 1) zk)<|ze 0)))
def yN:FD:=eK 2 [0] Kw
abbrev Kv(Z:Zs):Prop:=Z.C "_law_is_fraction" 2 ["_law_thing"] 1 yN
theorem X8(B:Bs Z)(A:fJ Z "_law_is_fraction" Kx)(c0:Du Z):Kv Z :=
 have hB:=B.1; gP A ["_law_thing", "_law_one"] λnd hr=>⟨_,(zn (bW (gE (gI<|fD<|kS (T := "tuple") zc)<|zq<|zi r0 (cM gg<|za zc zh) zf) (cu iQ) zM)
 (zn (lY (Hb zc) zT<|bW (gE (gI<|fD<|kS (T := "int") zc)<|fD<|kS (T := "bool") zc) (cu iQ) zM)
 (cu<|uw (zi pU (zi zr zc zf) zf)<|zi (xP false) (zG 2<|za (zi zr zc zf)<|za (zi zr zc zf) zh) zc))),
 (aG (bY (iD<|gF (gK<|gJ<|b8 kW Ã<|aa ae<|aa (ku (v:=.ty "tuple") É rfl) zd)<|jZ<|zv rV (b8 gf Å<|aa ae zd) zg) (zC<|zU iR) zL)
 (aG (l0 (G7 ae) zR<|zC<|bY (iD<|gF (gK<|gJ<|b8 kW Ã<|aa ae<|aa (ku (v:=.ty "int") Ì rfl) zd)<|jZ<|gJ<|b8 kW Ã<|aa ae<|aa (ku (v:=.ty "bool") PyProof.Rows.boot_bool rfl) zd) (zC<|zU iR) zL)
 (zC<|zU<|t6 (nj pP (zw zz ae zg) zg)<|xw<|nj (Cm _ rfl hr) (zF<|aa (zw zz ae zg)<|aa (zw zz ae zg) zd) ae)))⟩
def Kz:MS:=(zu (zS 2<|ao cY (mC<|.int 2)<|be zm<|zb (ze 0)<|zb (ao iC (cw (f1 eL)<|zb (ze 1) zk)<|mC<|.int 1) zk)
  (zu (zS 3<|cw (f1 B5)<|zb (nI pJ (ze 1) nC<|nu<|ze 2) zk)
  (zu (eF<|eA 3<|bG<|zb (mC<|.str "over")<|zb (be zm<|zb (ze 0)<|zb (ze 2) zk)<|zb (mC<|.int 0) zk)
  (zu (jk (j9 pK<|oW<|nI pJ (ze 1) (nu<|ze 2) nC) (dB 4) (zu (bL (mB<|ao (ic true) (ao zY (ze 4)<|mC<|.int 0)<|bG<|zb (mC<|.str "number")<|zb (mC<|.str "letter") zk) (zS 4<|bG<|zb (ao zY (ze 4)<|mC<|.int 0)<|zb (ao cY (ao zY (ze 4)<|mC<|.int 1)<|cw (f1 kU)<|zb (ao vS (ao zY (ze 4)<|mC<|.int 1)<|ze 2) zk)<|zb (ao cY (ao zY (ze 4)<|mC<|.int 2)<|cw (f1 kU)<|zb (ao vS (ao zY (ze 4)<|mC<|.int 2)<|ze 2) zk) zk) cv)
  (eF<|eA 3<|ze 4)))
  (lZ [0,1] 3)))))
def uK:FD:=eK 5 [0,1] Kz
abbrev Ky(Z:Zs):Prop:=Z.C "_law_with_over" 2 ["_law_box_here", "_law_rows_here"] 2 uK
theorem X3(B:Bs Z)(A:fJ Z "_law_with_over" KA)(c0:sN Z):Ky Z :=
 have hB:=B.1; gP A ["_law_box_here", "_law_rows_here", "_law_at", "_law_found", "_law_row"] λnd hr=>⟨_,(zn (zB<|zi dC zf<|zG 2<|za zc<|za (zi jt (cM gg<|za zc zh) zf) zh)
 (zn (zB<|cM SJ<|za (rK yc zc sD<|sC zc) zh)
 (zn (fN<|fM<|zO<|za zE<|za (zG 2<|za zc<|za zc zh)<|za zf zh)
 (zn (lY (yh<|xf<|rK yc zc (sC zc) sD) zT (zn (pX<|bW (zq<|zi (uc true) (zi zr zc zf)<|zO<|za zE<|za zE zh) (zB<|zO<|za (zi zr zc zf)<|za (zi dC (zi zr zc zf)<|cM uy<|za (zi B6 (zi zr zc zf) zc) zh)<|za (zi dC (zi zr zc zf)<|cM uy<|za (zi B6 (zi zr zc zf) zc) zh) zh) zM)
 (fN<|fM zc)))
 uu)))),
 (aG (zA<|zJ dD zg<|zF<|aa ae<|aa (zJ ju (b8 gf Å<|aa ae zd) zg) zd)
 (aG (zA<|lT U2 PyProof.Rows.boot_list<|aa (sE xu ae sI<|sF ae) zd)
 (aG (fO<|fq _ rfl À Á Â zI ae<|aa (zK<|aa zD<|aa (zF<|aa ae<|aa ae zd)<|aa zg zd) zd)
 (aG (l0 (yk<|xg<|sE xu ae (sF ae) sI) zR (aG (pZ<|bY (zv HS (zw zz ae zg) (zK<|aa zD<|aa zD zd) rfl) (zC<|zA<|zK<|aa (zw zz ae zg)<|aa (zJ dD (zw zz ae zg)<|lT uB Ì<|aa (nj BY (zw zz ae zg) ae) zd)<|aa (zJ dD (zw zz ae zg)<|lT uB Ì<|aa (nj BY (zw zz ae zg) ae) zd) zd) zL)
 (zC<|fO<|fq _ rfl À Á Â zI ae<|aa ae zd)))
 (zC<|zU ae)))))⟩
def IL:MS:=(zu (og (ze 0)<|kT 2<|gS (dB 1)<|gS (dB 2) nh)
  (zu (zS 3<|f7 zk)
  (zu (jk (tY<|zb (ze 2) zk) (kT 2<|gS (dB 4)<|gS (dB 5) nh) (zu (zS 6<|ao zY (ze 5)<|mC<|.int 0)
  (zu (bL (mB<|ao (cL false) (ze 6)<|mC<|.str "over") (xK<|vh "NotWhole" "at"<|zb (ze 4) zk) cv)
  (bL (fG (mB<|ao (cL false) (ze 6)<|mC<|.str "number")<|mB<|ao (cL false) (ze 6)<|mC<|.str "letter") (eF<|eA 3<|mC<|.int 1)<|eF<|eA 3<|ao cY (ao cY (ao cX (ze 3)<|ao zY (ze 5)<|mC<|.int 1)<|ao cX (ze 3)<|ao zY (ze 5)<|mC<|.int 2)<|vi (mB<|ao (cL false) (ze 6)<|mC<|.str "plus") (mC<|.int 0)<|mC<|.int 1))))
  (lZ [0] 3))))
def uG:FX:=pG 7 [0] IL
abbrev CU(Z:Zs):Prop:=Z.X "widths" 3 ["reckoning"] 1 uG
theorem Tz(B:Bs Z)(A:fJ Z "widths" Iq):CU Z :=
 by obtain⟨hB,_,_,_,_,_,_,_,_,_,_,_,_,⟨bF,aI,bg,aW⟩⟩:=B; exact MK A ["reckoning", "letters", "rows", "told", "at", "row", "word"] λnd hr hx=>⟨_,(zn (xp zc<|sd<|jw zT<|jw zT zev)
 (zn (zB<|iG zh)
 (zn (lY (Hz<|za zc zh) (sd<|jw zT<|jw zT zev) (zn (zB<|zi zr zc zf)
 (zn (bW (zq<|zi gH zc zE) (Ho<|Hn aW.xn aW.cl aW.na<|za zc zh) zM)
 (bW (gE (zq<|zi gH zc zE)<|zq<|zi gH zc zE) (fN<|fM zf)<|fN<|fM<|zi dC (zi dC (zi dU zc<|zi zr zc zf)<|zi dU zc<|zi zr zc zf)<|FR (zq<|zi gH zc zE) zf zf))))
 uu))),
 (aG (pN ae<|si<|jz zR<|jz zR so)
 (aG (zA<|iH zd)
 (aG (l0 (Io<|aa ae zd) (si<|jz zR<|jz zR so) (aG (zA<|zw zz ae zg)
 (aG (bY (zv gG ae zD) (zC<|HH _ rfl hr hx<|Jg aW<|aa ae zd) zL)
 (zC<|bY (iD<|gF (zv gG ae zD)<|jZ<|zv gG ae zD) (zC<|fO<|fq _ rfl À Á Â zI ae<|aa zg zd)<|zC<|fO<|fq _ rfl À Á Â zI ae<|aa (zJ dD (zJ dD (zw dW ae<|zw zz ae zg)<|zw dW ae<|zw zz ae zg)<|Gs (zv gG ae zD) zg zg) zd))))
 (zC<|zU ae))))⟩
def Kg:MS:=(zu (bL (fG (fC<|mB<|cn (iA "tuple")<|ze 0)<|fG (mB<|ao (cL true) (cw (f1 eL)<|zb (ze 0) zk)<|mC<|.int 2)<|fC<|mB<|be yN<|zb (ao zY (ze 0)<|mC<|.int 0) zk) (bX<|mC<|.bool false) cv)
  (zu (bL (rM (mB<|ao (cL false) (ao zY (ao zY (ze 0)<|mC<|.int 0)<|mC<|.int 0)<|mC<|.int 0)<|fC<|mB<|ze 2) (bX<|mC<|.bool false) cv)
  (zu (bL (mB<|ao (iP false) (ao zY (ze 0)<|mC<|.int 1)<|mC .none) (bX<|mC<|.bool true) cv)
  (bX<|oA (cn (iA "int")<|ao zY (ze 0)<|mC<|.int 1)<|oA (tZ<|cn (iA "bool")<|ao zY (ze 0)<|mC<|.int 1)<|um tq mT (mC<|.int 0) (ao zY (ze 0)<|mC<|.int 1)<|ze 1))))
def yO:FD:=eK 3 [0,1,2] Kg
abbrev Kf(Z:Zs):Prop:=Z.C "_law_is_entry" 3 ["_law_entry", "_law_many", "_law_may_be_nought"] 3 yO
theorem X5(B:Bs Z)(A:fJ Z "_law_is_entry" Kk)(c0:Kv Z):Kf Z :=
 have hB:=B.1; gP A ["_law_entry", "_law_many", "_law_may_be_nought"] λnd hr=>⟨_,(zn (bW (gE (gI<|fD<|kS (T := "tuple") zc)<|gE (zq<|zi r0 (cM gg<|za zc zh) zf)<|gI<|fD<|zG 1<|za (zi zr zc zf) zh) (cu iQ) zM)
 (zn (bW (Cj (zq<|zi gH (zi zr (zi zr zc zf) zf) zf)<|gI<|fD zc) (cu iQ) zM)
 (zn (bW (zq<|zi xN (zi zr zc zf) jW) (cu iQ) zM)
 (cu<|uw (kS (T := "int")<|zi zr zc zf)<|uw (G4<|kS (T := "bool")<|zi zr zc zf)<|HG xB oB zf (zi zr zc zf) zc)))),
 (aG (bY (iD<|gF (gK<|gJ<|b8 kW Ã<|aa ae<|aa (ku (v:=.ty "tuple") É rfl) zd)<|gF (zv rV (b8 gf Å<|aa ae zd) zg)<|jZ<|gK<|gJ<|zF<|aa (zw zz ae zg) zd) (zC<|zU iR) zL)
 (aG (bY (iD<|CA (zv gG (zw zz (zw zz ae zg) zg) zg)<|CQ<|gK<|gJ ae) (zC<|zU iR) zL)
 (aG (bY (zv xI (zw zz ae zg) jX) (zC<|zU iR) zL)
 (zC<|zU<|t6 (b8 kW Ã<|aa (zw zz ae zg)<|aa (ku (v:=.ty "int") Ì rfl) zd)<|t6 (w_not<|b8 kW Ã<|aa (zw zz ae zg)<|aa (ku (v:=.ty "bool") PyProof.Rows.boot_bool rfl) zd)<|xw<|SR xA oE zg (zw zz ae zg) ae))))⟩
def JJ:MS:=(zu (zS 2<|f7<|zb (bG<|zb (mC<|.str "letter")<|zb (be zm<|zb (ze 0)<|zb (ze 1) zk) zk)<|zb (bG<|zb (mC<|.str "number")<|zb (be yI<|zb (ze 0) zk) zk) zk)
  (zu (eF<|eA 2<|bG<|zb (ao cX (f7<|zb (mC<|.str "plus")<|zb (mC<|.str "less")<|zb (mC<|.str "times") zk)<|be zm<|zb (ze 0)<|zb (mC<|.int 3) zk)<|zb (mC<|.int 0)<|zb (mC<|.int 1) zk)
  (zu (jk (pT<|zb (ao cX (f7<|zb (be zm<|zb (ze 0)<|zb (mC<|.int 5) zk)<|zb (be zm<|zb (ze 0)<|zb (mC<|.int 16) zk) zk)<|be zm<|zb (ze 0)<|zb (mC<|.int 2) zk) zk) (dB 3)<|eF<|eA 2<|bG<|zb (mC<|.str "plus")<|zb (ao iC (cw (f1 eL)<|zb (ze 2) zk)<|mC<|.int 1)<|zb (ao iC (cw (f1 eL)<|zb (ze 2) zk)<|mC<|.int 1) zk)
  (zu (jk (pT<|zb (be zm<|zb (ze 0)<|zb (mC<|.int 4) zk) zk) (dB 3) (zu (zS 4<|ao cX (f7<|zb (mC<|.str "plus")<|zb (mC<|.str "less")<|zb (mC<|.str "plus") zk)<|be zm<|zb (ze 0)<|zb (mC<|.int 3) zk)
  (zu (zS 5<|f7<|zb (ao iC (cw (f1 eL)<|zb (ze 2) zk)<|mC<|.int 1)<|zb (be zm<|zb (ze 0)<|zb (cw (f1 eL)<|zb (ze 2) zk) zk) zk)
  (zu (zS 6<|be zm<|zb (ze 0)<|zb (mC<|.int 2) zk)
  (eF<|eA 2<|bG<|zb (ze 4)<|zb (ao cX (ze 5)<|ze 6)<|zb (ao cX (ze 5)<|ao iC (mC<|.int 1)<|ze 6) zk)))))
  (lZ [0,1] 2)))))
def yJ:FD:=eK 7 [0,1] JJ
abbrev JH(Z:Zs):Prop:=Z.C "_law_rows" 3 ["_law_box_here", "_law_many"] 2 yJ
theorem Xl(B:Bs Z)(A:fJ Z "_law_rows" JM)(c0:sN Z)(c1:Kt Z):JH Z :=
 have hB:=B.1; gP A ["_law_box_here", "_law_many", "_law_rows_here", "_law_k", "_law_word", "_law_some", "_law_at"] λnd hr=>⟨_,(zn (zB<|iG<|za (zO<|za zE<|za (zG 2<|za zc<|za zc zh) zh)<|za (zO<|za zE<|za (zG 1<|za zc zh) zh) zh)
 (zn (fN<|fM<|zO<|za (zi dU (iG<|za zE<|za zE<|za zE zh)<|zG 2<|za zc<|za zf zh)<|za zf<|za zf zh)
 (zn (lY (yg<|za (zi dU (iG<|za (zG 2<|za zc<|za zf zh)<|za (zG 2<|za zc<|za zf zh) zh)<|zG 2<|za zc<|za zf zh) zh) zT<|fN<|fM<|zO<|za zE<|za (zi jt (cM gg<|za zc zh) zf)<|za (zi jt (cM gg<|za zc zh) zf) zh)
 (zn (lY (yg<|za (zG 2<|za zc<|za zf zh) zh) zT (zn (zB<|zi dU (iG<|za zE<|za zE<|za zE zh)<|zG 2<|za zc<|za zf zh)
 (zn (zB<|iG<|za (zi jt (cM gg<|za zc zh) zf)<|za (zG 2<|za zc<|za (cM gg<|za zc zh) zh) zh)
 (zn (zB<|zG 2<|za zc<|za zf zh)
 (fN<|fM<|zO<|za zc<|za (zi dU zc zc)<|za (zi dU zc<|zi jt zf zc) zh)))))
 uu)))),
 (aG (zA<|iH<|aa (zK<|aa zD<|aa (zF<|aa ae<|aa ae zd) zd)<|aa (zK<|aa zD<|aa (zF<|aa ae zd) zd) zd)
 (aG (fO<|fq _ rfl À Á Â zI ae<|aa (zK<|aa (zw dW (iH<|aa zD<|aa zD<|aa zD zd)<|zF<|aa ae<|aa zg zd)<|aa zg<|aa zg zd) zd)
 (aG (l0 (yw<|aa (zw dW (iH<|aa (zF<|aa ae<|aa zg zd)<|aa (zF<|aa ae<|aa zg zd) zd)<|zF<|aa ae<|aa zg zd) zd) zR<|zC<|fO<|fq _ rfl À Á Â zI ae<|aa (zK<|aa zD<|aa (zJ ju (b8 gf Å<|aa ae zd) zg)<|aa (zJ ju (b8 gf Å<|aa ae zd) zg) zd) zd)
 (aG (l0 (yw<|aa (zF<|aa ae<|aa zg zd) zd) zR (aG (zA<|zw dW (iH<|aa zD<|aa zD<|aa zD zd)<|zF<|aa ae<|aa zg zd)
 (aG (zA<|iH<|aa (zJ ju (b8 gf Å<|aa ae zd) zg)<|aa (zF<|aa ae<|aa (b8 gf Å<|aa ae zd) zd) zd)
 (aG (zA<|zF<|aa ae<|aa zg zd)
 (zC<|fO<|fq _ rfl À Á Â zI ae<|aa (zK<|aa ae<|aa (zw dW ae ae)<|aa (zw dW ae<|zJ ju zg ae) zd) zd)))))
 (zC<|zU ae)))))⟩
def Hk:MS:=(bX<|ao cX (mL<|pS uG<|zb (ze 0) zk)<|cn jS<|mC<|.int 1)
def xT:FD:=eK 1 [0] Hk
abbrev Hj(Z:Zs):Prop:=Z.C "width" 4 ["reckoning"] 1 xT
theorem R6(B:Bs Z)(A:fJ Z "width" Hl)(c0:CU Z):Hj Z :=
 have hB:=B.1; gP A ["reckoning"] λnd hr=>⟨_,(cu<|zi dU (uq 1<|za zc zh).1<|kl l8 zf),
 (zC<|zU<|zw dW (Ce c0 RV<|aa ae zd)<|lU mf zg)⟩
def Di:MS:=(zu (og (ze 0)<|kT 2<|gS (dB 2)<|gS (dB 3) nh)
  (zu (m7 (zS 4)<|pS uG<|zb (ze 0) zk)
  (zu (zS 5<|ao cY (ao cX (ze 4)<|cn jS<|mC<|.int 1)<|mC<|.int 2)
  (zu (bL (mB<|ao nW (ze 5)<|ze 1) (xK<|vh "TooMany" "at"<|zb (ao iC (cw (f1 eL)<|zb (ze 3) zk)<|mC<|.int 1) zk) cv)
  (zu (zS 6<|qS (j9 pK<|oW<|be yG<|zb (ze 3)<|zb (ze 4) zk) 1 [] (dB 0) (mB<|cn (A0 true [0,1])<|ao zY (ao zY (ze 0)<|mC<|.int 2)<|mC<|.int 0)<|ze 0)
  (bX<|bG<|zb (ze 2)<|zb (ze 5)<|zb (cw (f1 sf)<|zb (cw (f1 xG)<|zb (ze 6) zk) zk) zk))))))
def p8:FX:=pG 7 [0,1] Di
abbrev IJ(Z:Zs):Prop:=Z.XD "web_of" 4 "reckoning" "most" 60 p8
theorem Tx(B:Bs Z)(A:AQ Z "web_of" IM 60)(c0:CU Z)(c1:JV Z):IJ Z :=
 by obtain⟨hB,_,⟨dq,eZ,dM⟩,_,_,_,_,_,_,⟨bV,aP,bP,bf⟩,_⟩:=B; exact Mv A ["reckoning", "most", "letters", "rows", "wide", "dots", "ways"] λnd hr hx=>⟨_,(zn (xp zc<|sd<|jw zT<|jw zT zev)
 (zn (xX<|uq 1<|za zc zh)
 (zn (zB<|zi dC (zi dU zc<|kl l8 zf) zf)
 (zn (bW (zq<|zi pU zc zc) (Ho<|Hn bf.xn bf.cl bf.na<|za (zi jt (cM gg<|za zc zh) zf) zh) zM)
 (zn (zB<|AW (yh<|xf<|zG 2<|za zc<|za zc zh) zT (zq<|Nv (neg:=true) dM<|zi zr (zi zr zc zf) zf) zc)
 (cu<|zO<|za zc<|za zc<|za (cM yu<|za (cM S8<|za zc zh) zh) zh)))))),
 (aG (pN ae<|si<|jz zR<|jz zR so)
 (aG (zA<|Ce c0 hx<|aa ae zd)
 (aG (zA<|zJ dD (zw dW ae<|lU mf zg) zg)
 (aG (bY (zv pP ae ae) (zC<|HH _ rfl hr hx<|Jg bf<|aa (zJ ju (b8 gf Å<|aa ae zd) zg) zd) zL)
 (aG (B7 (yk<|xg<|zF<|aa ae<|aa ae zd) zR (G8<|zv (G6 _ rfl hr) (zw zz (zw zz ae zg) zg)<|Cy (v:=.ref dq) rfl eZ rfl) ae)
 (zC<|zU<|zK<|aa ae<|aa ae<|aa (lT yr É<|aa (b8 (WK _ rfl hr) PyProof.Rows.boot_sorted<|aa ae zd) zd) zd))))))⟩
def Ks:MS:=(zu (bL (fG (fC<|mB<|cn (iA "tuple")<|ze 0)<|fG (mB<|ao (cL true) (cw (f1 eL)<|zb (ze 0) zk)<|mC<|.int 3)<|fG (mB<|ao (lQ true) (ao zY (ze 0)<|mC<|.int 0)<|ze 1)<|fC<|mB<|be qD<|zb (ao zY (ze 0)<|mC<|.int 1) zk) (bX<|mC<|.bool false) cv)
  (zu (bL (fG (fC<|mB<|um tq tq (mC<|.int 2) (ao zY (ze 0)<|mC<|.int 1)<|ze 2)<|fC<|mB<|cn (iA "tuple")<|ao zY (ze 0)<|mC<|.int 2) (bX<|mC<|.bool false) cv)
  (zu (zS 3<|bG<|zb (cn jS<|mC<|.int 1)<|zb (cn jS<|mC<|.int 1) zk)
  (zu (jk (j9 tT<|ao zY (ze 0)<|mC<|.int 2) (dB 4) (zu (bL (fG (fC<|mB<|cn (iA "tuple")<|ze 4)<|fG (mB<|ao (cL true) (cw (f1 eL)<|zb (ze 4) zk)<|mC<|.int 3)<|fG (fC<|mB<|be qD<|zb (ao zY (ze 4)<|mC<|.int 0) zk)<|fC<|mB<|be qD<|zb (ao zY (ze 4)<|mC<|.int 1) zk) (bX<|mC<|.bool false) cv)
  (zu (bL (fG (fC<|mB<|uA tq mT mT (mC<|.int 0) (ao zY (ze 4)<|mC<|.int 0) (ao zY (ze 4)<|mC<|.int 1)<|ao zY (ze 0)<|mC<|.int 1)<|mB<|ao (xr leB) (nI tR (ze 4) nC<|nu<|mC<|.int 2)<|ze 3) (bX<|mC<|.bool false) cv)
  (zu (bL (fC<|mB<|be yO<|zb (ao zY (ze 4)<|mC<|.int 2)<|zb (cw (f1 eL)<|zb (ze 1) zk)<|zb (mC<|.bool false) zk) (bX<|mC<|.bool false) cv)
  (zS 3<|nI tR (ze 4) nC<|nu<|mC<|.int 2)))))
  (bX<|mC<|.bool true)))))
def yH:FD:=eK 5 [0,1,2] Ks
abbrev Kr(Z:Zs):Prop:=Z.C "_law_is_web" 4 ["_law_web", "_law_letters", "_law_bound"] 3 yH
theorem X2(B:Bs Z)(A:fJ Z "_law_is_web" Ko)(c0:Kf Z)(c1:Dt Z):Kr Z :=
 have hB:=B.1; gP A ["_law_web", "_law_letters", "_law_bound", "_law_last", "_law_way"] λnd hr=>⟨_,(zn (bW (gE (gI<|fD<|kS (T := "tuple") zc)<|gE (zq<|zi r0 (cM gg<|za zc zh) zf)<|gE (zq<|zi (xP true) (zi zr zc zf) zc)<|gI<|fD<|zG 1<|za (zi zr zc zf) zh) (cu iQ) zM)
 (zn (bW (gE (gI<|zq<|HG xB xB zf (zi zr zc zf) zc)<|gI<|fD<|kS (T := "tuple")<|zi zr zc zf) (cu iQ) zM)
 (zn (zB<|zO<|za (kl l8 zf)<|za (kl l8 zf) zh)
 (zn (lY (Hb<|zi zr zc zf) zT (zn (bW (gE (gI<|fD<|kS (T := "tuple") zc)<|gE (zq<|zi r0 (cM gg<|za zc zh) zf)<|gE (gI<|fD<|zG 1<|za (zi zr zc zf) zh)<|gI<|fD<|zG 1<|za (zi zr zc zf) zh) (cu iQ) zM)
 (zn (bW (gE (gI<|zq<|UD xB oB oB zf (zi zr zc zf) (zi zr zc zf)<|zi zr zc zf)<|zq<|zi RF (rK G9 zc sD<|sC zf) zc) (cu iQ) zM)
 (zn (bW (gI<|fD<|zG 3<|za (zi zr zc zf)<|za (cM gg<|za zc zh)<|za iQ zh) (cu iQ) zM)
 (zB<|rK G9 zc sD<|sC zf)))))
 (cu iQ))))),
 (aG (bY (iD<|gF (gK<|gJ<|b8 kW Ã<|aa ae<|aa (ku (v:=.ty "tuple") É rfl) zd)<|gF (zv rV (b8 gf Å<|aa ae zd) zg)<|gF (zv (G6 _ rfl hr) (zw zz ae zg) ae)<|jZ<|gK<|gJ<|zF<|aa (zw zz ae zg) zd) (zC<|zU iR) zL)
 (aG (bY (iD<|gF (gK<|TU xA xA zg (zw zz ae zg) ae)<|jZ<|gK<|gJ<|b8 kW Ã<|aa (zw zz ae zg)<|aa (ku (v:=.ty "tuple") É rfl) zd) (zC<|zU iR) zL)
 (aG (zA<|zK<|aa (lU mf zg)<|aa (lU mf zg) zd)
 (aG (l0 (G7<|zw zz ae zg) zR (aG (bY (iD<|gF (gK<|gJ<|b8 kW Ã<|aa ae<|aa (ku (v:=.ty "tuple") É rfl) zd)<|gF (zv rV (b8 gf Å<|aa ae zd) zg)<|gF (gK<|gJ<|zF<|aa (zw zz ae zg) zd)<|jZ<|gK<|gJ<|zF<|aa (zw zz ae zg) zd) (zC<|zU iR) zL)
 (aG (bY (iD<|gF (gK<|Vu xA oE oE zg (zw zz ae zg) (zw zz ae zg)<|zw zz ae zg)<|jZ<|zv (Of _ rfl hr) (sE Fv ae sI<|sF zg) ae) (zC<|zU iR) zL)
 (aG (bY (gK<|gJ<|zF<|aa (zw zz ae zg)<|aa (b8 gf Å<|aa ae zd)<|aa iR zd) (zC<|zU iR) zL)
 (zC<|zA<|sE Fv ae sI<|sF zg)))))
 (zC<|zU iR)))))⟩
def Dq:MS:=(zu (zS 2<|mC .none)
  (zu (zS 3<|mC .none)
  (zu (A4 eE "UndivideError" 4 (bL (mB<|ao (iP false) (ze 1)<|mC .none) (m7 (zS 3)<|pS p8<|zb (ze 0)<|zb (mC<|.int 60) zk)<|bL (mB<|ao (cL false) (ao jn (ze 1)<|mC<|.int 2)<|mC<|.int 0) (m7 (zS 3)<|pS p8<|zb (ze 0)<|zb (ze 1) zk)<|m7 (zS 3)<|pS p8<|zb (ze 0)<|zb (ze 1) zk)<|zS 2<|ze 4)
  (zu (bL (mB<|ao (iP false) (ze 2)<|mC .none) (bX<|bG<|zb (mC<|.str "web")<|zb (ze 3) zk) cv)
  (zu (bL (mB<|cn (ua eE ["BadLetters", "BadNode", "BadRow", "BadText", "BadWay", "NoOver", "NoPaper"])<|ze 2) (bX<|bG<|zb (mC<|.str "bad")<|zb (mC<|.int 0) zk) cv)
  (zu (bL (fG (fC<|mB<|cn (jr eE false "ValueError")<|ze 2)<|mB<|ao (cL false) (cn (jr eE true "TooMany")<|ze 2)<|cn (jr eE true "NotWhole")<|ze 2) (bX<|bG<|zb (mC<|.str "bad")<|zb (mC<|.int 1) zk) cv)
  (zu (bL (fC<|mB<|be qD<|zb (cn (rZ eE "at")<|ze 2) zk) (bX<|bG<|zb (mC<|.str "bad")<|zb (mC<|.int 2) zk) cv)
  (bX<|bG<|zb (ao cX (f7<|zb (mC<|.str "too many")<|zb (mC<|.str "not whole") zk)<|cw (f1 kU)<|zb (cn (jr eE true "NotWhole")<|ze 2) zk)<|zb (cn (rZ eE "at")<|ze 2) zk))))))))
def uL:FD:=eK 5 [0,1] Dq
abbrev Kb(Z:Zs):Prop:=Z.C "_law_heard" 5 ["_law_reckoning", "_law_bound"] 2 uL
theorem XE(B:Bs Z)(A:fJ Z "_law_heard" JY)(c0:IJ Z)(c1:Dt Z):Kb Z :=
 by obtain⟨hB,hT,_,_,⟨cE,aF,br,hM⟩,⟨fj,bB,dP⟩,⟨cF,aT,cb⟩,⟨gA,bT,fc⟩,⟨gy,bR,e8⟩,⟨bV,aP,bP,bf⟩,⟨fi,bA,dN⟩,⟨fm,bC,dQ⟩,⟨gz,bS,e9⟩,⟨bF,aI,bg,aW⟩⟩:=B; exact gP A ["_law_reckoning", "_law_bound", "_law_caught", "_law_web", "e"] λnd hr=>⟨_,(zn (zB jW)
 (zn (zB jW)
 (zn (NA hM (by decide) (λEX=>(bW (zq<|zi xN zc jW) (xX<|uq 2<|za zc<|za zf zh)<|bW (zq<|zi gH (zi k7 zc zf) zf) (xX<|uq 2<|za zc<|za zc zh)<|xX<|uq 2<|za zc<|za zc zh))<|zB zc)
 (zn (bW (zq<|zi xN zc jW) (cu<|zO<|za zE<|za zc zh) zM)
 (zn (bW (fD<|TV (cs:=[("BadLetters",cF),("BadNode",fm),("BadRow",gA),("BadText",fj),("BadWay",gz),("NoOver",gy),("NoPaper",fi)]) hT ⟨⟨aT,rfl⟩,⟨⟨bC,rfl⟩,⟨⟨bT,rfl⟩,⟨⟨bB,rfl⟩,⟨⟨bS,rfl⟩,⟨⟨bR,rfl⟩,⟨⟨bA,rfl⟩,trivial⟩⟩⟩⟩⟩⟩⟩ (by simp) zc) (cu<|zO<|za zE<|za zf zh) zM)
 (zn (bW (gE (gI<|fD<|Pe hT zc)<|zq<|zi gH (BQ hT aP rfl zc)<|BQ hT aI rfl zc) (cu<|zO<|za zE<|za zf zh) zM)
 (zn (bW (gI<|fD<|zG 1<|za (kl (Hv hT (by decide)) zc) zh) (cu<|zO<|za zE<|za zf zh) zM)
 (cu<|zO<|za (zi dU (iG<|za zE<|za zE zh)<|cM uy<|za (BQ hT aI rfl zc) zh)<|za (kl (Hv hT (by decide)) zc) zh)))))))),
 (aG (zA jX)
 (aG (zA jX)
 (aG (Ny _ rfl rfl rfl nd rfl rfl rfl br (hT.cl _ _ _ rfl aF).1.cl (λpn E EX hy=>(zC<|bY (zv xI ae jX) (zC<|zA<|R8 c0 hy ae)<|zC<|bY (zv gG (zJ k9 ae zg) zg) (zC<|zA<|R7 c0 hy ae ae)<|zC<|zA<|Ce c0.all hy<|aa ae<|aa ae zd)) λa=>(zC<|zA ae))
 (aG (bY (zv xI ae jX) (zC<|zU<|zK<|aa zD<|aa ae zd) zL)
 (aG (bY (gJ<|b8 (Vz _ rfl) Ã<|aa ae<|aa (zK<|aa (lX cb rfl)<|aa (lX dQ rfl)<|aa (lX fc rfl)<|aa (lX dP rfl)<|aa (lX e9 rfl)<|aa (lX e8 rfl)<|aa (lX dN rfl) zd) zd) (zC<|zU<|zK<|aa zD<|aa zg zd) zL)
 (aG (bY (iD<|gF (gK<|gJ<|b8 (yA rfl) Ã<|aa ae<|aa (ku (v:=.ty "ValueError") rfl rfl) zd)<|jZ<|zv gG (b8 (yA rfl) Ã<|aa ae<|aa (lX bP rfl) zd)<|b8 (yA rfl) Ã<|aa ae<|aa (lX bg rfl) zd) (zC<|zU<|zK<|aa zD<|aa zg zd) zL)
 (aG (bY (gK<|gJ<|zF<|aa (GR _ rfl ae rfl) zd) (zC<|zU<|zK<|aa zD<|aa zg zd) zL)
 (zC<|zU<|zK<|aa (zw dW (iH<|aa zD<|aa zD zd)<|lT uB Ì<|aa (b8 (yA rfl) Ã<|aa ae<|aa (lX bg rfl) zd) zd)<|aa (GR _ rfl ae rfl) zd))))))))⟩
def Ka:MS:=(zu (og (ze 0)<|kT 2<|gS (dB 2)<|gS (dB 3) nh)
  (zu (zS 4<|ao cY (ao cX (be qC<|zb (ze 3) zk)<|cn jS<|mC<|.int 1)<|mC<|.int 2)
  (zu (zS 5<|be uL<|zb (ze 0)<|zb (ze 1) zk)
  (zu (zS 6<|qS (tY<|zb (ze 3) zk) 2 [] (kT 2<|gS (dB 0)<|gS (dB 1) nh) (mB<|ao (cL false) (ao zY (ze 1)<|mC<|.int 0)<|mC<|.str "over")<|ze 0)
  (zu (bL (mB<|ao nW (cw (f1 eL)<|zb (ze 6) zk)<|mC<|.int 0) (bX<|ao (lQ false) (ze 5)<|bG<|zb (mC<|.str "not whole")<|zb (ao cX (ze 6)<|mC<|.int 0) zk) cv)
  (zu (bL (mB<|ao (cL true) (be xT<|zb (ze 0) zk)<|ao iC (ze 4)<|mC<|.int 2) (bX<|mC<|.bool false) cv)
  (zu (bL (fG (rM (mB<|ao nW (ze 4)<|mC<|.int 60)<|mB<|ao (iP false) (ze 1)<|mC .none)<|rM (mB<|ao (iP true) (ze 1)<|mC .none)<|mB<|ao nW (ze 4)<|ze 1) (bX<|ao (lQ false) (ze 5)<|bG<|zb (mC<|.str "too many")<|zb (ao iC (cw (f1 eL)<|zb (ze 3) zk)<|mC<|.int 1) zk) cv)
  (bX<|oA (ao (cL false) (ao zY (ze 5)<|mC<|.int 0)<|mC<|.str "web")<|be yH<|zb (ao zY (ze 5)<|mC<|.int 1)<|zb (ze 2)<|zb (ze 4) zk))))))))
def p9:FD:=eK 7 [0,1] Ka
abbrev J9(Z:Zs):Prop:=Z.C "_law_right" 6 ["_law_reckoning", "_law_bound"] 2 p9
theorem XB(B:Bs Z)(A:fJ Z "_law_right" JX)(c0:Hj Z)(c1:Kr Z)(c2:Dv Z)(c3:Kb Z):J9 Z :=
 have hB:=B.1; gP A ["_law_reckoning", "_law_bound", "_law_letters", "_law_rows_here", "_law_many", "_law_heard_here", "_law_overs"] λnd hr=>⟨_,(zn (xp zc<|sd<|jw zT<|jw zT zev)
 (zn (zB<|zi dC (zi dU (zG 1<|za zc zh)<|kl l8 zf) zf)
 (zn (zB<|zG 2<|za zc<|za zc zh)
 (zn (zB<|AW (Hz<|za zc zh) (sd<|jw zT<|jw zT zev) (zq<|zi gH (zi zr zc zf) zE) zc)
 (zn (bW (zq<|zi pU (cM gg<|za zc zh) zf) (cu<|zi (xP false) zc<|zO<|za zE<|za (zi dU zc zf) zh) zM)
 (zn (bW (zq<|zi r0 (zG 1<|za zc zh)<|zi jt zc zf) (cu iQ) zM)
 (zn (bW (gE (Cj (zq<|zi pU zc zf)<|zq<|zi xN zc jW)<|Cj (zq<|zi SH zc jW)<|zq<|zi pU zc zc) (cu<|zi (xP false) zc<|zO<|za zE<|za (zi jt (cM gg<|za zc zh) zf) zh) zM)
 (cu<|uw (zi gH (zi zr zc zf) zE)<|zG 3<|za (zi zr zc zf)<|za zc<|za zc zh)))))))),
 (aG (pN ae<|si<|jz zR<|jz zR so)
 (aG (zA<|zJ dD (zw dW (zF<|aa ae zd)<|lU mf zg) zg)
 (aG (zA<|zF<|aa ae<|aa ae zd)
 (aG (B7 (Io<|aa ae zd) (si<|jz zR<|jz zR so) (G8<|zv gG (zw zz ae zg) zD) ae)
 (aG (bY (zv pP (b8 gf Å<|aa ae zd) zg) (zC<|zU<|nj (Cm _ rfl hr) ae<|zK<|aa zD<|aa (zw dW ae zg) zd) zL)
 (aG (bY (zv rV (zF<|aa ae zd)<|zJ ju ae zg) (zC<|zU iR) zL)
 (aG (bY (iD<|gF (iD<|CA (zv pP ae zg)<|CQ<|zv xI ae jX)<|jZ<|iD<|CA (zv Sw ae jX)<|CQ<|zv pP ae ae) (zC<|zU<|nj (Cm _ rfl hr) ae<|zK<|aa zD<|aa (zJ ju (b8 gf Å<|aa ae zd) zg) zd) zL)
 (zC<|zU<|t6 (nj gG (zw zz ae zg) zD)<|xw<|zF<|aa (zw zz ae zg)<|aa ae<|aa ae zd))))))))⟩
def Gd:MS:=(zu (zS 1<|be yK<|zb (ze 0)<|zb (mC<|.int 0) zk)
  (zu (zS 2<|be yF<|zb (ze 1)<|zb (ao cY (mC<|.int 1)<|be zm<|zb (ze 1)<|zb (mC<|.int 3) zk) zk)
  (zu (zS 3<|be yJ<|zb (ze 1)<|zb (cw (f1 eL)<|zb (ze 2) zk) zk)
  (zu (zS 4<|bG<|zb (ze 2)<|zb (cw (f1 sf)<|zb (ze 3) zk) zk)
  (zu (zS 5<|ao cY (ao cX (be qC<|zb (ze 3) zk)<|cn jS<|mC<|.int 1)<|mC<|.int 2)
  (zu (zS 6<|cw tV<|zb (ze 5)<|zb (mC<|.int 60) zk)
  (zu (zS 7<|f7<|zb (mC .none)<|zb (ze 6)<|zb (ao iC (ze 6)<|mC<|.int 1)<|zb (ao iC (ze 5)<|mC<|.int 1)<|zb (ao cY (mC<|.int 2)<|be zm<|zb (ze 1)<|zb (mC<|.int 59) zk)<|zb (mC<|.int 1) zk)
  (zu (bL (mB<|ao mT (ze 5)<|mC<|.int 91) (eF<|eA 7<|ze 5) cv)
  (zu (jk (j9 pK<|oW<|ze 7) (dB 8)<|bL (fC<|mB<|be p9<|zb (ze 4)<|zb (ze 8) zk) (bX<|mC<|.bool false) cv)
  (zu (zS 9<|be uK<|zb (ze 1)<|zb (ze 3) zk)
  (zu (bL (mB<|ao (cL false) (be zm<|zb (ze 1)<|zb (mC<|.int 2) zk)<|mC<|.int 0) (zS 9<|be uK<|zb (ze 1)<|zb (ze 9) zk) cv)
  (zu (jk (j9 pK<|oW<|f7<|zb (mC .none)<|zb (mC<|.int 1)<|zb (mC<|.int 60) zk) (dB 8)<|bL (fC<|mB<|be p9<|zb (bG<|zb (ze 2)<|zb (cw (f1 sf)<|zb (ze 9) zk) zk)<|zb (ze 8) zk) (bX<|mC<|.bool false) cv)
  (bX<|be p9<|zb (ze 4)<|zb (mC .none) zk)))))))))))))
def rW:FD:=eK 10 [0] Gd
theorem N5{f:Qg}(B:Bs Z)(F:jh Z.K "law" "law" Ge f fd)(c0:JP Z)(c1:sN Z)(c2:Kc Z)(c3:Dv Z)(c4:JH Z)(c5:Ky Z)(c6:J9 Z):bp Z.P Z.w Z.K Z.mg Z.base gN 7 f fd ["_law_script"] (nF Z.K 1 rW):=
 have hB:=B.1; KS F ["_law_script", "_law_box_here", "_law_letters", "_law_rows_here", "_law_reckoning", "_law_many", "_law_few", "_law_asked", "_law_bound", "_law_other"] λnd hr=>⟨_,(zn (zB<|zG 2<|za zc<|za zf zh)
 (zn (zB<|zG 2<|za zc<|za (zi dC zf<|zG 2<|za zc<|za zf zh) zh)
 (zn (zB<|zG 2<|za zc<|za (cM gg<|za zc zh) zh)
 (zn (zB<|zO<|za zc<|za (cM yu<|za zc zh) zh)
 (zn (zB<|zi dC (zi dU (zG 1<|za zc zh)<|kl l8 zf) zf)
 (zn (zB<|cM RJ<|za zc<|za zf zh)
 (zn (zB<|iG<|za jW<|za zc<|za (zi jt zc zf)<|za (zi jt zc zf)<|za (zi dC zf<|zG 2<|za zc<|za zf zh)<|za zf zh)
 (zn (pX<|bW (zq<|zi oB zc zf) (fN<|fM zc) zM)
 (zn (lY (yh<|xf zc) zT<|bW (gI<|fD<|zG 2<|za zc<|za zc zh) (cu iQ) zM)
 (zn (zB<|zG 2<|za zc<|za zc zh)
 (zn (pX<|bW (zq<|zi gH (zG 2<|za zc<|za zf zh) zf) (zB<|zG 2<|za zc<|za zc zh) zM)
 (zn (lY (yh<|xf<|iG<|za jW<|za zf<|za zf zh) zT<|bW (gI<|fD<|zG 2<|za (zO<|za zc<|za (cM yu<|za zc zh) zh)<|za zc zh) (cu iQ) zM)
 (cu<|zG 2<|za zc<|za jW zh))))))))))))),
 (aG (zA<|zF<|aa ae<|aa zg zd)
 (aG (zA<|zF<|aa ae<|aa (zJ dD zg<|zF<|aa ae<|aa zg zd) zd)
 (aG (zA<|zF<|aa ae<|aa (b8 gf Å<|aa ae zd) zd)
 (aG (zA<|zK<|aa ae<|aa (lT yr É<|aa ae zd) zd)
 (aG (zA<|zJ dD (zw dW (zF<|aa ae zd)<|lU mf zg) zg)
 (aG (zA<|b8 (Vn rfl) PyProof.Rows.boot_min<|aa ae<|aa zg zd)
 (aG (zA<|iH<|aa jX<|aa ae<|aa (zJ ju ae zg)<|aa (zJ ju ae zg)<|aa (zJ dD zg<|zF<|aa ae<|aa zg zd)<|aa zg zd)
 (aG (pZ<|bY (zv oE ae zg) (zC<|fO<|fq _ rfl À Á Â zI ae<|aa ae zd) zL)
 (aG (l0 (yk<|xg ae) zR<|zC<|bY (gK<|gJ<|zF<|aa ae<|aa ae zd) (zC<|zU iR) zL)
 (aG (zA<|zF<|aa ae<|aa ae zd)
 (aG (pZ<|bY (zv gG (zF<|aa ae<|aa zg zd) zg) (zC<|zA<|zF<|aa ae<|aa ae zd) zL)
 (aG (l0 (yk<|xg<|iH<|aa jX<|aa zg<|aa zg zd) zR<|zC<|bY (gK<|gJ<|zF<|aa (zK<|aa ae<|aa (lT yr É<|aa ae zd) zd)<|aa ae zd) (zC<|zU iR) zL)
 (zC<|zU<|zF<|aa ae<|aa jX zd)))))))))))))⟩
end
end K49
set_option exponentiation.threshold 10000
open PySem L2
open Lean in
local macro_rules|`(tactic|simp![$ls,*])=>do
 let u<-("↓Tr ↓NQ ↓V9 ↓Rj ↓Tq ↓Wz ↓WU ↓XS ↓Tp ↓Ri ↓To ↓Tn ↓Wx ↓Tj ↓Ww ↓NP ↓Rg ↓Ti ↓Th ↓Tg ↓Wv ↓WT ↓Wu ↓Rk ↓Rh ~Rl ~Wt ~Rf ~Tf ~WS NW NV NU NT NS NR ↓Ro ↓Rn zX ↓zj ↓iT HN FU ↓QP ↓TR HM ↓TQ ↓TN ↓TM ↓TL ↓Ws IS ↓UA ↓Uz ↓QN ↓Uy ↓Wq ↓Wp ↓Ux ↓Uw ↓Uv ↓Xx ↓QM ↓RD ↓Wn ↓Wl ↓Uu ↓Ut ↓RB ↓XW ↓Wj ↓Us ↓Ur ↓Xw ↓Wi ↓Xv ↓Wh ↓RA ↓W1 ↓Rv ↓W0 ↓Wg ↓Ul ↓Wf ↓Uk ↓Ui ↓Wb ↓XU ↓UB ↓Vr bd Si Vd V8 Xt JG XA XZ Xs Vc Nk Nj Vb ~V7 ~V6 ~V5 ~V4 Sh Sg Sf Se Ng Nf Sd Sb Sa Nb Ua T9 T8 R9 Rc M5 M4 M3 MZ Rb Ra T5 MY Q9 Q8 Q7 V3 T4 Q6 Q5 Q4 Q3 Q2 Q1 Q0 ~V2 Xy Xz QZ QY T3 V1 MW MV NM NL NK NJ NH NG NF ND QV VZ QU QQ VY TZ TY RC Wm Rz Nr ~Uo ~Um ~We ~Wc ~Uj ~WZ ~WY ~WX ~WW ~WV ~GV ~Ru ~Uh ~Ug Np Ue Ud Rt Rr Rq Uc UI CI Wa IQ !List.getElem?_cons_zero !List.getElem?_cons_succ !List.set_cons_zero !List.set_cons_succ !List.cons_append !List.nil_append !List.length_cons !List.length_nil !List.replicate !Option.map_some !decide_eq_true_eq !List.mem_cons !List.not_mem_nil !true_or !or_true !or_false !false_or !if_true !if_false !ite_true !ite_false !true_and !and_true !and_false !false_and !Bool.not_true !Bool.not_false !Bool.false_eq_true !not_true !not_false_iff !Nat.zero_add !Nat.reduceAdd !Nat.reduceLeDiff !Nat.reduceEqDiff !Nat.reduceSub !Nat.reduceLT !List.map_cons !List.map_nil !List.getD_cons_zero !List.getD_cons_succ !List.drop_succ_cons !List.drop_zero !decide_true !decide_false !Bool.true_and !Bool.and_true !Bool.true_or !Bool.or_true !Bool.false_or !Bool.or_false !Bool.false_and !Bool.and_false !reduceCtorEq !List.length_map !List.length_append QW V0 !String.reduceEq ↓!reduceIte !Int.reduceEq !Int.reduceNe !Int.reduceLT !Int.reduceLE !Int.reduceAdd !Int.reduceSub !Int.reduceNeg !Int.reduceToNat !Int.cast_ofNat_Int !implies_true !forall_const !Option.map_none".splitOn " ").toArray.mapM λx=>do
  let n:=(((x.replace "↓" "").replace "~" "").replace "!" "").toName
  let y:=mkIdent (if x.contains '!' then n else `L2++n)
  if x.startsWith "↓" then `(Parser.Tactic.simpLemma|↓$y:term) else if x.startsWith "~" then `(Parser.Tactic.simpLemma|nr $y) else `(Parser.Tactic.simpLemma|$y:term)
 `(tactic|simp (disch:=first|with_unfolding_all exact Rm rfl|omega | (simp only[List.length_cons,List.length_nil,List.length_map,List.length_append,List.length_take,List.length_drop,Nat.zero_add,Nat.reduceAdd]<;>omega) | fail) only[$ls,*,$u,*])
local macro_rules | `(tactic| simp!)=>`(tactic| simp![Option.map_none])
namespace K49
open PySem L2
abbrev bx(x y:Int):U:=.l [.int x,.int y]
theorem dE{x y w:Int}{Q:U×Qa U->Prop}(hw:0 < w)(hw2:w<=18446744073709551616)(k:∀ r x' y',0<=r->r < w->Q (.d<|.int r,[bx x' y',.d<|.int w])):Wo (zm [bx x y,.d<|.int w]) Q:=by
 simp![zm,JK];refine kR (λhx=>?_) λhx=>?_
 .simp![hx]
  exact k _ _ _ (Ý _ (by omega))<|Þ _ hw
 .simp![hx]
  exact k _ _ _ (Ý _ (by omega))<|Þ _ hw
theorem GK{k:Int}(h0:0<=k)(h:k < (ns.length:Int)):∃ v:Int,bM (ns.map PyData.int) k=some (.int v):=by
 have hk:k.toNat < ns.length:=by omega
 refine⟨ns[k.toNat],?_⟩;unfold bM fu;rw[if_pos h0,if_pos (by rw[List.length_map]; exact h),bd,List.getElem?_map,ql hk];rfl
theorem Mu{k:Int}{Q:U×Qa U->Prop}(h0:0<=k)(q:∀ x y,Q (bx x y,[.d<|.list<|ns.map .int,.d<|.int k])):Wo (yK [.d<|.list<|ns.map .int,.d<|.int k]) Q:=by
 simp![yK,JQ,List.length_map];refine kR (λh1=>?_) λh1=>?_
 .have(v,hv):=GK h0 h1
  simp![hv];exact q _ _
 .simp![List.length_map]
  refine kR (λh2=>?_) λh2=>?_
  .have hm:=Þ k h2
   have Ld:=Ý k (show(ns.length:Int)≠0 by omega);have(v,hv):=GK Ld hm;simp![hv];exact q _ _
  .simp!
   exact q _ _
theorem N4{a b:Nat}(h:a<=b)(hb:b.log2 < 9000):a.log2 < 9000:=by
 by_cases z:a=0
 .rw[z]; decide
 .exact Nat.lt_of_le_of_lt ((Nat.le_log2 (by omega)).mpr<|qx (Nat.log2_self_le z) h) hb
theorem Dx{n d:Int}(hd:d≠0)(hb:d.natAbs.log2 < 9000):sM [.d<|.int n,.d<|.int d]=some (.d<|fR<|Rat.divInt n d,[.d<|.int n,.d<|.int d]):=by
 have gl:Int.gcd n d<=d.natAbs:=Int.gcd_le_natAbs_right n hd;have gp:0 < Int.gcd n d:=Int.gcd_pos_of_ne_zero_right n hd;have vM:=N4 gl hb;refine iU ?_;rw[<-Oj hd];unfold m5 lP;rw[<-IA n d (show(0:Int) < (Int.gcd n d:Nat) by omega),<-IA d d (show(0:Int) < (Int.gcd n d:Nat) by omega)];simp![sM,Ki];refine IC (λk ρ=>∃ a b:Int,ρ=[some<|.d<|.int n,some<|.d<|.int d,some<|.d<|.int a,some<|.d<|.int b]/\0<=a/\0<=b/\b.toNat=k/\Int.gcd a b=Int.gcd n d) _ ⟨_,_,rfl,by split<;>omega,by split<;>omega,rfl,UG n d⟩ ?_;rintro k _ ⟨a,b,rfl,ha,hb0,hk,hg⟩;simp!
 by_cases hz:b=0
 .subst hz
  have e:a=((Int.gcd n d:Nat):Int):=by rw[<-hg,Int.gcd_zero_right]; omega
  subst e;have c1:rT n ((Int.gcd n d:Nat):Int):=⟨by omega,by rw[Int.natAbs_natCast]; exact vM⟩;have c2:rT n (0 - ((Int.gcd n d:Nat):Int)):=⟨by omega,by rw[Int.zero_sub,Int.natAbs_neg,Int.natAbs_natCast]; exact vM⟩;simp!;refine kR (λh=>?_) λh=>?_
  .simp![h,xM (a:=n) c2,xM (a:=d) c2]
  .simp![h,xM (a:=n) c1,xM (a:=d) c1]
 .simp![hz]
  refine⟨(a % b).toNat,?_,_,_,rfl,by omega,Ý _ hz,rfl,?_⟩
  .have:=Þ a (show 0 < b by omega)
   have:=Ý a hz;omega
  .rw[U5 a b ha (by omega)]
   exact hg
section
variable{a b:Rat}
end
abbrev tD:Str := "abcdefghijklmnopqrstuvwxyz"
theorem xS:∀ c∈tD.cps.toList,c < 128:=by decide
theorem xR:tD.length=26:=by decide
theorem R5{z:Str}{n:Int}(h0:0<=n)(h1:n<=1):ub (.d<|.str z) (.d<|.int n)=some (.d<|.str<|rP z n):=by
 unfold ub;dsimp only;rw[if_pos ⟨h0,h1⟩]
theorem R4{z:Str}{n:Int}(hz:bq k z)(h0:0<=n)(h1:n<=1):bq k (rP z n):=by
 rcases(by omega:n=0\/n=1)with rfl|rfl
 .exact⟨Ä _,λc hc=>by cases hc⟩
 .exact hz
theorem Fu{zs:Qa Str}{lo hi:Qb Int}:∃ ws:Qa Str,iB (zs.map PyData.str) lo hi=ws.map PyData.str/\ws.length<=zs.length/\∀ z∈ws,z∈zs:=by
 refine⟨(zs.drop<|HT.aS zs.length 0 lo).take<|HT.aS zs.length zs.length hi - HT.aS zs.length 0 lo,?_,?_,λz hz=>List.mem_of_mem_drop<|List.mem_of_mem_take hz⟩
 .unfold iB
  rw[List.length_map,<-List.map_drop,<-List.map_take]
 .rw[List.length_take,List.length_drop]
  omega
theorem Gc{zs:Qa Str}{Q:U->Prop}(k:∀ b,Q<|.d<|.bool b):Wo (ic neg (.d<|.str x)<|.l<|zs.map PyData.str) Q:=by
 unfold ic;show Wo ((tN (.str x)<|zs.map PyData.str).bind _) Q;unfold tN;rw[Dc];exact⟨_,rfl,k _⟩
theorem Mt{zs:Qa Str}{Q:U->Prop}(k:∀ b,Q<|.d<|.bool b):Wo (ic neg (.d<|.str x)<|.d<|.tuple<|zs.map PyData.str) Q:=by
 unfold ic;show Wo ((tN (.str x)<|zs.map PyData.str).bind _) Q;unfold tN;rw[Dc];exact⟨_,rfl,k _⟩
theorem R3{x y m:Int}{Q:U×Qa U->Prop}(h1:1<=m)(h3:m<=3)(k:∀ (ns:Qa Str) x' y',ns.length=m.toNat->(∀ z∈ns,bq 10 z)->Q (.d<|.tuple<|ns.map .str,[bx x' y',.d<|.int m])):Wo (yF [bx x y,.d<|.int m]) Q:=by
 simp![yF,Kd];refine dE (by decide) (by decide) λr1 x1 y1 a1 b1=>?_;simp!;refine RL (λi ρ ys=>∃ (x y:Int) (zs:Qa Str),ρ=[none,some<|bx x y,some<|.d<|.str tD]/\ys=zs.map PyData.str/\zs.length=i/\∀ z∈zs,bq 1 z) ?_ ⟨_,_,[],rfl,rfl,rfl,λz hz=>by cases hz⟩ ?_ ?_ ?_
 .rw[zl]; omega
 .rintro i ρ ys ⟨x,y,zs,rfl,rfl,hl,_⟩
  simp[hl]
 .rintro i _ _ hi ⟨x,y,zs,rfl,rfl,hl,hz⟩
  simp![GV];refine dE (by decide) (by decide) λr2 x2 y2 a2 b2=>?_;simp!;refine xV a2 (by rw[xR]; omega) (by decide) λc hc=>?_;simp!;exact⟨x2,y2,zs++[⟨#[c]⟩],rfl,by rw[List.map_append]; rfl,by rw[qr,hl]; rfl,λz Eo=>by
   rcases Ò.mp Eo with h|h
   .exact hz z h
   .cases qp.mp h
    exact bq.one<|xS c hc⟩
 rintro _ _ ⟨x2,y2,sg,rfl,rfl,hl,hs⟩;simp!;refine dE (by omega) (by omega) λr3 x3 y3 a3 b3=>?_;simp!;refine dE (by decide) (by decide) λr4 x4 y4 a4 b4=>?_;simp!;refine BS (λi ρ=>∃ (x y:Int) (v7 v8 v9:Qb U) (zs:Qa Str),ρ=[some<|bx x y,some<|.d<|.int m,some<|.d<|.str tD,some<|.l<|sg.map .str,some<|.d<|.int r3,some<|.d<|.int r4,some<|.l<|zs.map PyData.str,v7,v8,v9,none]/\zs.length=i/\∀ z∈zs,bq 10 z) ⟨x4,y4,none,none,none,[],rfl,rfl,λz hz=>by cases hz⟩ ?_ ?_
 .rintro i _ hi ⟨x,y,v7,v8,v9,zs,rfl,vC,hz⟩
  simp!;refine xV (Ý _ (by decide)) (by rw[xR]; exact Þ _ (by decide)) (by decide) λc hc=>?_;simp!;have(w1,e1,l1,m1):=Fu (zs:=sg) (lo:=none) (hi:=some r3);rw[e1];refine HE (n:=1) (m:=4) (λz hz=>hs z<|m1 z hz) (by omega) (by decide) λj1=>?_;simp!;refine uj j1 (bq.one<|xS c hc) (by decide) λj2=>?_;simp!;have(w2,e2,l2,m2):=Fu (zs:=sg) (lo:=some (r3+1)) (hi:=none);rw[e2];refine HE (n:=1) (m:=4) (λz hz=>hs z<|m2 z hz) (by omega) (by decide) λj3=>?_;simp!;refine uj j2 j3 (by decide) λj4=>?_;simp!;refine dE (by decide) (by decide) λr5 x5 y5 a5 b5=>?_;simp![R5];refine uj j4 (R4 (show bq 1 "q" by unfold bq; decide) a5 (by omega)) (by decide) λj5=>?_;simp!;refine Gc λb=>?_;generalize Txt.join "" w1++{cps:=#[c]}++Txt.join "" w2++rP "q" r5=nm at *;have fin:∀ (nm:Str),bq 10 nm->∃ (x y:Int) (v7 v8 v9:Qb U) (ws:Qa Str),[some<|bx x5 y5,some<|.d<|.int m,some<|.d<|.str tD,some<|.l<|sg.map .str,some<|.d<|.int r3,some<|.d<|.int r4,some<|.l<|zs.map PyData.str++[.str nm],some<|.d<|.int<|0+(i:Nat),some<|.d<|.str ⟨#[c]⟩,some<|.d<|.str nm,none]=[some<|bx x y,some<|U.d<|.int m,some<|.d<|.str tD,some<|.l<|sg.map .str,some<|.d<|.int r3,some<|.d<|.int r4,some<|.l<|ws.map PyData.str,v7,v8,v9,none]/\ws.length=i+1/\∀ z∈ws,bq 10 z:=λnm hn=>
   ⟨x5,y5,_,_,_,zs++[nm],by rw[List.map_append]; rfl,by rw[qr,vC]; rfl,λz Eo=>by
    rcases Ò.mp Eo with h|h
    .exact hz z h
    .cases qp.mp h
     exact hn⟩
  cases b with
  | true=>
   simp!;refine xV (by omega) (by rw[xR]; omega) (by decide) λd hd=>?_;simp!;refine uj (show bq 2 "zz" by unfold bq; decide) (bq.one<|xS d hd) (by decide) λj6=>?_;simp!;exact fin _<|j6.mono (by decide)
  | false=>
   simp!;refine Mt (zs:=["part", "end", "give", "rounds", "letters"]) λb=>?_;cases b with
   | true=>
    simp!;refine xV (by omega) (by rw[xR]; omega) (by decide) λd hd=>?_;simp!;refine uj (show bq 2 "zz" by unfold bq; decide) (bq.one<|xS d hd) (by decide) λj6=>?_;simp!;exact fin _<|j6.mono (by decide)
   | false=>
    simp!;exact fin _ j5
 .rintro _ ⟨x,y,v7,v8,v9,zs,rfl,vC,hz⟩
  simp!;refine dE (by decide) (by decide) λr5 x5 y5 a5 b5=>?_;simp!;refine kR (λh5=>?_) λh5=>?_
  .simp!
   refine dE (by decide) (by decide) λr6 x6 y6 a6 b6=>?_;simp!;refine PH (f:=PyData.str) (xs:=["ends", "pa", "gives", "giv", "x", "y", "r", "rk"]) a6 b6 λz mz _=>?_;have az:bq 10 z:=by
    have:∀ z∈(["ends", "pa", "gives", "giv", "x", "y", "r", "rk"]:Qa Str),bq 10 z:=by unfold bq; decide
    exact this z mz
   simp!;refine Gc λb=>?_;cases b with
   | false=>
    simp!;exact k zs _ _ vC hz
   | true=>
    simp!;refine dE (by omega) (by omega) λr7 x7 y7 a7 b7=>?_;have e7:fu zs.length r7=some r7.toNat:=by
     unfold fu;rw[if_pos a7,if_pos (by omega)]
    simp![e7];have es:(zs.map PyData.str).set r7.toNat (.str z)=(zs.set r7.toNat z).map PyData.str:=by rw[List.map_set]
    rw[es];refine k _ _ _ (by rw[List.length_set]; exact vC) λw hw=>?_;rcases List.mem_or_eq_of_mem_set hw with h|h
    .exact hz w h
    .exact h▸az
  .simp!
   exact k zs _ _ vC hz
theorem AO{d:Int}(h:1<=d)(h2:d<=1000000):d.natAbs.log2 < 9000:=Nat.lt_trans (JA (k:=30) (by decide) (by omega)) (by decide)
theorem kQ{n d:Int}(hn:n.natAbs<=1000000)(h1:1<=d)(h4:d<=4):Bd 12 12000000 (Rat.divInt n d):=by
 have:d∣((12:Nat):Int):=by
  rcases(by omega:d=1\/d=2\/d=3\/d=4)with rfl|rfl|rfl|rfl<;>decide
 exact(Og (M:=12) (by omega) this (by decide)).le (by omega)
theorem Tw{x y:Int}{Q:U×Qa U->Prop}(k:∀ r x' y',Bd 12 12000000 r->Q (.d<|fR r,[bx x' y'])):Wo (yI [bx x y]) Q:=by
 simp![yI,Ku];refine dE (by decide) (by decide) λr x1 y1 h0 h1=>?_;simp!;refine kR (λh7=>?_) λh7=>?_
 .simp!
  refine sA h0 (by show r < 7; omega) λa ha=>?_;have hq:∃ q:Rat,a=fR q/\Bd 12 12000000 q:=by
   simp only[qu,List.not_mem_nil,or_false]at ha;rcases ha with rfl|rfl|rfl|rfl|rfl|rfl|rfl
   .exact⟨Rat.divInt 0 1,rfl,kQ (by decide) (by decide) (by decide)⟩
   .exact⟨Rat.divInt 1 1,rfl,kQ (by decide) (by decide) (by decide)⟩
   .exact⟨Rat.divInt 1 1,rfl,kQ (by decide) (by decide) (by decide)⟩
   .exact⟨Rat.divInt (-1) 1,rfl,kQ (by decide) (by decide) (by decide)⟩
   .exact⟨Rat.divInt 2 1,rfl,kQ (by decide) (by decide) (by decide)⟩
   .exact⟨Rat.divInt 1 2,rfl,kQ (by decide) (by decide) (by decide)⟩
   .exact⟨Rat.divInt (-2) 3,rfl,kQ (by decide) (by decide) (by decide)⟩
  have(q,rfl,hq):=hq;simp!;exact k q _ _ hq
 .simp!
  refine kR (λLx=>?_) λLx=>?_
  .simp!
   refine dE (by decide) (by decide) λr2 x2 y2 h2 h3=>?_;simp!;refine dE (by decide) (by decide) λr3 x3 y3 h4 h5=>?_;simp![Dx (n:=r2 - 9) (d:=1+r3) (by omega)<|AO (by omega) (by omega)];exact k _ _ _<|kQ (by omega) (by omega) (by omega)
  .simp!
   refine dE (by decide) (by decide) λr2 x2 y2 h2 h3=>?_;simp!;refine dE (by decide) (by decide) λr3 x3 y3 h4 h5=>?_;simp![Dx (n:=r2 - 999999) (d:=1+r3) (by omega)<|AO (by omega) (by omega)];exact k _ _ _<|kQ (by omega) (by omega) (by omega)
inductive Wd where
 | plus|less|times|over
 deriving DecidableEq
def Wd.s:Wd->Str
 | .plus=> "plus"
 | .less=> "less"
 | .times=> "times"
 | .over=> "over"
inductive Rw where
 | num (r:Rat)
 | lt (k:Nat)
 | bin (w:Wd) (i j:Nat)
def aU:Rw->D
 | .num r=>.tuple [.str "number",fR r]
 | .lt k=>.tuple [.str "letter",.int (k:Int)]
 | .bin w i j=>.tuple [.str w.s,.int (i:Int),.int (j:Int)]
abbrev om(rs:Qa Rw):D:=.tuple (rs.map aU)
abbrev fK(ls:Qa Str)(rs:Qa Rw):D:=.tuple [.tuple<|ls.map .str,om rs]
def R1(n:Nat)(t:Nat):Rw->Prop
 | .num r=>Bd 12 12000000 r
 | .lt k=>k < n
 | .bin w i j=>i < t/\j < t
def RO(n:Nat)(rs:Qa Rw):Prop:=∀ t r,rs[t]?=some r->R1 n t r
theorem RO.app{rs:Qa Rw}{r:Rw}(h:RO n rs)(h':R1 n rs.length r):RO n (rs++[r]):=by
 intro t x hx
 by_cases ht:t < rs.length
 .rw[List.getElem?_append_left ht]at hx
  exact h t x hx
 .rw[List.getElem?_append_right (by omega)]at hx
  by_cases h0:t=rs.length
  .subst h0
   simp at hx;subst hx;exact h'
  .rw[List.getElem?_eq_none (by simp; omega)]at hx
   cases hx
def lj(ws:Qa Nat):Rw->Nat
 | .bin w i j=>ws.getD i 0+ws.getD j 0+(if w=.less\/w=.times then 1 else 0)
 | _=>1
def jj:Qa Rw->Qa Nat->Qa Nat
 | [],ws=>ws
 | r::rs,ws=>jj rs<|ws++[lj ws r]
def aN(rs:Qa Rw):Qa Nat:=jj rs []
theorem II:∀ (rs:Qa Rw) (r:Rw) (ws:Qa Nat),jj (rs++[r]) ws=jj rs ws++[lj (jj rs ws) r]
 | [],r,ws=>rfl
 | x::rs,r,ws=>II rs r<|ws++[lj ws x]
theorem R0{rs:Qa Rw}{r:Rw}:aN (rs++[r])=aN rs++[lj (aN rs) r]:=II rs r []
theorem IH:∀ (rs:Qa Rw) (ws:Qa Nat),(jj rs ws).length=ws.length+rs.length
 | [],ws=>rfl
 | x::rs,ws=>by
  show(jj rs _).length=_;rw[IH rs,qr];simp;omega
theorem l7{rs:Qa Rw}:(aN rs).length=rs.length:=by
 unfold aN;rw[IH];simp
def iL(ws:Qa Nat):Qa D:=ws.map λ(n:Nat)=>PyData.int (n:Int)
theorem xE{a b:Qa Nat}:iL (a++b)=iL a++iL b:=List.map_append
theorem ng{ws:Qa Nat}{a:Nat}(h:a < ws.length):bM (iL ws) (a:Int)=some (.int ((ws.getD a 0:Nat):Int)):=by
 refine yn ?_;unfold iL;rw[List.getElem?_map,ql h,qA,ql h];rfl
theorem ya{rs:Qa Rw}{r:Rw}(h:rs[i]?=some r):aN (rs.take<|i+1)=aN (rs.take i)++[lj (aN<|rs.take i) r]:=by
 rw[List.take_succ,h];exact R0
def ov:Qa Rw->Nat->Qb Nat
 | [],_=>none
 | .bin .over _ _::_,k=>some k
 | _::rs,k=>ov rs<|k+1
end K49
open PySem L2
namespace K49
open PySem L2
def mF(k:Nat):D:=.dict [(.none,.str "NotWhole"),(.str "at",.int (k:Int))]
theorem Jv{ls:Qa Str}{rs:Qa Rw}(hR:RO n rs)(hl:rs.length<=100):
  uG [.d<|fK ls rs]=some (match ov rs 0 with|none=>.inl (.l<|iL<|aN rs,[.d<|fK ls rs]) | some k=>.inr (mF k,[.d<|fK ls rs])):=by
 refine iU ?_;simp![uG,IL];refine xW (λi ρ=>∃ (v4 v5 v6:Qb U),ρ=[some<|.d<|fK ls rs,some<|.d<|.tuple<|ls.map .str,some<|.d<|om rs,some<|.l<|iL<|aN<|rs.take i,v4,v5,v6]/\ov rs 0=ov (rs.drop i) i) ⟨none,none,none,rfl,by rw[List.drop_zero]⟩ ?_ ?_
 .rintro i d _ hd ⟨v4,v5,v6,rfl,hg⟩
  have(x,ex,rfl):=yM hd;rw[List.getElem?_map]at ex;have(r,er,rfl):=qq.mp ex;have eB:=(qk.mp er).1;have dr:rs.drop i=r::rs.drop (i+1):=by
   have(hi,e):=qk.mp er;rw[List.drop_eq_getElem_cons hi,e]
  rw[dr]at hg;have ok:=hR i r er;have tk:=ya er;have ln:(aN<|rs.take i).length=i:=by rw[l7,List.length_take]; omega
  have gv:(iL<|aN<|rs.take i).length=i:=by unfold iL; rw[List.length_map,ln]
  have ad:∀ v:Nat,v=lj (aN<|rs.take i) r->iL (aN<|rs.take i)++[PyData.int (v:Int)]=iL (aN<|rs.take<|i+1):=λv e=>by rw[tk,xE,e]; rfl
  cases r with
  | num f=>
   have a1:=ad 1 rfl;simp![aU,gv];exact⟨_,_,_,by rw[<-a1]; rfl,hg⟩
  | lt k=>
   have a1:=ad 1 rfl;simp![aU,gv];exact⟨_,_,_,by rw[<-a1]; rfl,hg⟩
  | bin w a b=>
   have ha:=ng (ws:=aN (rs.take i)) (a:=a) (by rw[ln]; exact ok.1);have hb:=ng (ws:=aN (rs.take i)) (a:=b) (by rw[ln]; exact ok.2);cases w with
   | over=>simp![aU,Wd.s,hg,ov,mF,Nat.zero_add]
   | plus=>
    have a1:=ad ((aN<|rs.take i).getD a 0+(aN<|rs.take i).getD b 0) rfl;simp![aU,Wd.s,ha,hb,gv];exact⟨_,_,_,by rw[<-a1,Int.natCast_add,Int.add_zero],hg⟩
   | less=>
    have a1:=ad ((aN<|rs.take i).getD a 0+(aN<|rs.take i).getD b 0+1) rfl;simp![aU,Wd.s,ha,hb,gv];exact⟨_,_,_,by rw[<-a1,Int.natCast_add,Int.natCast_add]; rfl,hg⟩
   | times=>
    have a1:=ad ((aN<|rs.take i).getD a 0+(aN<|rs.take i).getD b 0+1) rfl;simp![aU,Wd.s,ha,hb,gv];exact⟨_,_,_,by rw[<-a1,Int.natCast_add,Int.natCast_add]; rfl,hg⟩
 .rintro _ ⟨v4,v5,v6,rfl,hg⟩
  rw[show(mm 0<|rs.map aU).length=rs.length by rw[sP,List.length_map],List.drop_length]at hg;rw[show(mm 0<|rs.map aU).length=rs.length by rw[sP,List.length_map],List.take_length];simp![hg,ov]
end K49
open PySem L2
namespace K49
open PySem L2
abbrev Et:=Rat×Qb Nat
def Ad:Qb Nat->D
 | none=>.none
 | some k=>.int (k:Int)
def pz(e:Et):D:=.tuple [fR e.1,Ad e.2]
structure EO (n:Nat) (e:Et):Prop where
 bd:Bd 12 12000000 e.1
 lt:∀ k,e.2=some k->k < n
theorem Ff:Bd 12 12000000 1:=kQ (n:=1) (d:=1) (by decide) (by decide) (by decide)
theorem MH:Bd 12 12000000 (-1):=by
 rw[show(-1:Rat)=Rat.divInt (-1) 1 by decide];exact kQ (n:=-1) (d:=1) (by decide) (by decide) (by decide)
structure Wy where
 i:Bool
 a:Nat
 b:Nat
 e:Et
def Wy.d(x:Wy):D:=.tuple [.int (x.a:Int),.int (x.b:Int),pz x.e]
structure Jb where
 t:Nat
 s:Nat
 e:Nat
 o:Nat
def Jb.d(x:Jb):D:=.tuple [.int (x.t:Int),.int (x.s:Int),.int (x.e:Int),.int (x.o:Int)]
def l6(x y:Wy):Prop:=(x.i=true->y.i=true->x.b≠y.b)/\(x.i=false->y.i=false->x.a≠y.a)/\(x.i≠y.i->x.a≠y.a)
structure JI (D0 m:Nat) (w:Nat->Nat) (J:Qa Jb):Prop where
 b:∀ j∈J,j.s < j.o/\j.o+w j.t<=j.e/\j.e < D0/\j.t < m
 p:J.Pairwise λi j=>i.o+w i.t<=j.o
 s:∀ i∈J,∀ j∈J,j.o<=i.s->i.s < j.o+w j.t->False
structure WI (n D0:Nat) (w:Nat->Nat) (W:Qa Wy) (J:Qa Jb):Prop where
 b:∀ x∈W,x.a < x.b/\x.b < D0/\EO n x.e
 i:∀ x∈W,x.i=true->∀ j∈J,j.o<=x.b->x.b < j.o+w j.t->False
 a:∀ x∈W,∀ j∈J,j.o<=x.a->x.a < j.o+w j.t->False
 o:∀ x∈W,x.i=false->∀ j∈J,j.s≠x.a
 p:W.Pairwise l6
theorem nA{r:α->α->Prop}{xs ys:Qa α}:(xs++ys).Pairwise r↔xs.Pairwise r/\ys.Pairwise r/\∀ x∈xs,∀ y∈ys,r x y:=List.pairwise_append
section
variable{D0:Nat}{w:Nat->Nat}{W:Qa Wy}{J:Qa Jb}{t s e o:Nat}
theorem Ju{f:Et}(h:JI D0 m w (J++[⟨t,s,e,o⟩]))(g:WI n D0 w W (J++[⟨t,s,e,o⟩]))(hw:w t=1)(hf:EO n f)(h1:EO n (1,none)):
  JI D0 m w J/\WI n D0 w (W++[⟨true,s,o,f⟩]++[⟨false,o,e,(1,none)⟩]) J:=by
 have hb:=h.b ⟨t,s,e,o⟩ (by simp);have hp:=nA.mp h.p;have hs:=h.s;simp only[List.mem_append,qp]at hb hs;refine⟨⟨λj hj=>h.b j (by simp[hj]),hp.1,λi hi j hj=>h.s i (by simp[hi]) j (by simp[hj])⟩,?_⟩;have bZ:∀ j∈J,j.o+w j.t<=o:=λj hj=>hp.2.2 j hj ⟨t,s,e,o⟩ (by simp);refine⟨λx hx=>?_,λx hx hi j hj h1 h2=>?_,λx hx j hj h1 h2=>?_,λx hx hi j hj=>?_,?_⟩
 .simp only[List.mem_append,qp]at hx
  rcases hx with (hx|rfl) | rfl
  .exact g.b x hx
  .exact⟨hb.1,by dsimp only at *; omega,hf⟩
  .exact⟨by dsimp only at *; omega,hb.2.2.1,h1⟩
 .simp only[List.mem_append,qp]at hx
  have:=bZ j hj;rcases hx with (hx|rfl) | rfl
  .exact g.i x hx hi j (by simp[hj]) h1 h2
  .dsimp only at *; omega
  .cases hi
 .simp only[List.mem_append,qp]at hx
  have:=bZ j hj;rcases hx with (hx|rfl) | rfl
  .exact g.a x hx j (by simp[hj]) h1 h2
  .exact h.s ⟨t,s,e,o⟩ (by simp) j (by simp[hj]) h1 h2
  .dsimp only at *; omega
 .simp only[List.mem_append,qp]at hx
  have:=bZ j hj;rcases hx with (hx|rfl) | rfl
  .exact g.o x hx hi j (by simp[hj])
  .cases hi
  .have:=(h.b j (by simp[hj])).1
   dsimp only at *; omega
 .have jm:(⟨t,s,e,o⟩:Jb)∈J++[⟨t,s,e,o⟩]:=by simp
  refine nA.mpr ⟨nA.mpr ⟨g.p,by simp,λx hx y hy=>?_⟩,by simp,λx hx y hy=>?_⟩
  .cases qp.mp hy
   refine⟨λa _ z=>?_,λ_ a=>(by cases a),λa z=>?_⟩
   .exact g.i x hx a _ jm (by dsimp only at *; omega) (by dsimp only at *; omega)
   .exact g.o x hx (by cases hh:x.i; rfl; exact absurd hh a) _ jm z.symm
  .cases qp.mp hy
   simp only[List.mem_append,qp]at hx;rcases hx with hx|rfl
   .refine⟨λ_ a=>(by cases a),λa _ z=>?_,λa z=>?_⟩
    .exact g.a x hx _ jm (by dsimp only at *; omega) (by dsimp only at *; omega)
    .exact g.a x hx _ jm (by dsimp only at *; omega) (by dsimp only at *; omega)
   .exact⟨λ_ a=>(by cases a),λa=>(by cases a),λ_ z=>(by have:=hb.1; dsimp only at this z; omega)⟩
structure eD (D0 m:Nat) (w:Nat->Nat) (t s e o t1 e1 t2 s2 e2 o2:Nat):Prop where
 a:o+w t1<=o2
 b:o2+w t2<=o+w t
 c:o+w t1<=e1/\e1 < D0/\o2+w t2<=e2/\e2 < D0
 m1:t1 < m
 m2:t2 < m
 s:s2=s\/(s2=o+w t1/\s2 < o2)
variable{t1 e1 t2 s2 e2 o2:Nat}
theorem xl(h:JI D0 m w (J++[⟨t,s,e,o⟩]))(T:eD D0 m w t s e o t1 e1 t2 s2 e2 o2):JI D0 m w (J++[⟨t1,s,e1,o⟩]++[⟨t2,s2,e2,o2⟩]):=by
 have hb:=h.b ⟨t,s,e,o⟩ (by simp);have hp:=nA.mp h.p;have bZ:∀ j∈J,j.o+w j.t<=o:=λj hj=>hp.2.2 j hj ⟨t,s,e,o⟩ (by simp);have K7:∀ j∈J,j.o<=s->s < j.o+w j.t->False:=λj hj=>h.s ⟨t,s,e,o⟩ (by simp) j (by simp[hj]);have K8:∀ j∈J,o<=j.s->j.s < o+w t->False:=λj hj=>h.s j (by simp[hj]) ⟨t,s,e,o⟩ (by simp);have(Ta,Tb,Tc,T1,T2,Ts):=T;dsimp only at hb;refine⟨λj hj=>?_,nA.mpr ⟨nA.mpr ⟨hp.1,by simp,λx hx y hy=>?_⟩,by simp,λx hx y hy=>?_⟩,λi hi j hj h1 h2=>?_⟩
 .simp only[List.mem_append,qp]at hj
  rcases hj with (hj|rfl) | rfl
  .exact h.b j (by simp[hj])
  .dsimp only; omega
  .dsimp only; omega
 .cases qp.mp hy
  have:=bZ x hx;dsimp only; omega
 .cases qp.mp hy
  simp only[List.mem_append,qp]at hx;rcases hx with hx|rfl
  .have:=bZ x hx
   dsimp only; omega
  .dsimp only; omega
 .simp only[List.mem_append,qp]at hi hj
  rcases hi with (hi|rfl) | rfl
  .rcases hj with (hj|rfl) | rfl
   .exact h.s i (by simp[hi]) j (by simp[hj]) h1 h2
   .exact K8 i hi h1 (by dsimp only at *; omega)
   .exact K8 i hi (by dsimp only at *; omega) (by dsimp only at *; omega)
  .rcases hj with (hj|rfl) | rfl
   .exact K7 j hj h1 h2
   .dsimp only at *; omega
   .dsimp only at *; omega
  .rcases hj with (hj|rfl) | rfl
   .have:=bZ j hj
    rcases Ts with rfl|⟨q1,q2⟩
    .exact K7 j hj h1 h2
    .dsimp only at *; omega
   .dsimp only at *; omega
   .dsimp only at *; omega
theorem BM(h:JI D0 m w (J++[⟨t,s,e,o⟩]))(g:WI n D0 w W (J++[⟨t,s,e,o⟩]))(T:eD D0 m w t s e o t1 e1 t2 s2 e2 o2):WI n D0 w W (J++[⟨t1,s,e1,o⟩]++[⟨t2,s2,e2,o2⟩]):=by
 have hb:=h.b ⟨t,s,e,o⟩ (by simp);have jm:(⟨t,s,e,o⟩:Jb)∈J++[⟨t,s,e,o⟩]:=by simp
 have(Ta,Tb,Tc,T1,T2,Ts):=T;dsimp only at hb;refine⟨g.b,λx hx hi j hj h1 h2=>?_,λx hx j hj h1 h2=>?_,λx hx hi j hj=>?_,g.p⟩
 .simp only[List.mem_append,qp]at hj
  have:=g.i x hx hi _ jm;rcases hj with (hj|rfl) | rfl
  .exact g.i x hx hi j (by simp[hj]) h1 h2
  .exact this h1 (by dsimp only at *; omega)
  .exact this (by dsimp only at *; omega) (by dsimp only at *; omega)
 .simp only[List.mem_append,qp]at hj
  have:=g.a x hx _ jm;rcases hj with (hj|rfl) | rfl
  .exact g.a x hx j (by simp[hj]) h1 h2
  .exact this h1 (by dsimp only at *; omega)
  .exact this (by dsimp only at *; omega) (by dsimp only at *; omega)
 .simp only[List.mem_append,qp]at hj
  have h3:=g.a x hx _ jm;have h4:=g.o x hx hi _ jm;rcases hj with (hj|rfl) | rfl
  .exact g.o x hx hi j (by simp[hj])
  .exact h4
  .rcases Ts with rfl|⟨q1,q2⟩
   .exact h4
   .intro z
    exact h3 (by dsimp only at *; omega) (by dsimp only at *; omega)
theorem N2{f:Et}(h:JI D0 m w (J++[⟨t,s,e,o⟩]))(g:WI n D0 w W (J++[⟨t,s,e,o⟩]))(T:eD D0 m w t s e o t1 e1 t2 s2 e2 o2)(hs:s2=o+w t1)(h2:s2 < o2)(hf:EO n f):WI n D0 w (W++[⟨true,s,s2,f⟩]) (J++[⟨t1,s,e1,o⟩]++[⟨t2,s2,e2,o2⟩]):=by
 have g2:=BM h g T;have ZA:=xl h T;have hb:=h.b ⟨t,s,e,o⟩ (by simp);have hp:=nA.mp h.p;have bZ:∀ j∈J,j.o+w j.t<=o:=λj hj=>hp.2.2 j hj ⟨t,s,e,o⟩ (by simp);have jm:(⟨t,s,e,o⟩:Jb)∈J++[⟨t,s,e,o⟩]:=by simp
 have cm:(⟨t1,s,e1,o⟩:Jb)∈J++[⟨t1,s,e1,o⟩]++[⟨t2,s2,e2,o2⟩]:=by simp
 have(Ta,Tb,Tc,T1,T2,Ts):=T;dsimp only at hb;refine⟨λx hx=>?_,λx hx hi j hj h3 h4=>?_,λx hx j hj h3 h4=>?_,λx hx hi j hj=>?_,nA.mpr ⟨g.p,by simp,λx hx y hy=>?_⟩⟩
 .simp only[List.mem_append,qp]at hx
  rcases hx with hx|rfl
  .exact g.b x hx
  .exact⟨by dsimp only; omega,by dsimp only; omega,hf⟩
 .simp only[List.mem_append,qp]at hx
  rcases hx with hx|rfl
  .exact g2.i x hx hi j hj h3 h4
  .simp only[List.mem_append,qp]at hj
   rcases hj with (hj|rfl) | rfl
   .have:=bZ j hj; dsimp only at *; omega
   .dsimp only at *; omega
   .dsimp only at *; omega
 .simp only[List.mem_append,qp]at hx
  rcases hx with hx|rfl
  .exact g2.a x hx j hj h3 h4
  .exact ZA.s _ cm j hj h3 h4
 .simp only[List.mem_append,qp]at hx
  rcases hx with hx|rfl
  .exact g2.o x hx hi j hj
  .cases hi
 .cases qp.mp hy
  refine⟨λa _ z=>?_,λ_ a=>(by cases a),λa z=>?_⟩
  .exact g.i x hx a _ jm (by dsimp only at *; omega) (by dsimp only at *; omega)
  .exact g.o x hx (by cases hh:x.i; rfl; exact absurd hh a) _ jm z.symm
end
end K49
open PySem L2
namespace K49
open PySem L2
theorem IG:∀ (a b:Qa Rw) (ws:Qa Nat),jj (a++b) ws=jj b (jj a ws)
 | [],b,ws=>rfl
 | x::a,b,ws=>IG a b _
theorem IF:∀ (rs:Qa Rw) (ws:Qa Nat),∃ zs,jj rs ws=ws++zs
 | [],ws=>⟨[],by simp[jj]⟩
 | r::rs,ws=>by
  have(zs,e):=IF rs (ws++[lj ws r]);exact⟨lj ws r::zs,by show jj rs _=_; rw[e]; simp⟩
abbrev wt(rs:Qa Rw)(t:Nat):Nat:=(aN rs).getD t 0
theorem CF{rs:Qa Rw}{t:Nat}(h:i < t)(ht:t<=rs.length):(aN<|rs.take t).getD i 0=wt rs i:=by
 have(zs,e):=IF (rs.drop t) (aN<|rs.take t);have e2:aN rs=aN (rs.take t)++zs:=by
  rw[<-e];show jj rs []=_
  conv=>lhs; rw[<-List.take_append_drop t rs]
  rw[IG];rfl
 have ln:(aN<|rs.take t).length=t:=by rw[l7,List.length_take]; omega
 unfold wt;rw[e2,qA,qA,List.getElem?_append_left (by omega)]
theorem tW{rs:Qa Rw}{t:Nat}{r:Rw}(h:rs[t]?=some r):wt rs t=lj (aN<|rs.take t) r:=by
 have ht:=(qk.mp h).1;rw[<-CF (t:=t+1) (by omega) (by omega),ya h];have ln:(aN<|rs.take t).length=t:=by rw[l7,List.length_take]; omega
 rw[qA,List.getElem?_append_right (by omega),ln];simp
theorem GJ{rs:Qa Rw}{t a b:Nat}{w:Wd}(hR:RO n rs)(h:rs[t]?=some (.bin w a b)):wt rs t=wt rs a+wt rs b+(if w=.less\/w=.times then 1 else 0):=by
 have ht:=(qk.mp h).1;have ok:a < t/\b < t:=hR t _ h;rw[tW h];show(aN<|rs.take t).getD a 0+(aN<|rs.take t).getD b 0+_=_;rw[CF ok.1 (by omega),CF ok.2 (by omega)]
theorem xD{rs:Qa Rw}(hR:RO n rs)(t:Nat):t < rs.length->1<=wt rs t:=by
 induction t using Nat.strongRecOn with
 | _ t ih=>
  intro ht;have e:=ql ht;cases hr:rs[t]with
  | num r=>rw[hr]at e; rw[tW e]; exact qe 1
  | lt k=>rw[hr]at e; rw[tW e]; exact qe 1
  | bin w a b=>
   rw[hr]at e;have ok:a < t/\b < t:=hR t _ e;have:=ih a ok.1 (by omega);rw[GJ hR e];omega
theorem Hi:∀ {rs:Qa Rw} {k t a b:Nat},ov rs k=none->rs[t]?=some (.bin .over a b)->False
 | [],_,t,_,_,_,h=>by simp at h
 | r::rs,k,0,a,b,e,h=>by
  cases(show some r=some _ from h);cases e
 | r::rs,k,t+1,a,b,e,h=>by
  have e':ov rs (k+1)=none:=by
   cases r with
   | num r=>exact e
   | lt r=>exact e
   | bin w x y=>cases w<;>first|exact e|cases e
  exact Hi (t:=t) e' h
def mJ(w:Nat->Nat):Qa Jb->Nat
 | []=>0
 | j::J=>(2 * w j.t - 1)+mJ w J
def sJ(w:Nat->Nat):Qa Jb->Nat
 | []=>0
 | j::J=>w j.t+sJ w J
theorem oH{w:Nat->Nat}:∀ {J L:Qa Jb},mJ w (J++L)=mJ w J+mJ w L
 | [],L=>by simp[mJ]
 | j::J,L=>by
  show _+mJ w (J++L)=_+mJ w J+_;rw[oH]; omega
theorem oG{w:Nat->Nat}:∀ {J L:Qa Jb},sJ w (J++L)=sJ w J+sJ w L
 | [],L=>by simp[sJ]
 | j::J,L=>by
  show _+sJ w (J++L)=_+sJ w J+_;rw[oG]; omega
theorem N1{rs:Qa Rw}{t:Nat}{r:Rw}(h:rs[t]?=some r):bM (rs.map aU) (t:Int)=some (aU r):=yn (by rw[List.getElem?_map,h]; rfl)
theorem GI{w:Nat->Nat}:∀ {J:Qa Jb},(∀ j∈J,1<=w j.t)->J.length<=sJ w J
 | [],_=>qe _
 | j::J,h=>by
  have:=GI (J:=J) λi hi=>h i<|qm _ hi;have:=h j qo;simp only[qt,sJ];omega
theorem MF:(U.l []).sQ=some false:=rfl
theorem MD{xs:Qa D}{x:D}:(U.l<|xs++[x]).sQ=some true:=by cases xs<;>rfl
theorem Tv{r:Rat}:sO [.d<|.tuple [.str "number",fR r]]=some (.d<|pz (r,none),[.d<|.tuple [.str "number",fR r]]):=by
 refine iU ?_;simp![sO,Ds];rfl
theorem RZ:sO [.d<|.tuple [.str "letter",.int (k:Int)]]=some (.d<|pz (1,some k),[.d<|.tuple [.str "letter",.int (k:Int)]]):=by
 refine iU ?_;simp![sO,Ds];rfl
theorem Tu{rs:Qa Rw}{Q:U×Qa U->Prop}(hR:RO n rs)(mO:ov rs 0=none)(h0:0 < rs.length)(hl:rs.length<=100)(hw:wt rs (rs.length - 1)<=100)
  (k:∀ W,WI n (wt rs (rs.length - 1)+2) (wt rs) W []->W.length<=300->Q (.l<|W.map Wy.d,[.d<|om rs,.l<|iL<|aN rs])):Wo (yG [.d<|om rs,.l<|iL<|aN rs]) Q:=by
 have la:bM (iL<|aN rs) (-1)=some (.int ((wt rs (rs.length - 1):Nat):Int)):=by
  have e:=ng (ws:=aN rs) (a:=rs.length - 1) (by rw[l7]; omega);have ln:(iL<|aN rs).length=rs.length:=by unfold iL; rw[List.length_map,l7]
  have e2:bM (iL<|aN rs) (-1)=bM (iL<|aN rs) ((rs.length - 1:Nat):Int):=by
   unfold bM fu;rw[ln,if_neg (by decide),if_pos (by omega),if_pos (by omega),if_pos (by omega),show((-1:Int)+(rs.length:Int)).toNat=((rs.length - 1:Nat):Int).toNat by omega]
  rw[e2,e]
 simp![yG,JW,la];refine IC (λk ρ=>∃ (W:Qa Wy) (J:Qa Jb) (v4 v5 v6 v7 v8 v9:Qb U),ρ=[some<|.d<|om rs,some<|.l<|iL<|aN rs,some<|.l<|W.map Wy.d,some<|.l<|J.map Jb.d,v4,v5,v6,v7,v8,v9]/\JI (wt rs (rs.length - 1)+2) rs.length (wt rs) J/\WI n (wt rs (rs.length - 1)+2) (wt rs) W J/\mJ (wt rs) J=k/\W.length+3 * sJ (wt rs) J<=300) _ ⟨[],[⟨rs.length - 1,0,wt rs (rs.length - 1)+1,1⟩],none,none,none,none,none,none,?_,?_,?_,rfl,?_⟩ ?_
 .rw[show((rs.length:Int) - 1)=((rs.length - 1:Nat):Int) by omega]
  rfl
 .refine⟨λj hj=>?_,by simp,λi hi j hj h1 h2=>?_⟩
  .cases qp.mp hj
   dsimp only;omega
  .cases qp.mp hi
   cases qp.mp hj;dsimp only at *;omega
 .exact⟨λx hx=>by simp at hx,λx hx=>by simp at hx,λx hx=>by simp at hx,λx hx=>by simp at hx,.nil⟩
 .show 0+3 * (wt rs (rs.length - 1)+0)<=300
  omega
 rintro m _ ⟨W,J,v4,v5,v6,v7,v8,v9,rfl,hj,hw,hk,hc⟩;simp!;rcases List.eq_nil_or_concat J with rfl|⟨J',⟨t,s,e,o⟩,ej⟩
 .simp![MF]
  exact k W hw (by omega)
 .rw[List.concat_eq_append]at ej
  subst ej;have jb:=hj.b ⟨t,s,e,o⟩ (by simp);dsimp only at jb;have er:=ql jb.2.2.2;have ar:=N1 er;have wp:=xD hR t jb.2.2.2;rw[oH]at hk;rw[oG]at hc;simp only[mJ,sJ]at hk hc;simp![List.map_append,List.map_cons,List.map_nil,MD,IQ,Jb.d,ar];cases hr:rs[t]with
  | num f=>
   rw[hr]at er;have w1:wt rs t=1:=tW er;simp![Tv,aU];have(j1,g1):=Ju (f:=(f,none)) hj hw w1 ⟨hR t _ er,λk z=>by cases z⟩ ⟨Ff,λk z=>by cases z⟩;exact⟨_,by omega,W++[⟨true,s,o,(f,none)⟩]++[⟨false,o,e,(1,none)⟩],J',_,_,_,_,_,_,by rw[List.map_append,List.map_append]; rfl,j1,g1,rfl,by simp only[qr,qt,List.length_nil]; omega⟩
  | lt q=>
   rw[hr]at er;have w1:wt rs t=1:=tW er;simp![RZ,aU];have(j1,g1):=Ju (f:=(1,some q)) hj hw w1 ⟨Ff,λk z=>by cases z; exact hR t _ er⟩ ⟨Ff,λk z=>by cases z⟩;exact⟨_,by omega,W++[⟨true,s,o,(1,some q)⟩]++[⟨false,o,e,(1,none)⟩],J',_,_,_,_,_,_,by rw[List.map_append,List.map_append]; rfl,j1,g1,rfl,by simp only[qr,qt,List.length_nil]; omega⟩
  | bin w a b=>
   rw[hr]at er;have ok:a < t/\b < t:=hR t _ er;have wb:=GJ hR er;have pa:=xD hR a (by omega);have pb:=xD hR b (by omega);have ia:=ng (ws:=aN rs) (a:=a) (by rw[l7]; omega);have jl:=GI (J:=J') λj lH=>xD hR j.t (hj.b j (by simp[lH])).2.2.2;cases w with
   | over=>exact(Hi mO er).elim
   | plus=>
    have wb:wt rs t=wt rs a+wt rs b:=wb;have T:eD (wt rs (rs.length - 1)+2) rs.length (wt rs) t s e o a e b s e (o+wt rs a):=⟨qe _,by omega,by omega,by omega,by omega,.inl rfl⟩;have j1:=xl hj T;have g1:=BM hj hw T;simp![aU,Wd.s,ia];refine⟨_,?_,W,J'++[⟨a,s,e,o⟩]++[⟨b,s,e,o+wt rs a⟩],_,_,_,_,_,_,by rw[List.map_append,List.map_append]; rfl,j1,g1,rfl,?_⟩
    .rw[oH,oH]; simp only[mJ]; omega
    .rw[oG,oG]; simp only[sJ]; omega
   | less=>
    have wb:wt rs t=wt rs a+wt rs b+1:=wb;have T:eD (wt rs (rs.length - 1)+2) rs.length (wt rs) t s e o a e b (o+wt rs a) e (o+wt rs a+1):=⟨by omega,by omega,by omega,by omega,by omega,.inr ⟨rfl,by omega⟩⟩;have j1:=xl hj T;have g1:=N2 (f:=(-1,none)) hj hw T rfl (by omega) ⟨MH,λk z=>by cases z⟩;simp![aU,Wd.s,ia];refine⟨_,?_,W++[⟨true,s,o+wt rs a,(-1,none)⟩],J'++[⟨a,s,e,o⟩]++[⟨b,o+wt rs a,e,o+wt rs a+1⟩],_,_,_,_,_,_,by rw[List.map_append,List.map_append,List.map_append]; rfl,j1,g1,rfl,?_⟩
    .rw[oH,oH]; simp only[mJ]; omega
    .rw[oG,oG]; simp only[sJ,qr,qt,List.length_nil]; omega
   | times=>
    have wb:wt rs t=wt rs a+wt rs b+1:=wb;have T:eD (wt rs (rs.length - 1)+2) rs.length (wt rs) t s e o a (o+wt rs a) b (o+wt rs a) e (o+wt rs a+1):=⟨by omega,by omega,by omega,by omega,by omega,.inr ⟨rfl,by omega⟩⟩;have j1:=xl hj T;have g1:=BM hj hw T;simp![aU,Wd.s,ia];refine⟨_,?_,W,J'++[⟨a,s,o+wt rs a,o⟩]++[⟨b,o+wt rs a,e,o+wt rs a+1⟩],_,_,_,_,_,_,by rw[List.map_append,List.map_append]; rfl,j1,g1,rfl,?_⟩
    .rw[oH,oH]; simp only[mJ]; omega
    .rw[oG,oG]; simp only[sJ]; omega
end K49
open PySem L2
namespace K49
open PySem L2
def oO(k:Nat):D:=.dict [(.none,.str "TooMany"),(.str "at",.int (k:Int))]
theorem xQ{rs:Qa Rw}(h0:0 < rs.length):bM (iL<|aN rs) (-1)=some (.int ((wt rs (rs.length - 1):Nat):Int)):=by
 have e:=ng (ws:=aN rs) (a:=rs.length - 1) (by rw[l7]; omega);have ln:(iL<|aN rs).length=rs.length:=by unfold iL; rw[List.length_map,l7]
 have e2:bM (iL<|aN rs) (-1)=bM (iL<|aN rs) ((rs.length - 1:Nat):Int):=by
  unfold bM fu;rw[ln,if_neg (by decide),if_pos (by omega),if_pos (by omega),if_pos (by omega),show((-1:Int)+(rs.length:Int)).toNat=((rs.length - 1:Nat):Int).toNat by omega]
 rw[e2,e]
theorem IE{ls:Qa Str}{rs:Qa Rw}(hR:RO n rs)(h0:0 < rs.length)(hl:rs.length<=100)(mO:ov rs 0=none):xT [.d<|fK ls rs]=some (.d<|.int ((wt rs (rs.length - 1):Nat):Int),[.d<|fK ls rs]):=by
 refine iU ?_;have w:=Jv (ls:=ls) hR hl;rw[mO]at w;simp![xT,Hk,w,xQ h0]
theorem mM:kU (.d<|.bool true)=some (.d<|.int 1):=rfl
theorem mN:kU (.d<|.bool false)=some (.d<|.int 0):=rfl
theorem Gb:ic false (.d<|.str "over") (.d<|.tuple [.str "less",.str "times"])=some (.d<|.bool false):=rfl
theorem Ga:ic false (.d<|.str "plus") (.d<|.tuple [.str "less",.str "times"])=some (.d<|.bool false):=rfl
theorem F9:ic false (.d<|.str "less") (.d<|.tuple [.str "less",.str "times"])=some (.d<|.bool true):=rfl
theorem FW:ic false (.d<|.str "times") (.d<|.tuple [.str "less",.str "times"])=some (.d<|.bool true):=rfl
theorem Xk{rs:Qa Rw}(hR:RO n rs)(hl:rs.length<=100):qC [.l<|rs.map aU]=some (.l<|iL<|aN rs,[.l<|rs.map aU]):=by
 refine iU ?_;simp![qC,Dw];rw[Od rfl];refine UC (λi ρ=>∃ o2,ρ=[some<|.l<|rs.map aU,some<|.l<|iL<|aN<|rs.take i,o2]) ⟨none,rfl⟩ (λi ρ ⟨o2,e⟩=>by rw[e]; rfl) ?_ ?_
 .rintro i d _ hd ⟨o2,rfl⟩
  rw[List.getElem?_map]at hd;have(r,er,rfl):=qq.mp hd;have eB:=(qk.mp er).1;have ok:=hR i r er;have tk:=ya er;have ln:(aN<|rs.take i).length=i:=by rw[l7,List.length_take]; omega
  have gv:(iL<|aN<|rs.take i).length=i:=by unfold iL; rw[List.length_map,ln]
  have ad:∀ v:Nat,v=lj (aN<|rs.take i) r->iL (aN<|rs.take i)++[PyData.int (v:Int)]=iL (aN<|rs.take<|i+1):=λv e=>by rw[tk,xE,e]; rfl
  cases r with
  | num f=>
   have a1:=ad 1 rfl;simp![aU,gv];exact⟨_,by rw[<-a1]; rfl⟩
  | lt k=>
   have a1:=ad 1 rfl;simp![aU,gv];exact⟨_,by rw[<-a1]; rfl⟩
  | bin w a b=>
   have ha:=ng (ws:=aN (rs.take i)) (a:=a) (by rw[ln]; exact ok.1);have hb:=ng (ws:=aN (rs.take i)) (a:=b) (by rw[ln]; exact ok.2);cases w with
   | over=>
    have a1:=ad ((aN<|rs.take i).getD a 0+(aN<|rs.take i).getD b 0) rfl;simp![aU,Wd.s,ha,hb,gv,Gb,mN];exact⟨_,by rw[<-a1,Int.natCast_add,Int.add_zero]⟩
   | plus=>
    have a1:=ad ((aN<|rs.take i).getD a 0+(aN<|rs.take i).getD b 0) rfl;simp![aU,Wd.s,ha,hb,gv,Ga,mN];exact⟨_,by rw[<-a1,Int.natCast_add,Int.add_zero]⟩
   | less=>
    have a1:=ad ((aN<|rs.take i).getD a 0+(aN<|rs.take i).getD b 0+1) rfl;simp![aU,Wd.s,ha,hb,gv,F9,mM];exact⟨_,by rw[<-a1,Int.natCast_add,Int.natCast_add]; rfl⟩
   | times=>
    have a1:=ad ((aN<|rs.take i).getD a 0+(aN<|rs.take i).getD b 0+1) rfl;simp![aU,Wd.s,ha,hb,gv,FW,mM];exact⟨_,by rw[<-a1,Int.natCast_add,Int.natCast_add]; rfl⟩
 .rintro _ ⟨o2,rfl⟩
  rw[List.length_map,List.take_length];simp!
theorem Xj{rs:Qa Rw}(hR:RO n rs)(hl:rs.length<=100):qC [.d<|om rs]=some (.l<|iL<|aN rs,[.d<|om rs]):=by
 refine iU ?_;simp![qC,Dw];rw[Oc rfl];refine xW (λi ρ=>∃ o2,ρ=[some<|.d<|om rs,some<|.l<|iL<|aN<|rs.take i,o2]) ⟨none,rfl⟩ ?_ ?_
 .rintro i d _ hd ⟨o2,rfl⟩
  rw[List.getElem?_map]at hd;have(r,er,rfl):=qq.mp hd;have eB:=(qk.mp er).1;have ok:=hR i r er;have tk:=ya er;have ln:(aN<|rs.take i).length=i:=by rw[l7,List.length_take]; omega
  have gv:(iL<|aN<|rs.take i).length=i:=by unfold iL; rw[List.length_map,ln]
  have ad:∀ v:Nat,v=lj (aN<|rs.take i) r->iL (aN<|rs.take i)++[PyData.int (v:Int)]=iL (aN<|rs.take<|i+1):=λv e=>by rw[tk,xE,e]; rfl
  cases r with
  | num f=>
   have a1:=ad 1 rfl;simp![aU,gv];exact⟨_,by rw[<-a1]; rfl⟩
  | lt k=>
   have a1:=ad 1 rfl;simp![aU,gv];exact⟨_,by rw[<-a1]; rfl⟩
  | bin w a b=>
   have ha:=ng (ws:=aN (rs.take i)) (a:=a) (by rw[ln]; exact ok.1);have hb:=ng (ws:=aN (rs.take i)) (a:=b) (by rw[ln]; exact ok.2);cases w with
   | over=>
    have a1:=ad ((aN<|rs.take i).getD a 0+(aN<|rs.take i).getD b 0) rfl;simp![aU,Wd.s,ha,hb,gv,Gb,mN];exact⟨_,by rw[<-a1,Int.natCast_add,Int.add_zero]⟩
   | plus=>
    have a1:=ad ((aN<|rs.take i).getD a 0+(aN<|rs.take i).getD b 0) rfl;simp![aU,Wd.s,ha,hb,gv,Ga,mN];exact⟨_,by rw[<-a1,Int.natCast_add,Int.add_zero]⟩
   | less=>
    have a1:=ad ((aN<|rs.take i).getD a 0+(aN<|rs.take i).getD b 0+1) rfl;simp![aU,Wd.s,ha,hb,gv,F9,mM];exact⟨_,by rw[<-a1,Int.natCast_add,Int.natCast_add]; rfl⟩
   | times=>
    have a1:=ad ((aN<|rs.take i).getD a 0+(aN<|rs.take i).getD b 0+1) rfl;simp![aU,Wd.s,ha,hb,gv,FW,mM];exact⟨_,by rw[<-a1,Int.natCast_add,Int.natCast_add]; rfl⟩
 .rintro _ ⟨o2,rfl⟩
  rw[List.length_map,List.take_length];simp!
end K49
open PySem L2
namespace K49
open PySem L2
def Wy.le(x y:Wy):Bool:=decide (x.a < y.a\/(x.a=y.a/\x.b<=y.b))
theorem FV{a c d:Int}:(a < c\/(a=c/\b < d))->cN [a,b] [c,d]=true:=by
 intro h;rcases h with h|⟨rfl,h⟩
 .show(if a=c then _ else decide (a < c))=true
  rw[if_neg (by omega)];exact decide_eq_true h
 .show(if a=a then(if b=d then false else decide (b < d))else _)=true
  rw[if_pos rfl,if_neg (by omega)];exact decide_eq_true h
def tF(x y:Wy):Prop:=x.a < y.a\/(x.a=y.a/\x.b < y.b)
theorem l6.symm{x y:Wy}(h:l6 x y):l6 y x:=⟨λa b z=>h.1 b a z.symm,λa b z=>h.2.1 b a z.symm,λa z=>h.2.2 (λq=>a q.symm) z.symm⟩
theorem l6.ne{x y:Wy}(h:l6 x y):x.a=y.a->x.b=y.b->False:=by
 intro h1 h2;have(p,q,r):=h;cases hx:x.i<;>cases hy:y.i
 .exact q hx hy h1
 .exact r (by rw[hx,hy]; decide) h1
 .exact r (by rw[hx,hy]; decide) h1
 .exact p hx hy h2
def mZ(W:Qa Wy):Qa Wy:=W.mergeSort Wy.le
theorem Dn{W:Qa Wy}:(mZ W).Perm W:=List.mergeSort_perm _ _
theorem Hh{W:Qa Wy}(h:W.Pairwise l6):(mZ W).Pairwise tF:=by
 have hs:(mZ W).Pairwise λx y=>Wy.le x y=true:=List.pairwise_mergeSort (λa b c h1 h2=>by
  unfold Wy.le at *;simp only[decide_eq_true_eq]at *;omega) (λa b=>by
  unfold Wy.le;simp only[Bool.or_eq_true,decide_eq_true_eq];omega) _
 have ha:(mZ W).Pairwise l6:=(Dn.pairwise_iff λh=>l6.symm h).mpr h;refine(hs.and ha).imp λ{x y} ⟨h1,h2⟩=>?_;have nn:=h2.ne;unfold Wy.le at h1;unfold tF;simp only[decide_eq_true_eq]at h1;rcases h1 with h1|⟨h1,h3⟩
 .exact .inl h1
 .exact .inr ⟨h1,Nat.lt_of_le_of_ne h3<|nn h1⟩
theorem NZ{W:Qa Wy}:uO (W.map Wy.d)=some (W.map λx=>[(x.a:Int),(x.b:Int)]):=by
 induction W with
 | nil=>rfl
 | cons x W ih=>
  show(wk x.d).bind _=_;rw[ih];rfl
theorem RY{W:Qa Wy}(h:W.Pairwise l6)(hl:W.length<=300):xG (.l<|W.map Wy.d)=some (.l<|(mZ W).map Wy.d):=by
 have e:xm (W.map Wy.d)=(mZ W).map Wy.d:=by
  refine Iu (Dn.map _) ?_;rw[List.pairwise_map];refine(Hh h).imp λ{x y} h=>⟨[(x.a:Int),(x.b:Int)],[(y.a:Int),(y.b:Int)],rfl,rfl,FV ?_⟩;unfold tF at h;omega
 have nd:(W.map λx=>[(x.a:Int),(x.b:Int)]).Nodup:=by
  unfold List.Nodup;rw[List.pairwise_map];refine h.imp λ{x y} h z=>?_;simp only[List.cons.injEq,and_true]at z;exact h.ne (by omega) (by omega)
 unfold xG;show(some<|W.map Wy.d).bind _=_;rw[Option.bind_some,NZ,Option.bind_some,if_pos ⟨by rw[List.length_map]; omega,nd⟩,e]
theorem MC(b:Rat):A0 true [0,1] (.d<|fR b)=some (.d<|.bool (!decide (b=0))):=CI (a:=b) (b:=0) (neg:=true)
def u7(W:Qa Wy):Qa Wy:=W.filter λx=>!decide (x.e.1=0)
abbrev tM(ls:Qa Str)(d:Nat)(W:Qa Wy):D:=.tuple [.tuple<|ls.map .str,.int (d:Int),.tuple<|W.map Wy.d]
theorem Dh{ls:Qa Str}{rs:Qa Rw}{most:Int}{Q:(U×Qa U) ⊕ (D×Qa U)->Prop}(hR:RO n rs)(h0:0 < rs.length)(hl:rs.length<=100)(hm:most<=100\/most < ((wt rs (rs.length - 1)+2:Nat):Int))
  (k1:∀ k,ov rs 0=some k->Q (.inr (mF k,[.d<|fK ls rs,.d<|.int most])))
  (k2:ov rs 0=none->most < ((wt rs (rs.length - 1)+2:Nat):Int)->Q (.inr (oO<|rs.length - 1,[.d<|fK ls rs,.d<|.int most])))
  (k3:ov rs 0=none->((wt rs (rs.length - 1)+2:Nat):Int)<=most->∀ W,WI n (wt rs (rs.length - 1)+2) (wt rs) W []->W.length<=300->Q (.inl (.d<|tM ls (wt rs (rs.length - 1)+2)<|mZ<|u7 W,[.d<|fK ls rs,.d<|.int most]))):
  Wo (p8 [.d<|fK ls rs,.d<|.int most]) Q:=by
 have w:=Jv (ls:=ls) hR hl;cases mO:ov rs 0 with
 | some k=>
  rw[mO]at w;simp![p8,Di,w];exact k1 k mO
 | none=>
  rw[mO]at w;simp![p8,Di,w,xQ h0];refine kR (λh=>?_) λh=>?_
  .simp!
   rw[show((rs.length:Int) - 1)=((rs.length - 1:Nat):Int) by omega];exact k2 mO (by omega)
  .simp!
   refine Tu hR mO h0 hl (by omega) λW g l=>?_;simp!;refine PC (g:=Wy.d) (b:=λx=>!decide (x.e.1=0)) (e:=Wy.d) (by show W.length<=16777216; omega) (λa ha ys=>?_) ?_
   .simp![Wy.d,pz,MC]
    generalize (!decide (a.e.fst=0))=bb;cases bb
    .simp![Bool.false_eq_true]
    .simp!
   .have hs:=RY (W:=u7 W) (g.p.filter _) (qx (List.length_filter_le _ _) l)
    unfold u7 at hs;simp![hs];exact k3 mO (by omega) W g l
end K49
open PySem L2
namespace K49
open PySem L2
theorem CD{d:D}{M:Nat}(h:iN k M d)(hk:k<=64):lQ neg (.d d) (.d d)=some (.d<|.bool (!neg)):=by
 rw[h.ZP h hk hk,PySem.SeqAt.eqv_refl d h.lay];cases neg<;>rfl
theorem WH{r:Rat}(hr:Bd 12 12000000 r):yN [.d<|fR r]=some (.d<|.bool true,[.d<|fR r]):=by
 refine iU ?_;have(gd,gn):=hr.size (by decide);have d1:=MM r;have lf:=Dx (n:=r.num) (d:=(r.den:Int)) (by omega) (AO d1 (by omega));rw[Rat.num_divInt_den]at lf;have er:fR r=.tuple [.int r.num,.int (r.den:Int)]:=rfl;simp![yN,Kw,er];refine xW (λi ρ=>∃ v1,ρ=[some<|U.d<|.tuple [.int r.num,.int (r.den:Int)],v1]) ⟨_,rfl⟩ ?_ ?_
 .rintro i d _ hd ⟨v1,rfl⟩
  obtain⟨z,rfl⟩:∃ z:Int,d=.int z:=by
   have hm:=Ð hd;simp only[qu,List.not_mem_nil,or_false]at hm;rcases hm with rfl|rfl<;>exact⟨_,rfl⟩
  simp!;exact⟨_,rfl⟩
 .rintro _ ⟨v1,rfl⟩
  rw[<-er];have eq:=CI (a:=r) (b:=r) (neg:=false);have Eg:zY (.d<|fR r) (.d<|.int 0)=some (.d<|.int r.num):=rfl;have YE:zY (.d<|fR r) (.d<|.int 1)=some (.d<|.int (r.den:Int)):=rfl;simp![lf,eq,Eg,YE,show((0:Int) < (r.den:Int))=True from eq_true (by omega),if_true]
theorem NY{ns:Qa Str}(n3:ns.length<=3)(ha:∀ z∈ns,bq 10 z):iN 1 400 (.tuple<|ns.map .str):=by
 refine(HB (n:=3) (k:=0) (M:=102) (λd hd=>?_) (by rw[List.length_map]; exact n3)).mono (qe _) (by decide);have(z,hz,rfl):=List.mem_map.mp hd;exact HD<|ha z hz
theorem oK{i:Int}:qD [.d<|.int i]=some (.d<|.bool true,[.d<|.int i]):=by
 refine iU ?_;simp![qD,Kh]
theorem Ms:iP false (.d .none) (.d .none)=some (.d<|.bool true):=rfl
theorem Mr{i:Int}:iP false (.d<|.int i) (.d .none)=some (.d<|.bool false):=rfl
theorem Xa{e:Et}(he:EO n e)(h0:e.1≠0):yO [.d<|pz e,.d<|.int (n:Int),.d<|.bool false]=some (.d<|.bool true,[.d<|pz e,.d<|.int (n:Int),.d<|.bool false]):=by
 refine iU ?_;have fo:=WH he.bd;have(f,l):=e;have n0:f.num≠0:=λz=>h0<|Rat.num_eq_zero.mp z;have ed:pz (f,l)=.tuple [fR f,Ad l]:=rfl;have Eg:zY (.d<|fR f) (.d<|.int 0)=some (.d<|.int f.num):=rfl;simp![yO,Kg,ed,fo,Eg,n0];cases l with
 | none=>simp![Ad,Ms]
 | some j=>
  have hj:j < n:=he.lt j rfl;simp![Ad,Mr,show((0:Int)<=(j:Int))=True from eq_true (by omega),if_true,show decide ((j:Int) < (n:Int))=true from decide_eq_true (by omega)]
theorem NX{a c d:Int}(h:c < a\/(c=a/\d < b)):leB [a,b] [c,d]=false:=by
 unfold leB;rw[FV h];rfl
theorem VQ{ls:Qa Str}{D0:Nat}{W:Qa Wy}(n3:ls.length<=3)(ha:∀ z∈ls,bq 10 z)(h2:2<=D0)(hb:∀ x∈W,x.a < x.b/\x.b < D0/\EO ls.length x.e/\x.e.1≠0)(hp:W.Pairwise tF):
  yH [.d<|tM ls D0 W,.d<|.tuple<|ls.map .str,.d<|.int (D0:Int)]=some (.d<|.bool true,[.d<|tM ls D0 W,.d<|.tuple<|ls.map .str,.d<|.int (D0:Int)]):=by
 refine iU ?_;have es:=CD (neg:=true) (NY n3 ha) (by decide);simp![yH,Ks,es,oK,show((2:Int)<=(D0:Int))=True from eq_true (by omega),if_true,show decide ((D0:Int)<=(D0:Int))=true from decide_eq_true (by omega)];refine yz (λbs cs ρ=>∃ (l1 l2:Int) (v4:Qb U),ρ=[some<|.d<|tM ls D0 W,some<|.d<|.tuple<|ls.map .str,some<|.d<|.int (D0:Int),some<|.d<|.tuple [.int l1,.int l2],v4]/\∀ x∈cs,l1 < (x.a:Int)\/(l1=x.a/\l2 < x.b)) ⟨-1,-1,none,rfl,λx hx=>by omega⟩ ?_ ?_
 .rintro bs x cs _ hW ⟨l1,l2,v4,rfl,hx⟩
  have bx:=hb x (by rw[hW]; simp);have lx:=NX (hx x (by simp));have ie:=Xa bx.2.2.1 bx.2.2.2;have px:∀ y∈cs,tF x y:=by
   rw[hW]at hp;have:=(nA.mp hp).2.1;exact(List.pairwise_cons.mp this).1
  have ct:iB [PyData.int (x.a:Int),.int (x.b:Int),pz x.e] none (some 2)=[.int (x.a:Int),.int (x.b:Int)]:=rfl;simp![Wy.d,oK,lx,ie,ct,show((0:Int)<=(x.a:Int))=True from eq_true (by omega),if_true,show((x.a:Int) < (x.b:Int))=True from eq_true (by omega),decide_true,show((x.b:Int) < (D0:Int))=True from eq_true (by omega)];exact⟨_,_,_,rfl,λy hy=>by have:=px y hy; unfold tF at this; omega⟩
 .rintro _ ⟨l1,l2,v4,rfl,hx⟩
  simp!
end K49
open PySem L2
namespace K49
open PySem L2
def bD:Qb Int->D
 | none=>.none
 | some b=>.int b
def kY:Qb Int->Int
 | none=>60
 | some b=>b
inductive Hd (n:Nat) (ls:Qa Str) (rs:Qa Rw) (most:Int):D->Prop where
 | over (k:Nat) (h:ov rs 0=some k):Hd n ls rs most (.tuple [.str "not whole",.int (k:Int)])
 | many (h:ov rs 0=none) (h2:most < ((wt rs (rs.length - 1)+2:Nat):Int)):Hd n ls rs most (.tuple [.str "too many",.int ((rs.length - 1:Nat):Int)])
 | yS (h:ov rs 0=none) (h2:((wt rs (rs.length - 1)+2:Nat):Int)<=most) (W:Qa Wy) (g:WI n (wt rs (rs.length - 1)+2) (wt rs) W []):Hd n ls rs most (.tuple [.str "web",tM ls (wt rs (rs.length - 1)+2)<|mZ<|u7 W])
theorem mY{i:Int}:iP neg (.d<|.int i) (.d .none)=some (.d<|.bool neg):=by cases neg<;>rfl
theorem n9:iP neg (.d .none) (.d .none)=some (.d<|.bool (!neg)):=by cases neg<;>rfl
theorem BL:under eE "UndivideError" (mF q)=true:=rfl
theorem BK:ua eE ["BadLetters", "BadNode", "BadRow", "BadText", "BadWay", "NoOver", "NoPaper"] (.d<|mF q)=some (.d<|.bool false):=rfl
theorem BJ:jr eE false "ValueError" (.d<|mF q)=some (.d<|.bool true):=rfl
theorem BI:jr eE true "TooMany" (.d<|mF q)=some (.d<|.bool false):=rfl
theorem BH:jr eE true "NotWhole" (.d<|mF q)=some (.d<|.bool true):=rfl
theorem BG:rZ eE "at" (.d<|mF q)=some (.d<|.int (q:Int)):=rfl
theorem BF:iP false (.d<|mF q) (.d .none)=some (.d<|.bool false):=rfl
theorem BE:under eE "UndivideError" (oO q)=true:=rfl
theorem BD:ua eE ["BadLetters", "BadNode", "BadRow", "BadText", "BadWay", "NoOver", "NoPaper"] (.d<|oO q)=some (.d<|.bool false):=rfl
theorem BC:jr eE false "ValueError" (.d<|oO q)=some (.d<|.bool true):=rfl
theorem BB:jr eE true "TooMany" (.d<|oO q)=some (.d<|.bool true):=rfl
theorem BA:jr eE true "NotWhole" (.d<|oO q)=some (.d<|.bool false):=rfl
theorem Bz:rZ eE "at" (.d<|oO q)=some (.d<|.int (q:Int)):=rfl
theorem By:iP false (.d<|oO q) (.d .none)=some (.d<|.bool false):=rfl
theorem rS:cL false (.d<|.bool false) (.d<|.bool true)=some (.d<|.bool false):=rfl
theorem rR:cL false (.d<|.bool true) (.d<|.bool false)=some (.d<|.bool false):=rfl
theorem RW{ls:Qa Str}{rs:Qa Rw}{b:Qb Int}{Q:U×Qa U->Prop}(hR:RO n rs)(h0:0 < rs.length)(hl:rs.length<=100)(hm:kY b<=100\/kY b < ((wt rs (rs.length - 1)+2:Nat):Int))
  (k:∀ d,Hd n ls rs (kY b) d->Q (.d d,[.d<|fK ls rs,.d<|bD b])):Wo (uL [.d<|fK ls rs,.d<|bD b]) Q:=by
 cases b with
 | none=>
  simp![uL,Dq,bD,n9];refine Dh hR h0 hl (.inl (by decide)) (λq hq=>?_) (λh1 h2=>?_) λh1 h2 W g l=>?_
  .simp![BL,BK,BJ,BI,BH,BG,BF,oK,mM,mN,rS,rR]
   exact k _<|.over q hq
  .simp![BE,BD,BC,BB,BA,Bz,By,oK,mM,mN,rS,rR]
   exact k _<|.many h1 h2
  .simp![n9]
   exact k _<|.yS h1 h2 W g
 | some b=>
  simp![uL,Dq,bD,mY];refine kR (λh=>?_) λh=>?_
  .simp!
   refine Dh hR h0 hl hm (λq hq=>?_) (λh1 h2=>?_) λh1 h2 W g l=>?_
   .simp![BL,BK,BJ,BI,BH,BG,BF,oK,mM,mN,rS,rR]
    exact k _<|.over q hq
   .simp![BE,BD,BC,BB,BA,Bz,By,oK,mM,mN,rS,rR]
    exact k _<|.many h1 h2
   .simp![n9]
    exact k _<|.yS h1 h2 W g
  .simp!
   refine Dh hR h0 hl hm (λq hq=>?_) (λh1 h2=>?_) λh1 h2 W g l=>?_
   .simp![BL,BK,BJ,BI,BH,BG,BF,oK,mM,mN,rS,rR]
    exact k _<|.over q hq
   .simp![BE,BD,BC,BB,BA,Bz,By,oK,mM,mN,rS,rR]
    exact k _<|.many h1 h2
   .simp![n9]
    exact k _<|.yS h1 h2 W g
end K49
open PySem L2
namespace K49
open PySem L2
def kh:Rw->Bool
 | .bin .over _ _=>true
 | _=>false
def dY:Qa Rw->Nat->Qa Nat
 | [],_=>[]
 | r::rs,k=>if kh r=true then k::dY rs (k+1)else dY rs (k+1)
theorem Hf:∀ (rs:Qa Rw) (r:Rw) (k:Nat),dY (rs++[r]) k=dY rs k++(if kh r=true then [k+rs.length]else [])
 | [],r,k=>by
  show(if kh r=true then [k]else [])=_;simp[dY]
 | x::rs,r,k=>by
  show(if kh x=true then k::dY (rs++[r]) (k+1)else dY (rs++[r]) (k+1))=(if kh x=true then k::dY rs (k+1)else dY rs (k+1))++_;rw[Hf rs r<|k+1,qt,show k+1+rs.length=k+(rs.length+1) by omega];split<;>rfl
theorem GQ:∀ (rs:Qa Rw) (k:Nat),ov rs k=(dY rs k).head?
 | [],k=>rfl
 | r::rs,k=>by
  have ih:=GQ rs (k+1);cases r with
  | num f=>exact ih
  | lt j=>exact ih
  | bin w a b=>cases w<;>first|exact ih|rfl
theorem TK{rs:Qa Rw}{r:Rw}(h:rs[i]?=some r):dY (rs.take<|i+1) 0=dY (rs.take i) 0++(if kh r=true then [i]else []):=by
 have hi:=(qk.mp h).1;rw[List.take_succ,h];show dY (rs.take i++[r]) 0=_;rw[Hf,List.length_take,show 0+min i rs.length=i by omega]
theorem He:∀ (rs:Qa Rw) (k:Nat),(dY rs k).length<=rs.length
 | [],k=>qe _
 | r::rs,k=>by
  have:=He rs (k+1);show(if kh r=true then k::dY rs (k+1)else dY rs (k+1)).length<=_;split<;>simp<;>omega
theorem GO:∀ (rs:Qa Rw) (k x:Nat),x∈dY rs k->x < k+rs.length
 | [],k,x,h=>by simp[dY]at h
 | r::rs,k,x,h=>by
  have ih:=GO rs (k+1) x;rw[qt];unfold dY at h;split at h
  .rcases qu.mp h with rfl|h
   .omega
   .have:=ih h; omega
  .have:=ih h; omega
theorem GN{w:Str}(hw:bq 10 w)(hk:k < 1000):iN 1 400 (.tuple [.str w,.int (k:Int)]):=by
 refine(HB (n:=2) (k:=0) (M:=102) (λd hd=>?_)<|qe _).mono (qe _) (by decide);simp only[qu,List.not_mem_nil,or_false]at hd;rcases hd with rfl|rfl
 .exact HD hw
 .exact(RK (n:=3) (by show k < 10^3; omega)).mono (by decide) (by decide)
theorem ID{c:Prop}[Decidable c]{X:Qb (Bool×En)}{ρ:En}{Q:Bool×En->Prop}(h:c->X=some (false,ρ))(q:Q (false,ρ)):Wo (if c then X else some (false,ρ)) Q:=by
 split
 .rename_i hc
  rw[h hc];exact⟨_,rfl,q⟩
 .exact⟨_,rfl,q⟩
theorem Dg{ls:Qa Str}{rs:Qa Rw}{b:Qb Int}(n3:ls.length<=3)(ha:∀ z∈ls,bq 10 z)(hR:RO ls.length rs)(h0:0 < rs.length)(hl:rs.length<=100)(hm:kY b<=100\/kY b < ((wt rs (rs.length - 1)+2:Nat):Int)):
  p9 [.d<|fK ls rs,.d<|bD b]=some (.d<|.bool true,[.d<|fK ls rs,.d<|bD b]):=by
 refine iU ?_;have lw:=Xj hR hl;simp![p9,Ka,lw,xQ h0];refine RW hR h0 hl hm λd hd=>?_;simp!;refine BU (λi ρ ys=>(∃ v0 v1,ρ=[v0,v1])/\ys=iL (dY (rs.take i) 0)) (by rw[sP,List.length_map]; show rs.length<=16777216; omega) (λi ρ ys h=>?_) ⟨⟨none,none,rfl⟩,rfl⟩ (λi x ρ ys hx h=>?_) λρ ys h=>?_
 .rw[h.2]
  unfold iL;rw[List.length_map];exact qx (He _ _) (by rw[List.length_take]; omega)
 .obtain⟨⟨v0,v1,rfl⟩,rfl⟩:=h
  have(x,ex,rfl):=yM hx;rw[List.getElem?_map]at ex;have(r,er,rfl):=qq.mp ex;have tk:=TK er;cases r with
  | num f=>
   simp![aU];exact⟨⟨_,_,rfl⟩,by rw[tk]; simp[kh]⟩
  | lt f=>
   simp![aU];exact⟨⟨_,_,rfl⟩,by rw[tk]; simp[kh]⟩
  | bin w p q=>
   cases w with
   | over=>
    simp![aU,Wd.s,Nat.zero_add];exact⟨⟨_,_,rfl⟩,by rw[tk]; show _=iL (_++[i]); rw[xE]; rfl⟩
   | plus=>
    simp![aU,Wd.s];exact⟨⟨_,_,rfl⟩,by rw[tk]; simp[kh]⟩
   | less=>
    simp![aU,Wd.s];exact⟨⟨_,_,rfl⟩,by rw[tk]; simp[kh]⟩
   | times=>
    simp![aU,Wd.s];exact⟨⟨_,_,rfl⟩,by rw[tk]; simp[kh]⟩
 .obtain⟨⟨v0,v1,rfl⟩,rfl⟩:=h
  rw[show(mm 0<|rs.map aU).length=rs.length by rw[sP,List.length_map],List.take_length];have eo:=GQ rs 0;have Az:bq 10 ("not whole":Str):=by unfold bq; decide
  have Z2:bq 10 ("too many":Str):=by unfold bq; decide
  cases hd with
  | over q h=>
   rw[h]at eo;obtain⟨tl,et⟩:∃ tl,dY rs 0=q::tl:=by
    cases hh:dY rs 0 with
    | nil=>rw[hh]at eo; cases eo
    | cons x tl=>rw[hh]at eo; cases eo; exact⟨tl,rfl⟩
   have hq:q < 1000:=by have:=GO rs 0 q (by rw[et]; simp); omega
   have es:=CD (neg:=false) (GN Az hq) (by decide);have il:iL (q::tl)=PyData.int (q:Int)::iL tl:=rfl;have ix:bM (PyData.int (q:Int)::iL tl) 0=some (PyData.int (q:Int)):=yn (j:=0) rfl;simp![et,il,ix,es,show((0:Int) < (((iL tl).length+1:Nat):Int))=True from eq_true (by omega),if_true]
  | many h h2=>
   rw[h]at eo;have et:dY rs 0=[]:=by
    cases hh:dY rs 0 with
    | nil=>rfl
    | cons x tl=>rw[hh]at eo; cases eo
   have wo:=IE (ls:=ls) hR h0 hl h;have es:=CD (neg:=false) (GN (k:=rs.length - 1) Z2 (by omega)) (by decide);have il:iL []=[]:=rfl;have s2:((wt rs (rs.length - 1):Nat):Int)+2 - 2=((wt rs (rs.length - 1):Nat):Int):=by omega
   have l1:((rs.length:Int) - 1)=((rs.length - 1:Nat):Int):=by omega
   cases b with
   | none=>
    have h2:(60:Int) < ((wt rs (rs.length - 1)+2:Nat):Int):=h2;simp![et,il,wo,s2,decide_true,Bool.not_true,Bool.false_eq_true,bD,n9,mY,l1,es,show((60:Int) < ((wt rs (rs.length - 1):Nat):Int)+2)=True from eq_true (by omega),if_true]
   | some b=>
    have h2:b < ((wt rs (rs.length - 1)+2:Nat):Int):=h2;simp![et,il,wo,s2,decide_true,Bool.not_true,Bool.false_eq_true,bD,n9,mY,l1,es,show(b < ((wt rs (rs.length - 1):Nat):Int)+2)=True from eq_true (by omega),if_true];refine ID (λc=>iU ?_) ?_
    .simp![mY]
    .simp![mY,l1,es,show(b < ((wt rs (rs.length - 1):Nat):Int)+2)=True from eq_true (by omega),if_true]
  | yS h h2 W g=>
   rw[h]at eo;have et:dY rs 0=[]:=by
    cases hh:dY rs 0 with
    | nil=>rfl
    | cons x tl=>rw[hh]at eo; cases eo
   have wo:=IE (ls:=ls) hR h0 hl h;have il:iL []=[]:=rfl;have s2:((wt rs (rs.length - 1):Nat):Int)+2 - 2=((wt rs (rs.length - 1):Nat):Int):=by omega
   have iw:=VQ (ls:=ls) (D0:=wt rs (rs.length - 1)+2) (W:=mZ (u7 W)) n3 ha (by omega) (λx hx=>by
    have hx:=Dn.mem_iff.mp hx;have hf:=List.mem_filter.mp hx;have gb:=g.b x hf.1;exact⟨gb.1,gb.2.1,gb.2.2,by simpa using hf.2⟩) (Hh<|g.p.filter _)
   rw[show((wt rs (rs.length - 1)+2:Nat):Int)=((wt rs (rs.length - 1):Nat):Int)+2 by omega]at iw;cases b with
   | none=>
    have h2:((wt rs (rs.length - 1)+2:Nat):Int)<=60:=h2;simp![et,il,wo,s2,decide_true,Bool.not_true,Bool.false_eq_true,bD,n9,mY,show((60:Int) < ((wt rs (rs.length - 1):Nat):Int)+2)=False from eq_false (by omega),if_false,iw]
   | some b=>
    have h2:((wt rs (rs.length - 1)+2:Nat):Int)<=b:=h2;simp![et,il,wo,s2,decide_true,Bool.not_true,Bool.false_eq_true,bD,n9,mY];refine ID (λc=>iU ?_) ?_
    .simp![mY]
    .simp![mY,show(b < ((wt rs (rs.length - 1):Nat):Int)+2)=False from eq_false (by omega),if_false,iw]
end K49
open PySem L2
namespace K49
open PySem L2
theorem OI{x y:Int}{Q:U×Qa U->Prop}(n1:1<=n)(n3:n<=3)(k:∀ rs x' y',RO n rs->3<=rs.length->rs.length<=40->Q (.l<|rs.map aU,[bx x' y',.d<|.int (n:Int)])):Wo (yJ [bx x y,.d<|.int (n:Int)]) Q:=by
 simp![yJ,JJ];refine dE (by omega) (by omega) λr x1 y1 h0 h1=>?_;simp!;refine Tw λf x2 y2 hf=>?_;simp!;refine dE (by decide) (by decide) λr2 x3 y3 h2 h3=>?_;simp!;refine sA h2 (by show r2 < 3; omega) λa ha=>?_;obtain⟨w,rfl⟩:∃ w:Wd,a=.str w.s:=by
  simp only[qu,List.not_mem_nil,or_false]at ha;rcases ha with rfl|rfl|rfl
  .exact⟨.plus,rfl⟩
  .exact⟨.less,rfl⟩
  .exact⟨.times,rfl⟩
 simp!;refine dE (by decide) (by decide) λr4 x4 y4 h4 h5=>?_;simp!;refine dE (by decide) (by decide) λr5 x5 y5 h6 h7=>?_;simp!;refine dE (by decide) (by decide) λr6 x6 y6 h8 h9=>?_;simp!;refine sA h8 (by show r6 < 2; omega) λa ha=>?_;obtain⟨m,rfl,Ld,hm⟩:∃ m:Int,a=.int m/\0<=m/\m < 16:=by
  simp only[qu,List.not_mem_nil,or_false]at ha;rcases ha with rfl|rfl
  .exact⟨_,rfl,by omega,by omega⟩
  .exact⟨_,rfl,by omega,by omega⟩
 simp!;refine BS (λi ρ=>∃ rs v3,ρ=[some<|bx x6 y6,some<|.d<|.int (n:Int),some<|.l<|rs.map aU,v3,none,none,none]/\RO n rs/\rs.length=3+i) ⟨[.lt r.toNat,.num f,.bin w 0 1],none,?_,?_,rfl⟩ ?_ ?_
 .rw[show r=((r.toNat:Nat):Int) by omega]
  rfl
 .have e0:RO n []:=λt z hz=>by simp at hz
  have e1:=e0.app (r:=.lt r.toNat) (show r.toNat < n by omega);have e2:=e1.app (r:=.num f) hf;exact e2.app (r:=.bin w 0 1) (show 0 < 2/\1 < 2 by decide)
 .rintro i _ hi ⟨rs,v3,rfl,hR,hl⟩
  have ll:(rs.map aU).length=3+i:=by rw[List.length_map,hl]
  simp!;exact⟨rs++[.bin .plus (rs.length - 1)<|rs.length - 1],_,by rw[List.map_append,show((rs.length:Int) - 1)=((rs.length - 1:Nat):Int) by omega]; rfl,hR.app (r:=.bin .plus (rs.length - 1) (rs.length - 1)) (show rs.length - 1 < rs.length/\rs.length - 1 < rs.length from⟨by omega,by omega⟩),by simp only[qr,qt,List.length_nil]; omega⟩
 rintro _ ⟨rs,v3,rfl,hR,hl⟩;simp!;refine dE (by decide) (by decide) λr7 x7 y7 h10 Lx=>?_;simp!;refine BS (λi ρ=>∃ rs x8 y8 v3 v4 v5 v6,ρ=[some<|bx x8 y8,some<|.d<|.int (n:Int),some<|.l<|rs.map aU,v3,v4,v5,v6]/\RO n rs/\3<=rs.length/\rs.length<=20+i) ⟨rs,x7,y7,_,_,_,_,rfl,hR,by omega,by omega⟩ ?_ ?_
 .rintro i _ hi ⟨rs,x8,y8,v3,v4,v5,v6,rfl,hR,Le,hl⟩
  simp!;refine dE (by decide) (by decide) λr8 x9 y9 ZD h13=>?_;simp!;refine sA ZD (by show r8 < 3; omega) λa ha=>?_;obtain⟨w2,rfl⟩:∃ w:Wd,a=.str w.s:=by
   simp only[qu,List.not_mem_nil,or_false]at ha;rcases ha with rfl|rfl|rfl
   .exact⟨.plus,rfl⟩
   .exact⟨.less,rfl⟩
   .exact⟨.plus,rfl⟩
  simp!;refine dE (by omega) (by omega) λr9 x10 y10 h14 h15=>?_;simp!;refine dE (by decide) (by decide) λKP x11 y11 ZC h17=>?_;simp!;have two:∀ a∈[PyData.int<|(rs.length:Int) - 1,PyData.int r9],∃ j:Nat,a=.int (j:Int)/\j < rs.length:=λa ha=>by
   simp only[qu,List.not_mem_nil,or_false]at ha;rcases ha with rfl|rfl
   .exact⟨rs.length - 1,by rw[show((rs.length:Int) - 1)=((rs.length - 1:Nat):Int) by omega],by omega⟩
   .exact⟨r9.toNat,by rw[show r9=((r9.toNat:Nat):Int) by omega]; rfl,by omega⟩
  refine sA ZC (by show KP < 2; omega) λa ha=>?_;have(ja,rfl,Zb):=two a ha;simp!;refine sA (by omega) (by show 1 - KP < 2; omega) λa ha=>?_;have(jb,rfl,Za):=two a ha;simp!;exact⟨rs++[.bin w2 ja jb],_,_,_,_,_,_,by rw[List.map_append]; rfl,hR.app (r:=.bin w2 ja jb) (show ja < rs.length/\jb < rs.length from⟨Zb,Za⟩),by simp only[qr,qt,List.length_nil]; omega,by simp only[qr,qt,List.length_nil]; omega⟩
 .rintro _ ⟨rs,x8,y8,v3,v4,v5,v6,rfl,hR,Le,hl⟩
  simp!;exact k rs _ _ hR Le (by omega)
end K49
open PySem L2
namespace K49
open PySem L2
def oP(c:Nat):Rw->Rw
 | .bin w a b=>.bin w (a+(if c<=a then 1 else 0))<|b+(if c<=b then 1 else 0)
 | r=>r
theorem MB{w:Wd}:ic true (.d<|.str w.s) (.d<|.tuple [.str "number",.str "letter"])=some (.d<|.bool true):=by cases w<;>rfl
theorem Mq:ic true (.d<|.str "number") (.d<|.tuple [.str "number",.str "letter"])=some (.d<|.bool false):=rfl
theorem Mp:ic true (.d<|.str "letter") (.d<|.tuple [.str "number",.str "letter"])=some (.d<|.bool false):=rfl
theorem YI{b:Bool}:kU (.d<|.bool b)=some (.d<|.int (if b=true then 1 else 0)):=by cases b<;>rfl
theorem RO.put{c:Nat}{rs:Qa Rw}(hR:RO n rs)(h2:2<=c)(hc:c<=rs.length)(hj:j < c):RO n (rs.take c++[.bin .over j 0]++(rs.drop c).map (oP c)):=by
 intro t x hx;have lt:(rs.take c).length=c:=by rw[List.length_take]; omega
 by_cases h:t < c
 .rw[List.append_assoc,List.getElem?_append_left (by omega),List.getElem?_take_of_lt h]at hx
  exact hR t x hx
 .by_cases h':t=c
  .subst h'
   rw[List.append_assoc,List.getElem?_append_right (by omega),lt,Nat.sub_self]at hx;cases(show some (Rw.bin .over j 0)=some x from hx);exact(show j < t/\0 < t from⟨hj,by omega⟩)
  .rw[List.getElem?_append_right (by rw[qr,lt]; simp; omega),qr,lt,List.getElem?_map,List.getElem?_drop]at hx
   have(r,er,rfl):=qq.mp hx;rw[show c+(t - (c+[Rw.bin Wd.over j 0].length))=t - 1 by simp; omega]at er;have ok:=hR _ _ er;cases r with
   | num f=>exact ok
   | lt q=>exact ok
   | bin w a b=>
    have ok:a < t - 1/\b < t - 1:=ok;show a+(if c<=a then 1 else 0) < t/\b+(if c<=b then 1 else 0) < t;constructor<;>split<;>omega
theorem JO{x y:Int}{rs:Qa Rw}{Q:U×Qa U->Prop}(hR:RO n rs)(h3:3<=rs.length)(hl:rs.length<=41)(k:∀ DR x' y',RO n DR->DR.length=rs.length+1->Q (.l<|DR.map aU,[bx x' y',.l<|rs.map aU])):Wo (uK [bx x y,.l<|rs.map aU]) Q:=by
 simp![uK,Kz];refine dE (by omega) (by omega) λr x1 y1 h0 h1=>?_;obtain⟨c,hc⟩:∃ c:Nat,2+r=(c:Int):=⟨(2+r).toNat,by omega⟩;have e1:iB (rs.map aU) none (some (c:Int))=(rs.take c).map aU:=by rw[PD (by omega),List.map_take]; rfl
 have e2:iB (rs.map aU) (some (c:Int)) none=(rs.drop c).map aU:=by rw[UJ (by omega),List.map_drop]; rfl
 have lt:((rs.take c).map aU).length=c:=by rw[List.length_map,List.length_take]; omega
 have ld:((rs.drop c).map aU).length=rs.length - c:=by rw[List.length_map,List.length_drop]
 simp![hc,e1];refine dE (by omega) (by omega) λj x2 y2 h4 h5=>?_;obtain⟨j,rfl⟩:∃ q:Nat,j=(q:Int):=⟨j.toNat,by omega⟩;simp![e2,lt,ld];refine yz (g:=aU) (as:=rs.drop c) (λbs cs ρ=>bs.length+cs.length=rs.length - c/\∃ v4,ρ=[some<|bx x2 y2,some<|.l<|rs.map aU,some<|.d<|.int (c:Int),some<|.l<|(rs.take c++[Rw.bin Wd.over j 0]++bs.map (oP c)).map aU,v4]) ⟨by rw[List.length_drop]; simp,none,?_⟩ ?_ ?_
 .rw[List.map_nil,List.append_nil,List.map_append]
  rfl
 .rintro bs a cs _ hW ⟨hs,v4,rfl⟩
  have hs:bs.length+(cs.length+1)=rs.length - c:=hs;have ll:((rs.take c++[Rw.bin Wd.over j 0]++bs.map (oP c)).map aU).length=c+1+bs.length:=by
   rw[List.length_map,qr,qr,List.length_map,List.length_take];simp;omega
  have en:∀ d,d=aU (oP c a)->(rs.take c++[Rw.bin Wd.over j 0]++bs.map (oP c)).map aU++[d]=(rs.take c++[Rw.bin Wd.over j 0]++(bs++[a]).map (oP c)).map aU:=λd hd=>by
   rw[hd,List.map_append (l₁:=bs),<-List.append_assoc (_++_),List.map_append (l₂:=[a].map (oP c))];rfl
  cases a with
  | num f=>
   simp![aU,Mq,ll];exact⟨by omega,_,by rw[<-en _ rfl]; rfl⟩
  | lt q=>
   simp![aU,Mp,ll];exact⟨by omega,_,by rw[<-en _ rfl]; rfl⟩
  | bin w p q=>
   have c1:∀ p:Nat,((p:Int)+if(c:Int)<=(p:Int)then 1 else 0)=((p+(if c<=p then 1 else 0):Nat):Int):=λp=>by
    by_cases h:c<=p
    .rw[if_pos h,if_pos (by omega)]; rfl
    .rw[if_neg h,if_neg (by omega)]; rfl
   simp![aU,MB,YI,ll];rw[c1,c1];exact⟨by omega,_,by rw[<-en _ rfl]; rfl⟩
 .rintro _ ⟨hs,v4,rfl⟩
  simp!;refine k (rs.take c++[Rw.bin Wd.over j 0]++(rs.drop c).map (oP c)) _ _ (hR.put (by omega) (by omega) (by omega)) ?_;simp;omega
end K49
open PySem L2
namespace K49
open PySem L2
theorem Mn{a:Int}:tV [.d<|.int a,.d<|.int 60]=some (.d<|.int (if(60:Int) < a then 60 else a)):=rfl
theorem Mm(ns:Qa Int)(hl:ns.length<=63):Wo (rW [.d<|.list<|ns.map .int]) λo=>o=(.d<|.bool true,[.d<|.list<|ns.map .int]):=by
 simp![rW,Gd];refine Mu (by decide) λx1 y1=>?_;simp!;refine dE (by decide) (by decide) λm x2 y2 h0 h1=>?_;simp!;refine R3 (by omega) (by omega) λls x3 y3 l1 ha=>?_;have n3:ls.length<=3:=by omega
 simp!;refine OI (n:=ls.length) (by omega) (by omega) λrs x4 y4 hR h3 h40=>?_;have lw:=Xk hR (by omega);have la:=xQ (rs:=rs) (by omega);simp![lw,la,Mn];refine dE (by decide) (by decide) λq x5 y5 h4 h5=>?_;simp!;generalize hmm:((wt rs (rs.length - 1):Nat):Int)+2=M at *;generalize hf:(if 60 < M then 60 else M)=fw at *;have f60:fw<=60:=by rw[<-hf]; split<;>omega
 refine Wo.mono (Q:=λfl=>∃ bs:Qa (Qb Int),fl=.nx [some<|.d<|.list<|ns.map .int,some<|bx x5 y5,some<|.d<|.tuple<|ls.map .str,some<|.l<|rs.map aU,some<|.d<|fK ls rs,some<|.d<|.int M,some<|.d<|.int fw,some<|.l<|bs.map bD,none,none]/\bs.length<=7/\∀ b∈bs,kY b<=100\/kY b < M) ?_ ?_
 .refine kR (λh=>?_) (λh=>?_)
  .simp!
   exact⟨[none,some fw,some<|fw - 1,some<|M - 1,some<|2+q,some 1,some M],rfl,by simp,λb hb=>by
    simp only[qu,List.not_mem_nil,or_false]at hb;rcases hb with rfl|rfl|rfl|rfl|rfl|rfl|rfl<;>simp only[kY]<;>omega⟩
  .simp!
   exact⟨[none,some fw,some<|fw - 1,some<|M - 1,some<|2+q,some 1],rfl,by simp,λb hb=>by
    simp only[qu,List.not_mem_nil,or_false]at hb;rcases hb with rfl|rfl|rfl|rfl|rfl|rfl<;>simp only[kY]<;>omega⟩
 rintro _ ⟨bs,rfl,b7,hb⟩;have hb:∀ b∈bs,kY b<=100\/kY b < ((wt rs (rs.length - 1)+2:Nat):Int):=λb z=>by have:=hb b z; omega
 simp!;refine yz (g:=bD) (as:=bs) (λcs ds ρ=>(∀ b∈ds,b∈bs)/\∃ v8,ρ=[some<|.d<|.list<|ns.map .int,some<|bx x5 y5,some<|.d<|.tuple<|ls.map .str,some<|.l<|rs.map aU,some<|.d<|fK ls rs,some<|.d<|.int M,some<|.d<|.int fw,some<|.d<|.list<|bs.map bD,v8,none]) ⟨λ_ z=>z,none,rfl⟩ ?_ ?_
 .rintro cs b ds _ _ ⟨hs,v8,rfl⟩
  have ro:=Dg (b:=b) n3 ha hR (by omega) (by omega) (hb b<|hs b (by simp));simp![ro];exact⟨λz hz=>hs z (by simp[hz]),_,rfl⟩
 rintro _ ⟨_,v8,rfl⟩;simp!;refine JO hR h3 (by omega) λYm x6 y6 Lr Eb=>?_;simp!;refine dE (by decide) (by decide) λq2 x7 y7 h6 h7=>?_;simp!;refine Wo.mono (Q:=λfl=>∃ (oR:Qa Rw) (x8 y8:Int),fl=.nx [some<|.d<|.list<|ns.map .int,some<|bx x8 y8,some<|.d<|.tuple<|ls.map .str,some<|.l<|rs.map aU,some<|.d<|fK ls rs,some<|.d<|.int M,some<|.d<|.int fw,some<|.d<|.list<|bs.map bD,v8,some<|.l<|oR.map aU]/\RO ls.length oR/\3<=oR.length/\oR.length<=60) ?_ ?_
 .refine kR (λh=>?_) (λh=>?_)
  .simp!
   refine JO Lr (by omega) (by omega) λoR x9 y9 E1 l2=>?_;simp!;exact⟨oR,_,_,rfl,E1,by omega,by omega⟩
  .simp!
   exact⟨Ym,_,_,rfl,Lr,by omega,by omega⟩
 rintro _ ⟨oR,x8,y8,rfl,E1,l3,l4⟩;simp!;refine yz (g:=bD) (as:=[none,some 1,some 60]) (λcs ds ρ=>(∀ b∈ds,b∈[none,some (1:Int),some 60])/\∃ v8,ρ=[some<|.d<|.list<|ns.map .int,some<|bx x8 y8,some<|.d<|.tuple<|ls.map .str,some<|.l<|rs.map aU,some<|.d<|fK ls rs,some<|.d<|.int M,some<|.d<|.int fw,some<|.d<|.list<|bs.map bD,v8,some<|.l<|oR.map aU]) ⟨λ_ z=>z,_,rfl⟩ ?_ ?_
 .rintro cs b ds _ _ ⟨hs,v8,rfl⟩
  have ro:=Dg (b:=b) n3 ha E1 (by omega) (by omega) (.inl (by
   have:=hs b (by simp);simp only[qu,List.not_mem_nil,or_false]at this;rcases this with rfl|rfl|rfl<;>decide))
  simp![ro];exact⟨λz hz=>by have:=hs z (by simp[hz]); simpa using this,_,rfl⟩
 rintro _ ⟨_,v9,rfl⟩;have ro:=Dg (b:=none) n3 ha hR (by omega) (by omega) (.inl (by decide));have rn:p9 [.d<|fK ls rs,.d .none]=some (.d<|.bool true,[.d<|fK ls rs,.d .none]):=ro;simp![rn]
theorem OH(ns:Qa Int)(hl:ns.length<=63):∃ outs,rW [.d<|.list<|ns.map .int]=some (.d<|.bool true,outs):=⟨_,iU<|Mm ns hl⟩
abbrev GL(K:qc):Sp:=nF K 1 rW
theorem all_mk{l:PySem.W.OpenLaw}{fa:Qg}(X:K.In h)(G:h.Ns mainGlobals mg)(Zf:mg "law"=some (.ref fa)){cE fj cF gA gy bV cI fi fm gz bF cc dq jg:Qg}{i5 i6 jd iZ fe je g7 hE ij gY d6 ik:Qc}{i4 jf g0 ir j7 qN:Qb Qg}{iX gU j0 qI:Array (Qb Qc)}{cH gu:Array Qc}{g9 oV:Nat}
  (a0:fA K "widths" Iq)
  (a1:fA K "width" Hl)
  (a2:fA K "leaf_entry" Ke)
  (a3:fA K "opened_ways" J5)
  (a4:wM K "web_of" IM 60)
  (a5:fA K "_law_box" JR)
  (a6:fA K "_law_take" JN)
  (a7:fA K "_law_names" JZ)
  (a8:fA K "_law_fraction" Kl)
  (a9:fA K "_law_number" Kq)
  (Az:fA K "_law_is_fraction" Kx)
  (LR:fA K "_law_is_entry" Kk)
  (LQ:fA K "_law_is_whole" Kj)
  (LP:fA K "_law_is_web" Ko)
  (LL:fA K "_law_widths" Kn)
  (LK:fA K "_law_rows" JM)
  (LJ:fA K "_law_with_over" KA)
  (LI:fA K "_law_heard" JY)
  (LH:fA K "_law_right" JX)
  (LG:fA K "law" Ge)
  (z0:PySem.W.nsIn K mainGlobals "enumerate"=some none)
  (z1:PySem.W.nsIn K mainGlobals "len"=some none)
  (z2:PySem.W.nsIn K mainGlobals "tuple"=some none)
  (z3:PySem.W.nsIn K mainGlobals "sorted"=some none)
  (z4:PySem.W.nsIn K mainGlobals "int"=some none)
  (z5:PySem.W.nsIn K mainGlobals "range"=some none)
  (z6:PySem.W.nsIn K mainGlobals "abs"=some none)
  (z7:PySem.W.nsIn K mainGlobals "isinstance"=some none)
  (z8:PySem.W.nsIn K mainGlobals "bool"=some none)
  (z9:PySem.W.nsIn K mainGlobals "list"=some none)
  (Dz:PySem.W.nsIn K mainGlobals "ValueError"=some none)
  (Dy:PySem.W.nsIn K mainGlobals "min"=some none)
  (DB:A5 K eE KD=true)
  (aF:PySem.W.nsIn K mainGlobals "UndivideError"=some (some<|.ref cE))
  (bB:PySem.W.nsIn K mainGlobals "BadText"=some (some<|.ref fj))
  (aT:PySem.W.nsIn K mainGlobals "BadLetters"=some (some<|.ref cF))
  (bT:PySem.W.nsIn K mainGlobals "BadRow"=some (some<|.ref gA))
  (bR:PySem.W.nsIn K mainGlobals "NoOver"=some (some<|.ref gy))
  (aP:PySem.W.nsIn K mainGlobals "TooMany"=some (some<|.ref bV))
  (dH:PySem.W.keepIn K (.ref bV)=true)
  (dI:PySem.W.findIn K (.ref bV) "__init__"=some (some<|.ref cI))
  (dG:K.lookup cI=some ⟨i5,i4,.func<|PySem.W.fnOf "__init__" "TooMany.__init__" (jx uI) (fE uI) (zo uI) .none i6 jd iZ jf fe je,iX⟩)
  (dR:PySem.W.codeIn K fe "TooMany.__init__"=true)
  (cP:PySem.W.keepIn K (.ref cI)=true)
  (cU:PySem.W.isFn K (.ref cI)=true)
  (bA:PySem.W.nsIn K mainGlobals "NoPaper"=some (some<|.ref fi))
  (bC:PySem.W.nsIn K mainGlobals "BadNode"=some (some<|.ref fm))
  (bS:PySem.W.nsIn K mainGlobals "BadWay"=some (some<|.ref gz))
  (aI:PySem.W.nsIn K mainGlobals "NotWhole"=some (some<|.ref bF))
  (cQ:PySem.W.keepIn K (.ref bF)=true)
  (cR:PySem.W.findIn K (.ref bF) "__init__"=some (some<|.ref cc))
  (cO:K.lookup cc=some ⟨g7,g0,.func<|PySem.W.fnOf "__init__" "NotWhole.__init__" (jx uH) (fE uH) (zo uH) .none hE ij gY ir d6 ik,gU⟩)
  (cV:PySem.W.codeIn K d6 "NotWhole.__init__"=true)
  (cA:PySem.W.keepIn K (.ref cc)=true)
  (cD:PySem.W.isFn K (.ref cc)=true)
  (DD:A3 K eE "UndivideError"=true)
  (ff:PySem.W.nsIn K mainGlobals "NOUGHT"=some (some<|.ref dq))
  (eV:K.lookup dq=some ⟨.type "tuple",j7,.seq cH g9,j0⟩)
  (eO:zH [.int<|0,.int<|1] cH.toList)
  (eN:cH.size<=sizeLine)
  (lN:PySem.W.nsIn K mainGlobals "ONE"=some (some<|.ref jg))
  (lE:K.lookup jg=some ⟨.type "tuple",qN,.seq gu oV,qI⟩)
  (lq:zH [.int<|1,.int<|1] gu.toList)
  (lh:gu.size<=sizeLine)
  : ∃ fd:FuncData,(∀ (s:Qd) (v:Qc),BindsTo s fd ⟨[v],[]⟩ [("_law_script",v)])/\∀ base:Heap,K.In base->base.Ns mainGlobals mg->bp l.prog w K mg base gN 7 fa fd ["_law_script"] (nF K 1 rW):=by
 have(_,fd,F,g):=LG;cases Zf.symm.trans (Ë X G g);refine⟨fd,λs v=>by have(_,_,_,_,_,_,_,_,_,rfl,_):=F.ex; exact .of_eq rfl,λbase _ _=>?_⟩;have hB:Bl mg ["enumerate", "len", "tuple", "sorted", "int", "range", "abs", "isinstance", "bool", "list", "ValueError", "min"]:=Bl.cons (È X G z0) (Bl.cons (È X G z1)<|Bl.cons (È X G z2)<|Bl.cons (È X G z3)<|Bl.cons (È X G z4)<|Bl.cons (È X G z5)<|Bl.cons (È X G z6)<|Bl.cons (È X G z7)<|Bl.cons (È X G z8)<|Bl.cons (È X G z9)<|Bl.cons (È X G Dz)<|Bl.cons (È X G Dy)<|Bl.nil);have hT:=NB DB;have br:=Ë X G aF;have dP:=Ë X G bB;have cb:=Ë X G aT;have fc:=Ë X G bT;have e8:=Ë X G bR;have bP:=Ë X G aP;have fX:=CC (st:=uI) dG dR cP;have bf:lO l.prog w K mg base "TooMany" bV "at":=⟨aP,(hT.cl _ _ _ rfl aP).1.cl,(hT.cl _ _ _ rfl aP).2 _ (by decide),bP,dH,⟨_,_,dI,cU,fX.binds (λ_ _ _ _ _ _ us hl=>by have(_,_,rfl):=tL hl; rfl),fX.ok (k:=0) Xc (λvs H Q E h=>Hu h) λaO A outer s H vs Q E hr kE=>⟨_,CO<|Im (pv 0) (pv 1) rfl,Ht kE⟩⟩⟩;have dN:=Ë X G bA;have dQ:=Ë X G bC;have e9:=Ë X G bS;have bg:=Ë X G aI;have fh:=CC (st:=uH) cO cV cA;have aW:lO l.prog w K mg base "NotWhole" bF "at":=⟨aI,(hT.cl _ _ _ rfl aI).1.cl,(hT.cl _ _ _ rfl aI).2 _ (by decide),bg,cQ,⟨_,_,cR,cD,fh.binds (λ_ _ _ _ _ _ us hl=>by have(_,_,rfl):=tL hl; rfl),fh.ok (k:=0) Xo (λvs H Q E h=>Hu h) λaO A outer s H vs Q E hr kE=>⟨_,CO<|Im (pv 0) (pv 1) rfl,Ht kE⟩⟩⟩;have hM:=Nx DD aF;have eZ:=Ë X G ff;have dM:mW K dq [0,1]:=⟨_,cH,g9,eV,rfl,rfl,eN,eO⟩;have hJ:=Ë X G lN;have eY:mW K jg [1,1]:=⟨_,gu,oV,lE,rfl,rfl,lh,lq⟩
 let Z:Zs:=⟨l.prog,w,K,mg,base⟩
 have B:Bs Z:=⟨hB,hT,⟨_,eZ,dM⟩,⟨_,hJ,eY⟩,⟨_,aF,br,hM⟩,⟨_,bB,dP⟩,⟨_,aT,cb⟩,⟨_,bT,fc⟩,⟨_,bR,e8⟩,⟨_,aP,bP,bf⟩,⟨_,bA,dN⟩,⟨_,bC,dQ⟩,⟨_,bS,e9⟩,⟨_,aI,bg,aW⟩⟩;have C0:=Tz B (a0.z X G);have C1:=R6 B (a1.z X G) C0;have C2:=Xn B (a2.z X G);have C3:=XG B (a3.z X G) C2;have C4:=Tx B (a4.z X G) C0 C3;have C5:=Xb B (a5.z X G);have C6:=Xm B (a6.z X G);have C7:=XF B (a7.z X G) C6;have C8:=X7 B (a8.z X G);have C9:=XX B (a9.z X G) C6 C8;have C10:=X8 B (Az.z X G) C8;have C11:=X5 B (LR.z X G) C10;have L7:=X6 B (LQ.z X G);have C13:=X2 B (LP.z X G) C11 L7;have L6:=XY B (LL.z X G);have C15:=Xl B (LK.z X G) C6 C9;have C16:=X3 B (LJ.z X G) C6;have C17:=XE B (LI.z X G) C4 L7;have Z9:=XB B (LH.z X G) C1 C13 L6 C17;exact N5 (Z:=Z) B F C5 C6 C7 L6 C15 C16 Z9
theorem walk{l:PySem.W.OpenLaw}{q:Qe}{loose:Qa Str}{XP:(Str->Qb Qc)->Heap->Prop}{YP:Qh->Heap->Prop}{d:DefRec}{K:Params->qc}(hn:l.most=some 63)(vF:d.params.defaults=[])
  (hY:∀ (w:Qh) (h:Heap),YP w h->(K w.params).In h)
  (F:∀ (w:Qh) (mg:Str->Qb Qc) (fa:Qg) (h:Heap),(K w.params).In h->h.Ns mainGlobals mg->mg d.name=some (.ref fa)->
   ∃ fd:FuncData,(∀ (s:Qd) (u:Qc),BindsTo s fd ⟨[u],[]⟩ [("_law_script",u)])/\∀ base:Heap,(K w.params).In base->base.Ns mainGlobals mg->bp l.prog w (K w.params) mg base gN 7 fa fd ["_law_script"] (GL<|K w.params)):
  PySem.W.WalkO q loose XP YP l.row.toRowW d [] (λf vs=>PySem.call f vs):=
 L2.nE (n:=63) (k:=7) (x := "_law_script") (CX:=λ_=>gN) (sp:=λw=>GL<|K w.params) hn (by decide) vF ⟨rfl,by decide,by decide,rfl⟩ hY F (λw H a ns hl hO hS=>OY hO hS<|OH ns hl) λ_ _ _ _ _ z=>z
end K49
namespace PySem.W.Fast
def tw13384880573604509224:=()
def tw7810052614375226281:=()
def tw8256733176875599947:=()
def tw12325507206578316141:=()
def tw2708359788736221433:=()
def tw17836322970991749464:=()
def tw18328128196874055804:=()
def tw2560279649805686296:=()
def tw12772652570201431270:=()
def tw12051114276583548452:=()
def tw4743170189029839056:=()
def tw13737545429241226460:=()
def tw2731720387779440750:=()
def tw1773011723543990625:=()
def tw9434919804518627355:=()
def tw9149716066490940911:=()
def tw1043166925900377950:=()
def tw14040735212656807517:=()
def tw4526379659168632836:=()
def tw5222587857613736950:=()
def tw1225793420415981914:=()
def tw10464010319504100844:=()
def tw6466293859172118877:=()
def tw8662545805293820127:=()
def tw10255502848052844834:=()
def tw2733139306772728961:=()
def tw18155104696307941259:=()
def tw17086830822442772311:=()
def tw8676606023040743677:=()
def tw15244970427804286407:=()
def tw11068361778381298056:=()
def tw4742836541358339839:=()
def tw11816104604881114977:=()
def tw16009959937058261640:=()
def tw7343680914872189851:=()
def tw9633402211659842551:=()
def tw7336890259000497726:=()
def tw13631255880116081557:=()
def tw18431396075834485739:=()
def tw9918062562330173260:=()
def tw8021052717585810016:=()
def tw10123105491920816183:=()
def tw17762939359625056515:=()
def tw9743345458983245394:=()
def tw10546032724236308166:=()
def tw6797077282137666819:=()
def tw2778338858554708303:=()
def tw3246527317540359053:=()
def tw5679613742511978246:=()
def tw11672441485335548913:=()
def tw6453904424088141596:=()
def tw8229862260992949170:=()
def tw14648427793893492680:=()
def tw7419272844450808436:=()
def tw4776173876949259080:=()
def tw7195803678100456647:=()
def tw1019178763762478188:=()
def tw14565821306398511419:=()
def tw3083274966171411055:=()
def tw4977385611354808826:=()
def tw9147864643812932624:=()
def tw14106909600339909672:=()
def tw6894802980688502929:=()
def tw13908913211876065773:=()
end PySem.W.Fast
open PySem PySem.W PyProof.Rows
set_option maxRecDepth 100000 in
set_option maxHeartbeats 0 in
theorem PySem.Challenge.cw_undivide_k49_too_wide_or_not_whole_holds : PySem.Challenge.rw_undivide_k49_too_wide_or_not_whole.Holds := by
 w_on; o_law; k_head; (case hw=>w_witness2)
 k_fill
 refine K49.walk (l:=PySem.Challenge.rw_undivide_k49_too_wide_or_not_whole) rfl rfl (λw h Y=>PySem.W.kIn_of Y) ?F
 case F=>
  intro w mg fa h KX G vB;refine' K49.all_mk KX G vB ?a0 ?a1 ?a2 ?a3 ?a4 ?a5 ?a6 ?a7 ?a8 ?a9 ?Az ?LR ?LQ ?LP ?LL ?LK ?LJ ?LI ?LH ?LG ?z0 ?z1 ?z2 ?z3 ?z4 ?z5 ?z6 ?z7 ?z8 ?z9 ?Dz ?Dy ?DB ?aF ?bB ?aT ?bT ?bR ?aP ?dH ?dI ?dG ?dR ?cP ?cU ?bA ?bC ?bS ?aI ?cQ ?cR ?cO ?cV ?cA ?cD ?DD ?ff ?eV ?eO ?eN ?lN ?lE ?lq ?lh
  any_goals (refine' L2.ZJ ?_ ?_ ?_ ?_<;>try k_is)
  any_goals (refine' L2.E8 ?_ ?_ ?_ ?_ ?_<;>try k_is)
  (case z0=>k_is)
  (case z1=>k_is)
  (case z2=>k_is)
  (case z3=>k_is)
  (case z4=>k_is)
  (case z5=>k_is)
  (case z6=>k_is)
  (case z7=>k_is)
  (case z8=>k_is)
  (case z9=>k_is)
  (case Dz=>k_is)
  (case Dy=>k_is)
  (case DB=>kernel_rfl)
  (case aF=>k_is)
  (case bB=>k_is)
  (case aT=>k_is)
  (case bT=>k_is)
  (case bR=>k_is)
  (case aP=>k_is)
  (case dH=>k_is)
  (case dI=>k_is)
  (case dG=>k_is)
  (case dR=>k_is)
  (case cP=>k_is)
  (case cU=>k_is)
  (case bA=>k_is)
  (case bC=>k_is)
  (case bS=>k_is)
  (case aI=>k_is)
  (case cQ=>k_is)
  (case cR=>k_is)
  (case cO=>k_is)
  (case cV=>k_is)
  (case cA=>k_is)
  (case cD=>k_is)
  (case DD=>kernel_rfl)
  (case ff=>k_is)
  (case eV=>k_is)
  (case eO=>(repeat (first|exact .nil|refine .cons ⟨_,rfl⟩ ?_)))
  (case eN=>exact by decide)
  (case lN=>k_is)
  (case lE=>k_is)
  (case lq=>(repeat (first|exact .nil|refine .cons ⟨_,rfl⟩ ?_)))
  (case lh=>exact by decide)
