import PyProof.Rows.All
import Wide.All
import OpenK.AllK
import Wide.FinOn
import Lean
import PyProof.EqAt
import PyProof.EqKinds
import PyProof.TupleCall
import PySem.Challenge.RW_undivide_k58_whole_two_are_not_enough
set_option Elab.async false
set_option linter.all false
set_option maxRecDepth 100000
set_option compiler.extract_closed false
local macro_rules | `(tactic| omega) => `(tactic| lia)
namespace L2
open PySem PySem.Spec PyProof.Rows
abbrev qa:=@wpAny_bind
abbrev qb:=@wpAny_pure
abbrev qc:=PySem.W.Frag
abbrev qd:=@Heap.get?_push_of_some
abbrev qe:=@Nat.le_refl
abbrev qf:=@Bool.false_ne_true
abbrev qg:=@Heap.get?_push_size
abbrev qh:=@Heap.lt_size
abbrev qi:=@Nat.lt_of_lt_of_le
abbrev qj:=@Nat.ne_of_lt
abbrev qk.{u}:=@List.getElem?_eq_some_iff.{u}
abbrev qm.{u}:=@List.getElem?_eq_getElem.{u}
abbrev qo.{u}:=@List.mem_cons_of_mem.{u}
abbrev qp.{u}:=@List.mem_cons_self.{u}
abbrev qq.{u}:=@List.mem_singleton.{u}
abbrev qr.{u,v}:=@Option.map_eq_some_iff.{u,v}
abbrev qt.{u}:=@List.length_append.{u}
abbrev qu.{u}:=@List.length_cons.{u}
abbrev qv.{u}:=@List.mem_cons.{u}
abbrev qw.{u}:=@List.mem_append_right.{u}
abbrev qx.{u}:=@Option.some.inj.{u}
abbrev qy:=@Nat.le_trans
abbrev qA:=@wpAny_newObj_type
abbrev qB.{u}:=@List.getD_eq_getElem?_getD.{u}
abbrev qC.{u}:=@List.getElem?_set_ne.{u}
abbrev Key:=Sum Int Str
def zgv:Key->Value->Bool
 | .inl k,v=>Value.isInt k v
 | .inr x,v=>Value.isStrOf x v
def zwY(w:World):Key->Int
 | .inl k=>hashInt k
 | .inr x=>hashStr w x
theorem zX:∀ {k:Key} {v:Value},zgv k v=true->(∃ i t,k=Sum.inl i/\v=Value.int i t)\/(∃ x t,k=Sum.inr x/\v=Value.str x t)
 | .inl i,v,h=>by
  obtain⟨t,e⟩:=Value.isInt_shape (k:=i) (v:=v) h;exact .inl ⟨i,t,rfl,e⟩
 | .inr x,v,h=>by
  obtain⟨t,e⟩:=Value.isStrOf_shape (x:=x) (v:=v) h;exact .inr ⟨x,t,rfl,e⟩
theorem zlK(i:Int)(t:Tok):zgv (.inl i) (.int i t)=true:=by simp [zgv,Value.isInt]
theorem zlL(x:Str)(t:Tok):zgv (.inr x) (.str x t)=true:=by simp [zgv,Value.isStrOf]
theorem zsQ(a b:Int):decide ((Sum.inl a:Key)=Sum.inl b)=(a==b):=by
 by_cases e:a=b
 ·subst e; simp
 ·have h:¬(Sum.inl a:Key)=Sum.inl b:=fun q=>e (Sum.inl.inj q)
  rw [decide_eq_false h];exact(beq_eq_false_iff_ne.mpr e).symm
theorem zsR(a b:Str):decide ((Sum.inr a:Key)=Sum.inr b)=decide (a=b):=by
 by_cases e:a=b
 ·subst e; simp
 ·have h:¬(Sum.inr a:Key)=Sum.inr b:=fun q=>e (Sum.inr.inj q)
  rw [decide_eq_false h,decide_eq_false e]
theorem zsS(a:Int)(b:Str):decide ((Sum.inl a:Key)=Sum.inr b)=false:=decide_eq_false (fun q=>nomatch q)
theorem zsT(a:Str)(b:Int):decide ((Sum.inr a:Key)=Sum.inl b)=false:=decide_eq_false (fun q=>nomatch q)
def zO(prog:Program)(w:World):PySem.KeyKind prog w Key where
 is:=zgv
 hash:=zwY w
 inj:=fun v a b ha hb=>by
  rcases zX ha with ⟨i,t,rfl,rfl⟩ | ⟨x,t,rfl,rfl⟩
  ·rcases zX hb with ⟨j,u,rfl,e⟩ | ⟨y,u,rfl,e⟩
   ·injection e with e1 _; rw [e1]
   ·exact nomatch e
  ·rcases zX hb with ⟨j,u,rfl,e⟩ | ⟨y,u,rfl,e⟩
   ·exact nomatch e
   ·injection e with e1 _; rw [e1]
 byValue:=fun k v h=>by
  rcases zX h with ⟨i,t,rfl,rfl⟩ | ⟨x,t,rfl,rfl⟩<;>rfl
 pyHash:=fun hv h=>by
  rcases zX hv with ⟨i,t,rfl,rfl⟩ | ⟨x,t,rfl,rfl⟩
  ·exact wpAny_pyHash_int h
  ·exact wpAny_pyHash_str h
 eqBool:=fun hu hv h=>by
  rcases zX hu with ⟨i,t,rfl,rfl⟩ | ⟨x,t,rfl,rfl⟩
  ·rcases zX hv with ⟨j,u,rfl,rfl⟩ | ⟨y,u,rfl,rfl⟩
   ·rw [zsQ]at h; exact wpAny_eqBool_int h
   ·rw [zsS]at h; exact SeqAt.EqAt.int_str i t y u _ _ _ _ h
  ·rcases zX hv with ⟨j,u,rfl,rfl⟩ | ⟨y,u,rfl,rfl⟩
   ·rw [zsT]at h; exact SeqAt.EqAt.str_int x t j u _ _ _ _ h
   ·rw [zsR]at h; exact wpAny_eqBool_str h
 «strs»:=fun k x t v h=>by
  rcases zX h with ⟨i,u,rfl,e⟩ | ⟨y,u,rfl,e⟩
  ·exact nomatch e
  ·injection e with e1 _
   subst e1;cases v<;>rfl
theorem zhR(prog:Program)(w:World)(i:Int)(t:Tok):(zO prog w).is (.inl i) (.int i t)=true:=zlK i t
theorem zhS(prog:Program)(w:World)(x:Str)(t:Tok):(zO prog w).is (.inr x) (.str x t)=true:=zlL x t
inductive V where
 | non | bl (b:Bool) | int (i:Int) | str (x:Str) | byt (b:Array UInt8) | flt (b:UInt64) | ref (a:Addr) | ty (n:String)
 deriving DecidableEq
def zI:V->Value->Prop
 | .non,u=>u=Value.none
 | .bl b,u=>u=Value.bool b
 | .int i,u=>∃ t,u=Value.int i t
 | .str x,u=>∃ t,u=Value.str x t
 | .byt b,u=>∃ t,u=Value.bytes b t
 | .flt b,u=>∃ t,u=Value.float b t
 | .ref a,u=>u=Value.ref a
 | .ty n,u=>u=Value.type n
abbrev zE:List V->List Value->Prop:=Paired zI
theorem zE.length{xs:List V}{us:List Value}(r:zE xs us):xs.length=us.length:=Paired.length r
theorem zE.get:∀ {xs:List V} {us:List Value} {i:Nat} {x:V},zE xs us->xs[i]?=some x->∃ u,us[i]?=some u/\zI x u
 | _,_,_,_,.nil,e=>by simp at e
 | _,_,0,_,.cons r _,e=>by simp at e; subst e; exact⟨_,rfl,r⟩
 | _,_,i+1,x,.cons _ t,e=>by
  obtain⟨u,h1,h2⟩:=zE.get (i:=i) (x:=x) t (by simpa using e);exact⟨u,by simpa using h1,h2⟩
theorem zE.set{x:V}{u:Value}(r:zI x u):∀ {xs:List V} {us:List Value} (i:Nat),zE xs us->zE (xs.set i x) (us.set i u)
 | _,_,_,.nil=>.nil
 | _,_,0,.cons _ t=>.cons r t
 | _,_,i+1,.cons q t=>.cons q (zE.set r i t)
theorem zE.append:∀ {xs ys:List V} {us ws:List Value},zE xs us->zE ys ws->zE (xs++ys) (us++ws)
 | _,_,_,_,.nil,s=>s
 | _,_,_,_,.cons r t,s=>.cons r (zE.append t s)
theorem zE.take:∀ {xs:List V} {us:List Value} (n:Nat),zE xs us->zE (xs.take n) (us.take n)
 | _,_,0,_=>.nil
 | _,_,_+1,.nil=>.nil
 | _,_,n+1,.cons r t=>.cons r (zE.take n t)
theorem zE.drop:∀ {xs:List V} {us:List Value} (n:Nat),zE xs us->zE (xs.drop n) (us.drop n)
 | _,_,0,r=>r
 | _,_,_+1,.nil=>.nil
 | _,_,n+1,.cons _ t=>zE.drop n t
def zcD:Option V->Option Value->Prop
 | some v,some u=>zI v u
 | none,none=>True
 | _,_=>False
def KV{κ:Type}:List (κ×V)->List (κ×Value)->Prop:=Paired fun(p:κ×V) (q:κ×Value)=>p.1=q.1/\zI p.2 q.2
def kV:Key->V
 | .inl i=>.int i
 | .inr x=>.str x
structure IK (prog:Program) (w:World) (J:Type) [DecidableEq J] where
 is:Heap->J->Value->Prop
 hash:J->Int
 draws:J->Nat
 dep:Nat
 inj:∀ {h:Heap} {v:Value} {x y:J},is h x v->is h y v->x=y
 keeps:∀ {h h':Heap} {k:J} {v:Value} {d:Addr} {o:Obj} {es ep},is h k v->h.get? d=some o->o.data=.dict es ep->Heap.SameBut d h h'->is h' k v
 pyHash:∀ {A:Around} {E:Value->Shared->Prop} {s:Shared} {k:J} {v:Value} {Q:Int->Shared->Prop},A.units+dep < cLine->is s.heap k v->Q (hash k) { s with toks:=s.toks+draws k } ->
  wpAny (model prog w) A (PySem.pyHash v) Q E s
 eqBool:∀ {A:Around} {E:Value->Shared->Prop} {s:Shared} {x y:J} {u v:Value} {Q:Bool->Shared->Prop},A.units+dep < cLine->is s.heap x u->is s.heap y v->Q (decide (x=y)) s ->
  wpAny (model prog w) A (PySem.eqBool u v) Q E s
 quiet:∀ {A:Around} {E:Value->Shared->Prop} {s:Shared} {k:J} {v:Value} {Q:Bool->Shared->Prop} (n:Nat),dep<=n->is s.heap k v->Q true s->wpAny (model prog w) A (eqIsQuiet n v) Q E s
section
variable {prog:Program} {w:World} {J:Type} [DecidableEq J] (I:IK prog w J)
inductive ItsAre (h:Heap):List J->List Value->Prop
 | nil:ItsAre h [] []
 | cons {k:J} {v:Value} {ks:List J} {vs:List Value}:I.is h k v->ItsAre h ks vs->ItsAre h (k::ks) (v::vs)
def zbQ(h:Heap)(ks:List J)(a:Addr):Prop:=∃ o items n,h.get? a=some o/\o.cls=.type "tuple"/\o.data=.seq items n/\ItsAre I h ks items.toList
def zgX(ks:List J):Int:=reduceHash (Builtin.Tuple.tupleHashOf (ks.map I.hash))
def ze6(ks:List J):Nat:=(ks.map I.draws).sum+1
variable {I}
theorem ItsAre.inj{h:Heap}{x y:List J}{vs:List Value}(hx:ItsAre I h x vs)(hy:ItsAre I h y vs):x=y:=by
 induction hx generalizing y with
 | nil=>cases hy; rfl
 | cons h1 _ ih =>
  cases hy with
  | cons h2 t2=>rw [I.inj h1 h2,ih t2]
theorem ItsAre.keeps{h h':Heap}{x:List J}{vs:List Value}{d:Addr}{o:Obj}{es ep}(hx:ItsAre I h x vs)(ho:h.get? d=some o)(hd:o.data=.dict es ep)(hs:Heap.SameBut d h h'):ItsAre I h' x vs:=by
 induction hx with
 | nil=>exact .nil
 | cons h1 _ ih=>exact .cons (I.keeps h1 ho hd hs) ih
theorem zbQ.typeIs{s:Shared}{ks:List J}{a:Addr}(x:zbQ I s.heap ks a):s.TypeIs (.ref a) "tuple":=let ⟨o,_,_,ho,hc,_⟩:=x; ⟨o,ho,hc⟩
theorem zbQ.tup{h:Heap}{ks:List J}{a:Addr}(x:zbQ I h ks a):∃ items,h.IsTuple a items:=let ⟨o,its,n,ho,hc,hd,_⟩:=x; ⟨its,o,ho,hc,n,hd⟩
theorem zbQ.inj{h:Heap}{a:Addr}{x y:List J}(hx:zbQ I h x a)(hy:zbQ I h y a):x=y:=by
 obtain⟨o,items,n,ho,_,hd,hi⟩:=hx;obtain⟨o',items',n',ho',_,hd',hi'⟩:=hy;obtain rfl:o=o':=qx (ho.symm.trans ho');rw [hd]at hd';injection hd' with h1 _;subst h1;exact hi.inj hi'
theorem zbQ.keeps{h h':Heap}{ks:List J}{a d:Addr}{o:Obj}{es ep}(x:zbQ I h ks a)(ho:h.get? d=some o)(hd:o.data=.dict es ep)(hs:Heap.SameBut d h h'):zbQ I h' ks a:=by
 obtain⟨o',items,n,ho',hc,hd',hi⟩:=x;have hne:a≠d:=by
  rintro rfl;obtain rfl:o'=o:=qx (ho'.symm.trans ho);rw [hd]at hd'; exact nomatch hd'
 exact⟨o',items,n,(hs.2 a hne).trans ho',hc,hd',hi.keeps ho hd hs⟩
variable {A:Around} {E:Value->Shared->Prop} {s:Shared}
theorem zjZ{ks:List J}{a:Addr}{Q:Int->Shared->Prop}(hu:A.units+(I.dep+1) < cLine)(hk:zbQ I s.heap ks a)(h:Q (zgX I ks) { s with toks:=s.toks+ze6 I ks }) :
  wpAny (model prog w) A (pyHash (.ref a)) Q E s:=by
 have hT:=hk.typeIs;obtain⟨o,items,n,ho,_,hd,hi⟩:=hk;unfold pyHash
 first | unfold pyHashByItsType | skip
 first | refine qa (wpAny_cRoomFor_or (.inr (by omega)) ?_) | skip
 refine qa (wpAny_specialOf hT PySem.F.slot_tuple_hash.lookup ?_);show wpAny _ _ (if(some (Value.builtin "tuple.__hash__")==some Value.none)=true then _ else _) Q E s;rw [if_neg (by rw [beq_builtin_none]; exact qf)];refine qa (wpAny_specialOf hT PySem.F.slot_tuple_hash.lookup ?_);show wpAny _ _ (callSpecialIfBoundUnlessNone? (.ref a) "__hash__" _ >>= _) Q E s;refine qa (wpAny_callSpecialIfBoundUnlessNone?_slot hT PySem.F.slot_tuple_hash (wpAny_call_entry PySem.F.slot_tuple_hash hT PySem.F.entry_tuple_hash ?_ (PySem.F.args_tuple_hash_1 _)));show wpAny _ _ (Builtin.Tuple.tupleItemsOf (.ref a) >>= _) _ _ s;refine qa (wpAny_tupleItemsOf ho hd ?_);refine qa ?_;rw [<-Array.forIn_toList];refine wpAny_forIn_list _
  (fun rest (b:Array Int) s'=>∃ done left,ks=done++left/\ItsAre I s.heap left rest/\b.toList=done.map I.hash/\s'={ s with toks:=s.toks+(done.map I.draws).sum })
  _ ?_ ?_ _ _ ⟨[],ks,rfl,hi,rfl,rfl⟩
 ·rintro x rest b s' ⟨done,left,rfl,hl,hb,rfl⟩
  cases hl with
  | @cons k _ ks' _ h1 hl' =>
   refine qa (I.pyHash (s:={ s with toks:=s.toks+(done.map I.draws).sum }) (by show A.units+1+I.dep < _; omega) h1 ?_)
   first
    | exact qb ⟨done++[k],ks',by simp,hl',by simp [hb],by simp [Nat.add_assoc]⟩
    | exact qa (qb (qb ⟨done++[k],ks',by simp,hl',by simp [hb],by simp [Nat.add_assoc]⟩))
 ·rintro b s' ⟨done,left,rfl,hl,hb,rfl⟩
  cases hl;rw [List.append_nil]at h;show wpAny _ _ (retInt (Builtin.Tuple.tupleHashOf b.toList)) _ _ _;rw [hb];refine wpAny_ret_mkInt ?_;show wpAny _ _ (if(decide (-(2:Int)^63<=Builtin.Tuple.tupleHashOf (done.map I.hash)) && decide (Builtin.Tuple.tupleHashOf (done.map I.hash) < 2^63))=true then _ else _) Q E _;unfold zgX reduceHash at h;unfold ze6 at h
  by_cases hr:(decide (-(2:Int)^63<=Builtin.Tuple.tupleHashOf (done.map I.hash)) && decide (Builtin.Tuple.tupleHashOf (done.map I.hash) < 2^63))=true
  ·rw [if_pos hr]
   rw [if_pos hr]at h;exact qb (by simpa [Nat.add_assoc] using h)
  ·rw [if_neg hr]
   rw [if_neg hr]at h;exact qa (wpAny_rule (qb (by simpa [Nat.add_assoc] using h)))
theorem zi7{x y:List J}{a b:Addr}{P:Fin->Shared->Prop}(hu:A.units+I.dep < cLine)(hx:zbQ I s.heap x a)(hy:zbQ I s.heap y b)(h:P (.done (.ret (.bool (decide (x=y))))) s) :
  wpAny (model prog w) A (Builtin.«tuple.__eq__» ⟨[.ref a,.ref b],[]⟩) P E s:=by
 have hTb:=hy.typeIs;obtain⟨oa,xs,na,hoa,_,hda,hia⟩:=hx;obtain⟨ob,ys,nb,hob,_,hdb,hib⟩:=hy;show wpAny _ _ (isInstance (.ref b) (.type "tuple") >>= _) _ _ s;refine qa (wpAny_isInstance hTb isSubtype_tuple_tuple ?_);simp only [Bool.not_true,Bool.false_eq_true,if_false];refine qa (wpAny_tupleItemsOf hoa hda ?_);refine qa (wpAny_tupleItemsOf hob hdb ?_);refine qa ?_;refine wpAny_forIn_list _
  (fun rest r s'=>r.1=none/\s'=s/\∃ x' y' xs' ys',rest=List.zip xs' ys'/\ItsAre I s.heap x' xs'/\ItsAre I s.heap y' ys'/\decide (x'=y')=decide (x=y)/\(xs'.length==ys'.length)=(xs.size==ys.size))
  _ ?_ ?_ _ _ ⟨rfl,rfl,x,y,xs.toList,ys.toList,rfl,hia,hib,rfl,by simp⟩
 ·rintro⟨u,v⟩ rest r s' ⟨hr,rfl,x',y',xs',ys',hz,hx',hy',hdec,hlen⟩
  cases hx' with
  | nil=>simp at hz
  | @cons k1 u' x'' xs'' h1 hx'' =>
   cases hy' with
   | nil=>simp at hz
   | @cons k2 v' y'' ys'' h2 hy'' =>
    simp only [List.zip_cons_cons,List.cons.injEq,Prod.mk.injEq]at hz;obtain⟨⟨rfl,rfl⟩,rfl⟩:=hz;refine qa (I.eqBool (x:=k1) (y:=k2) hu h1 h2 ?_)
    by_cases hk:k1=k2
    ·subst hk
     rw [decide_eq_true rfl];simp only [Bool.not_true,Bool.false_eq_true,if_false];refine qb ⟨rfl,rfl,x'',y'',xs'',ys'',rfl,hx'',hy'',?_,by simpa using hlen⟩;rw [<-hdec]
     by_cases hxy:x''=y''
     ·simp [hxy]
     ·simp [hxy]
    ·rw [decide_eq_false hk]
     simp only [Bool.not_false,if_true];have hf:decide (x=y)=false:=by rw [<-hdec]; simp [hk]
     rw [hf]at h;exact qa (qb (qb (qb h)))
 ·rintro⟨r1,r2⟩ s' ⟨hr,rfl,x',y',xs',ys',hz,hx',hy',hdec,hlen⟩
  simp only at hr;subst hr;refine qb ?_;have hfin:(xs.size==ys.size)=decide (x=y):=by
   rw [<-hdec,<-hlen];cases hx' with
   | nil =>
    cases hy' with
    | nil=>simp
    | cons _ _=>simp
   | cons _ _ =>
    cases hy' with
    | nil=>simp
    | cons _ _=>simp at hz
  show P (.done (.ret (.bool (xs.size==ys.size)))) s';rw [hfin]; exact h
theorem zrw{x y:List J}{a b:Addr}{Q:Bool->Shared->Prop}(hu:A.units+(I.dep+1) < cLine)(hx:zbQ I s.heap x a)(hy:zbQ I s.heap y b)(h:Q (decide (x=y)) s) :
  wpAny (model prog w) A (eqBool (.ref a) (.ref b)) Q E s:=by
 unfold eqBool
 try with_reducible refine wpAny_holding ?_
 show wpAny _ _ (if(Value.ref a==Value.ref b)=true then _ else _) Q E s
 by_cases hab:(Value.ref a==Value.ref b)=true
 ·rw [if_pos hab]
  have e:a=b:=by have:=eq_of_beq hab; injection this
  subst e;obtain rfl:=hx.inj hy;exact qa (wpAny_rule (qb (by simpa using h)))
 ·rw [if_neg hab]
  exact qa (wpAny_richCompare_same_room (op:=.Eq) hx.typeIs hy.typeIs PySem.F.slot_tuple_eq
   (wpAny_call_entry PySem.F.slot_tuple_eq hx.typeIs PySem.F.entry_tuple_eq (zi7 (by show A.units+1+I.dep < _; omega) hx hy ⟨_,rfl,(fun e=>nomatch e),wpAny_truthy_bool h⟩) (PySem.F.args_tuple_eq_2 _ _)) (by omega))
theorem zhT{ks:List J}{a:Addr}{Q:Bool->Shared->Prop}(n:Nat)(hn:I.dep+1<=n)(hk:zbQ I s.heap ks a)(h:Q true s):wpAny (model prog w) A (eqIsQuiet n (.ref a)) Q E s:=by
 have hT:=hk.typeIs;obtain⟨m,rfl⟩:∃ m,n=m+1:=⟨n - 1,by omega⟩;obtain⟨o,items,n',ho,_,hd,hi⟩:=hk;unfold eqIsQuiet;refine qa (wpAny_specialOf hT PySem.F.slot_tuple_eq.lookup ?_);show wpAny _ _ (isInstance (.ref a) (.type "tuple") >>= _) _ _ s;refine qa (wpAny_isInstance hT isSubtype_tuple_tuple ?_);simp only [Bool.not_true,Bool.false_eq_true,if_false];refine qa (wpAny_seqItems ho hd ?_);refine qa ?_;show wpAny _ _ (forIn items _ _) _ _ s;rw [<-Array.forIn_toList];refine wpAny_forIn_list _ (fun rest r s'=>r.1=none/\s'=s/\∃ ks',ItsAre I s.heap ks' rest) _ ?_ ?_ _ _ ⟨rfl,rfl,ks,hi⟩
 ·rintro v rest r s' ⟨hr,rfl,ks',hall⟩
  cases hall with
  | cons h1 t1 =>
   refine qa (I.quiet m (by omega) h1 ?_);simp only [Bool.not_true,Bool.false_eq_true,if_false];exact qb ⟨rfl,rfl,_,t1⟩
 ·rintro⟨r1,r2⟩ s' ⟨hr,rfl,_⟩
  simp only at hr;subst hr;exact qb h
end
def ikK(prog:Program)(w:World):IK prog w Key where
 is:=fun _ k v=>(zO prog w).is k v=true
 hash:=(zO prog w).hash
 draws:=fun _=>1
 dep:=0
 inj:=fun hx hy=>(zO prog w).inj _ _ _ hx hy
 keeps:=fun x _ _ _=>x
 pyHash:=fun _ hk h=>(zO prog w).pyHash hk h
 eqBool:=fun _ hx hy h=>(zO prog w).eqBool hx hy h
 quiet:=fun n _ hk h=>by rw [eqIsQuiet_byValue n ((zO prog w).byValue _ _ hk)]; exact qb h
def ikT{prog:Program}{w:World}{J:Type}[DecidableEq J](I:IK prog w J):IK prog w (Key ⊕ List J) where
 is:=fun h x v=>match x with
  | .inl k=>(zO prog w).is k v=true
  | .inr ks=>∃ a,v=.ref a/\zbQ I h ks a
 hash:=fun x=>match x with
  | .inl k=>(zO prog w).hash k
  | .inr ks=>zgX I ks
 draws:=fun x=>match x with
  | .inl _=>1
  | .inr ks=>ze6 I ks
 dep:=I.dep+1
 inj:=fun{h v x y} hx hy=>by
  cases x with
  | inl k =>
   cases y with
   | inl k'=>exact congrArg Sum.inl ((zO prog w).inj _ _ _ hx hy)
   | inr ks =>
    obtain⟨a,rfl,_⟩:=hy;rcases zX hx with ⟨i,t,_,e⟩ | ⟨z,t,_,e⟩<;>cases e
  | inr ks =>
   obtain⟨a,rfl,hx⟩:=hx;cases y with
   | inl k'=>rcases zX hy with ⟨i,t,_,e⟩ | ⟨z,t,_,e⟩<;>cases e
   | inr ks' =>
    obtain⟨b,e,hy⟩:=hy;cases e;exact congrArg Sum.inr (hx.inj hy)
 keeps:=fun{h h' k v d o es ep} x ho hd hs=>by
  cases k with
  | inl k=>exact x
  | inr ks =>
   obtain⟨a,e,x⟩:=x;exact⟨a,e,x.keeps ho hd hs⟩
 pyHash:=fun{A E s k v Q} hu hk h=>by
  cases k with
  | inl k=>exact(zO prog w).pyHash hk h
  | inr ks =>
   obtain⟨a,rfl,x⟩:=hk;exact zjZ hu x h
 eqBool:=fun{A E s x y u v Q} hu hx hy h=>by
  cases x with
  | inl k =>
   cases y with
   | inl k'=>exact(zO prog w).eqBool hx hy (by simpa using h)
   | inr ks =>
    obtain⟨b,rfl,hy⟩:=hy;obtain⟨its,ht⟩:=hy.tup;have h':Q false s:=by simpa using h
    rcases zX hx with ⟨i,t,rfl,rfl⟩ | ⟨z,t,rfl,rfl⟩
    ·exact SeqAt.EqAt.int_tuple i t ht (by omega) _ _ _ _ h'
    ·exact SeqAt.EqAt.str_tuple z t ht (by omega) _ _ _ _ h'
  | inr ks =>
   obtain⟨a,rfl,hx⟩:=hx;obtain⟨its,ht⟩:=hx.tup;cases y with
   | inl k' =>
    have h':Q false s:=by simpa using h
    rcases zX hy with ⟨i,t,rfl,rfl⟩ | ⟨z,t,rfl,rfl⟩
    ·exact SeqAt.EqAt.tuple_int i t ht (by omega) _ _ _ _ h'
    ·exact SeqAt.EqAt.tuple_str z t ht (by omega) _ _ _ _ h'
   | inr ks' =>
    obtain⟨b,rfl,hy⟩:=hy;exact zrw hu hx hy (by simpa using h)
 quiet:=fun{A E s k v Q} n hn hk h=>by
  cases k with
  | inl k=>rw [eqIsQuiet_byValue n ((zO prog w).byValue _ _ hk)]; exact qb h
  | inr ks =>
   obtain⟨a,rfl,x⟩:=hk;exact zhT n hn x h
def zsU{prog:Program}{w:World}{J:Type}[DecidableEq J](I:IK prog w J)(hI:I.dep<=7):HeapKind prog w (List J) where
 is:=zbQ I
 hash:=zgX I
 draws:=ze6 I
 room:=fun A=>A.units+(I.dep+1) < cLine
 inj:=fun hx hy=>hx.inj hy
 keeps:=fun x ho hd hs=>x.keeps ho hd hs
 pyHash:=fun hu hk h=>zjZ hu hk h
 eqBool:=fun hu hx hy h=>zrw hu hx hy h
 quiet:=fun hk h=>zhT 8 (by omega) hk h
abbrev K1:=Key ⊕ List Key
instance dK1:DecidableEq K1:=instDecidableEqSum
abbrev K2:=Key ⊕ List K1
instance dK2:DecidableEq K2:=instDecidableEqSum
abbrev K3:=Key ⊕ List K2
instance dK3:DecidableEq K3:=instDecidableEqSum
instance dL3:DecidableEq (List K3):=instDecidableEqList
def zhU(prog:Program)(w:World):HeapKind prog w (List K3):=zsU (ikT (ikT (ikT (ikK prog w)))) (by show 3<=7; decide)
inductive HO where
 | lst (xs:List V)
 | tup (xs:List V)
 | dK (kvs:List (Key×V)) | dT (kvs:List (List Key×V))
 | set (S:Int->Bool) (n:Nat)
 | ins (C dx:Addr) (fs:List (Str×V))
 | own (x:Addr)
 | xd (fs:List (Str×V))
 | met (f x:Addr)
 | rng (lo hi:Int)
 | frz (o:Obj) (u:HO)
 | tbl (ps:Array Value)
 | ext (φ:Heap->Prop)
 | sub (b:Addr) (p u:HO)
 | dX (kvs:List (List K3×V))
def HO.flat:HO->Bool
 | .lst _=>true
 | .dK _=>true
 | .dT _=>true
 | .dX _=>true
 | _=>false
abbrev Hp:=Addr->Option HO
def upd(H:Hp)(a:Addr)(o:HO):Hp:=fun b=>if b=a then some o else H b
theorem zr{H:Hp}{a:Addr}{o:HO}:upd H a o a=some o:=by unfold upd; rw [if_pos rfl]
theorem zq{H:Hp}{a b:Addr}{o:HO}(h:b≠a):upd H a o b=H b:=by unfold upd; rw [if_neg h]
theorem zpO{H:Hp}{a:Addr}{o u:HO}:upd (upd H a o) a u=upd H a u:=by
 funext b; unfold upd; split<;>rfl
theorem zfp{H:Hp}{a b:Addr}{o u:HO}(h:H a=some o)(h':H b=some u)(d:o≠u):a≠b:=by
 intro e; subst e; rw [h]at h'; exact d (qx h')
theorem zab{H:Hp}{a b:Addr}{o:HO}(h:H a=some o)(h':H b=none):a≠b:=by
 intro e; subst e; rw [h]at h'; cases h'
def zwZ(K:qc)(a:Addr)(xs:List V):Prop:=∃ (o:Obj) (its:Array Value) (n:Nat),K.lookup a=some o/\o.cls=.type "tuple"/\o.data=.seq its n/\its.size<=sizeLine/\zE xs its.toList/\∃ i r,xs=.int i::r
def TpK(K:qc)(H:Hp)(a:Addr)(xs:List V):Prop:=H a=some (.tup xs)\/zwZ K a xs
theorem TpK.keeps{K:qc}{H H':Hp}{a:Addr}{xs:List V}(h:TpK K H a xs)(ht:∀ b ys,H b=some (.tup ys)->H' b=some (.tup ys)):TpK K H' a xs:=h.imp (ht _ _) id
def zb6(h:Heap)(a:Addr)(items:Array Value):Prop:=∃ o,h.get? a=some o/\o.cls=.type "tuple"/\(∃ n,o.data=.seq items n)/\(o.dict=none\/∃ i t r,items.toList=.int i t::r)
theorem zb6.tup{h:Heap}{a:Addr}{items:Array Value}(x:zb6 h a items):IsTup h a items:=let ⟨o,e,c,d,_⟩:=x; ⟨o,e,c,d⟩
theorem zb6.lt{h:Heap}{a:Addr}{items:Array Value}(x:zb6 h a items):a < h.objs.size:=x.tup.lt
theorem zb6.new(h:Heap)(items:Array Value):zb6 (h.push { cls:=.type "tuple",data:=.seq items }) h.objs.size items:=⟨_,qg _ rfl,rfl,⟨_,rfl⟩,.inl rfl⟩
def N0(K:qc)(H:Hp)(ks:List Key)(a:Addr):Prop:=TpK K H a (ks.map kV)
def NI{J:Type}(P:List J->Addr->Prop)(x:Key ⊕ List J)(v:V):Prop:=match x with
 | .inl k=>v=kV k
 | .inr ks=>∃ b,v=.ref b/\P ks b
def Nst{J:Type}(K:qc)(H:Hp)(P:List J->Addr->Prop)(xs:List (Key ⊕ List J))(a:Addr):Prop:=∃ vs,TpK K H a vs/\Paired (NI P) xs vs
def N3(K:qc)(H:Hp):List K3->Addr->Prop:=Nst K H (Nst K H (Nst K H (N0 K H)))
theorem zj0{α β:Type}{F G:α->β->Prop}:∀ {l₁:List α} {l₂:List β},Paired F l₁ l₂->(∀ a b,F a b->G a b)->Paired G l₁ l₂
 | _,_,.nil,_=>.nil
 | _,_,.cons r t,f=>.cons (f _ _ r) (zj0 t f)
theorem Nst.keeps{J:Type}{K:qc}{H H':Hp}{P P':List J->Addr->Prop}{xs:List (Key ⊕ List J)}{a:Addr}(h:Nst K H P xs a)(ht:∀ b ys,H b=some (.tup ys)->H' b=some (.tup ys))(hp:∀ ks b,P ks b->P' ks b):Nst K H' P' xs a:=by
 obtain⟨vs,h1,h2⟩:=h;refine⟨vs,h1.keeps ht,zj0 h2 fun x v z=>?_⟩;cases x with
 | inl k=>exact z
 | inr ks=>obtain⟨b,e,z⟩:=z; exact⟨b,e,hp _ _ z⟩
theorem N3.keeps{K:qc}{H H':Hp}{xs:List K3}{a:Addr}(h:N3 K H xs a)(ht:∀ b ys,H b=some (.tup ys)->H' b=some (.tup ys)):N3 K H' xs a :=
 Nst.keeps h ht fun _ _ h=>Nst.keeps h ht fun _ _ h=>Nst.keeps h ht fun _ _ h=>TpK.keeps h ht
section
variable (P:Program) (w:World) (K:qc)
def zP(H:Hp)(h:Heap)(a:Addr):HO->Prop
 | .lst xs=>xs.length<=sizeLine/\∃ (its:List Value) (n:Nat),zE xs its/\h.get? a=some { cls:=.type "list",data:=.seq its.toArray n }
 | .tup xs=>xs.length<=sizeLine/\∃ its:List Value,zE xs its/\zb6 h a its.toArray
 | .dK kvs=>kvs.length<=sizeLine/\(a==sysModules)=false/\∃ vs,KV kvs vs/\h.DictOf (zO P w) a vs
 | .dT kvs=>kvs.length<=sizeLine/\(a==sysModules)=false/\∃ xs:List (List Key×Addr×Value),
   Paired (fun(p:List Key×V) (q:List Key×Addr×Value)=>p.1=q.1/\TpK K H q.2.1 (p.1.map kV)/\zI p.2 q.2.2) kvs xs /\
   ∃ o es ep,h.get? a=some o/\o.ExactDict/\o.data=.dict es ep/\es.toList=xs.map (entryOfKey (tupleKind (zO P w)))/\(xs.map (·.1)).Nodup
 | .dX kvs=>kvs.length<=sizeLine/\(a==sysModules)=false/\∃ xs:List (List K3×Addr×Value),
   Paired (fun(p:List K3×V) (q:List K3×Addr×Value)=>p.1=q.1/\N3 K H p.1 q.2.1/\zI p.2 q.2.2) kvs xs /\
   ∃ o es ep,h.get? a=some o/\o.ExactDict/\o.data=.dict es ep/\es.toList=xs.map (entryOfKey (zhU P w))/\(xs.map (·.1)).Nodup
 | .set S n=>h.SetOf (intKind P w) a S n
 | .ins C dx fs=>H dx=some (.own a)/\fs.length<=1000/\dx≠a/\h.get? a=some (PySem.W.instObj C dx) /\
   ∃ mA,h.Ns1 dx mA/\(∀ f,zcD (fs.lookup f) (mA f))/\PySem.Within mA (fs.map (·.1))
 | .own _=>∃ o,h.get? a=some o
 | .xd fs=>∃ mA,h.Ns1 a mA/\∀ f,zcD (fs.lookup f) (mA f)
 | .rng lo hi=>∃ t u v,h.get? a=some { cls:=.type "range",data:=.fields #[.int lo t,.int hi u,.int 1 v] }
 | .frz o u=>h.get? a=some o/\zP H h a u
 | .tbl ps=>h.get? a=some { cls:=.none,data:=.fields ps }
 | .met f x=>h.get? a=some (PySem.W.methodObj (.ref f) (.ref x))
 | .ext φ=>φ h/\(∃ o,h.get? a=some o)/\∀ h1 h2:Heap,φ h1->(∀ o,h1.get? a=some o->h2.get? a=some o)->φ h2
 | .sub b p u=>zP H h a u/\H b=some (.own a)/\b≠a/\p.flat=true/\zP H h b p
def HOk(H:Hp)(h:Heap):Prop:=∀ a o,H a=some o->zP P w K H h a o
end
section
variable {P:Program} {w:World} {K:qc} {H H':Hp} {h h':Heap} {a:Addr} {o:HO}
theorem zP.lt(x:zP P w K H h a o):a < h.objs.size:=by
 induction o with
 | sub b p u _ ih=>exact ih x.1
 | lst xs=>obtain⟨_,_,_,_,e⟩:=x; exact qh e
 | tup xs=>obtain⟨_,_,_,p⟩:=x; exact p.lt
 | dK kvs=>obtain⟨_,_,_,_,o,_,_,e,_⟩:=x; exact qh e
 | dT kvs=>obtain⟨_,_,_,_,o,_,_,e,_⟩:=x; exact qh e
 | dX kvs=>obtain⟨_,_,_,_,o,_,_,e,_⟩:=x; exact qh e
 | set S n=>obtain⟨o,_,_,_,e,_⟩:=x; exact qh e
 | ins C dx fs=>obtain⟨_,_,_,e,_⟩:=x; exact qh e
 | own y=>obtain⟨_,e⟩:=x; exact qh e
 | xd fs=>obtain⟨_,⟨_,_,_,e,_⟩,_⟩:=x; exact qh e
 | rng lo hi=>obtain⟨_,_,_,e⟩:=x; exact qh e
 | frz ob u _=>obtain⟨e,_⟩:=x; exact qh e
 | tbl ps=>exact qh (show h.get? a=some _ from x)
 | met f y=>exact qh (show h.get? a=some _ from x)
 | ext φ=>obtain⟨_,⟨_,e⟩,_⟩:=x; exact qh e
theorem Paired.mapP{α β:Type}{F G:α->β->Prop}:∀ {l₁:List α} {l₂:List β},Paired F l₁ l₂->(∀ a b,F a b->G a b)->Paired G l₁ l₂
 | _,_,.nil,_=>.nil
 | _,_,.cons r t,f=>.cons (f _ _ r) (Paired.mapP t f)
theorem zP.stayF(x:zP P w K H h a o)(f:o.flat=true)(k:∀ u,h.get? a=some u->h'.get? a=some u)(ht:∀ b xs,H b=some (.tup xs)->H' b=some (.tup xs)):zP P w K H' h' a o:=by
 cases o with
 | lst xs=>obtain⟨z,its,n,r,e⟩:=x; exact⟨z,its,n,r,k _ e⟩
 | dK kvs=>obtain⟨z,y,vs,r,ob,es,ep,e,c⟩:=x; exact⟨z,y,vs,r,ob,es,ep,k _ e,c⟩
 | dT kvs =>
  obtain⟨z,y,xs,r,ob,es,ep,e,c⟩:=x;exact⟨z,y,xs,Paired.mapP r fun p q z=>⟨z.1,z.2.1.keeps ht,z.2.2⟩,ob,es,ep,k _ e,c⟩
 | dX kvs =>
  obtain⟨z,y,xs,r,ob,es,ep,e,c⟩:=x;exact⟨z,y,xs,Paired.mapP r fun p q z=>⟨z.1,z.2.1.keeps ht,z.2.2⟩,ob,es,ep,k _ e,c⟩
 | _=>cases f
theorem zP.stay(x:zP P w K H h a o)(k:∀ b u,(b=a\/H b=some (.own a))->h.get? b=some u->h'.get? b=some u)
  (ho:∀ b,H b=some (.own a)->H' b=some (.own a)) (ht:∀ b xs,H b=some (.tup xs)->H' b=some (.tup xs)):zP P w K H' h' a o:=by
 induction o with
 | lst xs=>obtain⟨z,its,n,r,e⟩:=x; exact⟨z,its,n,r,k _ _ (.inl rfl) e⟩
 | tup xs=>obtain⟨z,its,r,ob,e,c⟩:=x; exact⟨z,its,r,ob,k _ _ (.inl rfl) e,c⟩
 | dK kvs=>obtain⟨z,y,vs,r,ob,es,ep,e,c⟩:=x; exact⟨z,y,vs,r,ob,es,ep,k _ _ (.inl rfl) e,c⟩
 | dT kvs =>
  obtain⟨z,y,xs,r,ob,es,ep,e,c⟩:=x;exact⟨z,y,xs,Paired.mapP r fun p q z=>⟨z.1,z.2.1.keeps ht,z.2.2⟩,ob,es,ep,k _ _ (.inl rfl) e,c⟩
 | dX kvs =>
  obtain⟨z,y,xs,r,ob,es,ep,e,c⟩:=x;exact⟨z,y,xs,Paired.mapP r fun p q z=>⟨z.1,z.2.1.keeps ht,z.2.2⟩,ob,es,ep,k _ _ (.inl rfl) e,c⟩
 | set S n=>obtain⟨ob,es,ep,t,e,c⟩:=x; exact⟨ob,es,ep,t,k _ _ (.inl rfl) e,c⟩
 | ins C dx fs =>
  obtain⟨d,z,ne,e,mA,⟨od,es,ep,e2,c⟩,r⟩:=x;exact⟨ho _ d,z,ne,k _ _ (.inl rfl) e,mA,⟨od,es,ep,k _ _ (.inr d) e2,c⟩,r⟩
 | own y=>obtain⟨ob,e⟩:=x; exact⟨ob,k _ _ (.inl rfl) e⟩
 | xd fs=>obtain⟨mA,⟨od,es,ep,e,c⟩,r⟩:=x; exact⟨mA,⟨od,es,ep,k _ _ (.inl rfl) e,c⟩,r⟩
 | rng lo hi=>obtain⟨t,u,v,e⟩:=x; exact⟨t,u,v,k _ _ (.inl rfl) e⟩
 | frz ob u ih=>obtain⟨e,q⟩:=x; exact⟨k _ _ (.inl rfl) e,ih q⟩
 | tbl ps =>
  have e:h.get? a=some { cls:=.none,data:=.fields ps }:=x;show h'.get? a=some { cls:=.none,data:=.fields ps };exact k a _ (.inl rfl) e
 | met f y =>
  have e:h.get? a=some (PySem.W.methodObj (.ref f) (.ref y)):=x;show h'.get? a=some (PySem.W.methodObj (.ref f) (.ref y));exact k a _ (.inl rfl) e
 | ext φ=>obtain⟨p,⟨o,e⟩,st⟩:=x; exact⟨st _ _ p fun o q=>k _ _ (.inl rfl) q,⟨o,k _ _ (.inl rfl) e⟩,st⟩
 | sub b p u _ ih=>obtain⟨y,e,n,f,q⟩:=x; exact⟨ih y,ho _ e,n,f,q.stayF f (fun u z=>k _ _ (.inr e) z) ht⟩
theorem HOk.lt(x:HOk P w K H h)(e:H a=some o):a < h.objs.size:=(x a o e).lt
theorem HOk.fresh(x:HOk P w K H h)(e:h.objs.size<=a):H a=none:=by
 cases q:H a with
 | none=>rfl
 | some u=>exact absurd (qi (x.lt q) e) (Nat.lt_irrefl _)
theorem HOk.kept(x:HOk P w K H h)(k:∀ b u,h.get? b=some u->h'.get? b=some u):HOk P w K H h':=fun a o e =>
 (x a o e).stay (fun b u _ q=>k b u q) (fun _ q=>q) fun _ _ q=>q
theorem HOk.laid(x:HOk P w K H h)(k:∀ b u,h.get? b=some u->h'.get? b=some u)(hp:h.objs.size<=a)(new:zP P w K (upd H a o) h' a o):HOk P w K (upd H a o) h':=fun b u e=>by
 have hn:=x.fresh hp
 by_cases hb:b=a
 ·subst hb; rw [zr]at e; cases e; exact new
 ·rw [zq hb]at e
  exact(x b u e).stay (fun c v _ q=>k c v q) (fun c q=>by rw [zq (zab q hn)]; exact q) fun c xs q=>by rw [zq (zab q hn)]; exact q
end
def Rd(H:Hp)(a:Addr)(u:HO):Prop:=H a=some u\/∃ o,H a=some (.frz o u)
theorem Rd.ok{P:Program}{w:World}{K:qc}{H:Hp}{h:Heap}{a:Addr}{u:HO}(r:Rd H a u)(x:HOk P w K H h):zP P w K H h a u:=by
 rcases r with r | ⟨o,r⟩
 ·exact x a u r
 ·obtain⟨_,q⟩:=x a _ r
  exact q
def Mut:Option HO->Prop
 | some (.lst _)=>True
 | some (.dK _)=>True
 | some (.dT _)=>True
 | some (.set _ _)=>True
 | some (.ins _ _ _)=>True
 | some (.ext _)=>True
 | some (.sub _ _ _)=>True
 | some (.dX _)=>True
 | _=>False
section
variable {P:Program} {w:World} {K:qc} {H:Hp} {h h':Heap} {x e:Addr} {o':HO}
theorem HOk.write(ok:HOk P w K H h)(mu:Mut (H x))(he:e=x\/H e=some (.own x))(k:∀ b u,b≠e->h.get? b=some u->h'.get? b=some u)(heo:∃ u,h'.get? e=some u)
  (new:zP P w K (upd H x o') h' x o'):HOk P w K (upd H x o') h':=fun b u q=>by
 have nown:∀ c y,H c=some (.own y)->c≠x:=fun c y r z=>by subst z; rw [r]at mu; exact mu
 have ntup:∀ c xs,H c=some (.tup xs)->c≠x:=fun c xs r z=>by subst z; rw [r]at mu; exact mu
 by_cases hb:b=x
 ·subst hb; rw [zr]at q; cases q; exact new
 ·rw [zq hb]at q
  by_cases hbe:b=e
  ·have q':H b=some (.own x):=by
    rcases he with z | z
    ·exact absurd (hbe.trans z) hb
    ·rw [hbe]; exact z
   rw [q]at q'; cases q';obtain⟨v,hv⟩:=heo;exact⟨v,by rw [hbe]; exact hv⟩
  ·refine(ok b u q).stay (fun c v hc r=>k c v ?_ r) (fun c r=>by rw [zq (nown c b r)]; exact r) fun c xs r=>by rw [zq (ntup c xs r)]; exact r
   rcases hc with rfl | hc
   ·exact hbe
   ·rintro rfl
    rcases he with z | z
    ·exact nown c b hc z
    ·rw [hc]at z; cases z; exact hb rfl
end
structure Un (fs ex:List Addr) (H H':Hp) (h h':Heap):Prop where
 keep:∀ b o,h.get? b=some o->H b=none->b∉fs->b∉ex->h'.get? b=some o
 slot:∀ b o,h.get? b=some o->H b=none->b∈fs->b∉ex->∃ sl,h'.get? b=some { o with slots:=sl }
 free:∀ b o,h.get? b=some o->H b=none->b∉ex->H' b=none
 there:∀ b o,h.get? b=some o->b∉ex->∃ o',h'.get? b=some o'
 tups:∀ b xs,H b=some (.tup xs)->H' b=some (.tup xs)
 frzs:∀ b o u,H b=some (.frz o u)->H' b=some (.frz o u)
 tbls:∀ b ps,H b=some (.tbl ps)->∃ more,H' b=some (.tbl (ps++more))
section
variable {fs fs' ex ex':List Addr} {H H1 H2:Hp} {h h1 h2 h':Heap} {a x e:Addr} {o:HO}
theorem Un.any(u:Un fs ex H H1 h h1){b:Addr}{ob:Obj}(q:h.get? b=some ob)(n:H b=none)(hx:b∉ex):∃ sl,h1.get? b=some { ob with slots:=sl }:=by
 by_cases hb:b∈fs
 ·exact u.slot b ob q n hb hx
 ·exact⟨ob.slots,u.keep b ob q n hb hx⟩
theorem Un.kept(k:∀ b u,h.get? b=some u->h'.get? b=some u):Un fs ex H H h h' :=
 ⟨fun b ob q _ _ _=>k b ob q,fun b ob q _ _ _=>⟨ob.slots,k b ob q⟩,fun _ _ _ n _=>n,fun b ob q _=>⟨ob,k b ob q⟩,fun _ _ q=>q,fun _ _ _ q=>q,fun _ ps q=>⟨#[],by rw [q]; simp⟩⟩
theorem Un.refl:Un fs ex H H h h:=Un.kept fun _ _ q=>q
theorem Un.laid(k:∀ b u,h.get? b=some u->h'.get? b=some u)(hp:h.objs.size<=a)(hn:H a=none):Un fs ex H (upd H a o) h h' where
 keep:=fun b u q _ _ _=>k b u q
 slot:=fun b u q _ _ _=>⟨u.slots,k b u q⟩
 free:=fun b u q n _=>by rw [zq (qj (qi (qh q) hp))]; exact n
 there:=fun b u q _=>⟨u,k b u q⟩
 tups:=fun b xs q=>by rw [zq (zab q hn)]; exact q
 frzs:=fun b u xs q=>by rw [zq (zab q hn)]; exact q
 tbls:=fun b ps q=>⟨#[],by rw [zq (zab q hn),q]; simp⟩
theorem Un.write(mu:Mut (H x))(he:e=x\/H e=some (.own x))(k:∀ b u,b≠e->h.get? b=some u->h'.get? b=some u)(heo:∃ u,h'.get? e=some u):Un fs ex H (upd H x o) h h':=by
 have hx:∀ b,H b=none->b≠x:=fun b n z=>by subst z; rw [n]at mu; exact mu
 have hb:∀ b,H b=none->b≠e:=fun b n z=>by
  subst z;rcases he with r | r
  ·exact hx b n r
  ·rw [n]at r; cases r
 have hm:∀ b u,H b=some u->¬Mut (some u)->b≠x:=fun b u q nm z=>by subst z; rw [q]at mu; exact nm mu
 refine⟨fun b u q n _ _=>k b u (hb b n) q,fun b u q n _ _=>⟨u.slots,k b u (hb b n) q⟩,fun b u q n _=>by rw [zq (hx b n)]; exact n,fun b u q _=>?_,
  fun b xs q=>by rw [zq (hm b _ q fun z=>z)]; exact q,fun b u xs q=>by rw [zq (hm b _ q fun z=>z)]; exact q,fun b ps q=>⟨#[],by rw [zq (hm b _ q fun z=>z),q]; simp⟩⟩
 by_cases hbe:b=e
 ·subst hbe; exact heo
 ·exact⟨u,k b u hbe q⟩
end
def trk(h:Heap)(H:Hp):List Addr:=(List.range h.objs.size).filter fun a=>(H a).isSome
def zgY(h:Heap)(H:Hp):Heap:=PySem.W.hideAll h (trk h H)
theorem zlM(h:Heap)(H:Hp):(zgY h H).objs.size=h.objs.size:=PySem.W.hideAll_size _ _
theorem zmA{h:Heap}{H:Hp}{b:Addr}{o:Obj}(e:h.get? b=some o)(n:H b=none):(zgY h H).get? b=some o :=
 PySem.W.hideAll_get _ e fun hm=>by
  have q:(H b).isSome=true:=(List.mem_filter.mp hm).2;rw [n]at q; simp at q
theorem zpP{h:Heap}{H:Hp}{b:Addr}{o:Obj}(e:(zgY h H).get? b=some o):h.get? b=some o/\H b=none:=by
 have e':h.get? b=some o:=PySem.W.of_hideAll (trk h H) e;refine⟨e',?_⟩;cases q:H b with
 | none=>rfl
 | some x =>
  have hm:b∈trk h H:=List.mem_filter.mpr ⟨List.mem_range.mpr (qh e'),by simp [q]⟩;have z:(zgY h H).get? b=none:=PySem.W.hideAll_none (trk h H) hm;rw [z]at e; cases e
def zpQ(g h:Heap)(L:Addr):List (Addr×Obj):=(List.range h.objs.size).filterMap fun a=>if a=L\/(g.get? a).isSome=true then none else(h.get? a).map fun o=>(a,o)
def rest(g h:Heap)(L d:Addr):List (Addr×Obj):=(zpQ g h L).filter fun p=>decide (p.1≠d)
structure Mod (K:qc) (mg:Str->Option Value) (base:Heap):Prop where
 kin:K.In base
 glob:base.Ns mainGlobals mg
 blt:∃ mb,base.Ns builtinsNs mb/\∀ x:Str,x ≠ "__name__"->mb x=bootBuiltins x
 nolimit:base.NoLimit
structure Cx where
 prog:Program
 w:World
 K:qc
 mg:Str->Option Value
 base:Heap
 A:Around
 N:List Str
 s₀:Shared
 H₀:Hp
 env:Env
 outer:List Env
 stack:List Env
 ex:List Addr
 fn:Str->Bool
 calm:Bool
 pn:List (Addr×Obj)
 xe:Value->Shared->Prop
def frs(l:List Env):List Addr:=l.filterMap (·.frame)
abbrev Cx.fs(X:Cx):List Addr:=frs X.outer
def Vis(sc:Scope)(x:Str):Prop:=sc.names.lookup x=some .local\/sc.names.lookup x=some .cell\/sc.names.lookup x=some .free
def Loc(sc:Scope)(x:Str):Prop:=sc.names.lookup x=some .local\/sc.names.lookup x=some .cell
def zw0(env:Env)(h:Heap)(m:Str->Option Value)(x:Str)(u:Value):Prop :=
 (env.kindOf x=some .local/\m x=some u)\/((env.kindOf x=some .cell\/env.kindOf x=some .free)/\∃ c,env.cells.lookup x=some c/\h.IsCell c (some u))
structure Cx.Ok (X:Cx):Prop where
 mod:Mod X.K X.mg X.base
 kind:X.env.scope.kind=.function
 glob:X.env.globals=mainGlobals
 blt:X.env.builtins=builtinsNs
 above:X.s₀.heap.objs.size<=X.env.locals
 inj:∀ x y c,X.env.cells.lookup x=some c->X.env.cells.lookup y=some c->x=y
 has:∀ x,(X.env.kindOf x=some .cell\/X.env.kindOf x=some .free)->∃ c,X.env.cells.lookup x=some c
 cab:∀ x c,X.fn x=true->X.env.cells.lookup x=some c->X.s₀.heap.objs.size<=c
 hd:X.calm=true->X.A.handled=none
 frames:X.A.frames=some X.stack
 stk:X.stack=X.outer\/(X.stack=X.env::X.outer/\X.env.frame=some X.env.locals)
 exf:∀ b∈X.ex,b≠X.env.locals/\∀ x c,X.env.cells.lookup x=some c->c≠b
 bs:∀ b o,X.base.get? b=some o->X.s₀.heap.get? b=some o/\X.H₀ b=none
 bsz:X.base.objs.size<=X.s₀.heap.objs.size
 noex:∀ b o,X.base.get? b=some o->b∉X.ex
 exfs:∀ b∈X.ex,b∉X.fs
 funs:X.s₀.heap.FunFrames X.base X.outer
 frf:∀ b∈X.fs,X.H₀ b=none
structure Inv (X:Cx) (pins:List (Addr×Obj)) (σ:List (Option V)) (H:Hp) (s:Shared):Prop where
 ok:X.Ok
 os:s.os=X.s₀.os
 bare:AllBare s.gens
 base:Un X.fs X.ex X.H₀ H X.s₀.heap s.heap
 loc:∃ m,s.heap.Ns X.env.locals m/\∀ (i:Nat) (x:Str) (v:V),X.N[i]?=some x->σ[i]?=some (some v)->Vis X.env.scope x->∃ u,zI v u/\zw0 X.env s.heap m x u
 cell:∀ x c,X.env.cells.lookup x=some c->∃ v,s.heap.IsCell c v
 free:H X.env.locals=none
 freeC:∀ x c,X.env.cells.lookup x=some c->H c=none
 pin:∀ p∈X.pn++pins,s.heap.get? p.1=some p.2/\H p.1=none/\p.1≠X.env.locals/\p.1∉X.fs/\∀ v,p.2.data≠.cell v
 hok:HOk X.prog X.w X.K H s.heap
 len:σ.length=X.N.length
section
variable {X:Cx} {pins:List (Addr×Obj)} {σ:List (Option V)} {H H':Hp} {s:Shared} {h':Heap}
theorem Cx.Ok.nofr(ok:X.Ok){b:Addr}{o:Obj}(e:X.base.get? b=some o):b∉X.fs:=fun hb=>by
 have:=(ok.funs.mem hb).1;rw [e]at this; cases this
theorem Inv.bs(I:Inv X pins σ H s):∀ b o,X.base.get? b=some o->s.heap.get? b=some o/\H b=none:=fun b o e =>
 ⟨I.base.keep b o (I.ok.bs b o e).1 (I.ok.bs b o e).2 (I.ok.nofr e) (I.ok.noex b o e),I.base.free b o (I.ok.bs b o e).1 (I.ok.bs b o e).2 (I.ok.noex b o e)⟩
theorem Inv.bk(I:Inv X pins σ H s):∀ b o,X.base.get? b=some o->s.heap.get? b=some o:=fun b o e=>(I.bs b o e).1
theorem Inv.mod(I:Inv X pins σ H s):Mod X.K X.mg X.base:=I.ok.mod
theorem Inv.kIn(I:Inv X pins σ H s):X.K.In s.heap:=I.ok.mod.kin.keeps I.bk
theorem Inv.fr(I:Inv X pins σ H s):∃ m,Fr X.base X.env.locals s.heap m :=
 let ⟨m,hn,_⟩:=I.loc
 ⟨m,hn,I.bk,qy I.ok.bsz I.ok.above⟩
theorem Inv.lt(I:Inv X pins σ H s):X.env.locals < s.heap.objs.size:=let ⟨_,hn,_⟩:=I.loc; hn.lt
theorem Inv.sz(I:Inv X pins σ H s):X.s₀.heap.objs.size<=s.heap.objs.size:=qy I.ok.above (Nat.le_of_lt I.lt)
theorem Inv.nofs(I:Inv X pins σ H s){a:Addr}(h:s.heap.objs.size<=a):a∉X.fs:=fun hb=>by
 obtain⟨_,o,ho,_⟩:=I.ok.funs.mem hb;exact absurd (qi (qh ho) (qy I.sz h)) (Nat.lt_irrefl _)
theorem Inv.cne(I:Inv X pins σ H s):∀ x c,X.env.cells.lookup x=some c->c≠X.env.locals:=fun x c e z=>by
 obtain⟨v,o,ho,hd⟩:=I.cell x c e;obtain⟨m,⟨o',es,ep,ho',hd',_⟩,_⟩:=I.loc;rw [z,ho']at ho; cases ho; rw [hd']at hd; cases hd
theorem Inv.funs(I:Inv X pins σ H s):s.heap.FunFrames X.base X.outer:=by
 have all:∀ (l:List Env),(∀ b∈frs l,b∈X.fs)->X.s₀.heap.FunFrames X.base l->s.heap.FunFrames X.base l:=by
  intro l
  induction l with
  | nil=>intro _ _; trivial
  | cons env r ih =>
   intro hs hl;obtain⟨hk,⟨L,o,hf,hn,ho,hd⟩,hr⟩:=hl;have hL:L∈X.fs:=hs L (by unfold frs; rw [List.filterMap_cons,hf]; exact qp);obtain⟨sl,e⟩:=I.base.slot L o ho (I.ok.frf L hL) hL fun z=>I.ok.exfs L z hL;exact⟨hk,⟨L,_,hf,hn,e,hd⟩,ih (fun b hb=>hs b (by unfold frs; rw [List.filterMap_cons,hf]; exact qo _ hb)) hr⟩
 exact all X.outer (fun _ hb=>hb) I.ok.funs
theorem Inv.stack(I:Inv X pins σ H s):s.heap.FunFrames X.base X.stack:=by
 rcases I.ok.stk with e | ⟨e,hf⟩
 ·rw [e]; exact I.funs
 ·rw [e]
  obtain⟨m,hn,_⟩:=I.loc;refine .cons (by rw [I.ok.kind]; decide) hf hn ?_ I.funs;exact Heap.get?_none_of_le (qy I.ok.bsz I.ok.above)
theorem Inv.stkSub(I:Inv X pins σ H s):∀ b∈frs X.stack,b∈X.env.locals::X.fs:=fun b hb=>by
 rcases I.ok.stk with e | ⟨e,hf⟩
 ·rw [e]at hb; exact qo _ hb
 ·rw [e]at hb
  unfold frs at hb;rw [List.filterMap_cons,hf]at hb;exact hb
theorem Inv.stkFree(I:Inv X pins σ H s):∀ b∈frs X.stack,H b=none:=fun b hb=>by
 rcases qv.mp (I.stkSub b hb)with e | hb
 ·rw [e]; exact I.free
 ·obtain⟨_,o,ho,_⟩:=I.ok.funs.mem hb
  exact I.base.free b o ho (I.ok.frf b hb) fun z=>I.ok.exfs b z hb
theorem Inv.step{g':Array GenState}{t':Nat}{d':Drawn}{ch:List Addr}(I:Inv X pins σ H s)
  (hch:∀ b∈ch,(b∈X.ex\/X.s₀.heap.objs.size<=b)/\b≠X.env.locals/\(∀ x c,X.env.cells.lookup x=some c->c≠b)/\∀ p∈X.pn++pins,p.1≠b)
  (keep:∀ b o,b≠X.env.locals->b∉X.fs->b∉ch->s.heap.get? b=some o->H b=none->h'.get? b=some o)
  (slot:∀ b o,b≠X.env.locals->b∈X.fs->b∉ch->s.heap.get? b=some o->H b=none->∃ sl,h'.get? b=some { o with slots:=sl }) (free:∀ b o,b∉ch->s.heap.get? b=some o->H b=none->H' b=none)
  (there:∀ b o,b∉ch->s.heap.get? b=some o->∃ o',h'.get? b=some o')
  (tups:∀ b xs,H b=some (.tup xs)->H' b=some (.tup xs)) (frzs:∀ b o u,H b=some (.frz o u)->H' b=some (.frz o u)) (tbls:∀ b ps,H b=some (.tbl ps)->∃ more,H' b=some (.tbl (ps++more)))
  (ns:∀ m,s.heap.Ns X.env.locals m->h'.Ns X.env.locals m) (hok:HOk X.prog X.w X.K H' h') (hg:AllBare g') :
  Inv X pins σ H' { s with heap:=h',gens:=g',drawn:=d',toks:=t' }:=by
 have neL:∀ b o,X.s₀.heap.get? b=some o->b≠X.env.locals:=fun b o e=>qj (qi (qh e) I.ok.above);have neC:∀ b o,X.s₀.heap.get? b=some o->b∉X.ex->b∉ch:=fun b o e hx hb=>by
  rcases(hch b hb).1 with z | z
  ·exact hx z
  ·exact absurd (qi (qh e) z) (Nat.lt_irrefl _)
 have cellK:∀ x c,X.env.cells.lookup x=some c->∀ v,s.heap.IsCell c v->h'.IsCell c v:=fun x c e v ⟨o,ho,hd⟩=>by
  have nch:c∉ch:=fun z=>(hch c z).2.2.1 x c e rfl
  by_cases hc:c∈X.fs
  ·obtain⟨sl,q⟩:=slot c o (I.cne x c e) hc nch ho (I.freeC x c e)
   exact⟨_,q,hd⟩
  ·exact⟨o,keep c o (I.cne x c e) hc nch ho (I.freeC x c e),hd⟩
 refine⟨I.ok,I.os,hg,⟨fun b o e n hb hx=>?_,fun b o e n hb hx=>?_,fun b o e n hx=>?_,fun b o e hx=>?_,fun b xs e=>tups b xs (I.base.tups b xs e),fun b o xs e=>frzs b o xs (I.base.frzs b o xs e),fun b ps e=>?_⟩,?_,fun x c e=>?_,?_,fun x c e=>?_,fun p hp=>?_,hok,I.len⟩
 ·exact keep b o (neL b o e) hb (neC b o e hx) (I.base.keep b o e n hb hx) (I.base.free b o e n hx)
 ·obtain⟨sl,e1⟩:=I.base.slot b o e n hb hx
  obtain⟨sl',e2⟩:=slot b _ (neL b o e) hb (neC b o e hx) e1 (I.base.free b o e n hx);exact⟨sl',e2⟩
 ·obtain⟨o',e1⟩:=I.base.there b o e hx
  exact free b o' (neC b o e hx) e1 (I.base.free b o e n hx)
 ·obtain⟨o',e1⟩:=I.base.there b o e hx
  exact there b o' (neC b o e hx) e1
 ·obtain⟨m1,e1⟩:=I.base.tbls b ps e
  obtain⟨m2,e2⟩:=tbls b _ e1;exact⟨m1++m2,by rw [e2,Array.append_assoc]⟩
 ·obtain⟨m,hn,hl⟩:=I.loc
  refine⟨m,ns m hn,fun i x v e1 e2 e3=>?_⟩;obtain⟨u,r,l⟩:=hl i x v e1 e2 e3;refine⟨u,r,?_⟩;rcases l with l | ⟨k,c,e,z⟩
  ·exact .inl l
  ·exact .inr ⟨k,c,e,cellK x c e _ z⟩
 ·obtain⟨v,z⟩:=I.cell x c e
  exact⟨v,cellK x c e v z⟩
 ·obtain⟨m,⟨o,_,_,ho,_⟩,_⟩:=I.loc
  exact free _ o (fun z=>(hch _ z).2.1 rfl) ho I.free
 ·obtain⟨v,o,ho,hd⟩:=I.cell x c e
  exact free c o (fun z=>(hch c z).2.2.1 x c e rfl) ho (I.freeC x c e)
 ·obtain⟨e,n,ne,nf,d⟩:=I.pin p hp
  have nch:p.1∉ch:=fun z=>(hch p.1 z).2.2.2 p hp rfl;exact⟨keep p.1 p.2 ne nf nch e n,free p.1 p.2 nch e n,ne,nf,d⟩
theorem Inv.un{t':Nat}(I:Inv X pins σ H s)(u:Un X.fs [] H H' s.heap h')(hok:HOk X.prog X.w X.K H' h'):Inv X pins σ H' { s with heap:=h',toks:=t' }:=by
 obtain⟨m,⟨o,es,ep,ho,r⟩,_⟩:=id I.loc;obtain⟨sl,hL⟩:=u.any ho I.free (by simp);exact I.step (g':=s.gens) (d':=s.drawn) (ch:=[]) (fun _ z=>nomatch z) (fun b o _ hb _ e n=>u.keep b o e n hb (by simp)) (fun b o _ hb _ e n=>u.slot b o e n hb (by simp)) (fun b o _ e n=>u.free b o e n (by simp)) (fun b o _ e=>u.there b o e (by simp)) u.tups u.frzs u.tbls (fun m' hm=>by
  obtain⟨o',es',ep',ho',r'⟩:=hm;rw [ho]at ho'; cases ho';exact⟨_,es',ep',hL,r'⟩) hok I.bare
theorem Inv.call{g':Array GenState}{t':Nat}{d':Drawn}{ch:List Addr}(I:Inv X pins σ H s)(u:Un (frs X.stack) ch H H' s.heap h')(hok:HOk X.prog X.w X.K H' h')(hg:AllBare g')
  (hch:∀ b∈ch,(b∈X.ex\/X.s₀.heap.objs.size<=b)/\b≠X.env.locals/\(∀ x c,X.env.cells.lookup x=some c->c≠b)/\∀ p∈X.pn++pins,p.1≠b) :
  Inv X pins σ H' { s with heap:=h',gens:=g',drawn:=d',toks:=t' }:=by
 obtain⟨m,⟨o,es,ep,ho,r⟩,_⟩:=id I.loc;obtain⟨sl,hL⟩:=u.any ho I.free fun z=>(hch _ z).2.1 rfl;exact I.step (ch:=ch) hch (fun b o hL hb hc e n=>u.keep b o e n (fun z=>(qv.mp (I.stkSub b z)).elim hL hb) hc) (fun b o _ _ hc e n=>u.any e n hc) (fun b o hc e n=>u.free b o e n hc) (fun b o hc e=>u.there b o e hc) u.tups u.frzs u.tbls (fun m' hm=>by
  obtain⟨o',es',ep',ho',r'⟩:=hm;rw [ho]at ho'; cases ho';exact⟨_,es',ep',hL,r'⟩) hok hg
theorem Inv.turned{t':Nat}{it:Addr}(I:Inv X pins σ H s)(k:∀ b o,b≠it->s.heap.get? b=some o->h'.get? b=some o)(hn:H it=none)(hL:it≠X.env.locals)
  (h1:it∈X.ex\/X.s₀.heap.objs.size<=it) (h2:∀ x c,X.env.cells.lookup x=some c->c≠it) (h3:∀ p∈X.pn++pins,p.1≠it):Inv X pins σ H { s with heap:=h',toks:=t' }:=by
 have nit:∀ b u,H b=some u->b≠it:=fun b u e z=>by rw [z,hn]at e; cases e
 refine I.step (g':=s.gens) (d':=s.drawn) (ch:=[it]) (fun b hb=>?_) (fun b o _ _ hc e _=>k b o (fun z=>hc (by simp [z])) e) (fun b o _ _ hc e _=>⟨o.slots,k b o (fun z=>hc (by simp [z])) e⟩) (fun _ _ _ _ n=>n)
  (fun b o hc e=>⟨o,k b o (fun z=>hc (by simp [z])) e⟩) (fun _ _ e=>e) (fun _ _ _ e=>e) (fun b ps e=>⟨#[],by rw [e]; simp⟩) (fun m hm=>?_) (fun b u e=>?_) I.bare
 ·have e:b=it:=by simpa using hb
  subst e;exact⟨h1,hL,h2,h3⟩
 ·obtain⟨o,es,ep,ho,r⟩:=hm
  exact⟨o,es,ep,k _ o (Ne.symm hL) ho,r⟩
 ·refine(I.hok b u e).stay (fun c v hc q=>k c v ?_ q) (fun _ q=>q) fun _ _ q=>q
  rcases hc with z | z
  ·rw [z]; exact nit b u e
  ·exact nit c _ z
theorem Inv.tok(I:Inv X pins σ H s)(t:Nat):Inv X pins σ H { s with toks:=t }:=I.un (h':=s.heap) (t':=t) Un.refl I.hok
theorem Inv.kept{t':Nat}(I:Inv X pins σ H s)(k:∀ b u,s.heap.get? b=some u->h'.get? b=some u):Inv X pins σ H { s with heap:=h',toks:=t' }:=I.un (Un.kept k) (I.hok.kept k)
theorem Inv.laid{a:Addr}{o:HO}{t':Nat}(I:Inv X pins σ H s)(k:∀ b u,s.heap.get? b=some u->h'.get? b=some u)(hp:s.heap.objs.size<=a)(new:zP X.prog X.w X.K (upd H a o) h' a o) :
  Inv X pins σ (upd H a o) { s with heap:=h',toks:=t' }:=I.un (Un.laid k hp (I.hok.fresh hp)) (I.hok.laid k hp new)
theorem Inv.write{x e:Addr}{o:HO}{t':Nat}(I:Inv X pins σ H s)(mu:Mut (H x))(he:e=x\/H e=some (.own x))(k:∀ b u,b≠e->s.heap.get? b=some u->h'.get? b=some u)(heo:∃ u,h'.get? e=some u)
  (new:zP X.prog X.w X.K (upd H x o) h' x o):Inv X pins σ (upd H x o) { s with heap:=h',toks:=t' }:=I.un (Un.write mu he k heo) (I.hok.write mu he k heo new)
theorem Inv.weak{σ':List (Option V)}(I:Inv X pins σ H s)(hl:σ'.length=σ.length)(w:∀ (i:Nat) v,σ'[i]?=some (some v)->σ[i]?=some (some v)):Inv X pins σ' H s :=
 ⟨I.ok,I.os,I.bare,I.base,let ⟨m,hn,hl'⟩:=I.loc; ⟨m,hn,fun i x v e1 e2 e3=>hl' i x v e1 (w i v e2) e3⟩,I.cell,I.free,I.freeC,I.pin,I.hok,hl.trans I.len⟩
theorem Inv.pins_of{pins':List (Addr×Obj)}(I:Inv X pins σ H s)(h:∀ p∈pins',s.heap.get? p.1=some p.2/\H p.1=none/\p.1≠X.env.locals/\p.1∉X.fs/\∀ v,p.2.data≠.cell v):Inv X pins' σ H s :=
 ⟨I.ok,I.os,I.bare,I.base,I.loc,I.cell,I.free,I.freeC,fun p hp=>(List.mem_append.mp hp).elim (fun z=>I.pin p (List.mem_append_left _ z)) (h p),I.hok,I.len⟩
theorem zhV{N:List Str}(hN:N.Nodup){i j:Nat}{x:Str}(a:N[i]?=some x)(b:N[j]?=some x):i=j:=by
 obtain⟨h1,e1⟩:=qk.mp a;obtain⟨h2,e2⟩:=qk.mp b;exact(List.getElem_inj hN).mp (e1.trans e2.symm)
theorem zec{M:Model}{A:Around}{E:Value->Shared->Prop}{i:Nat}{x:Str}{v:V}{u:Value}{Q:Unit->Shared->Prop}(I:Inv X pins σ H s)(hN:X.N.Nodup)(hi:X.N[i]?=some x)(hx:Loc X.env.scope x)(r:zI v u)
  (h:∀ s',Inv X pins (σ.set i (some v)) H s'->(∃ a,Heap.SameBut a s.heap s'.heap/\(a=X.env.locals\/X.env.cells.lookup x=some a))->Q () s') (hf:X.fn x=true\/X.env.scope.names.lookup x=some .local:=by first | exact .inl rfl | exact .inr rfl | assumption):wpAny M A (storeName X.env x u) Q E s:=by
 obtain⟨m,hn,hl⟩:=id I.loc;have hcls:(X.env.scope.kind==.class || (X.env.scope.kind==.module && X.env.locals != X.env.globals))=false:=by rw [I.ok.kind]; rfl
 have hiσ:i < σ.length:=by rw [I.len]; exact(qk.mp hi).1
 have cne:=I.cne;have tracked:∀ {a:Addr} {h':Heap},(∃ o,s.heap.get? a=some o/\H a=none)->Heap.SameBut a s.heap h'->HOk X.prog X.w X.K H h':=fun{a h'} ha hs b ob e=>by
  obtain⟨_,_,hfree⟩:=ha;refine(I.hok b ob e).stay (fun c w' hc q=>(hs.2 c ?_).trans q) (fun _ q=>q) fun _ _ q=>q;rintro rfl;rcases hc with rfl | hc
  ·rw [hfree]at e; cases e
  ·rw [hfree]at hc; cases hc
 rcases hx with hk | hk
 ·refine wpAny_storeName_local hk hn (fun h' hn' hs=>?_) hcls
  obtain⟨oL,_,_,hoL,_⟩:=id hn;refine h _ ⟨I.ok,I.os,I.bare,⟨fun b o e n hb hx=>?_,fun b o e n hb hx=>?_,I.base.free,fun b o e hx=>?_,I.base.tups,I.base.frzs,I.base.tbls⟩,⟨_,hn',fun j y v' e1 e2 e3=>?_⟩,fun y c e=>?_,I.free,I.freeC,fun p hp=>?_,tracked ⟨oL,hoL,I.free⟩ hs,by simpa using I.len⟩ ⟨_,hs,.inl rfl⟩
  ·exact(hs.2 b (qj (qi (qh e) I.ok.above))).trans (I.base.keep b o e n hb hx)
  ·obtain⟨sl,e1⟩:=I.base.slot b o e n hb hx
   exact⟨sl,(hs.2 b (qj (qi (qh e) I.ok.above))).trans e1⟩
  ·obtain⟨o',e1⟩:=I.base.there b o e hx
   exact⟨o',(hs.2 b (qj (qi (qh e) I.ok.above))).trans e1⟩
  ·by_cases hj:j=i
   ·subst hj
    rw [hi]at e1; cases e1;rw [List.getElem?_set_self hiσ]at e2;cases e2;exact⟨u,r,.inl ⟨hk,by simp⟩⟩
   ·rw [qC (Ne.symm hj)]at e2
    obtain⟨u',r',q⟩:=hl j y v' e1 e2 e3;refine⟨u',r',?_⟩;rcases q with ⟨k,e⟩ | ⟨k,c,e,z⟩
    ·refine .inl ⟨k,?_⟩
     have:y≠x:=fun e=>hj (zhV hN e1 (e▸hi));simp [this,e]
    ·exact .inr ⟨k,c,e,z.sameBut hs (cne y c e)⟩
  ·obtain⟨w',z⟩:=I.cell y c e
   exact⟨w',z.sameBut hs (cne y c e)⟩
  ·obtain⟨e,n,ne,nf,d⟩:=I.pin p hp
   exact⟨(hs.2 p.1 ne).trans e,n,ne,nf,d⟩
 ·have hfn:X.fn x=true:=by
   rcases hf with z | z
   ·exact z
   ·rw [z]at hk; cases hk
  obtain⟨c,hc⟩:=I.ok.has x (.inl hk);obtain⟨w',z⟩:=I.cell x c hc;refine wpAny_storeName_cell I.ok.kind hk hc z (fun h' hc' hs=>?_);obtain⟨oc,hoc,hocd⟩:=id z;refine h { s with heap:=h' } ⟨I.ok,I.os,I.bare,⟨fun b o e n hb hx=>?_,fun b o e n hb hx=>?_,I.base.free,fun b o e hx=>?_,I.base.tups,I.base.frzs,I.base.tbls⟩,⟨m,hn.sameBut hs (Ne.symm (cne x c hc)),fun j y v' e1 e2 e3=>?_⟩,fun y c' e=>?_,I.free,I.freeC,fun p hp=>?_,tracked ⟨oc,hoc,I.freeC x c hc⟩ hs,by simpa using I.len⟩ ⟨c,hs,.inr hc⟩
  ·exact(hs.2 b (qj (qi (qh e) (I.ok.cab x c hfn hc)))).trans (I.base.keep b o e n hb hx)
  ·obtain⟨sl,e1⟩:=I.base.slot b o e n hb hx
   exact⟨sl,(hs.2 b (qj (qi (qh e) (I.ok.cab x c hfn hc)))).trans e1⟩
  ·obtain⟨o',e1⟩:=I.base.there b o e hx
   exact⟨o',(hs.2 b (qj (qi (qh e) (I.ok.cab x c hfn hc)))).trans e1⟩
  ·by_cases hj:j=i
   ·subst hj
    rw [hi]at e1; cases e1;rw [List.getElem?_set_self hiσ]at e2;cases e2;exact⟨u,r,.inr ⟨.inl hk,c,hc,hc'⟩⟩
   ·rw [qC (Ne.symm hj)]at e2
    obtain⟨u',r',q⟩:=hl j y v' e1 e2 e3;refine⟨u',r',?_⟩;rcases q with q | ⟨k,c',e,z'⟩
    ·exact .inl q
    ·refine .inr ⟨k,c',e,z'.sameBut hs ?_⟩
     rintro rfl;exact hj (zhV hN e1 (I.ok.inj _ _ _ e hc▸hi))
  ·by_cases hcc:c'=c
   ·subst hcc; exact⟨_,hc'⟩
   ·obtain⟨w2,z2⟩:=I.cell y c' e
    exact⟨w2,z2.sameBut hs hcc⟩
  ·obtain⟨e,n,ne,nf,d⟩:=I.pin p hp
   refine⟨(hs.2 p.1 ?_).trans e,n,ne,nf,d⟩;intro q;rw [q,hoc]at e;have q':oc=p.2:=qx e;exact d w' (by rw [<-q']; exact hocd)
theorem zhW{M:Model}{A:Around}{E:Value->Shared->Prop}{i:Nat}{x:Str}{v:V}{u:Value}{Q:Unit->Shared->Prop}(I:Inv X pins σ H s)(hN:X.N.Nodup)(hi:X.N[i]?=some x)(hx:Loc X.env.scope x)(r:zI v u)
  (h:∀ s',Inv X pins (σ.set i (some v)) H s'->Q () s') (hf:X.fn x=true\/X.env.scope.names.lookup x=some .local:=by first | exact .inl rfl | exact .inr rfl | assumption):wpAny M A (storeName X.env x u) Q E s :=
 zec I hN hi hx r (fun s' I' _=>h s' I') hf
theorem Inv.call'{s':Shared}{ch:List Addr}(I:Inv X pins σ H s)(ho:s'.os=s.os)(u:Un (frs X.stack) ch H H' s.heap s'.heap)(hok:HOk X.prog X.w X.K H' s'.heap)(hg:AllBare s'.gens)
  (hch:∀ b∈ch,(b∈X.ex\/X.s₀.heap.objs.size<=b)/\b≠X.env.locals/\(∀ x c,X.env.cells.lookup x=some c->c≠b)/\∀ p∈X.pn++pins,p.1≠b):Inv X pins σ H' s':=by
 obtain⟨h',g',d',t',o'⟩:=s';have e:o'=s.os:=ho;subst e;exact I.call (g':=g') (t':=t') (d':=d') u hok hg hch
end
abbrev XK:=Value->Option Addr->Hp->Prop
abbrev St:=List (Option V)
abbrev VK:=V->Hp->Prop
abbrev TE:=St->Hp->VK->Prop
abbrev TT:=St->Hp->(Bool->Hp->Prop)->Prop
abbrev TA:=St->Hp->(List V->Hp->Prop)->Prop
structure Ends where
 nx:St->Hp->Prop
 rt:VK
 bk:St->Hp->Prop:=fun _ _=>False
 ct:St->Hp->Prop:=fun _ _=>False
abbrev TS:=Ends->St->Hp->Prop
def EP(X:Cx)(pins:List (Addr×Obj))(σ:St)(Q:VK)(u:Value)(s':Shared):Prop:=∃ v H',Inv X pins σ H' s'/\zI v u/\Q v H'
def TP(X:Cx)(pins:List (Addr×Obj))(σ:St)(Q:Bool->Hp->Prop)(b:Bool)(s':Shared):Prop:=∃ H',Inv X pins σ H' s'/\Q b H'
def AP(X:Cx)(pins:List (Addr×Obj))(σ:St)(Q:List V->Hp->Prop)(us:List Value)(s':Shared):Prop:=∃ vs H',Inv X pins σ H' s'/\zE vs us/\Q vs H'
def SP(X:Cx)(pins:List (Addr×Obj))(D:Ends)(f:Flow)(s':Shared):Prop :=
 match f with
 | .next=>∃ σ' H',Inv X pins σ' H' s'/\D.nx σ' H'
 | .brk=>∃ σ' H',Inv X pins σ' H' s'/\D.bk σ' H'
 | .cont=>∃ σ' H',Inv X pins σ' H' s'/\D.ct σ' H'
 | .ret u=>∃ v σ' H',Inv X pins σ' H' s'/\zI v u/\D.rt v H'
def PE(X:Cx)(e:Expr)(t:TE):Prop :=
 ∀ (pins:List (Addr×Obj)) (s:Shared) (σ:St) (H:Hp) (Q:VK),Inv X pins σ H s->t σ H Q->wpAny (model X.prog X.w) X.A (eval e X.env) (EP X pins σ Q) X.xe s
def PT(X:Cx)(e:Expr)(t:TT):Prop :=
 ∀ (pins:List (Addr×Obj)) (s:Shared) (σ:St) (H:Hp) (Q:Bool->Hp->Prop),Inv X pins σ H s->t σ H Q->wpAny (model X.prog X.w) X.A (isTrue e X.env (eval e X.env)) (TP X pins σ Q) X.xe s
def PW(X:Cx)(e:Expr)(t:TT):Prop :=
 ∀ (whole:Sem Value) (pins:List (Addr×Obj)) (s:Shared) (σ:St) (H:Hp) (Q:Bool->Hp->Prop),Inv X pins σ H s->t σ H Q->wpAny (model X.prog X.w) X.A (isTrue e X.env whole) (TP X pins σ Q) X.xe s
theorem PW.pt{X:Cx}{e:Expr}{t:TT}(h:PW X e t):PT X e t:=h _
def PA(X:Cx)(es:List Expr)(t:TA):Prop :=
 ∀ (pos:Pos) (pins:List (Addr×Obj)) (s:Shared) (σ:St) (H:Hp) (Q:List V->Hp->Prop),Inv X pins σ H s->t σ H Q->wpAny (model X.prog X.w) X.A (spliced (backTo pos (starEach es X.env))) (AP X pins σ Q) X.xe s
def PS(X:Cx)(st:Stmt)(t:TS):Prop :=
 ∀ (pins:List (Addr×Obj)) (s:Shared) (σ:St) (H:Hp) (D:Ends),Inv X pins σ H s->t D σ H->wpAny (model X.prog X.w) X.A (exec st X.env) (SP X pins D) X.xe s
def PSs(X:Cx)(st:List Stmt)(t:TS):Prop :=
 ∀ (pins:List (Addr×Obj)) (s:Shared) (σ:St) (H:Hp) (D:Ends),Inv X pins σ H s->t D σ H->wpAny (model X.prog X.w) X.A (execs st X.env) (SP X pins D) X.xe s
theorem thn{α:Type}{t:Sem α}{Q Q':α->Shared->Prop}{M:Model}{A:Around}{E:Value->Shared->Prop}{s:Shared}(h:wpAny M A t Q E s)(hQ:∀ a s,Q a s->Q' a s):wpAny M A t Q' E s:=wpAny_mono h hQ fun _ _ x=>x
section
variable {X:Cx}
def zbF(i:Nat):TE:=fun σ H Q=>∃ v,σ[i]?=some (some v)/\Q v H
def tC(v:V):TE:=fun _ H Q=>Q v H
theorem zsV{i:Nat}{x:Str}{pos:Pos}(hN:X.N[i]?=some x)(hv:Vis X.env.scope x)(hd:(x==("__debug__":Str))=false:=by decide)(hcd:(x==("__classdict__":Str))=false:=by decide):PE X (.Name x pos) (zbF i):=by
 intro pins s σ H Q I h;obtain⟨v,e,h⟩:=h;obtain⟨m,hn,hl⟩:=I.loc;obtain⟨u,r,l⟩:=hl i x v hN e hv;have fin:EP X pins σ Q u s:=⟨v,H,I,r,h⟩;rcases l with ⟨hk,hm⟩ | ⟨hk,c,hc,hcell⟩
 ·exact wpAny_Name (wpAny_loadName_local I.ok.kind hk hn hm fin) hd
 ·rcases hk with hk | hk
  ·exact wpAny_Name (wpAny_loadName_cell I.ok.kind hk hc hcell fin) hd
  ·exact wpAny_Name (wpAny_loadName_free I.ok.kind hk hc hcell fin hcd) hd
theorem zsW{i j pos}:PE X (.Constant (.int i) j pos) (tC (.int i)):=fun _ _ _ H _ I h=>wpAny_Constant_int ⟨.int i,H,I.tok _,⟨_,rfl⟩,h⟩
theorem zvh{b j pos}:PE X (.Constant (.bool b) j pos) (tC (.bl b)):=fun _ _ _ H _ I h=>Constant_bool ⟨.bl b,H,I,rfl,h⟩
theorem zsX{j pos}:PE X (.Constant .none j pos) (tC .non):=fun _ _ _ H _ I h=>Constant_none ⟨.non,H,I,rfl,h⟩
theorem zsY{x j pos}:PE X (.Constant (.str x) j pos) (tC (.str x)):=fun _ _ _ H _ I h=>Calls.Constant_str ⟨.str x,H,I.tok _,⟨_,rfl⟩,h⟩
def Gl(X:Cx)(x:Str):Prop:=X.env.kindOf x=some .globalImplicit
theorem zgZ{E:Value->Shared->Prop}{pins:List (Addr×Obj)}{s:Shared}{σ:St}{H:Hp}{x:Str}{u:Value}{pos:Pos}{Q:Value->Shared->Prop}(I:Inv X pins σ H s)(hg:Gl X x)(hm:X.mg x=some u)(h:Q u s)
  (hd:(x==("__debug__":Str))=false:=by decide):wpAny (model X.prog X.w) X.A (eval (.Name x pos) X.env) Q E s :=
 Calls.Name_function_global I.ok.kind hg (Calls.loadGlobal_global (by rw [I.ok.glob]; exact I.mod.glob.keeps I.bk) hm h) hd
theorem zcL{E:Value->Shared->Prop}{pins:List (Addr×Obj)}{s:Shared}{σ:St}{H:Hp}{x:Str}{u:Value}{pos:Pos}{Q:Value->Shared->Prop}(I:Inv X pins σ H s)(hg:Gl X x)(hm:X.mg x=none)(hv:bootBuiltins x=some u)(h:Q u s)
  (hn:x ≠ "__name__":=by decide) (hd:(x==("__debug__":Str))=false:=by decide):wpAny (model X.prog X.w) X.A (eval (.Name x pos) X.env) Q E s:=by
 obtain⟨mb,h1,h2⟩:=I.mod.blt;exact Calls.Name_function_global I.ok.kind hg (Calls.loadGlobal_builtin (by rw [I.ok.glob]; exact I.mod.glob.keeps I.bk) hm (by rw [I.ok.blt]; exact h1.keeps I.bk) ((h2 x hn).trans hv) h) hd
theorem zpR{x:Str}{v:V}{u:Value}{pos:Pos}(hg:Gl X x)(hm:X.mg x=some u)(r:zI v u)(hd:(x==("__debug__":Str))=false:=by decide):PE X (.Name x pos) (tC v) :=
 fun _ _ _ H _ I h=>zgZ I hg hm ⟨v,H,I,r,h⟩ hd
variable {a b:Expr} {ta tb:TE} {pos:Pos}
def PC(X:Cx)(op:CmpOp)(a b:Expr)(t:TE):Prop :=
 ∀ (pins:List (Addr×Obj)) (s:Shared) (σ:St) (H:Hp) (Q:VK),Inv X pins σ H s->t σ H Q ->
  wpAny (model X.prog X.w) X.A (eval a X.env) (fun v s₁=>wpAny (model X.prog X.w) X.A (eval b X.env) (fun u s₂=>wpAny (model X.prog X.w) X.A (compareOp op v u) (EP X pins σ Q) X.xe s₂) X.xe s₁) X.xe s
theorem zmB(b:Expr){op:CmpOp}(h:op≠.In)(h2:op≠.NotIn):behindInMarks op b=false:=by
 have e1:(op==CmpOp.In)=false:=by cases op<;>first | rfl | exact absurd rfl h
 have e2:(op==CmpOp.NotIn)=false:=by cases op<;>first | rfl | exact absurd rfl h2
 cases b<;>simp [behindInMarks,e1,e2]
def tB(t:TE):TT:=fun σ H Q=>t σ H fun x H1=>∃ c,x=.bl c/\Q c H1
theorem zmC{op:CmpOp}{t:TE}(h:PC X op a b t)(h1:behindInMarks op b=false:=by first | exact zmB _ (by decide) (by decide) | rfl):PT X (.Compare a [op] [b] pos) (tB t):=by
 intro pins s σ H Q I hw;refine wpAny_isTrue_Compare1 (thn (h pins s σ H _ I hw) fun v s1 h1=>thn h1 fun u s2 h2=>thn h2 fun c s3 hZ=>?_) h1;obtain⟨x,H1,I1,r1,q1⟩:=hZ;obtain⟨d,rfl,q⟩:=q1;cases r1;exact wpAny_truthy_bool ⟨H1,I1,q⟩
theorem zsZ{e:Expr}{t:TE}(h:PE X e t)(he:∀ whole,isTrue e X.env whole=(do let v <-whole; standAt e.pos; holding [v] (truthy v)):=by intro _; rfl):PT X e (tB t):=by
 intro pins s σ H Q I hw;refine isTrue_plain (thn (h pins s σ H _ I hw) fun v s1 hZ=>?_) (he _);obtain⟨x,H1,I1,r1,q1⟩:=hZ;obtain⟨d,rfl,q⟩:=q1;cases r1;exact wpAny_truthy_bool ⟨H1,I1,q⟩
variable {tA tB':TT} {rest:List Expr}
def zs0(t u:TT):TT:=fun σ H Q=>t σ H fun c H1=>if c=true then u σ H1 Q else Q false H1
def tOr(t u:TT):TT:=fun σ H Q=>t σ H fun c H1=>if c=true then Q true H1 else u σ H1 Q
def zs1(t:TT):TT:=fun σ H Q=>t σ H fun c H1=>Q (!c) H1
theorem zpS(ha:PT X a tA):PW X (.BoolOp .And [a] pos) tA:=by
 intro wh pins s σ H Q I h;refine isTrue_and (thn (ha pins s σ H Q I h) fun c s1 e=>?_);cases c with
 | true=>exact isTrue_and_nil e
 | false=>exact e
theorem zs2(ha:PT X a tA):PW X (.BoolOp .Or [a] pos) tA:=by
 intro wh pins s σ H Q I h;refine isTrue_or (thn (ha pins s σ H Q I h) fun c s1 e=>?_);cases c with
 | false=>exact isTrue_or_nil e
 | true=>exact e
theorem zs3(ha:PT X a tA)(hb:PW X (.BoolOp .And (b::rest) pos) tB'):PW X (.BoolOp .And (a::b::rest) pos) (zs0 tA tB'):=by
 intro wh pins s σ H Q I h;refine isTrue_and (thn (ha pins s σ H _ I h) fun c s1 hZ=>?_);obtain⟨H1,I1,q1⟩:=hZ;cases c with
 | true=>exact hb wh pins s1 σ H1 Q I1 q1
 | false=>exact⟨H1,I1,q1⟩
theorem zvi(ha:PT X a tA)(hb:PW X (.BoolOp .Or (b::rest) pos) tB'):PW X (.BoolOp .Or (a::b::rest) pos) (tOr tA tB'):=by
 intro wh pins s σ H Q I h;refine isTrue_or (thn (ha pins s σ H _ I h) fun c s1 hZ=>?_);obtain⟨H1,I1,q1⟩:=hZ;cases c with
 | true=>exact⟨H1,I1,q1⟩
 | false=>exact hb wh pins s1 σ H1 Q I1 q1
theorem zs4(ha:PT X a tA):PT X (.UnaryOp .Not a pos) (zs1 tA):=by
 intro pins s σ H Q I h;exact isTrue_not (ha pins s σ H (fun c H1=>Q (!c) H1) I h)
def zmD(ta tb:TE):TE:=fun σ H Q=>ta σ H fun x H1=>∃ c,x=.bl c/\if c=true then tb σ H1 Q else Q (.bl false) H1
def zmE(ta:TE):TE:=fun σ H Q=>ta σ H fun x H1=>∃ c,x=.bl c/\Q (.bl (!c)) H1
theorem zs6{op}{t:TE}(h:PE X a t):PE X (.BoolOp op [a] pos) t:=fun pins s σ H Q I hw=>BoolOp_one (h pins s σ H Q I hw)
theorem zs7(ha:PE X a ta)(hb:PE X (.BoolOp .And (b::rest) pos) tb):PE X (.BoolOp .And (a::b::rest) pos) (zmD ta tb):=by
 intro pins s σ H Q I h;refine BoolOp_and (thn (ha pins s σ H _ I h) fun v s1 hZ=>?_);obtain⟨x,H1,I1,r1,q1⟩:=hZ;obtain⟨c,rfl,q1⟩:=q1;cases r1;refine wpAny_truthy_bool ?_;cases c with
 | true=>exact hb pins s1 σ H1 Q I1 q1
 | false=>exact⟨.bl false,H1,I1,rfl,q1⟩
theorem zs8(ha:PE X a ta):PE X (.UnaryOp .Not a pos) (zmE ta):=by
 intro pins s σ H Q I h;refine UnaryOp_ (thn (ha pins s σ H _ I h) fun v s1 hZ=>?_);obtain⟨x,H1,I1,r1,q1⟩:=hZ;obtain⟨c,rfl,q1⟩:=q1;cases r1;exact not_of (wpAny_truthy_bool ⟨.bl (!c),H1,I1,rfl,q1⟩)
def tIf(t:TT)(ta tb:TE):TE:=fun σ H Q=>t σ H fun c H1=>if c=true then ta σ H1 Q else tb σ H1 Q
theorem zmF{c:Expr}(hc:PT X c tA)(ha:PE X a ta)(hb:PE X b tb):PE X (.IfExp c a b pos) (tIf tA ta tb):=by
 intro pins s σ H Q I h;refine wpAny_IfExp (thn (hc pins s σ H _ I h) fun d s1 hZ=>?_);obtain⟨H1,I1,q1⟩:=hZ;cases d with
 | true=>exact ha pins s1 σ H1 Q I1 q1
 | false=>exact hb pins s1 σ H1 Q I1 q1
end
def SqL(K:qc)(H:Hp)(a:Addr)(xs:List V):Prop :=
 Rd H a (.lst xs) \/
  ∃ (o:Obj) (its:Array Value) (n:Nat),K.lookup a=some o/\o.cls=.type "list"/\o.dict=none/\o.data=.seq its n/\its.size<=sizeLine/\zE xs its.toList
def SqT(K:qc)(H:Hp)(a:Addr)(xs:List V):Prop :=
 Rd H a (.tup xs) \/
  ∃ (o:Obj) (its:Array Value) (n:Nat),K.lookup a=some o/\o.cls=.type "tuple"/\o.data=.seq its n/\its.size<=sizeLine/\zE xs its.toList
def zw1:Value->Option V
 | .none=>some .non
 | .bool b=>some (.bl b)
 | .int i _=>some (.int i)
 | .str x _=>some (.str x)
 | .bytes b _=>some (.byt b)
 | .float b _=>some (.flt b)
 | .ref a=>some (.ref a)
 | .type n=>some (.ty n)
 | _=>none
theorem zI.abs{x:V}{u:Value}(r:zI x u):zw1 u=some x:=by
 cases x with
 | non=>cases r; rfl
 | bl _=>cases r; rfl
 | int _=>obtain⟨t,rfl⟩:=r; rfl
 | str _=>obtain⟨t,rfl⟩:=r; rfl
 | byt _=>obtain⟨t,rfl⟩:=r; rfl
 | flt _=>obtain⟨t,rfl⟩:=r; rfl
 | ref _=>cases r; rfl
 | ty _=>cases r; rfl
theorem zI.inj{x y:V}{u:Value}(r:zI x u)(q:zI y u):x=y:=qx (r.abs.symm.trans q.abs)
theorem zE.inj:∀ {xs ys:List V} {us:List Value},zE xs us->zE ys us->xs=ys
 | _,_,_,.nil,.nil=>rfl
 | _,_,_,.cons r t,.cons r' t'=>by rw [r.inj r',zE.inj t t']
section
variable {X:Cx} {pins:List (Addr×Obj)} {σ:St} {H:Hp} {s:Shared} {a:Addr} {xs ys:List V}
theorem SqL.of{K:qc}(h:H a=some (.lst xs)):SqL K H a xs:=.inl (.inl h)
theorem Inv.list(I:Inv X pins σ H s)(h:SqL X.K H a xs):∃ its:List Value,zE xs its/\PlainL s.heap a its.toArray/\xs.length<=sizeLine:=by
 rcases h with h | ⟨o,its,n,hk,hc,hd,hs,hz,r⟩
 ·obtain⟨z,its,n,r,e⟩:=h.ok I.hok
  exact⟨its,r,⟨_,n,e,rfl,rfl,rfl⟩,z⟩
 ·refine⟨its.toList,r,⟨o,n,I.kIn a o hk,hc,hd,by simpa using hs⟩,?_⟩
  have e:=r.length;simp only [Array.length_toList]at e;omega
theorem Inv.tuple(I:Inv X pins σ H s)(h:SqT X.K H a xs):∃ its:List Value,zE xs its/\IsTup s.heap a its.toArray/\xs.length<=sizeLine:=by
 rcases h with h | ⟨o,its,n,hk,hc,hs,hz,r⟩
 ·obtain⟨z,its,r,p⟩:=h.ok I.hok
  exact⟨its,r,p.tup,z⟩
 ·refine⟨its.toList,r,⟨o,I.kIn a o hk,hc,n,by simpa using hs⟩,?_⟩
  have e:=r.length;simp only [Array.length_toList]at e;omega
theorem Inv.list_inj(I:Inv X pins σ H s)(h:SqL X.K H a xs)(h':SqL X.K H a ys):xs=ys:=by
 obtain⟨its,r,⟨o,n,e,_,_,d⟩,_⟩:=I.list h;obtain⟨its',r',⟨o',n',e',_,_,d'⟩,_⟩:=I.list h';rw [e]at e'; cases e';rw [d]at d';injection d' with d1 _;have:its=its':=by simpa using congrArg Array.toList d1
 subst this;exact r.inj r'
theorem Inv.tuple_inj(I:Inv X pins σ H s)(h:SqT X.K H a xs)(h':SqT X.K H a ys):xs=ys:=by
 obtain⟨its,r,⟨o,e,_,n,d⟩,_⟩:=I.tuple h;obtain⟨its',r',⟨o',e',_,n',d'⟩,_⟩:=I.tuple h';rw [e]at e'; cases e';rw [d]at d';injection d' with d1 _;have:its=its':=by simpa using congrArg Array.toList d1
 subst this;exact r.inj r'
end
abbrev Cx.wish(X:Cx)(E:Value->Shared->Prop):Cx:={ X with xe:=E }
abbrev Cx.nox(X:Cx):Cx:=X.wish fun _ _=>False
theorem Cx.Ok.wish{X:Cx}(ok:X.Ok)(E:Value->Shared->Prop):(X.wish E).Ok :=
 ⟨ok.mod,ok.kind,ok.glob,ok.blt,ok.above,ok.inj,ok.has,ok.cab,ok.hd,ok.frames,ok.stk,ok.exf,ok.bs,ok.bsz,ok.noex,ok.exfs,ok.funs,ok.frf⟩
theorem Cx.Ok.unwish{X:Cx}{E:Value->Shared->Prop}(ok:(X.wish E).Ok):X.Ok :=
 ⟨ok.mod,ok.kind,ok.glob,ok.blt,ok.above,ok.inj,ok.has,ok.cab,ok.hd,ok.frames,ok.stk,ok.exf,ok.bs,ok.bsz,ok.noex,ok.exfs,ok.funs,ok.frf⟩
section
variable {X:Cx} {pins:List (Addr×Obj)} {σ:St} {H:Hp} {s:Shared} {E:Value->Shared->Prop}
theorem Inv.wish(I:Inv X pins σ H s)(E:Value->Shared->Prop):Inv (X.wish E) pins σ H s:=⟨I.ok.wish E,I.os,I.bare,I.base,I.loc,I.cell,I.free,I.freeC,I.pin,I.hok,I.len⟩
theorem Inv.unwish(I:Inv (X.wish E) pins σ H s):Inv X pins σ H s:=⟨I.ok.unwish,I.os,I.bare,I.base,I.loc,I.cell,I.free,I.freeC,I.pin,I.hok,I.len⟩
theorem SP.unwish{D:Ends}{f:Flow}{s':Shared}(h:SP (X.wish E) pins D f s'):SP X pins D f s':=by
 cases f with
 | next=>obtain⟨σ',H',I,q⟩:=h; exact⟨σ',H',I.unwish,q⟩
 | brk=>obtain⟨σ',H',I,q⟩:=h; exact⟨σ',H',I.unwish,q⟩
 | cont=>obtain⟨σ',H',I,q⟩:=h; exact⟨σ',H',I.unwish,q⟩
 | ret u=>obtain⟨v,σ',H',I,r,q⟩:=h; exact⟨v,σ',H',I.unwish,r,q⟩
theorem PSs.nox{st:List Stmt}{t:TS}(h:PSs X.nox st t):PSs X st t:=fun pins s σ H D I hw =>
 wpAny_mono (h pins s σ H D (I.wish _) hw) (fun _ _ q=>q.unwish) fun _ _ z=>False.elim z
end
section
variable {X:Cx} {st:Stmt} {rest:List Stmt} {t u:TS} {e:Expr} {te:TE} {pos:Pos}
def zmG:TS:=fun D σ H=>D.nx σ H
def zpT(t u:TS):TS:=fun D σ H=>t { D with nx:=u D } σ H
theorem zpU:PSs X [] zmG:=fun _ _ σ H _ I h=>wpAny_execs_nil ⟨σ,H,I,h⟩
theorem zmH(h1:PS X st t)(h2:PSs X rest u):PSs X (st::rest) (zpT t u):=by
 intro pins s σ H D I h;refine wpAny_execs_cons (thn (h1 pins s σ H { D with nx:=u D } I h) fun f s1 q=>?_);cases f with
 | next =>
  obtain⟨σ',H',I',q⟩:=q;exact h2 pins s1 σ' H' D I' q
 | ret v=>exact q
 | brk=>exact q
 | cont=>exact q
theorem zpV(h1:PS X st t):PSs X [st] t:=by
 intro pins s σ H D I h;refine wpAny_execs_cons (thn (h1 pins s σ H D I h) fun f s1 q=>?_);cases f with
 | next=>exact wpAny_execs_nil q
 | ret v=>exact q
 | brk=>exact q
 | cont=>exact q
theorem Inv.quiet{pins:List (Addr×Obj)}{σ:St}{H:Hp}{s:Shared}(I:Inv X pins σ H s):interactive X.env=false:=by simp [interactive,I.ok.kind]
def zmI(te:TE):TS:=fun D σ H=>te σ H fun _ H1=>D.nx σ H1
theorem zpW(he:PE X e te)(hs:swapsWith e none pos.line X.env=pure false:=by rfl):PS X (.Expr e pos) (zmI te):=by
 intro pins s σ H D I h;exact wpAny_Expr_any (thn (he pins s σ H _ I h) fun v s1 ⟨x,H1,I1,r1,q1⟩=>⟨σ,H1,I1,q1⟩) I.quiet hs
def zpX(te:TE):TS:=fun D σ H=>te σ H D.rt
theorem zs9(he:PE X e te):PS X (.Return (some e) pos) (zpX te):=by
 intro pins s σ H D I h;exact wpAny_Return_some (thn (he pins s σ H _ I h) fun v s1 ⟨x,H1,I1,r1,q1⟩=>⟨x,σ,H1,I1,r1,q1⟩)
def zta(c:TT)(t u:TS):TS:=fun D σ H=>c σ H fun b H1=>if b=true then t D σ H1 else u D σ H1
theorem zvj{c:Expr}{a b:List Stmt}{tc:TT}(hc:PT X c tc)(ha:PSs X a t)(hb:PSs X b u):PS X (.If c a b pos) (zta tc t u):=by
 intro pins s σ H D I h;refine wpAny_If (thn (hc pins s σ H _ I h) fun d s1 hZ=>?_);obtain⟨H1,I1,q1⟩:=hZ;cases d with
 | true=>exact ha pins s1 σ H1 D I1 q1
 | false=>exact hb pins s1 σ H1 D I1 q1
end
abbrev TG:=V->St->Hp->(St->Hp->Prop)->Prop
abbrev TGs:=List V->St->Hp->(St->Hp->Prop)->Prop
def PG(X:Cx)(target:Expr)(t:TG):Prop :=
 ∀ (pins:List (Addr×Obj)) (s:Shared) (σ:St) (H:Hp) (v:V) (u:Value) (Q:St->Hp->Prop),Inv X pins σ H s->zI v u->t v σ H Q ->
  wpAny (model X.prog X.w) X.A (assign target X.env u) (fun _ s'=>∃ σ' H',Inv X pins σ' H' s'/\Q σ' H') X.xe s
def PGs(X:Cx)(ts:List Expr)(t:TGs):Prop :=
 ∀ (pins:List (Addr×Obj)) (s:Shared) (σ:St) (H:Hp) (vs:List V) (us:List Value) (Q:St->Hp->Prop),Inv X pins σ H s->zE vs us->t vs σ H Q ->
  wpAny (model X.prog X.w) X.A (assignInOrder ((assignEach ts X.env).map (·.2)) us) (fun _ s'=>∃ σ' H',Inv X pins σ' H' s'/\Q σ' H') X.xe s
abbrev zlN:=V->V->V->Hp->(Hp->Prop)->Prop
def zpY(X:Cx)(t:zlN):Prop :=
 ∀ (pins:List (Addr×Obj)) (s:Shared) (σ:St) (H:Hp) (o i v:V) (ov iv u:Value) (Q:Hp->Prop),Inv X pins σ H s->zI o ov->zI i iv->zI v u->t o i v H Q ->
  wpAny (model X.prog X.w) X.A (setItem ov iv u) (fun _ s'=>∃ H',Inv X pins σ H' s'/\Q H') X.xe s
abbrev TIp:=V->V->Hp->VK->Prop
def PIp(X:Cx)(op:Operator)(t:TIp):Prop :=
 ∀ (pins:List (Addr×Obj)) (s:Shared) (σ:St) (H:Hp) (x y:V) (v u:Value) (Q:VK),Inv X pins σ H s->zI x v->zI y u->t x y H Q ->
  wpAny (model X.prog X.w) X.A (inplaceOp op v u) (EP X pins σ Q) X.xe s
section
variable {X:Cx} {pos:Pos}
def zbr(i:Nat):TG:=fun v σ H Q=>Q (σ.set i (some v)) H
theorem zpZ{i:Nat}{x:Str}(hN:X.N.Nodup)(hi:X.N[i]?=some x)(hx:Loc X.env.scope x)(hf:X.fn x=true\/X.env.scope.names.lookup x=some .local:=by first | exact .inl rfl | exact .inr rfl | assumption):PG X (.Name x pos) (zbr i):=by
 intro pins s σ H v u Q I r h;exact wpAny_assign_Name (zhW I hN hi hx r (fun s' I'=>⟨_,H,I',h⟩) hf)
def zp0:TGs:=fun vs σ H Q=>vs=[]/\Q σ H
def zhX(t:TG)(u:TGs):TGs:=fun vs σ H Q=>∃ v r,vs=v::r/\t v σ H fun σ' H'=>u r σ' H' Q
theorem zp1:PGs X [] zp0:=by
 intro pins s σ H vs us Q I r h;obtain⟨e,h⟩:=h;subst e;cases r;exact assignInOrder_nil ⟨σ,H,I,h⟩
theorem zmJ{e:Expr}{es:List Expr}{t:TG}{u:TGs}(h1:PG X e t)(h2:PGs X es u)
  (hs:(assignEach (e::es) X.env).map (·.2)=assign e X.env::(assignEach es X.env).map (·.2):=by rfl):PGs X (e::es) (zhX t u):=by
 intro pins s σ H vs us Q I r h;obtain⟨v,vr,e1,h⟩:=h;subst e1;cases r with
 | cons r rr =>
  rw [hs];refine assignInOrder_cons (thn (h1 pins s σ H _ _ _ I r h) fun _ s1 hZ=>?_);obtain⟨σ1,H1,I1,q1⟩:=hZ;exact h2 pins s1 σ1 H1 _ _ Q I1 rr q1
def zp2(K:qc)(n:Nat)(t:TGs):TG:=fun v σ H Q=>∃ a xs,v=.ref a/\SqT K H a xs/\xs.length=n/\t xs σ H Q
theorem ztb{es:List Expr}{k:Nat}{t:TGs}{n:Nat}(hc:X.calm=true)(h:PGs X es t)
  (hn:(assignEach es X.env).length=n:=by rfl) (hst:(assignEach es X.env).findIdx? (·.1)=none:=by rfl):PG X (.Tuple es k pos) (zp2 X.K n t):=by
 intro pins s σ H v u Q I r hw;obtain⟨a,xs,e1,hq,hl,hw⟩:=hw;subst e1;cases r;obtain⟨its,rv,ht,hz⟩:=I.tuple hq;refine assign_Tuple_tuple (I.ok.hd hc) ht (by simp [hn,<-hl,rv.length]) hst fun h' hx=>?_;have I1:Inv X pins σ H { s with heap:=h' }:=I.kept (t':=s.toks) fun b o e=>hx b o (qj (qh e)) e;exact h pins _ σ H xs _ Q I1 (by simpa using rv) hw
def ztc(to ti:TE)(t:zlN):TG:=fun v σ H Q=>to σ H fun o H1=>ti σ H1 fun i H2=>t o i v H2 fun H3=>Q σ H3
theorem ztd{o i:Expr}{to ti:TE}{t:zlN}(ho:PE X o to)(hi:PE X i ti)(hs:zpY X t)
  (ha:∀ v,assign (.Subscript o i pos) X.env v=(do
   let ov <-holding [v] (eval o X.env)
   let iv <-holding [v,ov] (eval i X.env)
   standAt pos
   holding [v,ov,iv] (setItem ov iv v)
   release [v,ov,iv] []):=by intro _; rfl):PG X (.Subscript o i pos) (ztc to ti t):=by
 intro pins s σ H v u Q I r h;rw [ha];refine qa (wpAny_holding (thn (ho pins s σ H _ I h) fun ov s1 hZ=>?_));obtain⟨x,H1,I1,r1,q1⟩:=hZ;refine qa (wpAny_holding (thn (hi pins s1 σ H1 _ I1 q1) fun iv s2 hZ=>?_));obtain⟨y,H2,I2,r2,q2⟩:=hZ;refine qa (wpAny_standAt (qa (wpAny_holding (thn (hs pins s2 σ H2 x y v ov iv u _ I2 r1 r2 r q2) fun _ s3 hZ=>?_))));obtain⟨H3,I3,q3⟩:=hZ;exact wpAny_release ⟨σ,H3,I3,q3⟩
def zhY(te:TE)(g:TG):TS:=fun D σ H=>te σ H fun x H1=>g x σ H1 D.nx
theorem zte{tg e:Expr}{te:TE}{g:TG}(he:PE X e te)(hg:PG X tg g)(hs:swapsWithSole [tg] e pos.line X.env=pure false:=by rfl)(hw:swappedStores [tg] e X.env=pure none:=by rfl)
  (h1:(assignEach [tg] X.env).map (·.2)=[assign tg X.env]:=by rfl):PS X (.Assign [tg] e pos) (zhY te g):=by
 intro pins s σ H D I h;refine wpAny_Assign_stores (thn (he pins s σ H _ I h) fun v s1 hZ=>?_) hs hw;obtain⟨x,H1,I1,r1,q1⟩:=hZ;rw [h1];exact thn (hg pins s1 σ H1 x v _ I1 r1 q1) fun _ s2 q=>q
theorem ztf{i:Nat}{x:Str}{e:Expr}{te:TE}{pos':Pos}(hN:X.N.Nodup)(hi:X.N[i]?=some x)(hx:Loc X.env.scope x)(he:PE X e te)(hs:swapsWith e (some (.Name x pos')) pos.line X.env=pure false:=by rfl)(hf:X.fn x=true\/X.env.scope.names.lookup x=some .local:=by first | exact .inl rfl | exact .inr rfl | assumption) :
  PS X (.Assign [.Name x pos'] e pos) (zhY te (zbr i)):=by
 intro pins s σ H D I h;refine wpAny_Assign_Name (thn (he pins s σ H _ I h) fun v s1 hZ=>?_) hs;obtain⟨y,H1,I1,r1,q1⟩:=hZ;exact zhW I1 hN hi hx r1 (fun s2 I2=>⟨_,H1,I2,q1⟩) hf
def zmK(to ti te:TE)(tget:V->V->Hp->VK->Prop)(tip:TIp)(tset:zlN):TS:=fun D σ H=>to σ H fun o H1=>ti σ H1 fun i H2=>tget o i H2 fun x H3=>te σ H3 fun y H4=>tip x y H4 fun z H5=>tset o i z H5 fun H6=>D.nx σ H6
def zvk(X:Cx)(t:V->V->Hp->VK->Prop):Prop :=
 ∀ (pins:List (Addr×Obj)) (s:Shared) (σ:St) (H:Hp) (o i:V) (ov iv:Value) (Q:VK),Inv X pins σ H s->zI o ov->zI i iv->t o i H Q ->
  wpAny (model X.prog X.w) X.A (getItem ov iv) (EP X pins σ Q) X.xe s
theorem zp3{o i e:Expr}{to ti te:TE}{tget:V->V->Hp->VK->Prop}{tip:TIp}{tset:zlN}{op:Operator}{tpos:Pos}(ho:PE X o to)(hi:PE X i ti)(hg:zvk X tget)(he:PE X e te)(hp:PIp X op tip)(hs:zpY X tset)
  (ha:∀ ov iv new,augStore i ov iv new=(do holding [new,ov,iv] (setItem ov iv new); release [new,ov,iv] []; pure .next):=by intros; rfl):PS X (.AugAssign (.Subscript o i tpos) op e pos) (zmK to ti te tget tip tset):=by
 intro pins s σ H D I h;refine wpAny_AugAssign_SubscriptAny (thn (ho pins s σ H _ I h) fun ov s1 hZ=>?_) ha;obtain⟨x1,H1,I1,r1,q1⟩:=hZ;refine thn (hi pins s1 σ H1 _ I1 q1) fun iv s2 hZ=>?_;obtain⟨x2,H2,I2,r2,q2⟩:=hZ;refine thn (hg pins s2 σ H2 x1 x2 ov iv _ I2 r1 r2 q2) fun old s3 hZ=>?_;obtain⟨x3,H3,I3,r3,q3⟩:=hZ;refine thn (he pins s3 σ H3 _ I3 q3) fun v s4 hZ=>?_;obtain⟨x4,H4,I4,r4,q4⟩:=hZ;refine thn (hp pins s4 σ H4 x3 x4 old v _ I4 r3 r4 q4) fun new s5 hZ=>?_;obtain⟨x5,H5,I5,r5,q5⟩:=hZ;exact thn (hs pins s5 σ H5 x1 x2 x5 ov iv new _ I5 r1 r2 r5 q5) fun _ s6 ⟨H6,I6,q6⟩=>⟨σ,H6,I6,q6⟩
def ipI(f:Int->Int->Int):TIp:=fun x y H Q=>∃ i j,x=.int i/\y=.int j/\Q (.int (f i j)) H
theorem ztg:PIp X .Add (ipI fun i j=>i+j):=by
 intro pins s σ H x y v u Q I r1 r2 h;obtain⟨i,j,e1,e2,q⟩:=h;subst e1; subst e2;obtain⟨t,rfl⟩:=r1;obtain⟨t',rfl⟩:=r2;exact iadd_int ⟨.int _,H,I.tok _,⟨_,rfl⟩,q⟩
end
section
variable {X:Cx} {pos:Pos}
end
structure It where
 go:Nat->Hp->Prop
 yld:Nat->Hp->V->Hp->Prop
 stop:Nat->Hp->Prop
def zaq(X:Cx)(pins:List (Addr×Obj))(H:Hp)(b:Addr):Prop :=
 H b=none/\b≠X.env.locals/\b∉X.fs/\(b∈X.ex\/X.s₀.heap.objs.size<=b)/\(∀ x c,X.env.cells.lookup x=some c->c≠b)/\∀ p∈X.pn++pins,p.1≠b
theorem Inv.fpOk{X:Cx}{pins:List (Addr×Obj)}{σ:St}{H H':Hp}{s:Shared}{b:Addr}(I:Inv X pins σ H s)(hb:s.heap.objs.size<=b)(hn:H' b=none):zaq X pins H' b:=by
 refine⟨hn,Nat.ne_of_gt (qi I.lt hb),I.nofs hb,.inr (qy I.sz hb),fun x c e z=>?_,fun p hp z=>?_⟩
 ·obtain⟨v,q⟩:=I.cell x c e
  exact absurd (qi q.lt (by rw [z]; exact hb)) (Nat.lt_irrefl _)
 ·exact absurd (qi (qh (I.pin p hp).1) (by rw [z]; exact hb)) (Nat.lt_irrefl _)
structure Turn (P:Program) (w:World) (K:qc) (tg:Expr) (J:It) (fp:List Addr) (it:Addr) (tn:Nat->Heap->Prop):Prop where
 mem:it∈fp
 obj:∀ i h,tn i h->∀ b∈fp,∃ o,h.get? b=some o/\∀ v,o.data≠.cell v
 keep:∀ i h h',tn i h->(∀ b∈fp,∀ o,h.get? b=some o->h'.get? b=some o)->tn i h'
 item:∀ (X:Cx),X.prog=P->X.w=w->X.K=K->X.calm=true->∀ (i:Nat) (pins:List (Addr×Obj)) (s:Shared) (σ:St) (H:Hp) (E:Value->Shared->Prop),Inv X pins σ H s->(∀ b∈fp,zaq X pins H b)->tn i s.heap->J.go i H ->
  wpAny (model P w) X.A (pyNext (.ref it)) (fun r s1=>∃ u,r=some u /\
   wpAny (model P w) X.A (letOwnedTupleGo tg (.ref it) u) (fun _ s2=>∃ x H',Inv X pins σ H' s2/\zI x u/\J.yld i H x H'/\tn (i+1) s2.heap/\∀ b∈fp,H' b=none) E s1) E s
 done:∀ (X:Cx),X.prog=P->X.w=w->X.K=K->X.calm=true->∀ (i:Nat) (pins:List (Addr×Obj)) (s:Shared) (σ:St) (H:Hp) (E:Value->Shared->Prop),Inv X pins σ H s->(∀ b∈fp,zaq X pins H b)->tn i s.heap->J.stop i H ->
  wpAny (model P w) X.A (pyNext (.ref it)) (fun r s1=>r=none/\Inv X pins σ H s1) E s
 self:∀ (A:Around) (i:Nat) (s:Shared) (Q:Value->Shared->Prop) (E:Value->Shared->Prop),tn i s.heap->Q (.ref it) s->wpAny (model P w) A (pyIter (.ref it)) Q E s
abbrev TI:=St->Hp->(It->Hp->Prop)->Prop
def PIE(X:Cx)(pins:List (Addr×Obj))(σ:St)(tg:Expr)(R:It->Hp->Prop)(itv:Value)(s2:Shared):Prop :=
 ∃ (it:Addr) (fp:List Addr) (tn:Nat->Heap->Prop) (J:It) (H':Hp),itv=.ref it/\Inv X pins σ H' s2/\Turn X.prog X.w X.K tg J fp it tn/\tn 0 s2.heap/\(∀ b∈fp,zaq X pins H' b)/\R J H'
def PI(X:Cx)(tg iter:Expr)(wi:TI):Prop :=
 ∀ (pins:List (Addr×Obj)) (s:Shared) (σ:St) (H:Hp) (R:It->Hp->Prop),Inv X pins σ H s->wi σ H R ->
  wpAny (model X.prog X.w) X.A (eval iter X.env) (fun v s1=>wpAny (model X.prog X.w) X.A (pyIter v) (PIE X pins σ tg R) X.xe s1) X.xe s
theorem zmL{M:Model}{A:Around}{E:Value->Shared->Prop}{s:Shared}{tg:Expr}{it:Addr}{u:Value}{o:Obj}{n:String}{vs:Array Value}{Q:Unit->Shared->Prop}(ho:s.heap.get? it=some o)(hc:o.cls=.type n)(hd:o.data=.fields vs)
  (hn:["enumerate", "zip", "dict_itemiterator", "dict_reverseitemiterator", "odict_iterator", "itertools.zip_longest", "itertools.pairwise"].contains n=false) (hQ:Q () s):wpAny M A (letOwnedTupleGo tg (.ref it) u) Q E s:=by
 unfold letOwnedTupleGo;cases tg<;>first
  | exact qb hQ
  | (cases u<;>first
    | exact qb hQ
    | (refine qa (wpAny_load ho ?_)
       rw [hc,hd];show wpAny M A (if(["enumerate", "zip", "dict_itemiterator", "dict_reverseitemiterator", "odict_iterator", "itertools.zip_longest", "itertools.pairwise"].contains n && vs[0]?==some (rawInt _))=true then _ else _) Q E s;rw [if_neg (by intro h; rw [hn,Bool.false_and]at h; cases h)];exact qb hQ))
def Itl(K:qc)(a:Addr):It :=
 ⟨fun i H=>∃ xs x,SqL K H a xs/\xs[i]?=some x,fun i H x H'=>H'=H/\∀ xs,SqL K H a xs->xs[i]?=some x,fun i H=>∃ xs,SqL K H a xs/\xs.length<=i⟩
def Itt(K:qc)(a:Addr):It :=
 ⟨fun i H=>∃ xs x,SqT K H a xs/\xs[i]?=some x,fun i H x H'=>H'=H/\∀ xs,SqT K H a xs->xs[i]?=some x,fun i H=>∃ xs,SqT K H a xs/\xs.length<=i⟩
def Itr(lo:Int)(n:Nat):It:=⟨fun i _=>i < n,fun i H x H'=>H'=H/\x=.int (lo+i),fun i _=>n<=i⟩
theorem zlO{P:Program}{w:World}{K:qc}{tg:Expr}(a it:Addr):Turn P w K tg (Itl K a) [it] it (fun i h=>h.IsListIter it a i) where
 mem:=by simp
 obj:=fun i h st b hb=>by
  have e:b=it:=by simpa using hb
  subst e;obtain⟨o,e,c,d⟩:=st;exact⟨o,e,fun v z=>by rw [d]at z; cases z⟩
 keep:=fun i h h' st k=>st.at fun o e=>k it (by simp) o e
 item:=by
  intro X hP hw hK hc i pins s σ H E I hf st hg;subst hP hw hK;obtain⟨xs,x,hq,hx⟩:=hg;obtain⟨its,rv,p,hz⟩:=I.list hq;obtain⟨u,hu,ru⟩:=rv.get hx;obtain⟨f0,f1,f2,f3,f4,f5⟩:=hf it (by simp);refine wpAny_pyNext_list_item st p.isList (x:=u) (by simpa using hu) fun h' st' sb=>?_;have I1:Inv X pins σ H { s with heap:=h' }:=I.turned (t':=s.toks) (fun b o hb e=>(sb.2 b hb).trans e) f0 f1 f3 f4 f5;obtain⟨o,e,c,d⟩:=id st';exact⟨u,rfl,zmL (s:={ s with heap:=h' }) e c d (by decide) ⟨x,H,I1,ru,⟨rfl,fun ys hy=>by rw [I.list_inj hy hq]; exact hx⟩,st',fun b hb=>(hf b hb).1⟩⟩
 done:=by
  intro X hP hw hK hc i pins s σ H E I hf st hg;subst hP hw hK;obtain⟨xs,hq,hx⟩:=hg;obtain⟨its,rv,p,hz⟩:=I.list hq;obtain⟨f0,f1,f2,f3,f4,f5⟩:=hf it (by simp);have hl:=rv.length;exact wpAny_pyNext_list_end (I.ok.hd hc) st p.isList (by simp; omega) fun h' eb=>⟨rfl,I.turned (t':=s.toks) (fun b o hb e=>eb b o hb e) f0 f1 f3 f4 f5⟩
 self:=fun _ _ _ _ _ st h=>wpAny_pyIter_listiter st h
theorem zi8{P:Program}{w:World}{K:qc}{tg:Expr}(a it:Addr):Turn P w K tg (Itt K a) [it] it (fun i h=>h.IsTupleIter it a i) where
 mem:=by simp
 obj:=fun i h st b hb=>by
  have e:b=it:=by simpa using hb
  subst e;obtain⟨o,e,c,d⟩:=st;exact⟨o,e,fun v z=>by rw [d]at z; cases z⟩
 keep:=fun i h h' st k=>st.at fun o e=>k it (by simp) o e
 item:=by
  intro X hP hw hK hc i pins s σ H E I hf st hg;subst hP hw hK;obtain⟨xs,x,hq,hx⟩:=hg;obtain⟨its,rv,p,hz⟩:=I.tuple hq;obtain⟨u,hu,ru⟩:=rv.get hx;obtain⟨f0,f1,f2,f3,f4,f5⟩:=hf it (by simp);refine wpAny_pyNext_tuple_item st (show s.heap.IsTuple a its.toArray from p) (x:=u) (by simpa using hu) fun h' st' sb=>?_;have I1:Inv X pins σ H { s with heap:=h' }:=I.turned (t':=s.toks) (fun b o hb e=>(sb.2 b hb).trans e) f0 f1 f3 f4 f5;obtain⟨o,e,c,d⟩:=id st';exact⟨u,rfl,zmL (s:={ s with heap:=h' }) e c d (by decide) ⟨x,H,I1,ru,⟨rfl,fun ys hy=>by rw [I.tuple_inj hy hq]; exact hx⟩,st',fun b hb=>(hf b hb).1⟩⟩
 done:=by
  intro X hP hw hK hc i pins s σ H E I hf st hg;subst hP hw hK;obtain⟨xs,hq,hx⟩:=hg;obtain⟨its,rv,p,hz⟩:=I.tuple hq;obtain⟨f0,f1,f2,f3,f4,f5⟩:=hf it (by simp);have hl:=rv.length;exact wpAny_pyNext_tuple_end (I.ok.hd hc) st (show s.heap.IsTuple a its.toArray from p) (by simp; omega) fun h' eb=>⟨rfl,I.turned (t':=s.toks) (fun b o hb e=>eb b o hb e) f0 f1 f3 f4 f5⟩
 self:=fun _ _ _ _ _ st h=>wpAny_pyIter_tupleiter st h
theorem zi9{P:Program}{w:World}{K:qc}{tg:Expr}(it:Addr)(lo:Int)(n:Nat):Turn P w K tg (Itr lo n) [it] it (fun i h=>IsRangeIter h it (lo+(i:Nat) * 1) ((n:Int) - (i:Nat)) 1) where
 mem:=by simp
 obj:=fun i h st b hb=>by
  have e:b=it:=by simpa using hb
  subst e;exact⟨_,st,fun v z=>by
   have z':Data.fields _=Data.cell v:=z;cases z'⟩
 keep:=fun i h h' st k=>k it (by simp) _ st
 item:=by
  intro X hP hw hK hc i pins s σ H E I hf st hg;subst hP hw hK;obtain⟨f0,f1,f2,f3,f4,f5⟩:=hf it (by simp);have W:=Walks.range (prog:=X.prog) (w:=X.w) (I.ok.hd hc) it lo 1 n;refine W.item i s _ _ hg st fun v h' tk hv st' kk=>?_;obtain⟨t,rfl⟩:=hv;have I1:Inv X pins σ H { s with heap:=h',toks:=tk }:=I.turned (fun b o hb e=>kk b o (by simpa using hb) e) f0 f1 f3 f4 f5;refine⟨_,rfl,zmL (s:={ s with heap:=h',toks:=tk }) (n := "range_iterator") st' rfl rfl (by decide) ⟨.int (lo+i),H,I1,⟨t,?_⟩,⟨rfl,rfl⟩,st',fun b hb=>(hf b hb).1⟩⟩;rw [Int.mul_one]
 done:=by
  intro X hP hw hK hc i pins s σ H E I hf st hg;subst hP hw hK;obtain⟨f0,f1,f2,f3,f4,f5⟩:=hf it (by simp);exact wpAny_pyNext_range_end (I.ok.hd hc) st (by have:n<=i:=hg; omega) fun h' eb=>⟨rfl,I.turned (t':=s.toks) (fun b o hb e=>eb b o hb e) f0 f1 f3 f4 f5⟩
 self:=fun _ _ _ _ _ st h=>wpAny_pyIter_rangeiter st h
section
variable {X:Cx} {tg:Expr}
def zmM(K:qc)(tl:TE):TI:=fun σ H R=>tl σ H fun x H1=>∃ a,x=.ref a/\(∃ xs,SqL K H1 a xs)/\R (Itl K a) H1
def zth(K:qc)(tl:TE):TI:=fun σ H R=>tl σ H fun x H1=>∃ a,x=.ref a/\(∃ xs,SqT K H1 a xs)/\R (Itt K a) H1
theorem zp4{l:Expr}{tl:TE}(hl:PE X l tl):PI X tg l (zmM X.K tl):=by
 intro pins s σ H R I h;refine thn (hl pins s σ H _ I h) fun v s1 hZ=>?_;obtain⟨x,H1,I1,r1,q1⟩:=hZ;obtain⟨a,e,⟨xs,hq⟩,q⟩:=q1;subst e;cases r1;obtain⟨its,rv,p,hz⟩:=I1.list hq;refine wpAny_pyIter_list p.isList ?_;refine⟨s1.heap.objs.size,[s1.heap.objs.size],_,_,H1,rfl,I1.kept (t':=s1.toks) fun b o e=>qd _ e,zlO a _,⟨_,qg _ rfl,rfl,rfl⟩,fun b hb=>?_,q⟩;have e:b=s1.heap.objs.size:=by simpa using hb
 subst e;exact I1.fpOk (qe _) (I1.hok.fresh (qe _))
theorem zti{l:Expr}{tl:TE}(hl:PE X l tl):PI X tg l (zth X.K tl):=by
 intro pins s σ H R I h;refine thn (hl pins s σ H _ I h) fun v s1 hZ=>?_;obtain⟨x,H1,I1,r1,q1⟩:=hZ;obtain⟨a,e,⟨xs,hq⟩,q⟩:=q1;subst e;cases r1;obtain⟨its,rv,p,hz⟩:=I1.tuple hq;refine wpAny_pyIter_tuple (show s1.heap.IsTuple a its.toArray from p) ?_;refine⟨s1.heap.objs.size,[s1.heap.objs.size],_,_,H1,rfl,I1.kept (t':=s1.toks) fun b o e=>qd _ e,zi8 a _,⟨_,qg _ rfl,rfl,rfl⟩,fun b hb=>?_,q⟩;have e:b=s1.heap.objs.size:=by simpa using hb
 subst e;exact I1.fpOk (qe _) (I1.hok.fresh (qe _))
theorem zmN{pins:List (Addr×Obj)}{σ:St}{H:Hp}{s:Shared}{R:It->Hp->Prop}{E:Value->Shared->Prop}{lo hi:Int}{t u v:Tok}{tk:Nat}(I:Inv X pins σ H s)(h1:-(2^62)<=lo)(h2:lo < 2^62)(h3:-(2^62)<=hi)(h4:hi < 2^62)
  (q:R (Itr lo (hi - lo).toNat) H):wpAny (model X.prog X.w) X.A (pyIter (.ref s.heap.objs.size)) (PIE X pins σ tg R) E { s with heap:=s.heap.push { cls:=.type "range",data:=.fields #[.int lo t,.int hi u,.int 1 v] },toks:=tk }:=by
 refine wpAny_pyIter_range (IsRange.new ..) (small_one h1 h2 h3 h4) ?_;have I1:Inv X pins σ H { s with heap:=s.heap.push { cls:=.type "range",data:=.fields #[.int lo t,.int hi u,.int 1 v] },toks:=tk }:=I.kept fun b o e=>qd _ e;refine⟨(s.heap.push { cls:=.type "range",data:=.fields #[.int lo t,.int hi u,.int 1 v] }).objs.size,[(s.heap.push { cls:=.type "range",data:=.fields #[.int lo t,.int hi u,.int 1 v] }).objs.size],_,_,H,rfl,
  I1.kept (t':=tk) fun b o e=>qd _ e,zi9 _ lo (hi - lo).toNat,?_,fun b hb=>?_,q⟩
 ·have e1:lo+((0:Nat):Int) * 1=lo:=by simp
  have e2:(((hi - lo).toNat:Nat):Int) - ((0:Nat):Int)=Builtin.Range.rangeSize lo hi 1:=by rw [rangeSize_one]; split<;>omega
  show IsRangeIter _ _ (lo+((0:Nat):Int) * 1) ((((hi - lo).toNat:Nat):Int) - ((0:Nat):Int)) 1;rw [e1,e2];exact qg _ rfl
 ·have e:b=(s.heap.push { cls:=.type "range",data:=.fields #[.int lo t,.int hi u,.int 1 v] }).objs.size:=by simpa using hb
  subst e;exact I1.fpOk (qe _) (I1.hok.fresh (qe _))
def zmO(ta:TA):TI:=fun σ H R=>ta σ H fun vs H1=>∃ j:Int,vs=[.int j]/\-(2^62)<=j/\j < 2^62/\R (Itr 0 j.toNat) H1
theorem zlP{a:Expr}{ta:TA}{p pos:Pos}(hg:Gl X "range")(hm:X.mg "range"=none)(ha:PA X [a] ta)(hs:starEach [a] X.env=[(false,eval a X.env)]:=by rfl):PI X tg (.Call (.Name "range" p) [a] [] pos) (zmO ta):=by
 intro pins s σ H R I h;refine Call_ (zcL I hg hm boot_range (PyProof.Rows.callWith_type1 (thn (ha pos pins s σ H _ I h) fun us s1 hZ=>?_) hs rfl));obtain⟨vs,H1,I1,r1,q1⟩:=hZ;obtain⟨j,e,q1,q2,q⟩:=q1;subst e;cases r1 with
 | cons r rr =>
  cases rr;obtain⟨t,rfl⟩:=r;exact call_range_1 (zmN I1 (by omega) (by omega) q1 q2 (by simpa using q))
def ztj(wi:TI)(g:TG)(tb:TS):TS:=fun D σ H=>wi σ H fun J H1=>∃ W:Nat->Nat->St->Hp->Prop,(∃ m,W 0 m σ H1)/\∀ i m σ H,W i m σ H ->
 (J.stop i H/\D.nx σ H)\/(J.go i H/\∃ N:St->Hp->Prop,(∀ σ' H',N σ' H'->∃ m',m' < m/\W (i+1) m' σ' H')/\∀ x H',J.yld i H x H'->g x σ H' fun σ2 H2=>tb { D with nx:=N,ct:=N,bk:=D.nx } σ2 H2)
def zfq(fp:List Addr)(h:Heap):List (Addr×Obj):=fp.filterMap fun b=>(h.get? b).map fun o=>(b,o)
theorem zaH{fp:List Addr}{h:Heap}{b:Addr}{o:Obj}(hb:b∈fp)(e:h.get? b=some o):(b,o)∈zfq fp h:=List.mem_filterMap.mpr ⟨b,hb,by rw [e]; rfl⟩
theorem zlQ{fp:List Addr}{h:Heap}{p:Addr×Obj}(hp:p∈zfq fp h):p.1∈fp/\h.get? p.1=some p.2:=by
 obtain⟨b,hb,e⟩:=List.mem_filterMap.mp hp;cases q:h.get? b with
 | none=>rw [q]at e; cases e
 | some o =>
  rw [q]at e;have e':(b,o)=p:=qx e;subst e';exact⟨hb,q⟩
theorem Inv.pinned{pins:List (Addr×Obj)}{σ:St}{H:Hp}{s:Shared}{fp:List Addr}(I:Inv X pins σ H s)(hf:∀ b∈fp,zaq X pins H b)(ho:∀ b∈fp,∃ o,s.heap.get? b=some o/\∀ v,o.data≠.cell v):Inv X (pins++zfq fp s.heap) σ H s :=
 I.pins_of fun p hp=>(List.mem_append.mp hp).elim (fun z=>I.pin p (qw _ z)) fun z=>by
  obtain⟨hb,e⟩:=zlQ z;obtain⟨f0,f1,f2,_⟩:=hf p.1 hb;obtain⟨o,e',d⟩:=ho p.1 hb;rw [e]at e'; cases e';exact⟨e,f0,f1,f2,d⟩
theorem Inv.unpinned{pins pl:List (Addr×Obj)}{σ:St}{H:Hp}{s:Shared}(I:Inv X (pins++pl) σ H s):Inv X pins σ H s:=I.pins_of fun p hp=>I.pin p (qw _ (List.mem_append_left _ hp))
theorem ztk{iter:Expr}{body:List Stmt}{wi:TI}{g:TG}{tb:TS}{pos:Pos}(hp:PassesOwn (model X.prog X.w) X.A X.env X.xe)(hc:X.calm=true)(hi:PI X tg iter wi)(hg:PG X tg g)(hb:PSs X body tb)
  (hs:∀ x,foldedSetIterable iter X.env x=pure x:=by intro _; rfl):PS X (.For tg iter body [] pos) (ztj wi g tb):=by
 intro pins s σ H D I h;refine wpAny_For (thn (hi pins s σ H _ I h) fun v s1 h1=>thn h1 fun itv s2 h2=>?_) hs;obtain⟨it,fp,tn,J,H2,e,I2,T,st2,f2,W,⟨m0,w0⟩,turn⟩:=h2;subst e;have stat:∀ {H':Hp},(∀ b∈fp,H' b=none)->∀ b∈fp,zaq X pins H' b:=fun hn b hb=>⟨hn b hb,(f2 b hb).2⟩;refine codeAny_forLoop_any (fun n s'=>∃ i σ' H',Inv X pins σ' H' s'/\tn i s'.heap/\(∀ b∈fp,H' b=none)/\W i n σ' H') ?_ m0 ⟨0,σ,H2,I2,st2,fun b hb=>(f2 b hb).1,w0⟩;rintro n s3 ⟨i,σ3,H3,I3,st3,fr3,w3⟩;rcases turn i n σ3 H3 w3 with ⟨stop,qn⟩ | ⟨go,N,hN,step⟩
 ·refine wpAny_passesOwn hp (thn (T.done X rfl rfl rfl hc i pins s3 σ3 H3 X.xe I3 (stat fr3) st3 stop) fun r s4 hZ=>?_)
  obtain⟨hr,I4⟩:=hZ;subst hr;exact wpAny_execs_nil ⟨σ3,H3,I4,qn⟩
 ·refine wpAny_passesOwn hp (thn (T.item X rfl rfl rfl hc i pins s3 σ3 H3 X.xe I3 (stat fr3) st3 go) fun r s4 hZ=>?_)
  obtain⟨u,hr,h4⟩:=hZ;subst hr;refine wpAny_passesOwn hp (thn h4 fun _ s5 hZ=>?_);obtain⟨x,H5,I5,r5,y5,st5,fr5⟩:=hZ;have I5':=I5.pinned (stat fr5) (T.obj _ _ st5);refine wpAny_passesOwn hp (thn (hg _ s5 σ3 H5 x u _ I5' r5 (step x H5 y5)) fun _ s6 hZ=>?_);obtain⟨σ6,H6,I6,q6⟩:=hZ;refine wpAny_passesOwn hp (thn (hb _ s6 σ6 H6 _ I6 q6) fun f s7 q7=>?_);have again:∀ {σ7:St} {H7:Hp},Inv X (pins++zfq fp s5.heap) σ7 H7 s7->N σ7 H7->∃ m,m < n/\∃ i σ' H',Inv X pins σ' H' s7/\tn i s7.heap/\(∀ b∈fp,H' b=none)/\W i m σ' H':=fun{σ7 H7} I7 n7=>by
   obtain⟨m',hm,w7⟩:=hN σ7 H7 n7;refine⟨m',hm,i+1,σ7,H7,I7.unpinned,T.keep _ _ _ st5 fun b hb o e=>(I7.pin (b,o) (qw _ (qw _ (zaH hb e)))).1,fun b hb=>?_,w7⟩;obtain⟨o,e,d⟩:=T.obj _ _ st5 b hb;exact(I7.pin (b,o) (qw _ (qw _ (zaH hb e)))).2.1
  cases f with
  | next=>obtain⟨σ7,H7,I7,n7⟩:=q7; exact again I7 n7
  | cont=>obtain⟨σ7,H7,I7,n7⟩:=q7; exact again I7 n7
  | brk=>obtain⟨σ7,H7,I7,q7⟩:=q7; exact⟨σ7,H7,I7.unpinned,q7⟩
  | ret v=>obtain⟨x7,σ7,H7,I7,r7,q7⟩:=q7; exact⟨x7,σ7,H7,I7.unpinned,r7,q7⟩
end
abbrev R2:=V->V->Hp->VK->Prop
def OpR(X:Cx)(f:Value->Value->Sem Value)(r:R2):Prop :=
 ∀ (pins:List (Addr×Obj)) (s:Shared) (σ:St) (H:Hp) (x y:V) (v u:Value) (Q:VK),Inv X pins σ H s->zI x v->zI y u->r x y H Q ->
  wpAny (model X.prog X.w) X.A (f v u) (EP X pins σ Q) X.xe s
def UnR(X:Cx)(f:Value->Sem Value)(r:V->Hp->VK->Prop):Prop :=
 ∀ (pins:List (Addr×Obj)) (s:Shared) (σ:St) (H:Hp) (x:V) (v:Value) (Q:VK),Inv X pins σ H s->zI x v->r x H Q ->
  wpAny (model X.prog X.w) X.A (f v) (EP X pins σ Q) X.xe s
def zbK(X:Cx)(f:Value)(r:List V->Hp->VK->Prop):Prop :=
 ∀ (pins:List (Addr×Obj)) (s:Shared) (σ:St) (H:Hp) (xs:List V) (us:List Value) (Q:VK),Inv X pins σ H s->zE xs us->r xs H Q ->
  wpAny (model X.prog X.w) X.A (call f us) (EP X pins σ Q) X.xe s
def zw2(X:Cx)(r:V->Hp->(Bool->Hp->Prop)->Prop):Prop :=
 ∀ (pins:List (Addr×Obj)) (s:Shared) (σ:St) (H:Hp) (x:V) (v:Value) (Q:Bool->Hp->Prop),Inv X pins σ H s->zI x v->r x H Q ->
  wpAny (model X.prog X.w) X.A (truthy v) (TP X pins σ Q) X.xe s
def tOp(r:R2)(ta tb:TE):TE:=fun σ H Q=>ta σ H fun x H1=>tb σ H1 fun y H2=>r x y H2 Q
def tUn(r:V->Hp->VK->Prop)(ta:TE):TE:=fun σ H Q=>ta σ H fun x H1=>r x H1 Q
def rI(C:Int->Int->Prop)(g:Int->Int->V):R2:=fun x y H Q=>∃ i j,x=.int i/\y=.int j/\C i j/\Q (g i j) H
def rI0(g:Int->Int->V):R2:=fun x y H Q=>∃ i j,x=.int i/\y=.int j/\Q (g i j) H
def rU(g:Int->V):V->Hp->VK->Prop:=fun x H Q=>∃ i,x=.int i/\Q (g i) H
section
variable {X:Cx} {a b c:Expr} {ta tb tc:TE} {pos:Pos}
theorem ztl(ha:PE X a ta)(hb:PE X b tb){pins:List (Addr×Obj)}{s:Shared}{σ:St}{H:Hp}{R:V->V->Hp->Prop}(I:Inv X pins σ H s)
  (h:ta σ H fun x H1=>tb σ H1 fun y H2=>R x y H2) {Q:Value->Shared->Prop} {f:Value->Value->Sem Value}
  (hf:∀ v u s2 x y H2,Inv X pins σ H2 s2->zI x v->zI y u->R x y H2->wpAny (model X.prog X.w) X.A (f v u) Q X.xe s2) :
  wpAny (model X.prog X.w) X.A (eval a X.env) (fun v s₁=>wpAny (model X.prog X.w) X.A (eval b X.env) (fun u s₂=>wpAny (model X.prog X.w) X.A (f v u) Q X.xe s₂) X.xe s₁) X.xe s:=by
 refine thn (ha pins s σ H _ I h) fun v s1 hZ=>?_;obtain⟨x,H1,I1,r1,q1⟩:=hZ;refine thn (hb pins s1 σ H1 _ I1 q1) fun u s2 hZ=>?_;obtain⟨y,H2,I2,r2,q2⟩:=hZ;exact hf v u s2 x y H2 I2 r1 r2 q2
theorem zvl{op:Operator}{r:R2}(ho:OpR X (binaryOp op) r)(ha:PE X a ta)(hb:PE X b tb):PE X (.BinOp a op b pos) (tOp r ta tb):=by
 intro pins s σ H Q I h;exact wpAny_BinOp (ztl ha hb I h fun v u s2 x y H2 I2 rx ry q=>ho pins s2 σ H2 x y v u Q I2 rx ry q)
theorem zvm{op:UnaryOp}{r:V->Hp->VK->Prop}(ho:UnR X (unaryOp op) r)(ha:PE X a ta):PE X (.UnaryOp op a pos) (tUn r ta):=by
 intro pins s σ H Q I h;exact UnaryOp_ (thn (ha pins s σ H _ I h) fun v s1 ⟨x,H1,I1,r1,q1⟩=>ho pins s1 σ H1 x v Q I1 r1 q1)
theorem opI{f:Value->Value->Sem Value}{C:Int->Int->Prop}{g:Int->Int->Int}
  (rule:∀ (i j:Int) (t u:Tok) (s:Shared) (Q:Value->Shared->Prop) (E:Value->Shared->Prop),C i j->Q (.int (g i j) s.toks) { s with toks:=s.toks+1 }->wpAny (model X.prog X.w) X.A (f (.int i t) (.int j u)) Q E s) :
  OpR X f (rI C fun i j=>.int (g i j)):=by
 intro pins s σ H x y v u Q I rx ry h;obtain⟨i,j,rfl,rfl,hc,q⟩:=h;obtain⟨t,rfl⟩:=rx;obtain⟨t',rfl⟩:=ry;exact rule i j t t' s _ _ hc ⟨.int (g i j),H,I.tok _,⟨_,rfl⟩,q⟩
theorem zvn{f:Value->Value->Sem Value}{g:Int->Int->Int}
  (rule:∀ (i j:Int) (t u:Tok) (s:Shared) (Q:Value->Shared->Prop) (E:Value->Shared->Prop),Q (.int (g i j) s.toks) { s with toks:=s.toks+1 }->wpAny (model X.prog X.w) X.A (f (.int i t) (.int j u)) Q E s) :
  OpR X f (rI0 fun i j=>.int (g i j)):=by
 intro pins s σ H x y v u Q I rx ry h;obtain⟨i,j,rfl,rfl,q⟩:=h;obtain⟨t,rfl⟩:=rx;obtain⟨t',rfl⟩:=ry;exact rule i j t t' s _ _ ⟨.int (g i j),H,I.tok _,⟨_,rfl⟩,q⟩
theorem ztm{f:Value->Value->Sem Value}{g:Int->Int->Bool}
  (rule:∀ (i j:Int) (t u:Tok) (s:Shared) (Q:Value->Shared->Prop) (E:Value->Shared->Prop),Q (.bool (g i j)) s->wpAny (model X.prog X.w) X.A (f (.int i t) (.int j u)) Q E s) :
  OpR X f (rI0 fun i j=>.bl (g i j)):=by
 intro pins s σ H x y v u Q I rx ry h;obtain⟨i,j,rfl,rfl,q⟩:=h;obtain⟨t,rfl⟩:=rx;obtain⟨t',rfl⟩:=ry;exact rule i j t t' s _ _ ⟨.bl (g i j),H,I,rfl,q⟩
def zp5(i j:Int):Prop:=0<=j/\j<=1000000/\i.natAbs < 2^64
def zlR(i j:Int):Prop:=(-(2^64) < i/\i < 2^64)\/(-(2^64) < j/\j < 2^64)
theorem zlR.ok{i j:Int}(h:zlR i j):IntMulOk i j:=by
 rcases h with ⟨h1,h2⟩ | ⟨h1,h2⟩
 ·exact .of_left (intBits_le_64 h1 h2)
 ·exact .of_right (intBits_le_64 h1 h2)
theorem zaA:OpR X (binaryOp .Add) (rI0 fun i j=>.int (i+j)):=zvn fun _ _ _ _ _ _ _ q=>add_int q
theorem zds:OpR X (binaryOp .Sub) (rI0 fun i j=>.int (i - j)):=zvn fun _ _ _ _ _ _ _ q=>sub_int q
theorem zaW:OpR X (binaryOp .Mult) (rI zlR fun i j=>.int (i * j)):=opI fun _ _ _ _ _ _ _ hc q=>mul_int q hc.ok
theorem zcM:OpR X (binaryOp .Mod) (rI (fun _ j=>0 < j) fun i j=>.int (i % j)):=opI fun i j _ _ _ _ _ hc q=>by
 have h1:(0:Int) < j:=hc;exact mod_int' (by omega) (by rw [Int.fmod_eq_emod_of_nonneg i (by omega)]; exact q)
theorem ztn:OpR X (binaryOp .Pow) (rI zp5 fun i j=>.int (i^j.toNat)):=opI fun _ _ _ _ _ _ _ hc q=>pow_int_small hc.1 hc.2.1 hc.2.2 q
theorem unI{f:Value->Sem Value}{g:Int->Int}
  (rule:∀ (i:Int) (t:Tok) (s:Shared) (Q:Value->Shared->Prop) (E:Value->Shared->Prop),Q (.int (g i) s.toks) { s with toks:=s.toks+1 }->wpAny (model X.prog X.w) X.A (f (.int i t)) Q E s) :
  UnR X f (rU fun i=>.int (g i)):=by
 intro pins s σ H x v Q I rx h;obtain⟨i,rfl,q⟩:=h;obtain⟨t,rfl⟩:=rx;exact rule i t s _ _ ⟨.int (g i),H,I.tok _,⟨_,rfl⟩,q⟩
theorem zci:UnR X (unaryOp .USub) (rU fun i=>.int (-i)):=unI fun _ _ _ _ _ q=>neg_int q
end
def zto:V->V->Bool
 | .non,.non=>true | .non,.int _=>true | .int _,.non=>true | .non,.bl _=>true | .bl _,.non=>true | .non,.str _=>true | .str _,.non=>true
 | .int _,.int _=>true | .bl _,.bl _=>true | .str _,.str _=>true | .byt _,.byt _=>true
 | .int _,.str _=>true | .str _,.int _=>true | .bl _,.str _=>true | .str _,.bl _=>true
 | _,_=>false
def rEq:R2:=fun x y H Q=>zto x y=true/\Q (.bl (decide (x=y))) H
def rNe:R2:=fun x y H Q=>zto x y=true/\Q (.bl (!decide (x=y))) H
theorem zj1{i j:Int}:decide (V.int i=V.int j)=(i==j):=by
 rw [Bool.eq_iff_iff];simp
theorem zmP{i j:Bool}:decide (V.bl i=V.bl j)=(i==j):=by
 rw [Bool.eq_iff_iff];simp
theorem zj2{i j:Str}:decide (V.str i=V.str j)=(i==j):=by
 rw [Bool.eq_iff_iff];simp
theorem zj3{i j:Array UInt8}:decide (V.byt i=V.byt j)=(i.toList==j.toList):=by
 rw [Bool.eq_iff_iff];cases i;cases j;simp
section
variable {X:Cx} {a b c:Expr} {ta tb tc:TE} {pos:Pos}
theorem zU{pins:List (Addr×Obj)}{σ:St}{H:Hp}{s:Shared}{Q:VK}{k k':Bool}(I:Inv X pins σ H s)(q:Q (.bl k) H)(e:k=k'):EP X pins σ Q (.bool k') s:=by
 subst e;exact⟨.bl k,H,I,rfl,q⟩
theorem zfr:OpR X (compareOp .Eq) rEq:=by
 intro pins s σ H x y v u Q I rx ry h;obtain⟨hs,q⟩:=h;cases x with
 | non =>
  cases rx;cases y with
  | non=>cases ry; exact PySem.EqNone.eq_none_none (zU I q (by simp))
  | bl j=>cases ry; exact PySem.EqNone.eq_none_bool (zU I q (by simp))
  | int j=>obtain⟨t',rfl⟩:=ry; exact PySem.EqNone.eq_none_int (zU I q (by simp))
  | str j=>obtain⟨t',rfl⟩:=ry; exact PySem.EqNone.eq_none_str (zU I q (by simp))
  | _=>exact absurd (show false=true from hs) qf
 | bl i =>
  cases rx;cases y with
  | non=>cases ry; exact PySem.EqNone.eq_bool_none (zU I q (by simp))
  | bl j=>cases ry; exact eq_bool (zU I q zmP)
  | str j=>obtain⟨t',rfl⟩:=ry; exact PySem.EqMixed.eq_bool_str (zU I q (by simp))
  | _=>exact absurd (show false=true from hs) qf
 | int i =>
  obtain⟨t,rfl⟩:=rx;cases y with
  | non=>cases ry; exact PySem.EqNone.eq_int_none (zU I q (by simp))
  | int j=>obtain⟨t',rfl⟩:=ry; exact eq_int (zU I q zj1)
  | str j=>obtain⟨t',rfl⟩:=ry; exact PySem.EqMixed.eq_int_str (zU I q (by simp))
  | _=>exact absurd (show false=true from hs) qf
 | str i =>
  obtain⟨t,rfl⟩:=rx;cases y with
  | non=>cases ry; exact PySem.EqNone.eq_str_none (zU I q (by simp))
  | bl j=>cases ry; exact PySem.EqMixed.eq_str_bool (zU I q (by simp))
  | int j=>obtain⟨t',rfl⟩:=ry; exact PySem.EqMixed.eq_str_int (zU I q (by simp))
  | str j=>obtain⟨t',rfl⟩:=ry; exact eq_str (zU I q zj2)
  | _=>exact absurd (show false=true from hs) qf
 | byt i =>
  obtain⟨t,rfl⟩:=rx;cases y with
  | byt j=>obtain⟨t',rfl⟩:=ry; exact PySem.W.eq_bytes (zU I q zj3)
  | _=>exact absurd (show false=true from hs) qf
 | _=>cases y<;>exact absurd (show false=true from hs) qf
theorem zj4:OpR X (compareOp .NotEq) rNe:=by
 intro pins s σ H x y v u Q I rx ry h;obtain⟨hs,q⟩:=h;cases x with
 | non =>
  cases rx;cases y with
  | non=>cases ry; exact PySem.EqNone.ne_none_none (zU I q (by simp))
  | bl j=>cases ry; exact PySem.EqNone.ne_none_bool (zU I q (by simp))
  | int j=>obtain⟨t',rfl⟩:=ry; exact PySem.EqNone.ne_none_int (zU I q (by simp))
  | str j=>obtain⟨t',rfl⟩:=ry; exact PySem.EqNone.ne_none_str (zU I q (by simp))
  | _=>exact absurd (show false=true from hs) qf
 | bl i =>
  cases rx;cases y with
  | non=>cases ry; exact PySem.EqNone.ne_bool_none (zU I q (by simp))
  | bl j=>cases ry; exact ne_bool (zU I q (congrArg not zmP))
  | str j=>obtain⟨t',rfl⟩:=ry; exact PySem.EqMixed.ne_bool_str (zU I q (by simp))
  | _=>exact absurd (show false=true from hs) qf
 | int i =>
  obtain⟨t,rfl⟩:=rx;cases y with
  | non=>cases ry; exact PySem.EqNone.ne_int_none (zU I q (by simp))
  | int j=>obtain⟨t',rfl⟩:=ry; exact ne_int (zU I q (congrArg not zj1))
  | str j=>obtain⟨t',rfl⟩:=ry; exact PySem.EqMixed.ne_int_str (zU I q (by simp))
  | _=>exact absurd (show false=true from hs) qf
 | str i =>
  obtain⟨t,rfl⟩:=rx;cases y with
  | non=>cases ry; exact PySem.EqNone.ne_str_none (zU I q (by simp))
  | bl j=>cases ry; exact PySem.EqMixed.ne_str_bool (zU I q (by simp))
  | int j=>obtain⟨t',rfl⟩:=ry; exact PySem.EqMixed.ne_str_int (zU I q (by simp))
  | str j=>obtain⟨t',rfl⟩:=ry; exact ne_str (zU I q (congrArg not zj2))
  | _=>exact absurd (show false=true from hs) qf
 | byt i =>
  obtain⟨t,rfl⟩:=rx;cases y with
  | byt j=>obtain⟨t',rfl⟩:=ry; exact PySem.W.ne_bytes (zU I q (congrArg not zj3))
  | _=>exact absurd (show false=true from hs) qf
 | _=>cases y<;>exact absurd (show false=true from hs) qf
theorem zvo:OpR X (compareOp .Lt) (rI0 fun i j=>.bl (decide (i < j))):=ztm fun _ _ _ _ _ _ _ q=>lt_int q
theorem zj5:OpR X (compareOp .Gt) (rI0 fun i j=>.bl (decide (j < i))):=ztm fun _ _ _ _ _ _ _ q=>gt_int q
theorem zrx:OpR X (compareOp .GtE) (rI0 fun i j=>.bl (decide (j<=i))):=ztm fun _ _ _ _ _ _ _ q=>ge_int q
theorem zg0:OpR X (compareOp .Is) (fun x y H Q=>y=.non/\Q (.bl (decide (x=.non))) H):=by
 intro pins s σ H x y v u Q I rx ry h;obtain⟨rfl,q⟩:=h;cases ry;refine is_none_gen (zU I q ?_);cases x<;>first
  | (cases rx; rfl)
  | (obtain⟨t,rfl⟩:=rx; rfl)
theorem zp6:OpR X (compareOp .IsNot) (fun x y H Q=>y=.non/\Q (.bl (!decide (x=.non))) H):=by
 intro pins s σ H x y v u Q I rx ry h;obtain⟨rfl,q⟩:=h;cases ry;refine isnot_none_gen (zU I q ?_);cases x<;>first
  | (cases rx; rfl)
  | (obtain⟨t,rfl⟩:=rx; rfl)
theorem zmQ(b:Expr){op:CmpOp}(h:op≠.In:=by decide)(h2:op≠.NotIn:=by decide):behindInMarks op b=false:=by
 have e1:(op==CmpOp.In)=false:=by cases op<;>first | rfl | exact absurd rfl h
 have e2:(op==CmpOp.NotIn)=false:=by cases op<;>first | rfl | exact absurd rfl h2
 cases b<;>simp [behindInMarks,e1,e2]
theorem zp7{op:CmpOp}{r:R2}(ho:OpR X (compareOp op) r)(ha:PE X a ta)(hb:PE X b tb)(hm:behindInMarks op b=false):PE X (.Compare a [op] [b] pos) (tOp r ta tb):=by
 intro pins s σ H Q I h;exact wpAny_Compare1 (ztl ha hb I h fun v u s2 x y H2 I2 rx ry q=>ho pins s2 σ H2 x y v u Q I2 rx ry q) hm
def zmR(t:TE):TT:=fun σ H Q=>t σ H fun x H'=>∃ k,x=.bl k/\Q k H'
theorem zp8{op:CmpOp}{r:R2}(ho:OpR X (compareOp op) r)(ha:PE X a ta)(hb:PE X b tb)(hm:behindInMarks op b=false):PT X (.Compare a [op] [b] pos) (zmR (tOp r ta tb)):=by
 intro pins s σ H Q I h;refine wpAny_isTrue_Compare1 (thn (ha pins s σ H _ I h) fun v s1 ⟨x,H1,I1,r1,q1⟩=>thn (hb pins s1 σ H1 _ I1 q1) fun u s2 ⟨y,H2,I2,r2,q2⟩ =>
  thn (ho pins s2 σ H2 x y v u _ I2 r1 r2 q2) fun c s3 ⟨z,H3,I3,r3,k,e,q3⟩=>?_) hm
 subst e;cases r3;exact wpAny_truthy_bool ⟨H3,I3,q3⟩
def ztp(K:qc)(x:V)(H:Hp)(k:Bool):Prop :=
 match x with
 | .non=>k=false
 | .bl b=>k=b
 | .int i=>k=(i != 0)
 | .str y=>y.length<=sizeLine/\k=((y.length:Int) != 0)
 | .byt y=>y.size<=sizeLine/\k=((y.size:Int) != 0)
 | .ref p=>(∃ xs,SqL K H p xs/\k=!xs.isEmpty)\/(∃ xs,SqT K H p xs/\k=!xs.isEmpty)\/∃ kvs,H p=some (.dK kvs)/\k=!kvs.isEmpty
 | _=>False
theorem zja{κ:Type}{kvs:List (κ×V)}{vs:List (κ×Value)}(r:KV kvs vs):(!vs.isEmpty)=!kvs.isEmpty:=by
 cases r<;>rfl
theorem zfs{xs:List V}{its:List Value}(r:zE xs its):(!its.toArray.isEmpty)=!xs.isEmpty:=by
 cases r<;>simp
theorem zed:(sizeLine:Nat) < 2^63:=by rw [sizeLine_eq]; decide
theorem ztq:zw2 X (fun x H Q=>∃ k,ztp X.K x H k/\Q k H):=by
 intro pins s σ H x v Q I rx h;obtain⟨k,e,q⟩:=h;have hl:=zed;have hs:sizeLine=16777216:=sizeLine_eq;cases x with
 | non =>
  cases rx;have e':k=false:=e;subst e';exact truthy_none ⟨H,I,q⟩
 | bl b =>
  cases rx;have e':k=b:=e;subst e';exact wpAny_truthy_bool ⟨H,I,q⟩
 | int i =>
  obtain⟨t,rfl⟩:=rx;have e':k=(i != 0):=e;subst e';exact PySem.P.truthy_int ⟨H,I,q⟩
 | str y =>
  obtain⟨t,rfl⟩:=rx;obtain⟨hy,e'⟩:y.length<=sizeLine/\k=((y.length:Int) != 0):=e;subst e';exact PySem.P.truthy_str (by omega) ⟨H,I.tok _,q⟩
 | byt y =>
  obtain⟨t,rfl⟩:=rx;obtain⟨hy,e'⟩:y.size<=sizeLine/\k=((y.size:Int) != 0):=e;subst e';exact PySem.W.truthy_bytes (by omega) ⟨H,I.tok _,q⟩
 | ref p =>
  cases rx;have e':(∃ xs,SqL X.K H p xs/\k=!xs.isEmpty)\/(∃ xs,SqT X.K H p xs/\k=!xs.isEmpty)\/∃ kvs,H p=some (.dK kvs)/\k=!kvs.isEmpty:=e;rcases e' with ⟨xs,hx,e'⟩ | ⟨xs,hx,e'⟩ | ⟨kvs,hx,e'⟩
  ·subst e'
   obtain⟨its,r,pl,hz⟩:=I.list hx;have hlen:=r.length;exact wpAny_truthy_list pl.isList (by simp only [List.size_toArray]; omega) ⟨H,I.tok _,by rw [zfs r]; exact q⟩
  ·subst e'
   obtain⟨its,r,pl,hz⟩:=I.tuple hx;have hlen:=r.length;exact truthy_tuple pl (by simp only [List.size_toArray]; omega) ⟨H,I.tok _,by rw [zfs r]; exact q⟩
  ·subst e'
   obtain⟨hz,hS,vs,r,m⟩:kvs.length<=sizeLine/\(p==sysModules)=false/\∃ vs,KV kvs vs/\s.heap.DictOf (zO X.prog X.w) p vs:=I.hok p _ hx;have hlen:kvs.length=vs.length:=Paired.length r;exact wpAny_truthy_dict hS m (by omega) ⟨H,I.tok _,by rw [zja r]; exact q⟩
 | _=>exact(show False from e).elim
theorem zmS(ha:PE X a ta)(he:∀ whole,isTrue a X.env whole=(do let v <-whole; standAt a.pos; holding [v] (truthy v))) :
  PT X a (fun σ H Q=>ta σ H fun x H'=>∃ k,ztp X.K x H' k/\Q k H'):=by
 intro pins s σ H Q I h;exact isTrue_plain (thn (ha pins s σ H _ I h) fun v s1 ⟨x,H1,I1,r1,q1⟩=>ztq pins s1 σ H1 x v Q I1 r1 q1) (he _)
theorem zeB{x:V}{us:List Value}(r:zE [x] us):∃ u,us=[u]/\zI x u:=by
 cases r with
 | cons r1 r2=>cases r2; exact⟨_,rfl,r1⟩
theorem zj6{x y:V}{us:List Value}(r:zE [x,y] us):∃ u w',us=[u,w']/\zI x u/\zI y w':=by
 cases r with
 | cons r1 r2 =>
  cases r2 with
  | cons r3 r4=>cases r4; exact⟨_,_,rfl,r1,r3⟩
theorem zlS:zbK X (.type "int") (fun xs H Q=>(∃ i,xs=[.int i]/\Q (.int i) H)\/∃ k,xs=[.bl k]/\Q (.int (if k then 1 else 0)) H):=by
 intro pins s σ H xs us Q I r h;rcases h with ⟨i,rfl,q⟩ | ⟨k,rfl,q⟩
 ·obtain⟨u,rfl,t,rfl⟩:=zeB r
  exact call_int_int ⟨.int i,H,I,⟨_,rfl⟩,q⟩
 ·obtain⟨u,rfl,r1⟩:=zeB r
  cases r1;exact call_int_bool ⟨.int (if k then 1 else 0),H,I.tok _,⟨_,rfl⟩,q⟩
end
structure ObjM (h:Heap) (x dx C:Addr) (mA:Str->Option Value):Prop where
 obj:h.get? x=some (PySem.W.instObj C dx)
 ns:h.Ns1 dx mA
 ne:dx≠x
theorem zlT{h:Heap}{dx:Addr}{mA:Str->Option Value}(n:h.Ns1 dx mA):∃ od,h.get? dx=some od/\∀ name,PySem.W.lookIn name od=some (mA name):=by
 obtain⟨o,es,ep,ho,hd,hk,_,hm⟩:=n;refine⟨o,ho,fun name=>?_⟩;have e:=hm name;unfold nsFind findBy at e;rw [<-Array.find?_toList]at e;unfold PySem.W.lookIn;rw [hd];dsimp only;split
 ·rename_i y q
  rw [q]at e;exact congrArg some e
 ·rename_i q
  rw [q]at e;have a:es.toList.any (·.refKey)=false:=by
   rw [List.any_eq_false];intro y hy;obtain⟨z,t,hkey⟩:=hk y (Array.mem_toList_iff.mp hy);simp [DictEntry.refKey,hkey]
  have a':¬es.toList.any (·.refKey)=true:=by rw [a]; exact qf
  rw [if_neg a'];exact congrArg some e
theorem ObjM.look{h:Heap}{x dx C:Addr}{mA:Str->Option Value}(I:ObjM h x dx C mA):∃ od,PySem.W.InstAt h x (PySem.W.instObj C dx) C (some od)/\∀ name,PySem.W.lookIn name od=some (mA name) :=
 let ⟨od,ho,hl⟩:=zlT I.ns
 ⟨od,⟨I.obj,rfl,rfl,ho⟩,hl⟩
section
variable {prog:Program} {w:World} {A:Around} {E:Value->Shared->Prop} {s:Shared} {K:qc} {x dx C f:Addr} {mA:Str->Option Value} {name:Str} {v:Value}
theorem zp9{expr:Bool}{Q:Value->Shared->Prop}(X:K.In s.heap)(I:ObjM s.heap x dx C mA)(hg:PySem.W.plainGet K C name=true)(hh:PySem.W.hasDictIn K C=true)
  (ha:PySem.W.findIn K (.ref C) name=some none) (hv:mA name=some v) (hv':PySem.W.handedIn v=true) (h:Q v { s with toks:=s.toks+1 }) :
  wpAny (model prog w) A (getAttr (.ref x) name expr) Q E s:=by
 obtain⟨od,J,hl⟩:=I.look;exact PySem.W.get_value X J (PySem.W.plainGet_of hg).1 (PySem.W.findObj_own hh ha rfl (by rw [hl,hv])) hv' h
theorem zmT{pl:Sem Bool}{Q:Value×List Value->Shared->Prop}(X:K.In s.heap)(I:ObjM s.heap x dx C mA)(hg:PySem.W.plainGet K C name=true)
  (hf:PySem.W.findIn K (.ref C) name=some (some (.ref f))) (ht:PySem.W.isFn K (.ref f)=true) (hv:mA name=none) (h:Q (.ref f,[.ref x]) s) :
  wpAny (model prog w) A (getMethod (.ref x) name pl) Q E s:=by
 obtain⟨od,J,hl⟩:=I.look;exact PySem.W.method_fn X J (PySem.W.plainGet_of hg).1 (PySem.W.plainGet_of hg).2 hf (beq_iff_eq.mp ht) (by show(PySem.W.lookIn name od).map (·.isSome)=some false; rw [hl,hv]; rfl) h
theorem zqa{ns:List Str}{Q:Unit->Shared->Prop}(X:K.In s.heap)(I:ObjM s.heap x dx C mA)
  (hs:PySem.W.findIn K (.ref C) "__setattr__"=some (some (.builtin "object.__setattr__"))) (hp:PySem.W.plainOver K C=true) (ht:PySem.W.takerIn K C name=some none) (hh:PySem.W.hasDictIn K C=true)
  (hw:PySem.Within mA ns) (hsz:ns.length<=sizeLine)
  (h:∀ h',ObjM h' x dx C (fun y=>if y=name then some v else mA y)->Heap.SameBut dx s.heap h'->Q () { s with heap:=h',toks:=s.toks+2 }) :
  wpAny (model prog w) A (setAttr (.ref x) name v) Q E s:=by
 obtain⟨od,J,hl⟩:=I.look;refine PySem.W.set_plain X J hs (PySem.W.osa_open (s:={ s with toks:=s.toks+1 }) (r:=none) X J hp ht fun b=>?_);obtain⟨cd,hc,hd'⟩:=PySem.W.any_some hh;have hx:s.heap.get? x=some ⟨.ref C,some dx,.plain,#[]⟩:=I.obj;refine qa (qb (qa (qa (wpAny_loadPart hx (qa (PySem.W.Looks.here (s:={ s with toks:=s.toks+1 }) (PySem.W.looks_clsIn X hc) ?_))))));rw [hd'];refine qb (a:=some dx) (qa (qb (qa ?_)));refine wpAny_nsSet1 (s:={ s with toks:=s.toks+1 }) I.ns fun h' hn2 hs2=>?_;obtain⟨oD,esD,epD,hoD,hdD,hcD⟩:=hn2.count (PySem.Within.cons name v hw);refine qa (wpAny_lookBehind hoD (by rw [hdD]; exact pastItsLine_dict (qy hcD (by rw [qu]; omega))) ?_);exact qb (h _ ⟨(hs2.2 _ (Ne.symm I.ne)).trans I.obj,hn2,I.ne⟩ hs2)
theorem zmU{R:Result->Shared->Prop}{vs:List Value}{kw:List (Str×Value)}(X:K.In s.heap)(hm:PySem.W.makesIn K C=true)
  (hi:PySem.W.findIn K (.ref C) "__init__"=some (some (.ref f))) (hf:PySem.W.typeIn K (.ref f)=some (.type "function"))
  (h:codeAny (model prog w) (A.under (.builtin "type.__call__" ⟨.ref C::vs,kw⟩)) (.call (.ref f) ⟨.ref (s.heap.objs.size+1)::vs,kw⟩) (PySem.W.InitBack (s.heap.objs.size+1) R)
   { s with heap:=(s.heap.push PySem.W.emptyDict).push (PySem.W.instObj C s.heap.objs.size) }) :
  codeAny (model prog w) A (.call (.ref C) ⟨vs,kw⟩) R s:=by
 obtain⟨hh,g,d,t,os⟩:=s;exact PySem.W.make_core (PySem.W.makes_of X hm) (PySem.W.looks_findIn X hi) (fun self=>PySem.W.bind_fn X self hf) (.inl rfl) h
end
def zcE(f:Str)(v:V):List (Str×V)->List (Str×V)
 | []=>[(f,v)]
 | (g,x)::r=>if g=f then(g,v)::r else(g,x)::zcE f v r
theorem zeC(f g:Str)(v:V):∀ fs:List (Str×V),(zcE f v fs).lookup g=if g=f then some v else fs.lookup g
 | []=>by
  show List.lookup g [(f,v)]=_
  by_cases h:g=f
  ·have hb:(g==f)=true:=beq_iff_eq.mpr h
   simp only [List.lookup,hb,if_pos h]
  ·have hb:(g==f)=false:=beq_eq_false_iff_ne.mpr h
   simp only [List.lookup,hb,if_neg h]
 | (k,x)::r=>by
  have ih:=zeC f g v r;rw [show zcE f v ((k,x)::r)=(if k=f then(k,v)::r else(k,x)::zcE f v r) from rfl]
  by_cases hk:k=f
  ·rw [if_pos hk]
   by_cases h:g=k
   ·have hb:(g==k)=true:=beq_iff_eq.mpr h
    simp only [List.lookup,hb,if_pos (h.trans hk)]
   ·have hb:(g==k)=false:=beq_eq_false_iff_ne.mpr h
    simp only [List.lookup,hb,if_neg (fun e:g=f=>h (e.trans hk.symm))]
  ·rw [if_neg hk]
   by_cases h:g=k
   ·have hb:(g==k)=true:=beq_iff_eq.mpr h
    simp only [List.lookup,hb,if_neg (fun e:g=f=>hk (h.symm.trans e))]
   ·have hb:(g==k)=false:=beq_eq_false_iff_ne.mpr h
    simp only [List.lookup,hb];exact ih
theorem zee(f:Str)(v:V):∀ fs:List (Str×V),f∈(zcE f v fs).map (·.1)/\∀ g,g∈fs.map (·.1)->g∈(zcE f v fs).map (·.1)
 | []=>⟨by simp [zcE],fun g h=>by simp at h⟩
 | (k,x)::r=>by
  obtain⟨i1,i2⟩:=zee f v r;rw [show zcE f v ((k,x)::r)=(if k=f then(k,v)::r else(k,x)::zcE f v r) from rfl]
  by_cases hk:k=f
  ·rw [if_pos hk]
   subst hk;exact⟨by simp,fun g h=>by simpa using h⟩
  ·rw [if_neg hk]
   refine⟨?_,fun g h=>?_⟩
   ·rw [List.map_cons]
    exact qo _ i1
   ·rw [List.map_cons]at h ⊢
    rcases qv.mp h with e | e
    ·exact qv.mpr (.inl e)
    ·exact qo _ (i2 g e)
theorem zeD(f:Str)(v:V):∀ fs:List (Str×V),(zcE f v fs).length<=fs.length+1
 | []=>by simp [zcE]
 | (k,x)::r=>by
  have ih:=zeD f v r;rw [show zcE f v ((k,x)::r)=(if k=f then(k,v)::r else(k,x)::zcE f v r) from rfl]
  by_cases hk:k=f
  ·rw [if_pos hk,qu,qu]; omega
  ·rw [if_neg hk,qu,qu]; omega
theorem zcD.some_of{v:V}{o:Option Value}(r:zcD (some v) o):∃ u,o=some u/\zI v u:=by
 cases o with
 | none=>exact(show False from r).elim
 | some u=>exact⟨u,rfl,r⟩
theorem zcD.none_of{o:Option Value}(r:zcD none o):o=none:=by
 cases o with
 | none=>rfl
 | some u=>exact(show False from r).elim
theorem zlU{v:V}{u:Value}(r:zI v u):PySem.W.handedIn u=true:=by
 cases v with
 | non=>cases(show u=Value.none from r); rfl
 | bl b=>cases(show u=Value.bool b from r); rfl
 | int i=>obtain⟨t,e⟩:=(show ∃ t,u=Value.int i t from r); cases e; rfl
 | str x=>obtain⟨t,e⟩:=(show ∃ t,u=Value.str x t from r); cases e; rfl
 | byt b=>obtain⟨t,e⟩:=(show ∃ t,u=Value.bytes b t from r); cases e; rfl
 | flt b=>obtain⟨t,e⟩:=(show ∃ t,u=Value.float b t from r); cases e; rfl
 | ref a=>cases(show u=Value.ref a from r); rfl
 | ty n=>cases(show u=Value.type n from r); rfl
section
variable {P:Program} {w:World} {K:qc} {H H':Hp} {h h':Heap} {a C dx:Addr} {fs fs':List (Str×V)}
theorem zg1(hok:HOk P w K H h)(e:H a=some (.ins C dx fs)):∃ mA,ObjM h a dx C mA/\(∀ f,zcD (fs.lookup f) (mA f))/\PySem.Within mA (fs.map (·.1))/\fs.length<=1000/\H dx=some (.own a):=by
 obtain⟨d,z,ne,ob,mA,n,r,q⟩:=(show zP P w K H h a (.ins C dx fs) from hok a _ e);exact⟨mA,⟨ob,n,ne⟩,r,q,z,d⟩
end
structure Cls (K:qc) (C:Addr):Prop where
 pg:PySem.W.plainGet K C Str.empty=true
 hd:PySem.W.hasDictIn K C=true
 po:PySem.W.plainOver K C=true
 sa:PySem.W.findIn K (.ref C) "__setattr__"=some (some (.builtin "object.__setattr__"))
theorem Cls.get{K:qc}{C:Addr}(c:Cls K C)(f:Str):PySem.W.plainGet K C f=true:=c.pg
def zal(K:qc)(C:Addr)(f:Str):Prop:=PySem.W.findIn K (.ref C) f=some none
theorem zal.taker{K:qc}{C:Addr}{f:Str}(n:zal K C f):PySem.W.takerIn K C f=some none:=by
 unfold PySem.W.takerIn;rw [show PySem.W.findIn K (.ref C) f=some none from n];rfl
structure Meth (K:qc) (C:Addr) (m:Str) (f:Addr):Prop where
 at_:PySem.W.findIn K (.ref C) m=some (some (.ref f))
 fn:PySem.W.isFn K (.ref f)=true
 kp:PySem.W.keepIn K (.ref f)=true
section
variable {X:Cx} {pins:List (Addr×Obj)} {σ:St} {H:Hp} {s:Shared} {a C dx:Addr} {fs:List (Str×V)} {f:Str} {v:V} {A:Around} {E:Value->Shared->Prop}
theorem zjb{b:Bool}{Q:Value->Shared->Prop}(I:Inv X pins σ H s)(e:H a=some (.ins C dx fs))(c:Cls X.K C)(n:zal X.K C f)(l:fs.lookup f=some v)
  (h:∀ u s',Inv X pins σ H s'->zI v u->Q u s'):wpAny (model X.prog X.w) A (getAttr (.ref a) f b) Q E s:=by
 obtain⟨mA,O,r,_,_,_⟩:=zg1 I.hok e;obtain⟨u,hu,ru⟩:=zcD.some_of (v:=v) (o:=mA f) (by rw [<-l]; exact r f);exact zp9 I.kIn O (c.get f) c.hd n hu (zlU ru) (h u _ (I.tok _) ru)
theorem zjc{m:Str}{g:Addr}{pl:Sem Bool}{Q:Value×List Value->Shared->Prop}(I:Inv X pins σ H s)(e:H a=some (.ins C dx fs))(c:Cls X.K C)(k:Meth X.K C m g)(l:fs.lookup m=none)
  (h:Q (.ref g,[.ref a]) s):wpAny (model X.prog X.w) A (getMethod (.ref a) m pl) Q E s:=by
 obtain⟨mA,O,r,_,_,_⟩:=zg1 I.hok e;have hn:mA m=none:=zcD.none_of (by rw [<-l]; exact r m);exact zmT I.kIn O (c.get m) k.at_ k.fn hn h
theorem zjd{y:V}{u:Value}{Q:Unit->Shared->Prop}(I:Inv X pins σ H s)(e:H a=some (.ins C dx fs))(c:Cls X.K C)(n:zal X.K C f)(hl:fs.length < 1000)(ry:zI y u)
  (h:∀ s',Inv X pins σ (upd H a (.ins C dx (zcE f y fs))) s'->Q () s'):wpAny (model X.prog X.w) A (setAttr (.ref a) f u) Q E s:=by
 obtain⟨mA,O,r,wi,_,ho⟩:=zg1 I.hok e;have hz:(fs.map (·.1)).length<=sizeLine:=by rw [List.length_map,sizeLine_eq]; omega
 refine zqa I.kIn O c.sa c.po n.taker c.hd wi hz fun h' O' sb=>h _ ?_;have hd:∃ o,h'.get? dx=some o:=let ⟨o,_,_,e',_⟩:=O'.ns; ⟨o,e'⟩;refine I.write (x:=a) (e:=dx) (by rw [e]; exact True.intro) (.inr ho) (fun b q hb z=>(sb.2 b hb).trans z) hd ?_;refine⟨by rw [zq O.ne]; exact ho,?_,O.ne,O'.obj,_,O'.ns,fun g=>?_,fun g hg=>?_⟩
 ·have:=zeD f y fs; omega
 ·show zcD ((zcE f y fs).lookup g) (if g=f then some u else mA g)
  rw [zeC]
  by_cases q:g=f
  ·rw [if_pos q,if_pos q]; exact ry
  ·rw [if_neg q,if_neg q]; exact r g
 ·by_cases q:g=f
  ·rw [q]; exact(zee f y fs).1
  ·refine(zee f y fs).2 g (wi g fun z=>hg ?_)
   show(if g=f then some u else mA g)=none;rw [if_neg q]; exact z
theorem Inv.made(I:Inv X pins σ H s):Inv X pins σ (upd (upd H s.heap.objs.size (.own (s.heap.objs.size+1))) (s.heap.objs.size+1) (.ins C s.heap.objs.size []))
  { s with heap:=(s.heap.push PySem.W.emptyDict).push (PySem.W.instObj C s.heap.objs.size) }:=by
 have e1:(s.heap.push PySem.W.emptyDict).get? s.heap.objs.size=some PySem.W.emptyDict:=qg s.heap rfl;have e2:((s.heap.push PySem.W.emptyDict).push (PySem.W.instObj C s.heap.objs.size)).get? (s.heap.objs.size+1)=some (PySem.W.instObj C s.heap.objs.size):=by
  have:=qg (s.heap.push PySem.W.emptyDict) (o:=PySem.W.instObj C s.heap.objs.size) rfl
  rwa [Heap.size_push]at this
 have e3:(s.heap.push PySem.W.emptyDict).Ns s.heap.objs.size (fun _=>none):=⟨PySem.W.emptyDict,#[],_,e1,rfl,(fun e he=>absurd he (by simp)),fun _=>rfl⟩;have I1:=I.laid (a:=s.heap.objs.size) (o:=.own (s.heap.objs.size+1)) (h':=s.heap.push PySem.W.emptyDict) (t':=s.toks) (fun b u q=>qd _ q) (qe _) ⟨_,e1⟩;refine I1.laid (a:=s.heap.objs.size+1) (o:=.ins C s.heap.objs.size []) (t':=s.toks) (fun b u q=>qd _ q) (Nat.le_of_eq (Heap.size_push _ _)) ?_;have ne:s.heap.objs.size≠s.heap.objs.size+1:=qj (Nat.lt_succ_self _);refine⟨by rw [zq ne,zr],Nat.zero_le _,ne,e2,fun _=>none,(Heap.Ns1.of_empty e3).at fun o q=>qd _ q,fun _=>True.intro,fun y hy=>absurd rfl hy⟩
theorem zqb{prog:Program}{w:World}{env:Env}{e:Expr}{f:Str}{pos:Pos}{s:Shared}{Q:Value->Shared->Prop}(hb:attributeBase e f env (eval e env)=eval e env)
  (h:wpAny (model prog w) A (eval e env) (fun o s₁=>wpAny (model prog w) A (getAttr o f true) Q E s₁) E s):wpAny (model prog w) A (eval (.Attribute e f pos) env) Q E s :=
 Attribute_any_ h (by rw [arm_eval_Attribute,hb])
end
def zvp(K:qc)(ta:TE)(f:Str):TE:=fun σ H Q=>ta σ H fun x H1=>∃ a C dx fs v,x=.ref a/\H1 a=some (.ins C dx fs)/\Cls K C/\zal K C f/\fs.lookup f=some v/\Q v H1
def zmV(K:qc)(ta tv:TE)(f:Str):TS:=fun D σ H=>tv σ H fun y H1=>ta σ H1 fun x H2=>∃ a C dx fs,x=.ref a/\H2 a=some (.ins C dx fs)/\Cls K C/\zal K C f/\fs.length < 1000 /\
 D.nx σ (upd H2 a (.ins C dx (zcE f y fs)))
section
variable {X:Cx} {o e value:Expr} {f:Str} {pos pos' tpos:Pos} {ta tv:TE}
theorem ztr(he:PE X e ta)(hb:attributeBase e f X.env (eval e X.env)=eval e X.env):PE X (.Attribute e f pos) (zvp X.K ta f):=by
 intro pins s σ H Q I h;refine zqb hb (thn (he pins s σ H _ I h) fun u s1 hZ=>?_);obtain⟨x,H1,I1,rx,a,C,dx,fs,v,ex,ea,c,n,l,q⟩:=hZ;subst ex;obtain rfl:u=Value.ref a:=rx;exact zjb I1 ea c n l fun u' s2 I2 ru=>⟨v,H1,I2,ru,q⟩
theorem zts(ha:PE X o ta)(hv:PE X value tv)(hs:swapsWith value (some (.Attribute o f pos')) pos.line X.env=pure false):PS X (.Assign [.Attribute o f pos'] value pos) (zmV X.K ta tv f):=by
 intro pins s σ H D I h;refine plainObj_wpAny_Assign_Attribute (thn (hv pins s σ H _ I h) fun u s1 ⟨y,H1,I1,ry,q⟩=>thn (ha pins s1 σ H1 _ I1 q) fun ov s2 hZ=>?_) hs;obtain⟨x,H2,I2,rx,a,C,dx,fs,ex,ea,c,n,l,q2⟩:=hZ;subst ex;obtain rfl:ov=Value.ref a:=rx;exact zjd I2 ea c n l ry fun s3 I3=>⟨σ,_,I3,q2⟩
end
section
variable {X:Cx} {pins:List (Addr×Obj)} {σ:St} {H:Hp} {s:Shared} {A:Around} {E:Value->Shared->Prop} {Q:Value->Shared->Prop} {c:Value} {b:Bool}
end
structure Room (k:Nat) (A:Around):Prop where
 hd:A.handled=none
 dp:A.depth+3 * k+5 < recursionLimit
 un:A.units+16 * k+200 < cLine
 gd:A.guards=some []
theorem Room.mono{j k:Nat}{A:Around}(r:Room k A)(h:j<=k):Room j A:=⟨r.hd,by have:=r.dp; omega,by have:=r.un; omega,r.gd⟩
theorem Room.deeper{k:Nat}{A:Around}(r:Room (k+1) A)(env:Env):Room k (A.deeper env) :=
 ⟨r.hd,by have:=r.dp; show A.depth+1+3 * k+5 < _; omega,by have:=r.un; show A.units+3+16 * k+200 < _; omega,r.gd⟩
theorem zje{A:Around}{C:Addr}{us:List Value}{kw:List (Str×Value)}:(A.under (.builtin "type.__call__" ⟨.ref C::us,kw⟩)).depth=A.depth+1:=by
 first | rfl | simp [Around.under,Code.weight,Code.isCreation,Code.isGuard,Code.isCaller,Code.frames,Code.isFrame,guardIds]
theorem zjf{A:Around}{C:Addr}{us:List Value}{kw:List (Str×Value)}:(A.under (.builtin "type.__call__" ⟨.ref C::us,kw⟩)).units=A.units+1:=by
 first | rfl | simp [Around.under,Code.cUnits,Code.frames,Code.isFrame]
theorem Room.make{k:Nat}{A:Around}(r:Room (k+1) A)(C:Addr)(us:List Value)(kw:List (Str×Value)):Room k (A.under (.builtin "type.__call__" ⟨.ref C::us,kw⟩)) :=
 ⟨r.hd,by have:=r.dp; rw [zje]; omega,by have:=r.un; rw [zjf]; omega,by have:=r.gd; first | exact this | simpa [Around.under,Code.isGuard,guardIds] using this⟩
theorem Room.depth{k:Nat}{A:Around}(r:Room k A):A.depth < recursionLimit:=by have:=r.dp; omega
theorem Room.units{k:Nat}{A:Around}(r:Room k A):A.units+64 < cLine:=by have:=r.un; omega
def zef:TA:=fun _ H Q=>Q [] H
def zcs(ta:TE)(tr:TA):TA:=fun σ H Q=>ta σ H fun x H1=>tr σ H1 fun xs H2=>Q (x::xs) H2
section
variable {X:Cx} {e:Expr} {es:List Expr} {te:TE} {t:TA} {pos:Pos}
theorem ztt:PA X [] zef:=fun _ _ _ _ H Q I h=>Calls.spliced_nil ⟨[],H,I,.nil,h⟩
theorem zqc(ha:PE X e te)(hr:PA X es t)(hs:starEach (e::es) X.env=(false,eval e X.env)::starEach es X.env:=by rfl):PA X (e::es) (zcs te t):=by
 intro pos pins s σ H Q I h;rw [hs];show wpAny _ _ (spliced ((false,eval e X.env)::backTo pos (starEach es X.env))) _ _ s;refine Calls.spliced_cons (thn (ha pins s σ H _ I h) fun u s1 hZ=>?_);obtain⟨x,H1,I1,r1,q1⟩:=hZ;exact thn (hr pos pins s1 σ H1 _ I1 q1) fun us s2 ⟨xs,H2,I2,r2,q2⟩=>⟨x::xs,H2,I2,.cons r1 r2,q2⟩
def ztu(t:TA):TE:=fun σ H Q=>t σ H fun xs H1=>xs.length<=sizeLine/\∀ p,H1 p=none->Q (.ref p) (upd H1 p (.tup xs))
def zqd(t:TA):TE:=fun σ H Q=>t σ H fun xs H1=>xs.length<=sizeLine/\∀ p,H1 p=none->Q (.ref p) (upd H1 p (.lst xs))
theorem ztv{x1}(h:PA X es t):PE X (.Tuple es x1 pos) (ztu t):=by
 intro pins s σ H Q I hq;refine wpAny_Tuple_spliced (thn (h pos pins s σ H _ I hq) fun us s1 ⟨xs,H1,I1,r,z,q⟩=>⟨by rw [<-r.length]; exact z,?_⟩);have hf:H1 s1.heap.objs.size=none:=I1.hok.fresh (qe _);refine⟨.ref s1.heap.objs.size,upd H1 s1.heap.objs.size (.tup xs),I1.laid (t':=s1.toks) (fun b u e=>qd _ e) (qe _) ?_,rfl,q _ hf⟩;exact⟨z,us,r,⟨_,qg _ rfl,rfl,⟨_,rfl⟩,.inl rfl⟩⟩
theorem ztw(h:PA X es t):PE X (.List es pos) (zqd t):=by
 intro pins s σ H Q I hq;refine wpAny_List_spliced (thn (h pos pins s σ H _ I hq) fun us s1 ⟨xs,H1,I1,r,z,q⟩=>⟨by rw [<-r.length]; exact z,?_⟩);have hf:H1 s1.heap.objs.size=none:=I1.hok.fresh (qe _);refine⟨.ref s1.heap.objs.size,upd H1 s1.heap.objs.size (.lst xs),I1.laid (t':=s1.toks) (fun b u e=>qd _ e) (qe _) ?_,rfl,q _ hf⟩;exact⟨z,us,0,r,qg _ rfl⟩
end
abbrev Sp:=List V->Hp->VK->XK->Prop
abbrev CXT:=List Env->Hp->Shared->XK->Value->Shared->Prop
structure Env0 (P:Program) (w:World) (K:qc) (mg:Str->Option Value) (base:Heap) (A:Around) (outer:List Env) (s:Shared) (H:Hp):Prop where
 frames:A.frames=some outer
 mod:Mod K mg base
 bs:∀ b o,base.get? b=some o->s.heap.get? b=some o/\H b=none
 bsz:base.objs.size<=s.heap.objs.size
 funs:s.heap.FunFrames base outer
 frf:∀ b∈frs outer,H b=none
 hok:HOk P w K H s.heap
 bare:AllBare s.gens
def CE(outer:List Env)(P:Program)(w:World)(K:qc)(H:Hp)(s:Shared)(Q:VK)(u:Value)(s':Shared):Prop :=
 ∃ v H',s'.os=s.os/\AllBare s'.gens/\Un (frs outer) [] H H' s.heap s'.heap/\HOk P w K H' s'.heap/\zI v u/\Q v H'
def CR(CX:CXT)(outer:List Env)(P:Program)(w:World)(K:qc)(H:Hp)(s:Shared)(Q:VK)(E:XK)(r:Result)(s':Shared):Prop :=
 match r with
 | .ok (.ret u)=>CE outer P w K H s Q u s'
 | .ok _=>False
 | .error e=>CX outer H s E e s'
structure FnOk (P:Program) (w:World) (K:qc) (mg:Str->Option Value) (base:Heap) (CX:CXT) (k:Nat) (f:Addr) (fd:FuncData) (ps:List Str) (sp:Sp):Prop where
 len:∀ vs H Q E,sp vs H Q E->vs.length=ps.length
 run:∀ (A:Around) (outer:List Env) (s:Shared) (H:Hp) (args:Args) (us:List Value) (vs:List V) (Q:VK) (E:XK),Room k A->Env0 P w K mg base A outer s H->BindsTo s fd args (ps.zip us)->zE vs us->sp vs H Q E ->
  codeAny (model P w) A (.call (.ref f) args) (CR CX outer P w K H s Q E) s
theorem Env0.make{P:Program}{w:World}{K:qc}{mg:Str->Option Value}{base:Heap}{A:Around}{outer:List Env}{s:Shared}{H:Hp}(e:Env0 P w K mg base A outer s H)(C:Addr)(us:List Value)(kw:List (Str×Value)) :
  Env0 P w K mg base (A.under (.builtin "type.__call__" ⟨.ref C::us,kw⟩)) outer s H:=⟨by first | exact e.frames | (simpa [Around.under,Code.envs,Code.isFrame,pushEnvs] using e.frames),e.mod,e.bs,e.bsz,e.funs,e.frf,e.hok,e.bare⟩
section
variable {X:Cx} {pins:List (Addr×Obj)} {σ:St} {H:Hp} {s s':Shared}
theorem Inv.env0(I:Inv X pins σ H s):Env0 X.prog X.w X.K X.mg X.base X.A X.stack s H :=
 ⟨I.ok.frames,I.ok.mod,I.bs,qy I.ok.bsz I.sz,I.stack,I.stkFree,I.hok,I.bare⟩
theorem Inv.after{Q:VK}{u:Value}(I:Inv X pins σ H s)(h:CE X.stack X.prog X.w X.K H s Q u s'):EP X pins σ Q u s':=by
 obtain⟨v,H',os,bare,un,hok,r,q⟩:=h;obtain⟨hh,g,d,t,os'⟩:=s';obtain rfl:os'=s.os:=os;exact⟨v,H',I.call (h':=hh) (g':=g) (d':=d) (t':=t) (ch:=[]) un hok bare (fun b z=>absurd z (by simp)),r,q⟩
end
def zvq(sp:Sp)(dvs:List V)(E:XK)(t:TA):TE:=fun σ H Q=>t σ H fun vs H1=>sp (vs++dvs) H1 Q E
def zry(C:Addr)(sp:Sp)(dvs:List V)(E:XK)(t:TA):TE:=fun σ H Q=>t σ H fun vs H1=>∀ x dx,H1 x=none->H1 dx=none->dx≠x ->
 sp (.ref x::(vs++dvs)) (upd (upd H1 dx (.own x)) x (.ins C dx [])) (fun v H2=>v=.non/\Q (.ref x) H2) E
def zcN(K:qc)(fd:FuncData)(ps:List Str)(ds:List Value):Prop :=
 ∀ (s:Shared) (us:List Value),K.In s.heap->(us++ds).length=ps.length->BindsTo s fd ⟨us,[]⟩ (ps.zip (us++ds))
theorem zcN.all{K:qc}{fd:FuncData}{ps:List Str}(h:∀ us:List Value,us.length=ps.length->bindArgs fd ⟨us,[]⟩=pure (ps.zip us)):zcN K fd ps []:=fun s us _ hl=>by
 rw [List.append_nil]at hl ⊢;exact .of_eq (h us hl)
def zft(CX:CXT)(X:Cx)(E:XK):Prop:=∀ (pins:List (Addr×Obj)) (σ:St) (H:Hp) (s:Shared) (e:Value) (s':Shared),Inv X pins σ H s->CX X.stack H s E e s'->X.xe e s'
section
variable {X:Cx} {CX:CXT} {k:Nat} {f C:Addr} {fd:FuncData} {ps:List Str} {sp:Sp} {dvs:List V} {ds:List Value} {E:XK} {x m:Str} {p pos apos:Pos} {e o:Expr} {es:List Expr} {ta:TE} {t:TA}
theorem zmW{pins:List (Addr×Obj)}{σ:St}{H:Hp}{s:Shared}{Q:VK}{us:List Value}{vs:List V}(F:FnOk X.prog X.w X.K X.mg X.base CX k f fd ps sp)(hr:Room k X.A)(hb:zcN X.K fd ps ds)(hd:zE dvs ds)(hx:zft CX X E)
  (I:Inv X pins σ H s) (r:zE vs us) (h:sp (vs++dvs) H Q E):wpAny (model X.prog X.w) X.A (call (.ref f) us) (EP X pins σ Q) X.xe s:=by
 have r2:zE (vs++dvs) (us++ds):=r.append hd;have hl:(us++ds).length=ps.length:=by rw [<-r2.length]; exact F.len _ _ _ _ h
 refine wpAny_call (codeAny_mono (F.run X.A X.stack s H ⟨us,[]⟩ (us++ds) (vs++dvs) Q E hr I.env0 (hb s us I.kIn hl) r2 h) fun r s' hq=>?_);cases r with
 | error e=>exact hx pins σ H s e s' I hq
 | ok fl =>
  cases fl with
  | ret u=>exact I.after hq
  | next=>exact False.elim hq
  | brk=>exact False.elim hq
  | cont=>exact False.elim hq
theorem zqe(F:FnOk X.prog X.w X.K X.mg X.base CX k f fd ps sp)(hr:Room k X.A)(hg:Gl X x)(hm:X.mg x=some (.ref f))(hk:PySem.W.keepIn X.K (.ref f)=true)(hb:zcN X.K fd ps ds)(hd:zE dvs ds)(hx:zft CX X E)
  (ha:PA X (e::es) t) (hdb:(x==("__debug__":Str))=false:=by decide) (he:starEach (e::es) X.env=(false,eval e X.env)::starEach es X.env:=by rfl) (hpl:(backTo pos (starEach es X.env)).any (·.1)=false:=by rfl) :
  PE X (.Call (.Name x p) (e::es) [] pos) (zvq sp dvs E t):=by
 intro pins s σ H Q I h;refine wpAny_Call_Name_kw (zgZ I hg hm ?_ hdb);refine PySem.W.callWith_K (h₀:=X.base) I.ok.mod.kin hk (thn (ha pos pins s σ H _ I h) fun us s1 ⟨vs,H1,I1,r,q⟩=>⟨I1.kIn,?_⟩) he hpl;exact zmW F hr hb hd hx I1 r q
structure Mk (K:qc) (C f:Addr):Prop where
 makes:PySem.W.makesIn K C=true
 init:PySem.W.findIn K (.ref C) "__init__"=some (some (.ref f))
 fn:PySem.W.isFn K (.ref f)=true
 kp:PySem.W.keepIn K (.ref C)=true
theorem zmX{pins:List (Addr×Obj)}{σ:St}{H:Hp}{s:Shared}{Q:VK}{us:List Value}{vs:List V}(M:Mk X.K C f)(F:FnOk X.prog X.w X.K X.mg X.base CX k f fd ps sp)(hr:Room (k+1) X.A)(hb:zcN X.K fd ps ds)(hd:zE dvs ds)
  (hx:zft CX X E) (I:Inv X pins σ H s) (r:zE vs us)
  (h:∀ x dx,H x=none->H dx=none->dx≠x->sp (.ref x::(vs++dvs)) (upd (upd H dx (.own x)) x (.ins C dx [])) (fun v H2=>v=.non/\Q (.ref x) H2) E) :
  wpAny (model X.prog X.w) X.A (call (.ref C) us) (EP X pins σ Q) X.xe s:=by
 have hq:=h (s.heap.objs.size+1) s.heap.objs.size (I.hok.fresh (Nat.le_succ _)) (I.hok.fresh (qe _)) (qj (Nat.lt_succ_self _));have I2:=Inv.made (C:=C) I;have r2:zE (V.ref (s.heap.objs.size+1)::(vs++dvs)) (Value.ref (s.heap.objs.size+1)::(us++ds)):=.cons rfl (r.append hd);have hl:(Value.ref (s.heap.objs.size+1)::us++ds).length=ps.length:=by
  have e:=r2.length;rw [F.len _ _ _ _ hq]at e;exact e.symm
 refine wpAny_call (zmU (f:=f) I.kIn M.makes M.init (beq_iff_eq.mp M.fn) (codeAny_mono (F.run _ X.stack _ _ ⟨Value.ref (s.heap.objs.size+1)::us,[]⟩ (Value.ref (s.heap.objs.size+1)::(us++ds)) _ _ E (hr.make C us [])
  (I2.env0.make C us []) (hb _ (Value.ref (s.heap.objs.size+1)::us) I2.kIn hl) r2 hq) fun r s' hq'=>?_))
 cases r with
 | error e=>exact hx pins σ _ _ e s' I2 hq'
 | ok fl =>
  cases fl with
  | ret u =>
   obtain⟨v,H',I3,rv,ev,q3⟩:=I2.after hq';subst ev;exact⟨rv,⟨V.ref (s.heap.objs.size+1),H',I3,rfl,q3⟩⟩
  | next=>exact False.elim hq'
  | brk=>exact False.elim hq'
  | cont=>exact False.elim hq'
theorem zmY(M:Mk X.K C f)(F:FnOk X.prog X.w X.K X.mg X.base CX k f fd ps sp)(hr:Room (k+1) X.A)(hg:Gl X x)(hm:X.mg x=some (.ref C))(hb:zcN X.K fd ps ds)(hd:zE dvs ds)(hx:zft CX X E)
  (hdb:(x==("__debug__":Str))=false:=by decide):PE X (.Call (.Name x p) [] [] pos) (zry C sp dvs E zef):=by
 intro pins s σ H Q I h;refine wpAny_Call_Name_kw (zgZ I hg hm ?_ hdb);exact PySem.W.callWith_K0 I.kIn M.kp (zmX (us:=[]) M F hr hb hd hx I .nil h)
end
section
variable {X:Cx} {CX:CXT} {k:Nat} {f C:Addr} {fd:FuncData} {ps ks:List Str} {sp:Sp} {E:XK} {x m:Str} {p pos apos kpos:Pos} {e o:Expr} {es:List Expr} {kws:List Keyword} {te ta:TE} {t tk:TA} {nm:Option Str}
variable {g:List Value->List Value->List Value} {gV:List V->List V->List V}
end
structure FnScope (N P:List Str) (sc:Scope):Prop where
 kind:sc.kind=.function
 co:sc.isCoroutine=false
 gen:sc.isGenerator=false
 nd:N.Nodup
 pre:N.take P.length=P
 par:∀ x∈P,sc.names.lookup x=some .local\/sc.names.lookup x=some .cell
 nofree:∀ y∈sc.names,y.2≠.free
theorem zgw{kindOf:Str->Option NameKind}{x:Str}:∀ {binds:List (Str×Value)} {m:Str->Option Value},(∀ v,(x,v)∉binds)->bindL kindOf binds m x=m x
 | [],_,_=>rfl
 | (n,v)::r,m,h=>by
  unfold bindL;rw [zgw fun w hw=>h w (qo _ hw)];split
  ·have:x≠n:=by rintro rfl; exact h v qp
   simp [this]
  ·rfl
theorem zgx{kindOf:Str->Option NameKind}{x:Str}:∀ {binds:List (Str×Value)} {m:Str->Option Value},(∀ v,(x,v)∉binds)->bindC kindOf binds m x=m x
 | [],_,_=>rfl
 | (n,v)::r,m,h=>by
  unfold bindC;rw [zgx fun w hw=>h w (qo _ hw)];split
  ·rfl
  ·have:x≠n:=by rintro rfl; exact h v qp
   simp [this]
theorem zgy{kindOf:Str->Option NameKind}{x:Str}{v:Value}:∀ {P:List Str} {vs:List Value} {i:Nat} {m:Str->Option Value},P.Nodup->P[i]?=some x->vs[i]?=some v->kindOf x=some .local ->
  bindL kindOf (P.zip vs) m x=some v
 | [],_,_,_,_,h,_,_=>by simp at h
 | _::_,[],_,_,_,_,h,_=>by simp at h
 | p::P,w::vs,0,m,nd,h1,h2,hk=>by
  simp at h1 h2; subst h1; subst h2;show bindL kindOf ((p,w)::P.zip vs) m p=_;unfold bindL;rw [zgw fun v hv=>(List.nodup_cons.mp nd).1 (List.of_mem_zip hv).1,if_pos hk];simp
 | p::P,w::vs,i+1,m,nd,h1,h2,hk=>by
  show bindL kindOf ((p,w)::P.zip vs) m x=_;unfold bindL;exact zgy (i:=i) (List.nodup_cons.mp nd).2 (by simpa using h1) (by simpa using h2) hk
theorem zgz{kindOf:Str->Option NameKind}{x:Str}{v:Value}:∀ {P:List Str} {vs:List Value} {i:Nat} {m:Str->Option Value},P.Nodup->P[i]?=some x->vs[i]?=some v->kindOf x≠some .local ->
  bindC kindOf (P.zip vs) m x=some v
 | [],_,_,_,_,h,_,_=>by simp at h
 | _::_,[],_,_,_,_,h,_=>by simp at h
 | p::P,w::vs,0,m,nd,h1,h2,hk=>by
  simp at h1 h2; subst h1; subst h2;show bindC kindOf ((p,w)::P.zip vs) m p=_;unfold bindC;rw [zgx fun v hv=>(List.nodup_cons.mp nd).1 (List.of_mem_zip hv).1,if_neg hk];simp
 | p::P,w::vs,i+1,m,nd,h1,h2,hk=>by
  show bindC kindOf ((p,w)::P.zip vs) m x=_;unfold bindC;exact zgz (i:=i) (List.nodup_cons.mp nd).2 (by simpa using h1) (by simpa using h2) hk
def zbg(N:List Str)(vs:List V):St:=vs.map some++List.replicate (N.length - vs.length) none
def zgn(CX:CXT)(P:Program)(w:World)(K:qc)(mg:Str->Option Value)(base:Heap)(N:List Str)(qual:Str)(scope:Scope)(f:Addr)(cd:Value)(A:Around)(outer:List Env)(s:Shared)(H:Hp)(E:XK):Cx where
 prog:=P
 w:=w
 K:=K
 mg:=mg
 base:=base
 A:=A.deeper (envOfC qual scope s.heap.objs.size f cd)
 N:=N
 s₀:=s
 H₀:=H
 env:=envOfC qual scope s.heap.objs.size f cd
 outer:=outer
 stack:=envOfC qual scope s.heap.objs.size f cd::outer
 ex:=[]
 calm:=true
 fn:=fun _=>true
 pn:=[]
 xe:=fun e s'=>wpAny (model P w) (A.deeper (envOfC qual scope s.heap.objs.size f cd)) (leaving (envOfC qual scope s.heap.objs.size f cd) e) (fun _ s''=>CX outer H s E e s'') (fun e' s''=>CX outer H s E e' s'') s'
theorem zhZ{sc:Scope}{n:Nat}{x:Str}(h:sc.names.lookup x=some .cell):∃ c,(cellsFrom n sc.names []).lookup x=some c:=by
 have q:=PySem.W.cellsFrom_some sc.names n [] (.inl h);exact Option.isSome_iff_exists.mp q
theorem zlV{CX:CXT}{P:Program}{w:World}{K:qc}{mg:Str->Option Value}{base:Heap}{N ps:List Str}{qual:Str}{scope:Scope}{f:Addr}{cd:Value}{A:Around}{outer:List Env}{s s1:Shared}{H:Hp}{E:XK}{us:List Value}{vs:List V}
  (S:FnScope N ps scope) (hd:A.handled=none) (e0:Env0 P w K mg base A outer s H) (hl:vs.length=ps.length) (r:zE vs us)
  (x:InCallC s s.heap.objs.size (bindL (envOfC qual scope s.heap.objs.size f cd).kindOf (ps.zip us) fun _=>none) (cellsFrom (s.heap.objs.size+1) scope.names []) (bindC (envOfC qual scope s.heap.objs.size f cd).kindOf (ps.zip us) fun _=>none) s1) :
  Inv (zgn CX P w K mg base N qual scope f cd A outer s H E) [] (zbg N vs) H s1:=by
 have hpl:ps.length<=N.length:=by have:=congrArg List.length S.pre; rw [List.length_take]at this; omega
 obtain⟨h1,tk,rfl,hk⟩:=x.done;have noA:∀ b:Addr,b∉(zgn CX P w K mg base N qual scope f cd A outer s H E).ex:=fun b z=>absurd (show b∈([]:List Addr) from z) (by simp);refine⟨⟨e0.mod,S.kind,rfl,rfl,qe _,fun y z c h1 h2=>?_,fun y hy=>?_,fun y c _ h=>?_,fun _=>hd,Around.frames_deeper e0.frames,.inr ⟨rfl,rfl⟩,fun b z=>absurd z (noA b),e0.bs,e0.bsz,fun b _ _=>noA b,fun b z=>absurd z (noA b),e0.funs,e0.frf⟩,
  rfl,e0.bare,Un.kept hk,⟨_,x.toInCall.ns,fun i y v h1 h2 h3=>?_⟩,fun y c h=>⟨_,x.cell y c h⟩,e0.hok.fresh (qe _),fun y c h=>?_,fun p hp=>absurd (show p∈([]:List (Addr×Obj)) from hp) (by simp),e0.hok.kept hk,?_⟩
 ·exact name_of_addr x.apart (PySem.mem_of_lookup h1) (PySem.mem_of_lookup h2)
 ·have hy:scope.names.lookup y=some .cell\/scope.names.lookup y=some .free:=hy
  rcases hy with hy | hy
  ·exact zhZ hy
  ·exact absurd rfl (S.nofree _ (PySem.mem_of_lookup hy))
 ·exact Nat.le_of_lt (x.above y c (PySem.mem_of_lookup h))
 ·have hi:i < vs.length:=by
   unfold zbg at h2
   by_cases hi:i < vs.length
   ·exact hi
   ·rw [List.getElem?_append_right (by simpa using hi)]at h2
    rw [List.getElem?_replicate]at h2;split at h2<;>cases h2
  have ha:vs[i]?=some v:=by
   unfold zbg at h2;rw [List.getElem?_append_left (by simpa using hi),List.getElem?_map]at h2;cases e:vs[i]? with
   | none=>rw [e]at h2; cases h2
   | some a=>rw [e]at h2; cases h2; rfl
  obtain⟨u,hu,rv⟩:=r.get ha;have hp:ps[i]?=some y:=by
   rw [<-S.pre,List.getElem?_take_of_lt (by omega)]; exact h1
  have ndP:ps.Nodup:=by rw [<-S.pre]; exact S.nd.sublist (List.take_sublist _ _)
  refine⟨u,rv,?_⟩;rcases S.par y (List.mem_of_getElem? hp)with k | k
  ·exact .inl ⟨k,zgy ndP hp hu k⟩
  ·obtain⟨c,e⟩:=zhZ (n:=s.heap.objs.size+1) k
   refine .inr ⟨.inl k,c,e,?_⟩;have q:=x.cell y c e;rw [zgz ndP hp hu (by show scope.names.lookup y≠_; rw [k]; decide)]at q;exact q
 ·exact e0.hok.fresh (Nat.le_of_lt (x.above y c (PySem.mem_of_lookup h)))
 ·unfold zbg
  show _=N.length;rw [qt,List.length_map,List.length_replicate];omega
theorem zvr{CX:CXT}{P:Program}{w:World}{K:qc}{mg:Str->Option Value}{base:Heap}{k:Nat}{f:Addr}{name qual:Str}{params:Arguments}{body:List Stmt}{scope:Scope}{dV kV doc pm cdv ct oc:Value}{an od:Option Addr}
  {osl:Array (Option Value)} {N ps:List Str} {sp:Sp} (lk:K.lookup f=some ⟨oc,od,.func (PySem.W.fnOf name qual params body scope dV kV doc pm an cdv ct),osl⟩) (hcd:PySem.W.codeIn K cdv qual=true) (S:FnScope N ps scope)
  (len:∀ vs H Q E,sp vs H Q E->vs.length=ps.length)
  (hbody:∀ (A:Around) (outer:List Env) (s:Shared) (H:Hp) (vs:List V) (Q:VK) (E:XK),Room k (A.deeper (envOfC qual scope s.heap.objs.size f cdv))->sp vs H Q E ->
   ∃ t,PSs (zgn CX P w K mg base N qual scope f cdv A outer s H E) body t/\t { nx:=fun _ H'=>Q .non H',rt:=Q } (zbg N vs) H) :
  FnOk P w K mg base CX (k+1) f (PySem.W.fnOf name qual params body scope dV kV doc pm an cdv ct) ps sp:=by
 refine⟨len,fun A outer s H args us vs Q E hr e0 hb r hsp=>?_⟩;have hl:=len _ _ _ _ hsp;have KX:K.In s.heap:=e0.mod.kin.keeps fun b o e=>(e0.bs b o e).1;have lim:s.heap.NoLimit:=e0.mod.nolimit.keeps fun b o e=>(e0.bs b o e).1;have hkind:∀ y∈ps.zip us,scope.names.lookup y.1=some .local\/(scope.names.lookup y.1=some .cell/\((cellsFrom (s.heap.objs.size+1) scope.names []).lookup y.1).isSome=true):=fun⟨n,v⟩ hy=>by
  rcases S.par n (List.of_mem_zip hy).1 with q | q
  ·exact .inl q
  ·exact .inr ⟨q,PySem.W.cellsFrom_some _ _ _ (.inl q)⟩
 refine codeAny_call_function hr.depth (KX _ _ lk) rfl S.co S.gen rfl (PySem.W.codeRec_of KX hcd) (hb _ _ _ _ ?_);refine wpAny_newFunctionEnv_cells S.kind hkind fun env he s1 x=>?_;subst he;refine⟨lim.keeps x.toInCall.keep,codeAny_func ?_⟩;obtain⟨t,ht,hq⟩:=hbody A outer s H vs Q E (hr.deeper _) hsp;have I:Inv (zgn CX P w K mg base N qual scope f cdv A outer s H E) [] (zbg N vs) H s1:=zlV S hr.hd e0 hl r x;refine wpAny_mono (ht [] s1 (zbg N vs) H _ I hq) (fun fl s' hs=>?_) fun e s' hs=>hs;have fin:∀ {σ':St} {H':Hp} {v:V} {u:Value},Inv (zgn CX P w K mg base N qual scope f cdv A outer s H E) [] σ' H' s'->zI v u->Q v H'->CE outer P w K H s Q u s' :=
  fun{σ' H' v u} J rv q=>⟨v,H',J.os,J.bare,J.base,J.hok,rv,q⟩
 cases fl with
 | ret u =>
  obtain⟨v,σ',H',J,rv,q⟩:=hs;exact fin J rv q
 | next =>
  obtain⟨σ',H',J,q⟩:=hs;exact fin (v:=V.non) (u:=Value.none) J rfl q
 | brk =>
  obtain⟨_,_,_,q⟩:=hs;exact False.elim q
 | cont =>
  obtain⟨_,_,_,q⟩:=hs;exact False.elim q
section
variable {X:Cx} {x:Str} {p pos:Pos} {e:Expr} {es:List Expr} {t:TA} {id T:String} {r:List V->Hp->VK->Prop}
def tCB(r:List V->Hp->VK->Prop)(t:TA):TE:=fun σ H Q=>t σ H fun vs H1=>r vs H1 Q
theorem zmZ(hc:zbK X (.builtin id) r)(hg:Gl X x)(hm:X.mg x=none)(hv:bootBuiltins x=some (.builtin id))(ha:PA X (e::es) t)(hn:x ≠ "__name__":=by decide)(hdb:(x==("__debug__":Str))=false:=by decide)
  (he:starEach (e::es) X.env=(false,eval e X.env)::starEach es X.env:=by rfl) (hpl:(backTo pos (starEach es X.env)).any (·.1)=false:=by rfl):PE X (.Call (.Name x p) (e::es) [] pos) (tCB r t):=by
 intro pins s σ H Q I h;refine wpAny_Call_Name_kw (zcL I hg hm hv ?_ hn hdb);exact PyProof.Rows.callWith_builtin1 (thn (ha pos pins s σ H _ I h) fun us s1 ⟨vs,H1,I1,r1,q1⟩=>hc pins s1 σ H1 vs us Q I1 r1 q1) he hpl
theorem zlW(hc:zbK X (.type T) r)(hg:Gl X x)(hm:X.mg x=none)(hv:bootBuiltins x=some (.type T))(ha:PA X (e::es) t)(hn:x ≠ "__name__":=by decide)(hdb:(x==("__debug__":Str))=false:=by decide)
  (he:starEach (e::es) X.env=(false,eval e X.env)::starEach es X.env:=by rfl) (hpl:(backTo pos (starEach es X.env)).any (·.1)=false:=by rfl):PE X (.Call (.Name x p) (e::es) [] pos) (tCB r t):=by
 intro pins s σ H Q I h;refine wpAny_Call_Name_kw (zcL I hg hm hv ?_ hn hdb);exact PyProof.Rows.callWith_type1 (thn (ha pos pins s σ H _ I h) fun us s1 ⟨vs,H1,I1,r1,q1⟩=>hc pins s1 σ H1 vs us Q I1 r1 q1) he hpl
end
end L2
namespace HT
open PySem PyProof.Rows
section
open PySem.SeqAt
open PySem.AutoSeq1 (wpAny_loadPart')
open PySem.MeetsSeq PySem.MeetsSeq2 PySem.MeetsSeq3
end
section
variable {prog:Program} {w:World} {A:Around} {E:Value->Shared->Prop} {s:Shared}
theorem cat_tup{t b:Addr}{vs ws:List Value}{Q:Value->Shared->Prop}(ht:IsTup s.heap t vs.toArray)(hb:IsTup s.heap b ws.toArray)(hv:vs≠[])
  (h1:ws=[]->Q (.ref t) s) (h2:ws≠[]->Q (.ref s.heap.objs.size) { s with heap:=s.heap.push { cls:=.type "tuple",data:=.seq (vs++ws).toArray } })
  (hsz:vs.length+ws.length<=sizeLine):wpAny (model prog w) A (binaryOp .Add (.ref t) (.ref b)) Q E s:=by
 obtain⟨⟨cls,dd,data,sl⟩,ho,hc,n,hd⟩:=id ht;obtain⟨⟨cls2,dd2,data2,sl2⟩,ho2,hc2,n2,hd2⟩:=id hb;simp only at hc hd hc2 hd2;subst hc hd hc2 hd2;have e:vs.toArray++ws.toArray=(vs++ws).toArray:=by simp
 by_cases hw:ws=[]
 ·exact concat_meets ⟨_,ho,rfl⟩ ⟨_,ho2,rfl⟩ noFill_tuple_add seq_tuple_add PySem.F.slot_tuple_add PySem.F.entry_tuple_add (PySem.F.args_tuple_add_2 _ _)
   (tuple_addW1 t b vs.toArray ws.toArray n n2 dd dd2 sl sl2 (by simpa using hv) (by simp [hw])) ⟨ho,ho2,h1 hw⟩
 ·refine concat_meets ⟨_,ho,rfl⟩ ⟨_,ho2,rfl⟩ noFill_tuple_add seq_tuple_add PySem.F.slot_tuple_add PySem.F.entry_tuple_add (PySem.F.args_tuple_add_2 _ _)
   (tuple_addW2 t b vs.toArray ws.toArray n n2 dd dd2 sl sl2 (by simpa using hv) (by simpa using hw) (by rw [List.size_toArray,List.size_toArray]; exact hsz)) ⟨ho,ho2,?_⟩
  rw [e];exact h2 hw
def sIx(n d:Nat):Option Int->Nat
 | none=>d
 | some v=>if v < 0 then(v+(n:Int)).toNat else min v.toNat n
theorem sIx_none(n d:Nat):sIx n d none=d:=rfl
theorem sIx_nat(n d k:Nat):sIx n d (some (k:Int))=min k n:=by
 show(if(k:Int) < 0 then((k:Int)+(n:Int)).toNat else min (k:Int).toNat n)=min k n;rw [if_neg (by omega),Int.toNat_natCast]
end
end HT
namespace L2
open PySem PySem.Spec PyProof.Rows
abbrev TO:=St->Hp->(Option Int->Hp->Prop)->Prop
def PO(X:Cx)(e:Option Expr)(t:TO):Prop :=
 ∀ (pins:List (Addr×Obj)) (s:Shared) (σ:St) (H:Hp) (Q:Option Int->Hp->Prop),Inv X pins σ H s->t σ H Q ->
  wpAny (model X.prog X.w) X.A (evalPart e X.env) (fun u s'=>∃ o H',Inv X pins σ H' s'/\IsPart u o/\Q o H') X.xe s
def zg2:TO:=fun _ H Q=>Q none H
def zm0(t:TE):TO:=fun σ H Q=>t σ H fun x H1=>∃ i,x=.int i/\Q (some i) H1
section
variable {X:Cx} {e:Expr} {te:TE} {lo hi:Option Expr} {tl th:TO} {pos p2:Pos}
theorem zqf:PO X none zg2:=by
 intro pins s σ H Q I h;rw [evalPart_none];exact qb ⟨none,H,I,.none,h⟩
theorem zqg(h:PE X e te):PO X (some e) (zm0 te):=by
 intro pins s σ H Q I hw;rw [evalPart_some];refine thn (h pins s σ H _ I hw) fun u s1 hZ=>?_;obtain⟨x,H1,I1,r1,q1⟩:=hZ;obtain⟨i,rfl,q⟩:=q1;obtain⟨t,rfl⟩:=r1;exact⟨some i,H1,I1,.int i t,q⟩
def SlR(X:Cx)(r:V->Option Int->Option Int->Hp->VK->Prop):Prop :=
 ∀ (pins:List (Addr×Obj)) (s:Shared) (σ:St) (H:Hp) (x:V) (v vl vu:Value) (lo hi:Option Int) (sl:Addr) (Q:VK),Inv X pins σ H s->zI x v->s.heap.IsSliceOf sl vl vu .none->IsPart vl lo->IsPart vu hi->r x lo hi H Q ->
  ∃ T id,typeLookup (.type T) "__getitem__"=pure (some (.builtin id))/\s.TypeIs v T/\wpAny (model X.prog X.w) X.A (getItem v (.ref sl)) (EP X pins σ Q) X.xe s
def tSl(r:V->Option Int->Option Int->Hp->VK->Prop)(te:TE)(tl th:TO):TE:=fun σ H Q=>te σ H fun x H1=>tl σ H1 fun l H2=>th σ H2 fun u H3=>r x l u H3 Q
theorem zm1{r:V->Option Int->Option Int->Hp->VK->Prop}(hr:SlR X r)(he:PE X e te)(hl:PO X lo tl)(hu:PO X hi th):PE X (.Subscript e (.Slice lo hi none p2) pos) (tSl r te tl th):=by
 intro pins s σ H Q I h;refine Subscript_ (thn (he pins s σ H _ I h) fun v s1 hZ=>?_);obtain⟨x,H1,I1,r1,q1⟩:=hZ;refine wpAny_Slice (thn (hl pins s1 σ H1 _ I1 q1) fun vl s2 ⟨l,H2,I2,pl,q2⟩=>thn (hu pins s2 σ H2 _ I2 q2) fun vu s3 hZ=>?_);obtain⟨u,H3,I3,pu,q3⟩:=hZ;rw [evalPart_none];refine qb ?_;have I4:Inv X pins σ H3 { s3 with heap:=s3.heap.push { cls:=.type "slice",data:=.fields #[vl,vu,.none] } }:=I3.kept (t':=s3.toks) fun b ob q=>qd _ q;obtain⟨T,id,hT,ht,hg⟩:=hr pins { s3 with heap:=s3.heap.push { cls:=.type "slice",data:=.fields #[vl,vu,.none] } } σ H3 x v vl vu l u s3.heap.objs.size Q I4 r1 (Heap.IsSliceOf.new ..) pl pu q3;show wpAny (model X.prog X.w) X.A (subscriptTail e (.Slice lo hi none p2) v (.ref s3.heap.objs.size)) (EP X pins σ Q) X.xe { s3 with heap:=s3.heap.push { cls:=.type "slice",data:=.fields #[vl,vu,.none] } };exact tail_any (ops:=[.ref s3.heap.objs.size,v]) ht hT hg (by with_unfolding_all rfl)
def zh0(xs:List V)(lo hi:Option Int):List V:=(xs.drop (HT.sIx xs.length 0 lo)).take (HT.sIx xs.length xs.length hi - HT.sIx xs.length 0 lo)
theorem zh6(xs:List V)(lo hi:Option Int):(zh0 xs lo hi).length<=xs.length:=by
 unfold zh0;rw [List.length_take,List.length_drop];omega
def zm2(K:qc):R2:=fun x y H Q=>∃ a b xs ys,x=.ref a/\y=.ref b/\SqT K H a xs/\SqT K H b ys/\xs≠[]/\xs.length+ys.length<=sizeLine /\
 (ys=[]->Q (.ref a) H)/\(ys≠[]->∀ p,H p=none->Q (.ref p) (upd H p (.tup (xs++ys))))
theorem zE.nil_iff{xs:List V}{us:List Value}(r:zE xs us):us=[]↔xs=[]:=by
 cases r with
 | nil=>simp
 | cons _ _=>simp
theorem zqh:OpR X (binaryOp .Add) (zm2 X.K):=by
 intro pins s σ H x y v u Q I rx ry h;obtain⟨a,b,xs,ys,rfl,rfl,ha,hb,hx,hz,q1,q2⟩:=h;cases rx;cases ry;obtain⟨its,r1,p1,_⟩:=I.tuple ha;obtain⟨its2,r2,p2,_⟩:=I.tuple hb;refine HT.cat_tup p1 p2 (fun z=>hx (r1.nil_iff.mp z)) (fun z=>⟨.ref a,H,I,rfl,q1 (r2.nil_iff.mp z)⟩) (fun z=>?_) (by rw [<-r1.length,<-r2.length]; exact hz);refine⟨.ref s.heap.objs.size,_,I.laid (t':=s.toks) (o:=.tup (xs++ys)) (fun b ob q=>qd _ q) (qe _) ?_,rfl,q2 (fun w=>z (r2.nil_iff.mpr w)) _ (I.hok.fresh (qe _))⟩;exact⟨by rw [qt]; exact hz,_,r1.append r2,zb6.new _ _⟩
end
def ixN(n:Nat)(i:Int):Option Nat:=if 0<=i then(if i < n then some i.toNat else none)else if -(n:Int)<=i then some (i+n).toNat else none
def atI{α:Type}(xs:List α)(i:Int):Option α:=(ixN xs.length i).bind fun j=>xs[j]?
theorem zj7{n:Nat}{i:Int}{j:Nat}(h:ixN n i=some j):seqIndex? i n=some j/\j < n/\-(n:Int)<=i/\i < n:=by
 unfold ixN at h
 by_cases h0:0<=i
 ·rw [if_pos h0]at h
  by_cases h1:i < n
  ·rw [if_pos h1]at h
   have e:i.toNat=j:=qx h;exact⟨by rw [seqIndex_of h0 h1,e],by omega,by omega,h1⟩
  ·rw [if_neg h1]at h; cases h
 ·rw [if_neg h0]at h
  by_cases h1:-(n:Int)<=i
  ·rw [if_pos h1]at h
   have e:(i+n).toNat=j:=qx h;exact⟨by rw [seqIndex_neg (by omega) h1,e],by omega,h1,by omega⟩
  ·rw [if_neg h1]at h; cases h
theorem zg3{α:Type}{xs:List α}{i:Int}{v:α}(h:atI xs i=some v):∃ j,seqIndex? i xs.length=some j/\xs[j]?=some v/\j < xs.length/\-(xs.length:Int)<=i/\i < xs.length:=by
 unfold atI at h;cases e:ixN xs.length i with
 | none=>rw [e]at h; cases h
 | some j =>
  rw [e]at h;obtain⟨h1,h2,h3,h4⟩:=zj7 e;exact⟨j,h1,h,h2,h3,h4⟩
def zj8(b:Expr):Prop:=∀ o i,subscripted b false o i=operate [o,i] (getItem o i)
def IxR(X:Cx)(r:R2):Prop :=
 ∀ (value slice:Expr) (pins:List (Addr×Obj)) (s:Shared) (σ:St) (H:Hp) (x y:V) (v u:Value) (Q:VK),Inv X pins σ H s->zI x v->zI y u->r x y H Q ->
  subscripted slice false v u=operate [v,u] (getItem v u)->wpAny (model X.prog X.w) X.A (subscriptTail value slice v u) (EP X pins σ Q) X.xe s
def MtR(X:Cx)(id:String)(r:V->List V->Hp->VK->Prop):Prop :=
 ∀ (pins:List (Addr×Obj)) (s:Shared) (σ:St) (H:Hp) (x:V) (xs:List V) (v:Value) (us:List Value) (Q:VK),Inv X pins σ H s->zI x v->zE xs us->r x xs H Q ->
  wpAny (model X.prog X.w) X.A (call (.builtin id) (v::us)) (EP X pins σ Q) X.xe s
section
variable {X:Cx} {a b:Expr} {ta tb:TE} {pos:Pos}
theorem zvs{r:R2}(hr:IxR X r)(ha:PE X a ta)(hb:PE X b tb)(hs:zj8 b):PE X (.Subscript a b pos) (tOp r ta tb):=by
 intro pins s σ H Q I h;exact Subscript_ (ztl ha hb I h fun v u s2 x y H2 I2 rx ry q=>hr a b pins s2 σ H2 x y v u Q I2 rx ry q (hs _ _))
def ztx(K:qc):R2:=fun x y H Q=>∃ p xs i v,x=.ref p/\y=.int i/\SqL K H p xs/\atI xs i=some v/\Q v H
def zty(K:qc):R2:=fun x y H Q=>∃ p xs i v,x=.ref p/\y=.int i/\SqT K H p xs/\atI xs i=some v/\Q v H
theorem zqi:IxR X (ztx X.K):=by
 intro value slice pins s σ H x y v u Q I rx ry h hs;obtain⟨p,xs,i,z,rfl,rfl,hq,he,q⟩:=h;cases rx;obtain⟨t,rfl⟩:=ry;obtain⟨its,r,pl,hz⟩:=I.list hq;obtain⟨j,h1,h2,h3,h4,h5⟩:=zg3 he;obtain⟨w,ew,rw'⟩:=r.get h2;have hl:=r.length;have hn:=zed;have fin:EP X pins σ Q w s:=⟨z,H,I,rw',q⟩
 by_cases h0:0<=i
 ·have hj:i.toNat=j:=by
   rw [seqIndex_of h0 h5]at h1;exact qx h1
  exact item_listR pl.isList h0 (by omega) (by rw [hj]; simpa using ew) fin hs
 ·have hj:(i+(its.toArray.size:Int)).toNat=j:=by
   rw [seqIndex_neg (by omega) h4]at h1;rw [List.size_toArray,<-hl];exact qx h1
  exact subscriptTail_builtinR (x:=w) pl.isList.typeIs slot_list_getitem.lookup
   (wpAny_getItem_list_neg (Q:=fun r s'=>r=w/\EP X pins σ Q r s') pl.isList (by omega) (by rw [List.size_toArray]<;>omega) (by omega) (by rw [hj]; simpa using ew) ⟨rfl,fin⟩) hs
theorem ztz:IxR X (zty X.K):=by
 intro value slice pins s σ H x y v u Q I rx ry h hs;obtain⟨p,xs,i,z,rfl,rfl,hq,he,q⟩:=h;cases rx;obtain⟨t,rfl⟩:=ry;obtain⟨its,r,pl,hz⟩:=I.tuple hq;obtain⟨j,h1,h2,h3,h4,h5⟩:=zg3 he;obtain⟨w,ew,rw'⟩:=r.get h2;have hl:=r.length;have hn:=zed;have fin:EP X pins σ Q w s:=⟨z,H,I,rw',q⟩;exact subscriptTail_builtinR (x:=w) pl.typeIs slot_tuple_getitem.lookup
  (getItem_tuple (j:=j) (Q:=fun r s'=>r=w/\EP X pins σ Q r s') pl (by omega) (by omega) (by rw [List.size_toArray,<-hl]; exact h1) (by simpa using ew) ⟨rfl,fin⟩) hs
theorem zjg(its:List Value)(n j:Nat)(u:Value):Obj.mapSeq (·.setIfInBounds j u) { cls:=.type "list",data:=.seq its.toArray n }={ cls:=.type "list",data:=.seq (its.set j u).toArray n }:=by
 simp [Obj.mapSeq]
theorem Inv.lst{pins:List (Addr×Obj)}{σ:St}{H:Hp}{s:Shared}{p:Addr}{xs:List V}(I:Inv X pins σ H s)(h:H p=some (.lst xs)) :
  ∃ (its:List Value) (n:Nat),zE xs its/\s.heap.get? p=some { cls:=.type "list",data:=.seq its.toArray n }/\xs.length<=sizeLine:=by
 obtain⟨z,its,n,r,e⟩:=I.hok p _ h;exact⟨its,n,r,e,z⟩
theorem Inv.lstUpd{pins:List (Addr×Obj)}{σ:St}{H:Hp}{s:Shared}{p:Addr}{xs ys:List V}{its its':List Value}{n n':Nat}{f:Obj->Obj}(I:Inv X pins σ H s)(h:H p=some (.lst xs))
  (ho:s.heap.get? p=some { cls:=.type "list",data:=.seq its.toArray n }) (hf:f { cls:=.type "list",data:=.seq its.toArray n }={ cls:=.type "list",data:=.seq its'.toArray n' }) (r:zE ys its') (hz:ys.length<=sizeLine) (t:Nat) :
  Inv X pins σ (upd H p (.lst ys)) { s with heap:=s.heap.update p f,toks:=t }:=by
 have e:(s.heap.update p f).get? p=some { cls:=.type "list",data:=.seq its'.toArray n' }:=by
  rw [Heap.get?_update_self f ho (by rw [hf]<;>rfl),hf]
 refine I.write (x:=p) (e:=p) (by rw [h]; trivial) (.inl rfl) (fun b u hb q=>(Heap.get?_update_other _ _ (Ne.symm hb)).trans q) ⟨_,e⟩ ?_;exact⟨hz,its',n',r,e⟩
def zj9:V->V->V->Hp->(Hp->Prop)->Prop:=fun o i v H Q=>∃ p xs k j,o=.ref p/\i=.int k/\H p=some (.lst xs)/\ixN xs.length k=some j/\Q (upd H p (.lst (xs.set j v)))
theorem zca:zpY X zj9:=by
 intro pins s σ H o i v ov iv u Q I ro ri rv h;obtain⟨p,xs,k,j,rfl,rfl,hp,hj,q⟩:=h;cases ro;obtain⟨t,rfl⟩:=ri;obtain⟨its,n,r,ho,hz⟩:=I.lst hp;obtain⟨h1,h2,h3,h4⟩:=zj7 hj;have hl:=r.length;have hn:=zed;have I':Inv X pins σ (upd H p (.lst (xs.set j v))) { s with heap:=s.heap.update p (Obj.mapSeq (·.setIfInBounds j u)) } :=
  I.lstUpd hp ho (zjg its n j u) (r.set rv j) (by rw [List.length_set]; exact hz) s.toks
 by_cases h0:0<=k
 ·have hk:k.toNat=j:=by
   rw [seqIndex_of h0 h4]at h1;exact qx h1
  exact PySem.W.ki_setAt ho h0 (by omega) (by rw [List.size_toArray,<-hl]; exact h4) (by rw [hk]; exact⟨_,I',q⟩)
 ·have hk:(k+(its.toArray.size:Int)).toNat=j:=by
   rw [seqIndex_neg (by omega) h3]at h1;rw [List.size_toArray,<-hl];exact qx h1
  exact PySem.W.ki_setBack ho (by omega) (by rw [List.size_toArray,<-hl]; exact h3) (by omega) (by rw [hk]; exact⟨_,I',q⟩)
theorem zg4(lo hi:Option Int)(n:Nat):(sliceBounds lo hi none n).1=((HT.sIx n 0 lo:Nat):Int)/\(sliceBounds lo hi none n).2.1=((HT.sIx n n hi:Nat):Int)/\(sliceBounds lo hi none n).2.2=1:=by
 refine⟨?_,?_,rfl⟩
 ·cases lo with
  | none=>simp [sliceBounds,HT.sIx]
  | some i =>
   simp only [sliceBounds,HT.sIx,Option.getD_none,show(1:Int) > 0 by decide,if_true]
   by_cases h:i < 0
   ·simp only [h,if_true]<;>omega
   ·simp only [h,if_false]<;>omega
 ·cases hi with
  | none=>simp [sliceBounds,HT.sIx]
  | some i =>
   simp only [sliceBounds,HT.sIx,Option.getD_none,show(1:Int) > 0 by decide,if_true]
   by_cases h:i < 0
   ·simp only [h,if_true]<;>omega
   ·simp only [h,if_false]<;>omega
theorem zgo(its:List Value)(lo hi:Option Int):slicePick its.toArray lo hi none=((its.drop (HT.sIx its.length 0 lo)).take (HT.sIx its.length its.length hi - HT.sIx its.length 0 lo)).toArray:=by
 obtain⟨h1,h2,h3⟩:=zg4 lo hi its.toArray.size;unfold slicePick;rw [h1,h2,h3];simp only [sliceRange_one,pick_run,List.size_toArray]<;>rfl
def ztA(K:qc):V->Option Int->Option Int->Hp->VK->Prop:=fun x lo hi H Q=>∃ a xs,x=.ref a/\SqL K H a xs/\∀ p,H p=none->Q (.ref p) (upd H p (.lst (zh0 xs lo hi)))
theorem zqj:SlR X (ztA X.K):=by
 intro pins s σ H x v vl vu lo hi sl Q I rx hs pl pu h;obtain⟨a,xs,rfl,hx,q⟩:=h;cases rx;obtain⟨its,r,ht,hz⟩:=I.list hx;have hlen:=r.length;refine⟨"list",_,slot_list_getitem.lookup,ht.isList.typeIs,?_⟩;refine wpAny_getItem_list_slice ht.isList hs pl pu .none (by simp) ?_ (by rw [List.size_toArray]<;>omega);rw [zgo,<-hlen];refine⟨.ref s.heap.objs.size,_,I.laid (t':=s.toks) (o:=.lst (zh0 xs lo hi)) (fun b ob q=>qd _ q) (qe _) ?_,rfl,q _ (I.hok.fresh (qe _))⟩;exact⟨qy (zh6 xs lo hi) hz,_,0,(r.drop (HT.sIx xs.length 0 lo)).take (HT.sIx xs.length xs.length hi - HT.sIx xs.length 0 lo),qg _ rfl⟩
def zdk:V->Bool
 | .non=>true
 | .bl _=>true
 | .int _=>true
 | .str _=>true
 | _=>false
def eqV:V->V->Bool
 | .non,.non=>true
 | .bl a,.bl b=>a==b
 | .bl a,.int b=>(if a then 1 else 0)==b
 | .int a,.bl b=>a==(if b then 1 else 0)
 | .int a,.int b=>a==b
 | .str a,.str b=>a==b
 | _,_=>false
theorem ztB{A:Around}{s:Shared}{y x:V}{u v:Value}(ry:zI y u)(rx:zI x v)(fy:zdk y=true)(fx:zdk x=true):SeqAt.EqAt A s u v (eqV y x):=by
 cases y with
 | non =>
  cases ry;cases x with
  | non=>cases rx; exact SeqAt.EqAt.same _
  | bl b=>cases rx; exact SeqAt.EqAt.none_bool b
  | int b=>obtain⟨t,rfl⟩:=rx; exact SeqAt.EqAt.none_int b t
  | str b=>obtain⟨t,rfl⟩:=rx; exact SeqAt.EqAt.none_str b t
  | _=>exact absurd (show false=true from fx) qf
 | bl a =>
  cases ry;cases x with
  | non=>cases rx; exact SeqAt.EqAt.bool_none a
  | bl b=>cases rx; exact SeqAt.EqAt.bool_bool a b
  | int b=>obtain⟨t,rfl⟩:=rx; exact SeqAt.EqAt.bool_int a b t
  | str b=>obtain⟨t,rfl⟩:=rx; exact SeqAt.EqAt.bool_str a b t
  | _=>exact absurd (show false=true from fx) qf
 | int a =>
  obtain⟨t',rfl⟩:=ry;cases x with
  | non=>cases rx; exact SeqAt.EqAt.int_none a t'
  | bl b=>cases rx; exact SeqAt.EqAt.int_bool a t' b
  | int b=>obtain⟨t,rfl⟩:=rx; exact SeqAt.EqAt.int_int a t' b t
  | str b=>obtain⟨t,rfl⟩:=rx; exact SeqAt.EqAt.int_str a t' b t
  | _=>exact absurd (show false=true from fx) qf
 | str a =>
  obtain⟨t',rfl⟩:=ry;cases x with
  | non=>cases rx; exact SeqAt.EqAt.str_none a t'
  | bl b=>cases rx; exact SeqAt.EqAt.str_bool a t' b
  | int b=>obtain⟨t,rfl⟩:=rx; exact SeqAt.EqAt.str_int a t' b t
  | str b=>obtain⟨t,rfl⟩:=rx; exact SeqAt.EqAt.str_str a t' b t
  | _=>exact absurd (show false=true from fx) qf
 | _=>exact absurd (show false=true from fy) qf
def eqU(x:V)(u:Value):Bool:=match u with
 | .none=>eqV .non x
 | .bool b=>eqV (.bl b) x
 | .int i _=>eqV (.int i) x
 | .str z _=>eqV (.str z) x
 | _=>false
theorem zm3{x y:V}{u:Value}(r:zI y u)(f:zdk y=true):eqU x u=eqV y x:=by
 cases y with
 | non=>cases r; rfl
 | bl b=>cases r; rfl
 | int i=>obtain⟨t,rfl⟩:=r; rfl
 | str z=>obtain⟨t,rfl⟩:=r; rfl
 | _=>exact absurd (show false=true from f) qf
theorem zg5{x:V}:∀ {xs:List V} {us:List Value},zE xs us->xs.all zdk=true->us.any (eqU x)=xs.any fun y=>eqV y x
 | _,_,.nil,_=>rfl
 | y::xs,u::us,.cons r t,f=>by
  rw [List.all_cons,Bool.and_eq_true]at f;rw [List.any_cons,List.any_cons,zm3 r f.1,zg5 t f.2]
theorem zfu{A:Around}{s:Shared}{x:V}{v:Value}(rx:zI x v)(fx:zdk x=true):∀ {xs:List V} {us:List Value},zE xs us->xs.all zdk=true->∀ u∈us,SeqAt.EqAt A s u v (eqU x u)
 | _,_,.nil,_=>fun u hu=>by cases hu
 | y::xs,u::us,.cons r t,f=>fun u' hu=>by
  rw [List.all_cons,Bool.and_eq_true]at f;rcases qv.mp hu with rfl | hu
  ·rw [zm3 r f.1]; exact ztB r rx f.1 fx
  ·exact zfu rx fx t f.2 u' hu
def inV(x:V)(xs:List V):Bool:=xs.any fun y=>eqV y x
def rIn(K:qc)(neg:Bool):R2:=fun x y H Q=>∃ p xs,y=.ref p/\(SqL K H p xs\/SqT K H p xs)/\zdk x=true/\xs.all zdk=true/\Q (.bl (if neg then !inV x xs else inV x xs)) H
theorem zlX:OpR X (compareOp .In) (rIn X.K false):=by
 intro pins s σ H x y v u Q I rx ry h;obtain⟨p,xs,rfl,hq,fx,fs,q⟩:=h;cases ry;rcases hq with hq | hq
 ·obtain⟨its,r,pl,hz⟩:=I.list hq
  refine SeqAt.in_listAt (eqU x) pl.isList (fun w hw=>zfu rx fx r fs w (by simpa using hw)) ⟨.bl _,H,I,rfl,?_⟩;rw [show its.toArray.any (eqU x)=its.any (eqU x) by simp,zg5 r fs];exact q
 ·obtain⟨its,r,pl,hz⟩:=I.tuple hq
  refine SeqAt.in_tupleAt (eqU x) pl (fun w hw=>zfu rx fx r fs w (by simpa using hw)) ⟨.bl _,H,I,rfl,?_⟩;rw [show its.toArray.any (eqU x)=its.any (eqU x) by simp,zg5 r fs];exact q
theorem zg6:zbK X (.builtin "len") (fun xs H Q=>∃ p ys,xs=[.ref p]/\(SqL X.K H p ys\/SqT X.K H p ys)/\Q (.int ys.length) H):=by
 intro pins s σ H xs us Q I r h;obtain⟨p,ys,rfl,hq,q⟩:=h;obtain⟨u,rfl,rx⟩:=zeB r;cases rx;have hn:=zed;rcases hq with hq | hq
 ·obtain⟨its,r',pl,hz⟩:=I.list hq
  have hlen:=r'.length;exact Calls.call_len_list pl.isList (by simp only [List.size_toArray]<;>omega) ⟨.int ys.length,H,I.tok _,⟨s.toks+1,by rw [List.size_toArray,hlen]⟩,q⟩
 ·obtain⟨its,r',pl,hz⟩:=I.tuple hq
  have hlen:=r'.length;exact len_tuple pl (by simp only [List.size_toArray]<;>omega) ⟨.int ys.length,H,I.tok _,⟨s.toks+1,by rw [List.size_toArray,hlen]⟩,q⟩
theorem zgp:zbK X (.type "tuple") (fun xs H Q=>∃ p ys,xs=[.ref p]/\((SqL X.K H p ys/\∀ l,H l=none->Q (.ref l) (upd H l (.tup ys)))\/(SqT X.K H p ys/\Q (.ref p) H))):=by
 intro pins s σ H xs us Q I r h;obtain⟨p,ys,rfl,h⟩:=h;obtain⟨u,rfl,rx⟩:=zeB r;cases rx;rcases h with ⟨hq,q⟩ | ⟨hq,q⟩
 ·obtain⟨its,r',pl,hz⟩:=I.list hq
  have hlen:=r'.length;refine call_tuple_list pl.isList (fun h' kp=>?_) (by simp only [List.size_toArray]<;>omega);have I1:Inv X pins σ H { s with heap:=h' }:=I.kept (t':=s.toks) kp;have I2:Inv X pins σ (upd H h'.objs.size (.tup ys)) { s with heap:=h'.push { cls:=.type "tuple",data:=.seq its.toArray } } :=
   I1.laid (t':=s.toks) (fun b o e=>qd _ e) (qe _) (show zP X.prog X.w X.K _ _ _ (.tup ys) from⟨hz,its,r',zb6.new _ _⟩)
  exact⟨.ref h'.objs.size,_,I2,rfl,q _ (I1.hok.fresh (qe _))⟩
 ·obtain⟨its,r',pl,hz⟩:=I.tuple hq
  exact call_tuple_same pl ⟨.ref p,H,I,rfl,q⟩
def tyV(K:qc)(T:String)(x:V)(H:Hp):Prop:=match x with
 | .str _=>T = "str"
 | .int _=>T = "int"
 | .ref p=>(T = "list"/\∃ xs,SqL K H p xs)\/(T = "tuple"/\∃ o,K.lookup p=some o/\o.cls=.type "tuple"/\o.dict=none) \/
   (T = "dict"/\((∃ kvs,H p=some (.dK kvs))\/∃ kvs,H p=some (.dT kvs)))\/(T = "set"/\∃ S n,H p=some (.set S n))
 | _=>False
theorem zm4{pins:List (Addr×Obj)}{σ:St}{H:Hp}{s:Shared}{T:String}{x:V}{v:Value}(I:Inv X pins σ H s)(r:zI x v)(ty:tyV X.K T x H) :
  s.TypeIs v T/\∀ a,v=.ref a->∃ ob,s.heap.get? a=some ob/\ob.dict=none:=by
 cases x with
 | str z =>
  obtain⟨t,rfl⟩:=r;cases(show T = "str" from ty);exact⟨typeIs_str s z t,fun _ e=>nomatch e⟩
 | int i =>
  obtain⟨t,rfl⟩:=r;cases(show T = "int" from ty);exact⟨typeIs_int s i t,fun _ e=>nomatch e⟩
 | ref p =>
  cases r;rcases ty with ⟨rfl,xs,hq⟩ | ⟨rfl,o,hk,hc,hd⟩ | ⟨rfl,hk⟩ | ⟨rfl,S,n,hk⟩
  ·obtain⟨its,_,pl,_⟩:=I.list hq
   refine⟨pl.isList.typeIs,fun a e=>?_⟩;cases e;obtain⟨o,n,e,c,hd,_⟩:=pl;exact⟨o,e,hd⟩
  ·refine⟨⟨o,I.kIn p o hk,hc⟩,fun a e=>?_⟩
   cases e;exact⟨o,I.kIn _ o hk,hd⟩
  ·have z:∃ o,s.heap.get? p=some o/\o.ExactDict:=by
    rcases hk with ⟨kvs,hk⟩ | ⟨kvs,hk⟩
    ·obtain⟨_,_,_,_,o,_,_,e,ex,_⟩:=I.hok p _ hk
     exact⟨o,e,ex⟩
    ·obtain⟨_,_,_,_,o,_,_,e,ex,_⟩:=I.hok p _ hk
     exact⟨o,e,ex⟩
   obtain⟨o,e,ex⟩:=z;refine⟨⟨o,e,ex.1⟩,fun a e2=>?_⟩;cases e2;exact⟨o,e,ex.2.1⟩
  ·obtain⟨o,_,_,_,e,ex,_⟩:=I.hok p _ hk
   refine⟨⟨o,e,ex.1⟩,fun a e2=>?_⟩;cases e2;exact⟨o,e,ex.2.1⟩
 | _=>exact False.elim ty
def tBM(K:qc)(T:String)(r:V->List V->Hp->VK->Prop)(to:TE)(t:TA):TE:=fun σ H Q=>to σ H fun x H1=>tyV K T x H1/\t σ H1 fun xs H2=>r x xs H2 Q
variable {o e:Expr} {es:List Expr} {to:TE} {t:TA} {name:Str} {apos cpos:Pos} {T id:String} {r:V->List V->Hp->VK->Prop}
theorem zvt(pa:PlainAttrs T)(slot:Slot T name id)(hty:typeOf (.builtin id)=pure (.type "method_descriptor"))(hm:MtR X id r)(ho:PE X o to)(ha:PA X (e::es) t)
  (hbase:attributeBase o name X.env (eval o X.env)=eval o X.env:=by rfl)
  (hfew:((backTo cpos (starEach (e::es) X.env)).all (fun x=>!x.1) && (backToKw cpos (keywordEach [] X.env)).all (fun x=>x.1.isSome)
   && decide ((e::es).length+([]:List Keyword).length+(if([]:List Keyword).isEmpty then 0 else 1) < 30))=true:=by rfl)
  (hline:(apos.endLine==cpos.line)=true:=by rfl) (hs:starEach (e::es) X.env=(false,eval e X.env)::starEach es X.env:=by rfl) (hplain:(backTo cpos (starEach es X.env)).any (·.1)=false:=by rfl) :
  PE X (.Call (.Attribute o name apos) (e::es) [] cpos) (tBM X.K T r to t):=by
 intro pins s σ H Q I h;refine wpAny_Call_method_late hbase hfew hline rfl (thn (ho pins s σ H _ I h) fun v s1 hZ=>?_);obtain⟨x,H1,I1,r1,ty,q1⟩:=hZ;obtain⟨h1,h2⟩:=zm4 I1 r1 ty;refine⟨T,id,pa,slot,hty,h1,h2,?_⟩;have hA:=ha cpos pins s1 σ H1 _ I1 q1;rw [hs]at hA ⊢;refine Calls.callWith_builtin (by show(false || (backTo cpos (starEach es X.env)).any (·.1))=false; rw [hplain]<;>rfl) (Calls.evalArgs_plain ?_);exact thn hA fun us s2 ⟨vs,H2,I2,r2,q2⟩=>hm pins s2 σ H2 x vs v us Q I2 r1 r2 q2
end
def MtM(X:Cx)(id:String)(r:V->List V->Hp->VK->Prop):Prop :=
 ∀ (pins:List (Addr×Obj)) (s:Shared) (σ:St) (H:Hp) (x:V) (xs:List V) (v:Value) (us:List Value) (Q:VK),Inv X pins σ H s->zI x v->zE xs us->r x xs H Q ->
  wpAny (model X.prog X.w) X.A (call (.builtin id) (v::us)) (EP X pins σ Q) X.xe s
theorem zE.one{x:V}{us:List Value}(h:zE [x] us):∃ u,us=[u]/\zI x u:=by
 cases h with
 | cons r t=>cases t; exact⟨_,rfl,r⟩
theorem zE.reverse{xs:List V}{us:List Value}(h:zE xs us):zE xs.reverse us.reverse:=by
 induction h with
 | nil=>exact .nil
 | cons r t ih=>rw [List.reverse_cons,List.reverse_cons]; exact zE.append ih (.cons r .nil)
theorem zE.rep{xs:List V}{us:List Value}(h:zE xs us):∀ k:Nat,zE (List.replicate k xs).flatten (List.replicate k us).flatten
 | 0=>.nil
 | k+1=>by
  rw [List.replicate_succ,List.replicate_succ,List.flatten_cons,List.flatten_cons];exact zE.append h (zE.rep h k)
theorem zeg(its:List Value):∀ (k:Nat) (acc:List Value),
  List.foldl (fun x1 x2=>x1++x2) acc.toArray (List.replicate k its.toArray)=(acc++(List.replicate k its).flatten).toArray
 | 0,acc=>by simp
 | k+1,acc=>by
  have e:acc.toArray++its.toArray=(acc++its).toArray:=by simp
  have e2:(acc++its)++(List.replicate k its).flatten=acc++(List.replicate (k+1) its).flatten:=by
   rw [List.replicate_succ,List.flatten_cons,List.append_assoc]
  rw [<-e2,<-zeg its k (acc++its),<-e,List.replicate_succ,List.foldl_cons]
section
variable {X:Cx} {pins:List (Addr×Obj)} {σ:St} {H:Hp} {s:Shared} {l b:Addr} {xs ys zs:List V}
theorem Inv.lset{its its':List Value}{n:Nat}{f:Array Value->Array Value}{t':Nat}(I:Inv X pins σ H s)(hH:H l=some (.lst xs))
  (e:s.heap.get? l=some { cls:=.type "list",data:=.seq its.toArray n }) (hf:f its.toArray=its'.toArray) (hv:zE ys its') (hz:ys.length<=sizeLine) :
  Inv X pins σ (upd H l (.lst ys)) { s with heap:=s.heap.update l (Obj.mapSeq f),toks:=t' }:=by
 have q:=PySem.IsL.update e f;rw [hf]at q;refine I.write (x:=l) (e:=l) (by rw [hH]; exact trivial) (.inl rfl) (fun b' u hb hu=>(Heap.get?_update_other s.heap (Obj.mapSeq f) (Ne.symm hb)).trans hu) ⟨_,q⟩ ?_;exact⟨hz,its',_,hv,q⟩
theorem Inv.lnew{its:List Value}{t':Nat}(I:Inv X pins σ H s)(hv:zE ys its)(hz:ys.length<=sizeLine) :
  Inv X pins σ (upd H s.heap.objs.size (.lst ys)) { s with heap:=s.heap.push { cls:=.type "list",data:=.seq its.toArray },toks:=t' } :=
 I.laid (fun _ _ q=>qd _ q) (qe _) ⟨hz,its,0,hv,qg _ rfl⟩
theorem Inv.fresh(I:Inv X pins σ H s):H s.heap.objs.size=none:=I.hok.fresh (qe _)
theorem Inv.lstM(I:Inv X pins σ H s)(hH:H l=some (.lst xs)):xs.length<=sizeLine/\∃ (its:List Value) (n:Nat),zE xs its/\xs.length=its.length/\s.heap.get? l=some { cls:=.type "list",data:=.seq its.toArray n }:=by
 obtain⟨z,its,n,r,e⟩:=I.hok l _ hH;exact⟨z,its,n,r,r.length,e⟩
theorem zh7{n:Nat}(h:n<=sizeLine):Builtin.List.listTooLong n=false:=by
 unfold Builtin.List.listTooLong;exact decide_eq_false (by omega)
end
section
variable {X:Cx}
def zg7:V->List V->Hp->VK->Prop:=fun x vs H Q=>∃ l xs y,x=.ref l/\vs=[y]/\H l=some (.lst xs)/\xs.length < sizeLine/\Q .non (upd H l (.lst (xs++[y])))
theorem zcb:MtM X "list.append" zg7:=by
 intro pins s σ H x vs v us Q I rx rv h;obtain⟨l,xs,y,rfl,rfl,hH,hz,q⟩:=h;cases rx;obtain⟨u,rfl,ru⟩:=rv.one;obtain⟨z,its,n,r,hl,e⟩:=I.lstM hH;refine call_meets F.slot_list_append ⟨_,e,rfl⟩ F.entry_list_append (F.args_list_append_2 _ _) (PySem.list_append l its.toArray n u (by rw [List.size_toArray]; omega)) ⟨e,?_⟩;refine⟨.non,_,I.lset (its':=its++[u]) hH e (by simp) (r.append (.cons ru .nil)) ?_,rfl,q⟩;rw [qt,List.length_singleton];omega
def zka:V->List V->Hp->VK->Prop:=fun x vs H Q=>∃ l b xs zs,x=.ref l/\vs=[.ref b]/\H l=some (.lst xs)/\H b=some (.lst zs)/\xs.length+zs.length<=sizeLine/\Q .non (upd H l (.lst (xs++zs)))
theorem zlY:MtM X "list.extend" zka:=by
 intro pins s σ H x vs v us Q I rx rv h;obtain⟨l,b,xs,zs,rfl,rfl,hH,hB,hz,q⟩:=h;cases rx;obtain⟨u,rfl,ru⟩:=rv.one;cases ru;obtain⟨z,its,n,r,hl,e⟩:=I.lstM hH;obtain⟨z2,its2,n2,r2,hl2,e2⟩:=I.lstM hB;have hsz:its.toArray.size+its2.toArray.size<=sizeLine:=by rw [List.size_toArray,List.size_toArray]; omega
 have hlong:¬(!its.toArray.isEmpty && Builtin.List.listTooLong (its.toArray.size+its2.toArray.size))=true:=by
  rw [zh7 hsz,Bool.and_false];exact qf
 refine call_meets F.slot_list_extend ⟨_,e,rfl⟩ F.entry_list_extend (F.args_list_extend_2 _ _)
  (AutoSeq1.list_extend_list_list_0 l its.toArray n b its2.toArray n2 hlong (by rw [List.size_toArray]; omega) (by omega)) ⟨e,e2,?_⟩
 refine⟨.non,_,I.lset (its':=its++its2) hH e (by simp) (r.append r2) ?_,rfl,q⟩;rw [qt];omega
def zvu:R2:=fun x y H Q=>∃ l k xs,x=.ref l/\y=.int k/\H l=some (.lst xs)/\-(2^63)<=k/\k < 2^63/\xs.length * k.toNat<=sizeLine /\
 ∀ p,H p=none->Q (.ref p) (upd H p (.lst (List.replicate k.toNat xs).flatten))
theorem zg8{α:Type}(xs:List α)(k:Nat):(List.replicate k xs).flatten.length=k * xs.length:=by
 induction k with
 | zero=>simp
 | succ k ih=>rw [List.replicate_succ,List.flatten_cons,qt,ih,Nat.succ_mul,Nat.add_comm]
theorem zg9:OpR X (binaryOp .Mult) zvu:=by
 intro pins s σ H x y v u Q I rx ry h;obtain⟨l,k,xs,rfl,rfl,hH,h1,h2,hz,q⟩:=h;cases rx;obtain⟨t,rfl⟩:=ry;obtain⟨z,its,n,r,hl,e⟩:=I.lstM hH;have hlen:its.toArray.size * k.toNat<=sizeLine:=by rw [List.size_toArray,<-hl]; exact hz
 have hcap:¬its.toArray.size * k.toNat > (2^63 - 1) / 8:=by
  have:(sizeLine:Nat)<=(2^63 - 1) / 8:=by decide
  omega
 have hfit:¬(!Builtin.List.listFitsIndex k)=true:=by
  rw [fitsIndex_both h1 h2];exact qf
 have hlong:¬Builtin.List.listTooLong (its.toArray.size * k.toNat)=true:=by
  rw [zh7 hlen];exact qf
 have hnew:List.foldl (fun x1 x2=>x1++x2) #[] (List.replicate (if its.toArray.isEmpty=true then 0 else k.toNat) its.toArray)=(List.replicate k.toNat its).flatten.toArray:=by
  have f0:∀ m:Nat,List.foldl (fun x1 x2=>x1++x2) #[] (List.replicate m its.toArray)=(List.replicate m its).flatten.toArray:=fun m=>by
   have:=zeg its m [];rw [List.nil_append]at this;exact this
  rw [f0];cases its with
  | nil=>simp
  | cons a r'=>rw [if_neg (by simp)]
 refine wpAny_binaryOp_repeat_ref (T := "list") (U := "int") (by decide) ⟨_,e,rfl⟩ (fun s'=>typeIs_int s' k t) noFill_list_mul F.fills_int_mul F.slot_int_rmul repeat_list F.slot_int_index.lookup
  (call_meets F.slot_int_rmul (typeIs_int s k t) F.entry_int_rmul (F.args_int_rmul_2 _ _) (int___rmul___int_list k t l its.toArray n)
   ⟨e,rfl,⟨_,e,rfl⟩,call_meets F.slot_list_mul ⟨_,e,rfl⟩ F.entry_list_mul (F.args_list_mul_2 _ _) (AutoListH.list___mul___list_int_3 l its.toArray n k t hfit hcap hlong) ⟨e,?_⟩⟩)
 rw [hnew];exact⟨.ref _,_,I.lnew (t':=s.toks) (r.rep k.toNat) (by rw [zg8,Nat.mul_comm]; exact hz),rfl,q _ I.fresh⟩
end
section
variable {prog:Program} {w:World} {A:Around} {E:Value->Shared->Prop} {s:Shared}
end
section
variable {X:Cx}
end
section
variable {κ:Type} [DecidableEq κ]
def zbu(kvs:List (κ×V))(k:κ):Option V:=(kvs.find? fun kv=>decide (kv.1=k)).map (·.2)
def zcj(kvs:List (κ×V))(k:κ)(v:V):List (κ×V) :=
 if(kvs.any fun kv=>decide (kv.1=k))=true then kvs.map (fun kv=>if kv.1=k then(kv.1,v)else kv)else kvs++[(k,v)]
theorem zdJ{p:κ×V}{r:List (κ×V)}{k:κ}(e:p.1=k):zbu (p::r) k=some p.2:=by simp [zbu,List.find?_cons,e]
theorem zdK{p:κ×V}{r:List (κ×V)}{k:κ}(e:¬p.1=k):zbu (p::r) k=zbu r k:=by simp [zbu,List.find?_cons,e]
theorem zfv(k:κ):∀ kvs:List (κ×V),(kvs.any fun kv=>decide (kv.1=k))=(zbu kvs k).isSome
 | []=>rfl
 | p::r=>by
  rw [List.any_cons]
  by_cases e:p.1=k
  ·simp only [zdJ e,decide_eq_true e,Bool.true_or,Option.isSome_some]
  ·rw [zdK e,decide_eq_false e,Bool.false_or]; exact zfv k r
theorem zcO(kvs:List (κ×V))(k:κ)(v:V):(zcj kvs k v).length<=kvs.length+1:=by
 unfold zcj;split
 ·rw [List.length_map]; omega
 ·rw [qt,qu,List.length_nil]; omega
theorem zcD.isSome_eq{o:Option V}{u:Option Value}(r:zcD o u):o.isSome=u.isSome:=by
 cases o with
 | none=>cases u with
  | none=>rfl
  | some _=>exact(show False from r).elim
 | some _=>cases u with
  | none=>exact(show False from r).elim
  | some _=>rfl
theorem KV.val{kvs:List (κ×V)}{vs:List (κ×Value)}(r:KV kvs vs)(k:κ):zcD (zbu kvs k) (valueAt vs k):=by
 unfold KV at r
 induction r with
 | nil=>exact True.intro
 | @cons p q ps qs h t ih =>
  obtain⟨h1,h2⟩:=h
  by_cases e:p.1=k
  ·have e':q.1=k:=h1.symm.trans e
   have b:valueAt (q::qs) k=some q.2:=by simp [valueAt,List.find?_cons,e']
   rw [zdJ e,b]; exact h2
  ·have e':¬q.1=k:=fun z=>e (h1.trans z)
   have b:valueAt (q::qs) k=valueAt qs k:=by simp [valueAt,List.find?_cons,e']
   rw [zdK e,b]; exact ih
end
theorem zh8{P:Program}{w:World}{k:Key}{u:Value}(r:zI (kV k) u):(zO P w).is k u=true:=by
 cases k with
 | inl i=>obtain⟨t,e⟩:=(show ∃ t,u=Value.int i t from r); subst e; exact zhR P w i t
 | inr x=>obtain⟨t,e⟩:=(show ∃ t,u=Value.str x t from r); subst e; exact zhS P w x t
theorem zeh{P:Program}{w:World}:∀ {ks:List Key} {us:List Value},zE (ks.map kV) us->ItemsAre (zO P w) ks us
 | [],_,r=>by rw [List.map_nil]at r; cases r; exact .nil
 | k::ks,_,r=>by
  rw [List.map_cons]at r;cases r with
  | cons h t=>exact .cons (zh8 h) (zeh t)
abbrev KT(K:qc)(H:Hp):List (List Key×V)->List (List Key×Addr×Value)->Prop:=Paired fun p q=>p.1=q.1/\TpK K H q.2.1 (p.1.map kV)/\zI p.2 q.2.2
theorem KT.val{K:qc}{H:Hp}{kvs:List (List Key×V)}{xs:List (List Key×Addr×Value)}(r:KT K H kvs xs)(k:List Key):zcD (zbu kvs k) ((atKey xs k).map (·.2)):=by
 induction r with
 | nil=>exact True.intro
 | @cons p q ps qs h t ih =>
  obtain⟨h1,_,h2⟩:=h
  by_cases e:p.1=k
  ·have e':q.1=k:=h1.symm.trans e
   have b:atKey (q::qs) k=some q.2:=by simp [atKey,List.find?_cons,e']
   rw [zdJ e,b]; exact h2
  ·have e':¬q.1=k:=fun z=>e (h1.trans z)
   have b:atKey (q::qs) k=atKey qs k:=by simp [atKey,List.find?_cons,e']
   rw [zdK e,b]; exact ih
theorem KT.repl{K:qc}{H:Hp}{kvs:List (List Key×V)}{xs:List (List Key×Addr×Value)}(r:KT K H kvs xs)(k:List Key){y:V}{u:Value}(ry:zI y u) :
  KT K H (kvs.map fun kv=>if kv.1=k then(kv.1,y)else kv) (xs.map (putAt k u)):=by
 induction r with
 | nil=>exact .nil
 | @cons p q ps qs h t ih =>
  rw [List.map_cons,List.map_cons];refine .cons ?_ ih;obtain⟨h1,h2,h3⟩:=h;unfold putAt
  by_cases e:p.1=k
  ·rw [if_pos e,if_pos (h1.symm.trans e)]; exact⟨h1,h2,ry⟩
  ·rw [if_neg e,if_neg (fun z=>e (h1.trans z))]; exact⟨h1,h2,h3⟩
theorem KT.put{K:qc}{H:Hp}{kvs:List (List Key×V)}{xs:List (List Key×Addr×Value)}(r:KT K H kvs xs)(k:List Key){b:Addr}{y:V}{u:Value}(hb:TpK K H b (k.map kV))(ry:zI y u) :
  KT K H (zcj kvs k y) (storedH xs k b u):=by
 have e:(kvs.any fun kv=>decide (kv.1=k))=(atKey xs k).isSome:=by
  rw [zfv,(r.val k).isSome_eq,Option.isSome_map]
 unfold zcj storedH;rw [e]
 by_cases q:(atKey xs k).isSome=true
 ·rw [if_pos q,if_pos q]; exact r.repl k ry
 ·rw [if_neg q,if_neg q]; exact Paired.snoc r ⟨rfl,hb,ry⟩
theorem KT.keeps{K:qc}{H H':Hp}{kvs:List (List Key×V)}{xs:List (List Key×Addr×Value)}(r:KT K H kvs xs)(ht:∀ b ys,H b=some (.tup ys)->H' b=some (.tup ys)):KT K H' kvs xs :=
 Paired.mapP r fun _ _ z=>⟨z.1,z.2.1.keeps ht,z.2.2⟩
section
variable {P:Program} {w:World} {K:qc} {H:Hp} {h:Heap} {a:Addr}
theorem zm5{u:HO}(ok:HOk P w K H h)(e:Rd H a u):zP P w K H h a u:=e.ok ok
theorem zkb{kvs:List (Key×V)}(ok:HOk P w K H h)(e:Rd H a (.dK kvs)):kvs.length<=sizeLine/\(a==sysModules)=false/\∃ vs,KV kvs vs/\h.DictOf (zO P w) a vs :=
 show zP P w K H h a (.dK kvs) from zm5 ok e
theorem zei{ks:List Key}(kin:K.In h)(ok:HOk P w K H h)(e:TpK K H a (ks.map kV)):(tupleKind (zO P w)).is h ks a:=by
 rcases e with e | ⟨o,its,n,hk,hc,hs,_,r,_⟩
 case inr=>exact⟨o,its,n,kin a o hk,hc,hs,by simpa using zeh r⟩
 obtain⟨_,its,r,o,h1,h2,⟨n,h3⟩,_⟩:=(show zP P w K H h a (.tup (ks.map kV)) from ok a _ e);exact⟨o,its.toArray,n,h1,h2,h3,by simpa using zeh r⟩
theorem zh9{kvs:List (List Key×V)}(kin:K.In h)(ok:HOk P w K H h)(e:Rd H a (.dT kvs)):kvs.length<=sizeLine/\(a==sysModules)=false /\
  ∃ xs,KT K H kvs xs/\h.DictOfH (tupleKind (zO P w)) a xs:=by
 obtain⟨z,y,xs,r,o,es,ep,h1,h2,h3,h4,h5⟩:=(show zP P w K H h a (.dT kvs) from zm5 ok e);refine⟨z,y,xs,r,o,es,ep,h1,h2,h3,h4,fun x hx=>?_,h5⟩;have all:∀ {l:List (List Key×V)} {m:List (List Key×Addr×Value)},KT K H l m->∀ x∈m,(tupleKind (zO P w)).is h x.1 x.2.1:=by
  intro l m q
  induction q with
  | nil=>intro x hx; exact nomatch hx
  | @cons p q ps qs hq t ih =>
   intro x hx;rcases qv.mp hx with e | hx
   ·subst e
    exact zei kin ok (by rw [<-hq.1]; exact hq.2.1)
   ·exact ih x hx
 exact all r x hx
theorem zm6{kvs:List (List Key×V)}(kin:K.In h)(ok:HOk P w K H h)(e:H a=some (.dT kvs)):kvs.length<=sizeLine/\(a==sysModules)=false /\
  ∃ xs,KT K H kvs xs/\h.DictOfH (tupleKind (zO P w)) a xs:=zh9 kin ok (.inl e)
end
def zjh(K:qc)(H:Hp)(a:Addr)(y:V)(r:Option V):Prop :=
 (∃ kvs k,Rd H a (.dK kvs)/\y=kV k/\r=zbu kvs k)\/∃ kvs k b,Rd H a (.dT kvs)/\y=.ref b/\TpK K H b (k.map kV)/\r=zbu kvs k
section
variable {X:Cx} {pins:List (Addr×Obj)} {σ:St} {H:Hp} {s:Shared} {a:Addr} {y v:V} {u r:Value} {o:Option V} {A:Around} {E:Value->Shared->Prop}
theorem Inv.big(I:Inv X pins σ H s):sysModules < s.heap.objs.size:=by
 have h:mainGlobals < s.heap.objs.size:=(I.mod.glob.keeps I.bk).lt;exact Nat.lt_trans (by decide) h
theorem zlZ{Q:Value->Shared->Prop}(hu:A.units+1 < cLine)(I:Inv X pins σ H s)(g:zjh X.K H a y (some v))(ry:zI y u)(h:∀ w' s',Inv X pins σ H s'->zI v w'->Q w' s') :
  wpAny (model X.prog X.w) A (getItem (.ref a) u) Q E s:=by
 rcases g with ⟨kvs,k,e,ey,l⟩ | ⟨kvs,k,b,e,ey,eb,l⟩
 ·subst ey
  obtain⟨z,hd,vs,rel,dd⟩:=zkb I.hok e;obtain⟨w',hw,rw'⟩:=zcD.some_of (v:=v) (o:=valueAt vs k) (by rw [l]; exact rel.val k);exact wpAny_getItem_of (zh8 ry) dd.mapOf hw (h w' _ (I.tok _) rw')
 ·subst ey
  cases(show u=Value.ref b from ry);obtain⟨z,hd,xs,rel,dd⟩:=zh9 I.kIn I.hok e;obtain⟨w',hw,rw'⟩:=zcD.some_of (v:=v) (o:=(atKey xs k).map (·.2)) (by rw [l]; exact rel.val k);obtain⟨p,hp,hp2⟩:=qr.mp hw;refine wpAny_getItem_heap (tupleKind_room_in1 hu) (zei I.kIn I.hok eb) dd hp ?_;rw [hp2];exact h w' _ (I.tok _) rw'
theorem zw3{Q:Value->Shared->Prop}(hu:A.units+1 < cLine)(I:Inv X pins σ H s)(g:zjh X.K H a y o)(ry:zI y u)(h:∀ s',Inv X pins σ H s'->Q (.bool o.isSome) s') :
  wpAny (model X.prog X.w) A (compareOp .In u (.ref a)) Q E s:=by
 rcases g with ⟨kvs,k,e,ey,l⟩ | ⟨kvs,k,b,e,ey,eb,l⟩
 ·subst ey
  obtain⟨z,hd,vs,rel,dd⟩:=zkb I.hok e;refine wpAny_in_of (zh8 ry) hd dd.mapOf ?_;rw [<-(rel.val k).isSome_eq,<-l];exact h _ (I.tok _)
 ·subst ey
  cases(show u=Value.ref b from ry);obtain⟨z,hd,xs,rel,dd⟩:=zh9 I.kIn I.hok e;refine wpAny_in_heap (tupleKind_room_in1 hu) (zei I.kIn I.hok eb) hd dd ?_;have q:=(rel.val k).isSome_eq;rw [Option.isSome_map]at q;rw [<-q,<-l];exact h _ (I.tok _)
theorem ze7{h':Heap}{t':Nat}{ob:HO}(I:Inv X pins σ H s)(mu:Mut (H a))(hs:Heap.SameBut a s.heap h')(he:∃ q,h'.get? a=some q)(new:zP X.prog X.w X.K (upd H a ob) h' a ob) :
  Inv X pins σ (upd H a ob) { s with heap:=h',toks:=t' } :=
 I.write (x:=a) (e:=a) mu (.inl rfl) (fun b q hb z=>(hs.2 b hb).trans z) he new
end
section
variable {X:Cx} {pins:List (Addr×Obj)} {σ:St} {H:Hp} {s:Shared} {a:Addr} {kvs:List (Key×V)} {k:Key} {u:Value} {A:Around} {E:Value->Shared->Prop}
end
def zqk(i:Expr):Prop:=∀ ov iv,subscripted i false ov iv=operate [ov,iv] (getItem ov iv)
theorem zkc{prog:Program}{w:World}{A:Around}{E:Value->Shared->Prop}{s:Shared}{env:Env}{value slice:Expr}{pos:Pos}{T id:String}{Q:Value->Shared->Prop}
  (hl:typeLookup (.type T) "__getitem__"=pure (some (.builtin id))) (hs:zqk slice)
  (h:wpAny (model prog w) A (eval value env) (fun o s₁=>wpAny (model prog w) A (eval slice env) (fun i s₂=>s₂.TypeIs o T/\wpAny (model prog w) A (getItem o i) Q E s₂) E s₁) E s) :
  wpAny (model prog w) A (eval (.Subscript value slice pos) env) Q E s:=by
 refine Subscript_ (wpAny_mono h (fun o s₁ h₁=>wpAny_mono h₁ (fun i s₂ h₂=>?_) fun _ _ x=>x) fun _ _ x=>x);obtain⟨hT,h₂⟩:=h₂;unfold subscriptTail;refine qa ?_;rw [getitemInPython_of_ne hT.not_modules];refine qa (wpAny_specialOf hT hl ?_);have fin:wpAny (model prog w) A (subscripted slice false o i) (fun r s₃=>wpAny (model prog w) A (letTemporaryGo value o r >>= fun _=>pure r) Q E s₃) E s₂:=by
  rw [hs o i];exact wpAny_operating (wpAny_mono h₂ (fun r s₃ h₃=>qa (wpAny_letTemporaryGo (qb h₃))) fun _ _ x=>x)
 first
  | exact qb (qa fin)
  | exact qa (qb (qa fin))
  | exact qa fin
theorem zia{X:Cx}{pins:List (Addr×Obj)}{σ:St}{H:Hp}{s:Shared}{a:Addr}{y:V}{o:Option V}(I:Inv X pins σ H s)(g:zjh X.K H a y o):s.TypeIs (.ref a) "dict":=by
 rcases g with ⟨kvs,k,e,_,_⟩ | ⟨kvs,k,b,e,_,_,_⟩
 ·obtain⟨_,_,vs,_,dd⟩:=zkb I.hok e
  exact dd.typeIs
 ·obtain⟨_,_,xs,_,dd⟩:=zh9 I.kIn I.hok e
  exact dd.typeIs
def zm7(K:qc)(td ty:TE):TE:=fun σ H Q=>td σ H fun x H1=>ty σ H1 fun y H2=>∃ a v,x=.ref a/\zjh K H2 a y (some v)/\Q v H2
def ztC(K:qc)(ty td:TE):TE:=fun σ H Q=>ty σ H fun y H1=>td σ H1 fun x H2=>∃ a o,x=.ref a/\zjh K H2 a y o/\Q (.bl o.isSome) H2
section
variable {X:Cx} {o i e value:Expr} {pos pos' tpos:Pos} {td ty tv:TE}
theorem zql(hu:X.A.units+1 < cLine)(ho:PE X o td)(hi:PE X i ty)(hs:zqk i):PE X (.Subscript o i pos) (zm7 X.K td ty):=by
 intro pins s σ H Q I h;refine zkc PySem.F.slot_dict_getitem.lookup hs (thn (ho pins s σ H _ I h) fun u s1 ⟨x,H1,I1,rx,q1⟩=>thn (hi pins s1 σ H1 _ I1 q1) fun iv s2 hZ=>?_);obtain⟨y,H2,I2,ry,a,v,ex,g,q2⟩:=hZ;subst ex;obtain rfl:u=Value.ref a:=rx;exact⟨zia I2 g,zlZ hu I2 g ry fun w' s3 I3 rw'=>⟨v,H2,I3,rw',q2⟩⟩
theorem ztD(hu:X.A.units+1 < cLine)(hi:PE X i ty)(ho:PE X o td):PC X .In i o (ztC X.K ty td):=by
 intro pins s σ H Q I h;refine thn (hi pins s σ H _ I h) fun iv s1 ⟨y,H1,I1,ry,q1⟩=>thn (ho pins s1 σ H1 _ I1 q1) fun u s2 hZ=>?_;obtain⟨x,H2,I2,rx,a,ov,ex,g,q2⟩:=hZ;subst ex;obtain rfl:u=Value.ref a:=rx;exact zw3 hu I2 g ry fun s3 I3=>⟨.bl ov.isSome,H2,I3,rfl,q2⟩
end
theorem zfw{P:Program}{w:World}{K:qc}{H:Hp}(h:Heap)(hb:sysModules < h.objs.size):zP P w K H (h.push { cls:=.type "dict",data:=.dict #[] }) h.objs.size (.dT []) :=
 ⟨Nat.zero_le _,beq_eq_false_iff_ne.mpr (Ne.symm (qj hb)),[],.nil,_,#[],0,qg _ rfl,⟨rfl,rfl,rfl⟩,rfl,rfl,List.nodup_nil⟩
def zha:TE:=fun _ H Q=>∀ p,H p=none->Q (.ref p) (upd H p (.dT []))
section
variable {X:Cx} {pos:Pos}
theorem zm8:PE X (.Dict [] [] pos) zha:=fun pins s σ H Q I h =>
 wpAny_Dict_empty ⟨.ref s.heap.objs.size,_,I.laid (a:=s.heap.objs.size) (o:=.dT []) (t':=s.toks) (fun _ _ q=>qd _ q) (qe _) (zfw s.heap I.big),rfl,h _ (I.hok.fresh (qe _))⟩
end
structure M2 (X:Cx) (o:Expr) (m:Str) (apos:Pos) (e f:Expr) (cpos:Pos):Prop where
 base:attributeBase o m X.env (eval o X.env)=eval o X.env
 few:((backTo cpos (starEach [e,f] X.env)).all (fun x=>!x.1) && (backToKw cpos (keywordEach [] X.env)).all (fun x=>x.1.isSome)
  && decide (([e,f]:List Expr).length+([]:List Keyword).length+(if([]:List Keyword).isEmpty then 0 else 1) < 30))=true
 line:(apos.endLine==cpos.line)=true
 trees:backTo cpos (starEach [e,f] X.env)=[(false,eval e X.env),(false,eval f X.env)]
def IsD(H:Hp)(a:Addr):Prop:=(∃ kvs,Rd H a (.dK kvs))\/∃ kvs,Rd H a (.dT kvs)
theorem ztE{X:Cx}{pins:List (Addr×Obj)}{σ:St}{H:Hp}{s:Shared}{a:Addr}(I:Inv X pins σ H s)(d:IsD H a) :
  s.TypeIs (.ref a) "dict"/\(∀ b,Value.ref a=.ref b->∃ ob,s.heap.get? b=some ob/\ob.dict=none)/\(a==sysModules)=false:=by
 rcases d with ⟨kvs,e⟩ | ⟨kvs,e⟩
 ·obtain⟨_,hd,vs,_,dd⟩:=zkb I.hok e
  refine⟨dd.typeIs,fun b q=>?_,hd⟩;cases q;obtain⟨ob,_,_,h1,h2,_⟩:=dd;exact⟨ob,h1,h2.2.1⟩
 ·obtain⟨_,hd,xs,_,dd⟩:=zh9 I.kIn I.hok e
  refine⟨dd.typeIs,fun b q=>?_,hd⟩;cases q;obtain⟨ob,_,_,h1,h2,_⟩:=dd;exact⟨ob,h1,h2.2.1⟩
section
variable {X:Cx} {pins:List (Addr×Obj)} {σ:St} {H:Hp} {s:Shared} {a:Addr} {y d:V} {u r:Value} {o:Option V} {A:Around} {E:Value->Shared->Prop}
end
section
variable {X:Cx} {o e f:Expr} {apos cpos:Pos} {td ty tx:TE}
end
section
variable {X:Cx} {pins:List (Addr×Obj)} {σ:St} {H:Hp} {s:Shared} {a:Addr} {kvs:List (Key×V)} {A:Around} {E:Value->Shared->Prop}
end
section
variable {X:Cx} {pins:List (Addr×Obj)} {σ:St} {H:Hp} {s:Shared} {a:Addr} {y:V} {u:Value} {A:Around} {E:Value->Shared->Prop}
end
end L2
namespace Att
open PySem PySem.W PySem.Calls PyProof.Rows
theorem zeX{P:Params}{h:Heap}:∀ (ns:List Int) (vs:List Value),WellAll P h vs (ns.map WData.int)->IntsAre vs ns:=by
 intro ns
 induction ns with
 | nil =>
  intro vs w;rw [List.map_nil]at w;cases w;exact .nil
 | cons n ns ih =>
  intro vs w;rw [List.map_cons]at w;cases w with
  | cons a b =>
   cases a;exact .cons _ _ (ih _ b)
theorem zl0{l:OpenLaw}{n:Nat}(hn:l.most=some n){P:Params}{h:Heap}{args:List WData}{vals:List Value}
  (hpre:l.row.toRowW.claim.pre args=true) (hwl:WellAll P h vals args) :
  ∃ a vs ns,vals=[Value.ref a]/\args=[WData.list (ns.map WData.int)]/\h.get? a=some { cls:=.type "list",data:=.seq vs.toArray }/\IntsAre vs ns/\ns.length<=n:=by
 have hsh:WShape.hasAll [] args [.list .int]=true:=(pre_splitW hpre).1;have hc:l.pre.holds [] { args:=args }=true:=(pre_splitW hpre).2;obtain⟨d,r,rfl,h1,h2⟩:=hasAllW_cons hsh;obtain rfl:=hasAllW_nil h2;obtain⟨xs,rfl,h3⟩:=hasW_list h1;obtain⟨ns,rfl⟩:=items_int h3;have hlen:ns.length<=n:=by
  unfold OpenLaw.pre at hc;have h4:(WTm.not (.lt (.lit (.int (n:Int))) (.len (.arg 0)))).holds [] { args:=[.list (ns.map .int)] }=true:=by
   have h4:=(holds_andW hc).1;rw [hn]at h4;exact h4
  have h5:=condW_of h4 (w_not (w_lt w_lit (w_len_list (w_arg rfl))));rw [List.length_map]at h5;refine Nat.le_of_not_lt fun q=>?_;have q':(n:Int) < ((ns.length:Nat):Int):=by omega
  first
   | (rw [decide_eq_true q']at h5; exact absurd h5 (by decide))
   | (simp at h5; omega)
 cases hwl with
 | cons w1 w2 =>
  cases w2;cases w1 with
  | list ho hall=>exact⟨_,_,ns,rfl,rfl,ho,zeX ns _ hall,hlen⟩
theorem zl1(l:OpenLaw)(args:List WData):l.row.toRowW.claim.post args (.bool true) args=true :=
 postW_of (r:=l.row.toRowW) (X:=(true==true))
  (show WShape.has [] (.bool true) .bool=true by first | rfl | decide | simp [WShape.has,WShape.arms,WShape.armsAll])
  (show(WTm.eq .res (.lit (.bool true))).value [] { args:=args,res:=some (.bool true),after:=args }=some (.bool (true==true)) from w_eq_bool (w_res rfl) w_lit) rfl
theorem attach_call{l:OpenLaw}{n:Nat}{q:Program}{loose:List Str}{XP:(Str->Option Value)->Heap->Prop}{YP:World->Heap->Prop}{d:DefRec}
  (hn:l.most=some n) (hdf:d.params.defaults=[])
  (call:∀ (w:World) (s₀ s₁:Shared) (mg mb:Str->Option Value) (fa:Addr) (o:Obj) (pm cd doc:Value) (a:Addr) (vs:List Value) (ns:List Int),
   Ground q loose [] XP w s₀ mg mb s₁.heap->YP w s₁.heap ->
   s₁.heap.get? fa=some o->o.data=.func (docDef d.name d.params d.body d.scope pm cd doc)->s₁.heap.CodeRec cd d.name->mg d.name=some (.ref fa) ->
   s₁.heap.get? a=some { cls:=.type "list",data:=.seq vs.toArray }->IntsAre vs ns->ns.length<=n->s₁.gens=#[] ->
   codeAny (model l.prog w) callerA (.call (.ref fa) ⟨[.ref a],[]⟩) (fun r s'=>r=.ok (.ret (.bool true))/\OldK s₁.heap s'.heap/\s'.os=s₁.os/\AllBare s'.gens) s₁) :
  WalkO q loose XP YP l.row.toRowW d [] (fun f vs=>PySem.call f vs):=by
 intro w s₀ s₁ mg mb G Y fa o pm cd doc dV kV ho hd hcd hD hmg hg args vals as hpre hlay hrd hwl hlo;obtain rfl:dV=.none:=Dflts.none hD hdf;obtain rfl:kV=.none:=Dflts.noKw hD;obtain⟨a,vs,ns,rfl,rfl,hobj,hints,hlen⟩:=zl0 hn hpre hwl;refine enter_call (codeAny_mono (call w s₀ s₁ mg mb fa o pm cd doc a vs ns G Y ho (fd_plain hd) hcd hmg hobj hints hlen hg) fun r s' hq=>?_);obtain⟨rfl,h2,h3,h4⟩:=hq;exact⟨.inl ⟨.bool true,.bool true,[],rfl,fun _=>rfl,.bool true,zl1 l _,fun _=>⟨List.Pairwise.nil,fun _ hm=>(nomatch hm)⟩⟩,h2,h3,h4⟩
section
variable {prog:Program} {w:World} {A:Around} {E:Value->Shared->Prop} {s:Shared} {K:Frag}
end
end Att
namespace L2
open PySem PySem.Spec PyProof.Rows
theorem zgA:∀ {vs:List Value} {ns:List Int},IntsAre vs ns->zE (ns.map V.int) vs
 | _,_,.nil=>.nil
 | _,_,.cons n t h=>.cons ⟨t,rfl⟩ (zgA h)
def zqm(H:Hp):Prop:=∀ b,H b=none\/∃ o xs,H b=some (.frz o (.lst xs))
theorem zm9{P:Program}{w:World}{K:qc}{mg mb:Str->Option Value}{CX:CXT}{k:Nat}{fa a:Addr}{fd:FuncData}{x:Str}{sp:Sp}{s₁:Shared}{vs:List Value}{ns:List Int}
  (KX:K.In s₁.heap) (hns:s₁.heap.Ns mainGlobals mg) (hb:s₁.heap.Ns builtinsNs mb) (hbb:∀ x:Str,x ≠ "__name__"->mb x=bootBuiltins x) (hlim:s₁.heap.NoLimit) (hg:s₁.gens=#[])
  (ha:s₁.heap.get? a=some { cls:=.type "list",data:=.seq vs.toArray }) (hi:IntsAre vs ns) (hl:ns.length<=sizeLine) (hr:Room k callerA)
  (F:∀ base:Heap,K.In base->base.Ns mainGlobals mg->FnOk P w K mg base CX k fa fd [x] sp) (hbind:∀ (s:Shared) (u:Value),BindsTo s fd ⟨[u],[]⟩ [(x,u)])
  (hsp:∀ H:Hp,zqm H->SqL K H a (ns.map V.int)->sp [.ref a] H (fun v _=>v=.bl true) fun _ _ _=>False)
  (hCX:∀ H e s',CX [] H s₁ (fun _ _ _=>False) e s'->False) :
  codeAny (model P w) callerA (.call (.ref fa) ⟨[.ref a],[]⟩) (fun r s'=>r=.ok (.ret (.bool true))/\OldK s₁.heap s'.heap/\s'.os=s₁.os/\AllBare s'.gens) s₁:=by
 have rv:=zgA hi;have lenV:=hi.length;have core:∀ H:Hp,zqm H->SqL K H a (ns.map V.int)->HOk P w K H s₁.heap->(∀ b,H b≠none->b=a)->(H a≠none->K.lookup a=none) ->
   codeAny (model P w) callerA (.call (.ref fa) ⟨[.ref a],[]⟩) (fun r s'=>r=.ok (.ret (.bool true))/\OldK s₁.heap s'.heap/\s'.os=s₁.os/\AllBare s'.gens) s₁:=by
  intro H hO hS hok hA hK;have base_of:∀ {b:Addr} {o:Obj},s₁.heap.get? b=some o->H b=none->(zgY s₁.heap H).get? b=some o:=fun e n=>zmA e n;have noA:∀ {b:Addr} {o:Obj} {es:Array DictEntry} {ep:Nat},s₁.heap.get? b=some o->o.data=.dict es ep->H b=none:=fun{b o es ep} e d=>by
   cases q:H b with
   | none=>rfl
   | some u =>
    have e':b=a:=hA b (by rw [q]; simp);subst e';rw [ha]at e; cases e;have d':Data.seq vs.toArray _=Data.dict es ep:=d;cases d'
  have nsK:∀ {b:Addr} {m:Str->Option Value},s₁.heap.Ns b m->(zgY s₁.heap H).Ns b m:=fun{b m} ⟨o,es,ep,e,d,r⟩=>⟨o,es,ep,base_of e (noA e d),d,r⟩;have hKb:K.In (zgY s₁.heap H):=fun b o e=>base_of (KX b o e) (by
   cases q:H b with
   | none=>rfl
   | some u =>
    have e':b=a:=hA b (by rw [q]; simp);subst e';rw [hK (by rw [q]; simp)]at e; cases e)
  have hM:Mod K mg (zgY s₁.heap H):=⟨hKb,nsK hns,⟨mb,nsK hb,hbb⟩,let ⟨mc,h1,h2⟩:=hlim; ⟨mc,nsK h1,h2⟩⟩;have e0:Env0 P w K mg (zgY s₁.heap H) callerA [] s₁ H:=⟨rfl,hM,fun b o e=>zpP e,Nat.le_of_eq (zlM _ _),trivial,fun b hb=>absurd (show b∈([]:List Addr) from hb) (by simp),hok,.of_eq hg⟩;refine codeAny_mono ((F _ hKb (nsK hns)).run callerA [] s₁ H ⟨[.ref a],[]⟩ [.ref a] [.ref a] _ _ hr e0 (hbind s₁ (.ref a)) (.cons rfl .nil) (hsp H hO hS)) fun r s' h=>?_;cases r with
  | error e=>exact(hCX H e s' h).elim
  | ok fl =>
   cases fl with
   | next=>exact False.elim h
   | brk=>exact False.elim h
   | cont=>exact False.elim h
   | ret u =>
    obtain⟨v,H',os,bare,un,hok',r',q⟩:=h;have q':v=.bl true:=q;subst q';obtain rfl:u=Value.bool true:=r';refine⟨rfl,OldK.of_keep fun b o e=>?_,os,bare⟩;cases q:H b with
    | none=>exact un.keep b o e q (by intro z; exact absurd (show b∈([]:List Addr) from z) (by simp)) (by simp)
    | some u =>
     rcases hO b with z | ⟨ob,xs,z⟩
     ·rw [q]at z; cases z
     ·have z2:=un.frzs b ob _ z
      obtain⟨e1,_⟩:=hok b _ z;obtain⟨e2,_⟩:=hok' b _ z2;rw [e]at e1; cases e1;exact e2
 cases hk:K.lookup a with
 | some o =>
  have e:=KX a o hk;rw [ha]at e;cases e;refine core (fun _=>none) (fun _=>.inl rfl) (.inr ⟨_,vs.toArray,_,hk,rfl,rfl,rfl,by rw [List.size_toArray,lenV]; exact hl,by simpa using rv⟩) (fun b u z=>by have z':(none:Option HO)=some u:=z; cases z') (fun b z=>absurd rfl z) fun z=>absurd rfl z
 | none =>
  refine core (fun b=>if b=a then some (.frz { cls:=.type "list",data:=.seq vs.toArray } (.lst (ns.map V.int)))else none) (fun b=>?_) (.inl (.inr ⟨{ cls:=.type "list",data:=.seq vs.toArray },if_pos rfl⟩)) (fun b u z=>?_) (fun b z=>?_) fun _=>hk
  ·by_cases hb:b=a
   ·exact .inr ⟨_,_,if_pos hb⟩
   ·exact .inl (if_neg hb)
  ·by_cases hb:b=a
   ·have z':=(if_pos hb).symm.trans z
    cases z';subst hb;exact⟨ha,by rw [List.length_map]; exact hl,vs,_,rv,ha⟩
   ·have z':=(if_neg hb).symm.trans z
    cases z'
  ·by_cases hb:b=a
   ·exact hb
   ·exact absurd (if_neg hb) z
theorem walk_of{l:PySem.W.OpenLaw}{n k:Nat}{q:Program}{loose:List Str}{XP:(Str->Option Value)->Heap->Prop}{YP:World->Heap->Prop}{d:DefRec}{K:Params->qc}{CX:World->CXT}{sp:World->Sp}{x:Str}
  (hn:l.most=some n) (hn2:n<=sizeLine) (hdf:d.params.defaults=[]) (hr:Room k callerA)
  (hY:∀ (w:World) (h:Heap),YP w h->(K w.params).In h)
  (F:∀ (w:World) (mg:Str->Option Value) (fa:Addr) (h:Heap),(K w.params).In h->h.Ns mainGlobals mg->mg d.name=some (.ref fa) ->
   ∃ fd:FuncData,(∀ (s:Shared) (u:Value),BindsTo s fd ⟨[u],[]⟩ [(x,u)]) /\
    ∀ base:Heap,(K w.params).In base->base.Ns mainGlobals mg->FnOk l.prog w (K w.params) mg base (CX w) k fa fd [x] (sp w))
  (hsp:∀ (w:World) (H:Hp) (a:Addr) (ns:List Int),ns.length<=n->zqm H->SqL (K w.params) H a (ns.map V.int)->sp w [.ref a] H (fun v _=>v=.bl true) fun _ _ _=>False)
  (hCX:∀ (w:World) (H:Hp) (s:Shared) (e:Value) (s':Shared),CX w [] H s (fun _ _ _=>False) e s'->False) :
  PySem.W.WalkO q loose XP YP l.row.toRowW d [] (fun f vs=>PySem.call f vs):=by
 refine Att.attach_call hn hdf fun w s₀ s₁ mg mb fa o pm cd doc a vs ns G Y ho hd hcd hmg hobj hints hlen hg=>?_;have KX:=hY w _ Y;obtain⟨fd,hb,hF⟩:=F w mg fa _ KX G.T.g hmg;exact zm9 KX G.T.g G.T.b G.T.builtins G.T.nolimit hg hobj hints (qy hlen hn2) hr hF hb (fun H hO hS=>hsp w H a ns hlen hO hS) fun H e s'=>hCX w H s₁ e s'
def zbw(s:Stmt):Arguments:=match s with
 | .FunctionDef _ a _ _ _ _ _ _ _ _=>a
 | _=>{ posonlyargs:=[],args:=[],vararg:=none,kwonlyargs:=[],kw_defaults:=[],kwarg:=none,defaults:=[] }
def zar(s:Stmt):List Stmt:=match s with
 | .FunctionDef _ _ b _ _ _ _ _ _ _=>b
 | _=>[]
def zJ(s:Stmt):Scope:=match s with
 | .FunctionDef _ _ _ _ _ _ sc _ _ _=>sc
 | _=>{ kind:=.function,names:=[],isGenerator:=false,isCoroutine:=false }
abbrev CX0:CXT:=fun _ _ _ _ _ _=>False
abbrev E0:XK:=fun _ _ _=>False
theorem zna{X:Cx}:zft CX0 X E0:=fun _ _ _ _ _ _ _ h=>h.elim
structure Fun (K:qc) (x qual:Str) (st:Stmt) (f:Addr) (fd:FuncData):Prop where
 ex:∃ (oc:Value) (od:Option Addr) (kV doc pm:Value) (an:Option Addr) (cdv ct:Value) (osl:Array (Option Value)),
  fd=PySem.W.fnOf x qual (zbw st) (zar st) (zJ st) .none kV doc pm an cdv ct/\K.lookup f=some ⟨oc,od,.func fd,osl⟩/\PySem.W.codeIn K cdv qual=true
 kp:PySem.W.keepIn K (.ref f)=true
section
variable {P:Program} {w:World} {K:qc} {mg:Str->Option Value} {base:Heap}
theorem Fun.ok{x qual:Str}{st:Stmt}{f:Addr}{fd:FuncData}{N ps:List Str}{k:Nat}{sp:Sp}(F:Fun K x qual st f fd)(S:FnScope N ps (zJ st))(len:∀ vs H Q E,sp vs H Q E->vs.length=ps.length)
  (hbody:∀ (cdv:Value) (A:Around) (outer:List Env) (s:Shared) (H:Hp) (vs:List V) (Q:VK) (E:XK),Room k (A.deeper (envOfC qual (zJ st) s.heap.objs.size f cdv))->sp vs H Q E ->
   ∃ t,PSs (zgn CX0 P w K mg base N qual (zJ st) f cdv A outer s H E).nox (zar st) t/\t { nx:=fun _ H'=>Q .non H',rt:=Q } (zbg N vs) H):FnOk P w K mg base CX0 (k+1) f fd ps sp:=by
 obtain⟨oc,od,kV,doc,pm,an,cdv,ct,osl,rfl,lk,hcd⟩:=F.ex;refine zvr lk hcd S len fun A outer s H vs Q E hr hsp=>?_;obtain⟨t,h,q⟩:=hbody cdv A outer s H vs Q E hr hsp;exact⟨t,h.nox,q⟩
theorem Fun.binds{x qual:Str}{st:Stmt}{f:Addr}{fd:FuncData}{ps:List Str}(F:Fun K x qual st f fd)
  (h:∀ (kV doc pm:Value) (an:Option Addr) (cdv ct:Value) (us:List Value),us.length=ps.length->bindArgs (PySem.W.fnOf x qual (zbw st) (zar st) (zJ st) .none kV doc pm an cdv ct) ⟨us,[]⟩=pure (ps.zip us)):zcN K fd ps []:=by
 obtain⟨oc,od,kV,doc,pm,an,cdv,ct,osl,rfl,lk,hcd⟩:=F.ex;exact .all (h kV doc pm an cdv ct)
theorem zji{x qual:Str}{st:Stmt}{f:Addr}{oc:Value}{od an:Option Addr}{osl:Array (Option Value)}{kV doc pm cdv ct:Value}(l:K.lookup f=some ⟨oc,od,.func (PySem.W.fnOf x qual (zbw st) (zar st) (zJ st) .none kV doc pm an cdv ct),osl⟩)
  (c:PySem.W.codeIn K cdv qual=true) (k:PySem.W.keepIn K (.ref f)=true):Fun K x qual st f (PySem.W.fnOf x qual (zbw st) (zar st) (zJ st) .none kV doc pm an cdv ct):=⟨⟨oc,od,kV,doc,pm,an,cdv,ct,osl,rfl,l,c⟩,k⟩
end
theorem zib{A:Around}{k:Nat}(hr:Room k A):A.units+1 < cLine:=Nat.lt_of_le_of_lt (Nat.add_le_add_left (by decide:1<=64) _) hr.units
section
variable {X:Cx}
theorem pv(i:Nat){x:Str}{pos:Pos}(hN:X.N[i]?=some x:=by rfl)(hv:Vis X.env.scope x:=by first | exact Or.inl rfl | exact Or.inr (Or.inl rfl) | exact Or.inr (Or.inr rfl))(hd:(x==("__debug__":Str))=false:=by decide)
  (hcd:(x==("__classdict__":Str))=false:=by decide):PE X (.Name x pos) (zbF i):=zsV hN hv hd hcd
end
def zba(H H':Hp):Prop:=∀ b o,H b=some o->H' b=some o
theorem zba.refl(H:Hp):zba H H:=fun _ _ h=>h
theorem zba.seq{K:qc}{H H':Hp}{a:Addr}{xs:List V}(e:zba H H')(h:SqL K H a xs):SqL K H' a xs:=by
 rcases h with (h | ⟨o,h⟩) | h
 ·exact .inl (.inl (e _ _ h))
 ·exact .inl (.inr ⟨o,e _ _ h⟩)
 ·exact .inr h
section
variable {X:Cx}
end
section
variable {κ:Type} [DecidableEq κ]
end
end L2
set_option maxHeartbeats 4000000
namespace L2
open PySem PySem.Spec PyProof.Rows
inductive Frees (X:Cx):List (Str×Addr)->List Str->List Nat->Prop where
 | nil:Frees X [] [] []
 | cons {x:Str} {c:Addr} {j:Nat} {cl:List (Str×Addr)} {xs:List Str} {js:List Nat} (hN:X.N[j]?=some x) (hk:X.env.scope.names.lookup x=some .cell\/X.env.scope.names.lookup x=some .free)
   (hc:X.env.cells.lookup x=some c) (t:Frees X cl xs js):Frees X ((x,c)::cl) (x::xs) (j::js)
def zD(X:Cx)(scope:Scope)(cl:List (Str×Addr))(Nc:List Str)(C:Addr)(s:Shared)(H:Hp)(ex:List Addr):Cx :=
 { X with s₀:=s,H₀:=H,env:=compEnvC scope (cellsFrom (C+1) scope.names cl) C X.env,N:=Nc,outer:=X.stack,stack:=X.stack,ex:=ex,fn:=fun x=>scope.names.lookup x==some .cell,pn:=[],xe:=fun _ _=>False }
def c0(nt:Nat)(js:List Nat)(σ:St):St:=List.replicate nt none++js.map fun j=>σ.getD j none
def Wk(a b:St):Prop:=a.length=b.length/\∀ (i:Nat) (v:V),a[i]?=some (some v)->b[i]?=some (some v)
theorem znb{a:St}{i:Nat}{x:Option V}(h:a[i]?=some none):Wk a (a.set i x):=by
 refine⟨by simp,fun j v e=>?_⟩;have ne:i≠j:=by intro z; rw [z,e]at h; cases h
 rw [qC ne];exact e
theorem ze8{nt:Nat}{js:List Nat}{σ:St}{i:Nat}(h:i < nt):(c0 nt js σ)[i]?=some none:=by
 unfold c0;rw [List.getElem?_append_left (by simpa using h),List.getElem?_replicate,if_pos h]
theorem zbh{X:Cx}{cl:List (Str×Addr)}{xs:List Str}{js:List Nat}(f:Frees X cl xs js):∀ x c,cl.lookup x=some c->X.env.cells.lookup x=some c:=by
 induction f with
 | nil=>intro x c e; cases e
 | @cons y d j cl xs js hN hk hc t ih =>
  intro x c e;rw [List.lookup_cons]at e
  by_cases q:x=y
  ·subst q
   rw [beq_self_eq_true]at e;injection e with e1;rw [<-e1];exact hc
  ·rw [beq_eq_false_iff_ne.mpr q]at e
   exact ih x c e
theorem zgB{X:Cx}{cl:List (Str×Addr)}{xs:List Str}{js:List Nat}(f:Frees X cl xs js):∀ x,x∈xs->∃ c,cl.lookup x=some c:=by
 induction f with
 | nil=>intro x m; cases m
 | @cons y d j cl xs js hN hk hc t ih =>
  intro x m;rw [List.lookup_cons]
  by_cases q:x=y
  ·subst q
   rw [beq_self_eq_true];exact⟨d,rfl⟩
  ·rw [beq_eq_false_iff_ne.mpr q]
   rcases qv.mp m with z | z
   ·exact absurd z q
   ·exact ih x z
theorem znc{X:Cx}{cl:List (Str×Addr)}{xs:List Str}{js:List Nat}(f:Frees X cl xs js):∀ (i:Nat) (x:Str) (σ:St) (v:V),xs[i]?=some x->(js.map fun j=>σ.getD j none)[i]?=some (some v) ->
  ∃ j:Nat,X.N[j]?=some x/\σ[j]?=some (some v)/\(X.env.scope.names.lookup x=some .cell\/X.env.scope.names.lookup x=some .free)/\(∃ c,X.env.cells.lookup x=some c):=by
 induction f with
 | nil=>intro i x σ v e; simp at e
 | @cons y d j cl xs js hN hk hc t ih =>
  intro i x σ v e1 e2;cases i with
  | zero =>
   simp only [List.getElem?_cons_zero,Option.some.injEq]at e1;subst e1;refine⟨j,hN,?_,hk,d,hc⟩;simp only [List.map_cons,List.getElem?_cons_zero,Option.some.injEq]at e2;rw [qB]at e2;cases q:σ[j]? with
   | none=>rw [q]at e2; cases e2
   | some o=>rw [q]at e2; simp at e2; rw [e2]
  | succ i =>
   exact ih i x σ v (by simpa using e1) (by simpa using e2)
theorem zck{env:Env}:∀ {names:List (Str×NameKind)} {x:Str} {k:NameKind},
  (names.map fun(n,k)=>if(k==NameKind.free && env.scope.kind==.function && env.kindOf n==some .cell)then(n,NameKind.cell)else(n,k)).lookup x=some k ->
  ∃ k0,names.lookup x=some k0/\(x,k0)∈names/\(k=k0\/(k0=.free/\k=.cell)):=by
 intro names
 induction names with
 | nil=>intro x k e; cases e
 | cons p r ih =>
  intro x k e;obtain⟨n,kn⟩:=p
  by_cases q:x=n
  ·subst q
   refine⟨kn,by rw [List.lookup_cons,beq_self_eq_true],qp,?_⟩;rw [List.map_cons]at e;change List.lookup x ((if(kn==NameKind.free && env.scope.kind==.function && env.kindOf x==some .cell)=true then(x,NameKind.cell)else(x,kn))::_)=_ at e
   by_cases hh:(kn==NameKind.free && env.scope.kind==.function && env.kindOf x==some .cell)=true
   ·rw [if_pos hh,List.lookup_cons,beq_self_eq_true]at e
    injection e with e1;refine .inr ⟨?_,e1.symm⟩;simp only [Bool.and_eq_true]at hh;exact by simpa using hh.1.1
   ·rw [if_neg hh,List.lookup_cons,beq_self_eq_true]at e
    injection e with e1;exact .inl e1.symm
  ·rw [List.map_cons]at e
   change List.lookup x ((if(kn==NameKind.free && env.scope.kind==.function && env.kindOf n==some .cell)=true then(n,NameKind.cell)else(n,kn))::_)=_ at e;have e':(r.map fun(n,k)=>if(k==NameKind.free && env.scope.kind==.function && env.kindOf n==some .cell)then(n,NameKind.cell)else(n,k)).lookup x=some k:=by
    by_cases hh:(kn==NameKind.free && env.scope.kind==.function && env.kindOf n==some .cell)=true
    ·rw [if_pos hh,List.lookup_cons,beq_eq_false_iff_ne.mpr q]at e
     exact e
    ·rw [if_neg hh,List.lookup_cons,beq_eq_false_iff_ne.mpr q]at e
     exact e
   obtain⟨k0,h1,h2,h3⟩:=ih e';refine⟨k0,by rw [List.lookup_cons,beq_eq_false_iff_ne.mpr q]; exact h1,qo _ h2,h3⟩
theorem zl2{X:Cx}{cl:List (Str×Addr)}{xs:List Str}{js:List Nat}(f:Frees X cl xs js):js.length=xs.length:=by
 induction f with
 | nil=>rfl
 | cons _ _ _ _ ih=>simp [ih]
structure ScC (scope:Scope) (xs:List Str):Prop where
 kind:scope.kind=.function
 cell:∀ y∈scope.names,y.2=.cell->scope.names.lookup y.1=some .cell
 names:∀ y∈scope.names,y.2=.local->scope.names.lookup y.1=some .local
 free:∀ y∈scope.names,y.2=.free->y.1∈xs
 fk:∀ x∈xs,scope.names.lookup x=some .free
theorem zb7:∀ (ns:List (Str×NameKind)) (n:Nat) (acc:List (Str×Addr)),cellsFrom n ns acc=cellsFrom n ns []++acc
 | [],_,_=>rfl
 | (x,k)::r,n,acc=>by
  unfold cellsFrom;split
  ·rw [zb7 r (n+1) ((x,n)::acc),zb7 r (n+1) [(x,n)],List.append_assoc]
   rfl
  ·exact zb7 r n acc
theorem zjj:∀ (ns:List (Str×NameKind)) (n:Nat) {x:Str} {c:Addr},(x,c)∈cellsFrom n ns []->(x,NameKind.cell)∈ns
 | [],_,_,_,h=>by cases h
 | (y,k)::r,n,x,c,h=>by
  unfold cellsFrom at h;split at h
  ·rename_i hk
   rw [zb7,List.mem_append]at h;rcases h with h | h
   ·exact qo _ (zjj r _ h)
   ·cases qq.mp h
    cases eq_of_beq hk;exact qp
  ·exact qo _ (zjj r _ h)
theorem zhb:∀ (ns:List (Str×NameKind)) (n:Nat) {x:Str},(x,NameKind.cell)∈ns->∃ c,(cellsFrom n ns []).lookup x=some c
 | [],_,_,h=>by cases h
 | (y,k)::r,n,x,h=>by
  unfold cellsFrom;rcases qv.mp h with e | h'
  ·cases e
   rw [if_pos (by rfl:(NameKind.cell==NameKind.cell)=true),zb7,List.lookup_append];cases(cellsFrom (n+1) r []).lookup y with
   | none=>exact⟨n,by rw [List.lookup_cons,beq_self_eq_true]; rfl⟩
   | some c=>exact⟨c,rfl⟩
  ·split
   ·obtain⟨c,e⟩:=zhb r (n+1) h'
    rw [zb7,List.lookup_append,e];exact⟨c,rfl⟩
   ·exact zhb r n h'
theorem zde{ns:List (Str×NameKind)}{n:Nat}{acc:List (Str×Addr)}{x:Str}{c:Addr}(h:(cellsFrom n ns acc).lookup x=some c):(cellsFrom n ns []).lookup x=some c\/(acc.lookup x=some c/\(cellsFrom n ns []).lookup x=none):=by
 rw [zb7,List.lookup_append]at h;cases e:(cellsFrom n ns []).lookup x with
 | none=>rw [e]at h; exact .inr ⟨h,rfl⟩
 | some d=>rw [e]at h; exact .inl h
theorem zrz{ns:List (Str×NameKind)}{n:Nat}{acc:List (Str×Addr)}{x:Str}{c:Addr}(h:(cellsFrom n ns []).lookup x=some c):(cellsFrom n ns acc).lookup x=some c:=by
 rw [zb7,List.lookup_append,h];rfl
theorem zic{M:Model}{A:Around}{E:Value->Shared->Prop}{s:Shared}{scope:Scope}{globals:Addr}{cl:List (Str×Addr)}{qual:Str}{env:Env}{bs:Addr}{Q:Env->Shared->Prop}
  (hQ:∀ h1,h1.Ns s.heap.objs.size (fun _=>none)->(∀ b o,s.heap.get? b=some o->h1.get? b=some o)->CellsOk h1 (s.heap.objs.size+1) (cellsFrom (s.heap.objs.size+1) scope.names []) ->
   Q (newEnv scope s.heap.objs.size globals (cellsFrom (s.heap.objs.size+1) scope.names cl) qual none .none (some env) bs) { s with heap:=h1 }) :
  wpAny M A (newFunctionEnv scope globals cl [] qual none .none (some env) bs) Q E s:=by
 simp only [newFunctionEnv,Option.isSome_some,if_true];refine qa (wpAny_alloc ?_);refine qa (wpAny_layCells _ (fun name kind cells=>by cases hkc:kind==NameKind.cell<;>simp [hkc]) _ _ _ _ ?_);have ok:=cellsFrom_ok scope.names (s.heap.push { cls:=.type "dict",data:=.dict #[] }) (s.heap.objs.size+1) [] ⟨fun _ _ hm=>(nomatch hm),List.Pairwise.nil⟩ (by rw [Heap.size_push]; exact qe _);rw [Heap.size_push]at ok;rw [show({ s with heap:=s.heap.push { cls:=.type "dict",data:=.dict #[] } }:Shared).heap.objs.size=s.heap.objs.size+1 from Heap.size_push ..];rw [List.forIn_nil];exact qa (qb (qb (hQ _ ((Heap.Ns.new s.heap (.type "dict")).keeps (pushCells_keeps _ _)) (fun b o e=>pushCells_keeps _ _ b o (qd _ e)) ok)))
section
variable {X:Cx} {pins:List (Addr×Obj)} {σ:St} {H:Hp} {s:Shared} {scope:Scope} {cl:List (Str×Addr)} {xs:List Str} {js:List Nat} {nt:Nat} {ts:List Str} {fp:List Addr} {C:Addr}
theorem zhc{hx:Heap}(I:Inv X pins σ H s)(S:ScC scope xs)(f:Frees X cl xs js)(ck:CellsOk hx (C+1) (cellsFrom (C+1) scope.names []))(hC:s.heap.objs.size<=C)(hf:∀ b∈fp,zaq X pins H b)(hl:∀ b∈fp,b < s.heap.objs.size) :
  (zD X scope cl (ts++xs) C s H fp).Ok where
 mod:=I.ok.mod
 kind:=S.kind
 glob:=I.ok.glob
 blt:=I.ok.blt
 above:=hC
 inj:=fun x y c e1 e2=>by
  have no:∀ {x y:Str},(cellsFrom (C+1) scope.names []).lookup x=some c->cl.lookup y=some c->False:=fun z1 z2=>by
   obtain⟨v,o,q,_⟩:=I.cell _ c (zbh f _ c z2);have q1:=qh q;have q2:=(ck.empty _ _ (mem_of_lookup z1)).2;exact Nat.lt_irrefl _ (qi q1 (qy hC (qy (Nat.le_succ C) q2)))
  rcases zde e1 with z1 | ⟨z1,_⟩<;>rcases zde e2 with z2 | ⟨z2,_⟩
  ·exact name_of_addr ck.apart (mem_of_lookup z1) (mem_of_lookup z2)
  ·exact(no z1 z2).elim
  ·exact(no z2 z1).elim
  ·exact I.ok.inj x y c (zbh f x c z1) (zbh f y c z2)
 has:=fun x h=>by
  have z:∃ k0,scope.names.lookup x=some k0/\(x,k0)∈scope.names/\(k0=NameKind.free\/k0=NameKind.cell):=by
   rcases h with h | h
   ·obtain⟨k0,h1,h2,h3⟩:=zck (env:=X.env) (names:=scope.names) h
    rcases h3 with h3 | h3
    ·exact⟨k0,h1,h2,.inr h3.symm⟩
    ·exact⟨k0,h1,h2,.inl h3.1⟩
   ·obtain⟨k0,h1,h2,h3⟩:=zck (env:=X.env) (names:=scope.names) h
    rcases h3 with h3 | h3
    ·exact⟨k0,h1,h2,.inl h3.symm⟩
    ·cases h3.2
  obtain⟨k0,_,h2,h3⟩:=z;show ∃ c,(cellsFrom (C+1) scope.names cl).lookup x=some c;rcases h3 with h3 | h3
  ·obtain⟨c,e⟩:=zgB f x (S.free _ h2 h3)
   rw [zb7,List.lookup_append,e];cases(cellsFrom (C+1) scope.names []).lookup x with
   | none=>exact⟨c,rfl⟩
   | some d=>exact⟨d,rfl⟩
  ·subst h3
   obtain⟨c,e⟩:=zhb scope.names (C+1) h2;exact⟨c,zrz e⟩
 cab:=fun x c h e=>by
  obtain⟨d,q⟩:=zhb scope.names (C+1) (mem_of_lookup (eq_of_beq h));have e':(cellsFrom (C+1) scope.names cl).lookup x=some c:=e;rw [zrz q]at e';cases e';have:=(ck.empty _ _ (mem_of_lookup q)).2;show s.heap.objs.size<=c;omega
 hd:=I.ok.hd
 frames:=I.ok.frames
 stk:=.inl rfl
 exf:=fun b hb=>⟨qj (qi (hl b hb) hC),fun x c e=>by
  rcases zde e with z | ⟨z,_⟩
  ·have q1:=(ck.empty _ _ (mem_of_lookup z)).2
   exact Nat.ne_of_gt (qi (hl b hb) (qy hC (qy (Nat.le_succ C) q1)))
  ·exact(hf b hb).2.2.2.2.1 x c (zbh f x c z)⟩
 bs:=I.bs
 bsz:=qy I.ok.bsz I.sz
 noex:=fun b o e hb=>by
  rcases(hf b hb).2.2.2.1 with z | z
  ·exact I.ok.noex b o e z
  ·exact absurd (qi (qh (I.ok.bs b o e).1) z) (Nat.lt_irrefl _)
 exfs:=fun b hb z=>by
  rcases qv.mp (I.stkSub b z)with q | q
  ·exact(hf b hb).2.1 q
  ·exact(hf b hb).2.2.1 q
 funs:=I.stack
 frf:=I.stkFree
theorem zid{m:Str->Option Value}{h1:Heap}{tk:Nat}(I:Inv X pins σ H s)(S:ScC scope xs)(f:Frees X cl xs js)(hts:ts.length=nt)(hC:s.heap.objs.size<=C)(hf:∀ b∈fp,zaq X pins H b)(hl:∀ b∈fp,b < s.heap.objs.size)
  (hk:∀ b o,s.heap.get? b=some o->h1.get? b=some o) (hn:h1.Ns C m) (ck:CellsOk h1 (C+1) (cellsFrom (C+1) scope.names [])):Inv (zD X scope cl (ts++xs) C s H fp) [] (c0 nt js σ) H { s with heap:=h1,toks:=tk } where
 ok:=zhc I S f ck hC hf hl
 os:=rfl
 bare:=I.bare
 base:=Un.kept hk
 loc:=by
  refine⟨m,hn,fun i x v e1 e2 e3=>?_⟩;have hi:nt<=i:=by
   rcases Nat.lt_or_ge i nt with z | z
   ·rw [ze8 z]at e2; cases e2
   ·exact z
  have e1':xs[i - nt]?=some x:=by
   have z:(ts++xs)[i]?=some x:=e1;rw [List.getElem?_append_right (by omega),hts]at z;exact z
  have e2':(js.map fun j=>σ.getD j none)[i - nt]?=some (some v):=by
   unfold c0 at e2;rw [List.getElem?_append_right (by simpa using hi),List.length_replicate]at e2;exact e2
  obtain⟨j,hN,hσ,hkk,c,hc⟩:=znc f (i - nt) x σ v e1' e2';obtain⟨m0,_,hl0⟩:=I.loc;obtain⟨u,r,lk⟩:=hl0 j x v hN hσ (.inr hkk);refine⟨u,r,.inr ⟨?_,?_⟩⟩
  ·rcases e3 with z | z | z
   ·have hx:x∈xs:=List.mem_of_getElem? e1'
    obtain⟨k0,h1,h2,h3⟩:=zck (env:=X.env) (names:=scope.names) z;have q:=S.fk x hx;rw [h1]at q;cases q;rcases h3 with h3 | h3
    ·cases h3
    ·cases h3.2
   ·exact .inl z
   ·exact .inr z
  ·obtain⟨c',hc'⟩:=zgB f x (List.mem_of_getElem? e1')
   have no:(cellsFrom (C+1) scope.names []).lookup x=none:=by
    cases e:(cellsFrom (C+1) scope.names []).lookup x with
    | none=>rfl
    | some d =>
     have z:=S.cell _ (zjj _ _ (mem_of_lookup e)) rfl;rw [S.fk x (List.mem_of_getElem? e1')]at z;cases z
   refine⟨c',?_,?_⟩
   ·show(cellsFrom (C+1) scope.names cl).lookup x=some c'
    rw [zb7,List.lookup_append,no,hc'];rfl
   have q:=zbh f x c' hc';rcases lk with ⟨l1,_⟩ | ⟨_,c'',l2,l3⟩
   ·exfalso
    have l1':X.env.scope.names.lookup x=some .local:=l1;rcases hkk with z | z<;>rw [z]at l1'<;>cases l1'
   ·rw [q]at l2
    cases l2;exact l3.keeps hk
 cell:=fun x c e=>by
  rcases zde e with z | ⟨z,_⟩
  ·exact⟨_,(ck.empty _ _ (mem_of_lookup z)).1⟩
  ·obtain⟨v,z⟩:=I.cell x c (zbh f x c z)
   exact⟨v,z.keeps hk⟩
 free:=I.hok.fresh hC
 freeC:=fun x c e=>by
  rcases zde e with z | ⟨z,_⟩
  ·exact I.hok.fresh (by have:=(ck.empty _ _ (mem_of_lookup z)).2; omega)
  ·exact I.freeC x c (zbh f x c z)
 pin:=fun p hp=>by cases hp
 hok:=I.hok.kept hk
 len:=by
  show(c0 nt js σ).length=(ts++xs).length;unfold c0;rw [qt,qt,List.length_replicate,List.length_map,hts];rw [zl2 f]
theorem zgC{P:Program}{w:World}{K:qc}{H:Hp}{h:Heap}{a:Addr}{o:HO}(x:HOk P w K H h)(hn:H a=none)(new:zP P w K (upd H a o) h a o):HOk P w K (upd H a o) h:=fun b u e=>by
 by_cases hb:b=a
 ·subst hb; rw [zr]at e; cases e; exact new
 ·rw [zq hb]at e
  exact(x b u e).stay (fun _ _ _ q=>q) (fun c q=>(zq (zab q hn)).trans q) fun c ys q=>(zq (zab q hn)).trans q
theorem zie{fs ex:List Addr}{H H1:Hp}{h h1:Heap}{a:Addr}{o:HO}(u:Un fs ex H H1 h h1)(hn:H1 a=none)(ha:h.objs.size<=a):Un fs ex H (upd H1 a o) h h1 where
 keep:=u.keep
 slot:=u.slot
 free:=fun b ob q n hx=>(zq (qj (qi (qh q) ha))).trans (u.free b ob q n hx)
 there:=u.there
 tups:=fun b ys q=>(zq (zab (u.tups b ys q) hn)).trans (u.tups b ys q)
 frzs:=fun b ob ys q=>(zq (zab (u.frzs b ob ys q) hn)).trans (u.frzs b ob ys q)
 tbls:=fun b ps q=>by
  obtain⟨more,e⟩:=u.tbls b ps q;exact⟨more,(zq (zab e hn)).trans e⟩
def zif(X:Cx)(ifs:List Expr)(t:TT):Prop :=
 ∀ (pins:List (Addr×Obj)) (s:Shared) (σ:St) (H:Hp) (Q:Bool->Hp->Prop),Inv X pins σ H s->t σ H Q ->
  wpAny (model X.prog X.w) X.A (forIn ifs true fun c r=>if r=true then do let ok <-isTrue c X.env (eval c X.env); pure (ForInStep.yield ok)else pure (ForInStep.yield r)) (TP X pins σ Q) X.xe s
def ztF:TT:=fun _ H Q=>Q true H
theorem znd{X:Cx}:zif X [] ztF:=fun _ _ _ H _ I h=>wpAny_tests_nil ⟨H,I,h⟩
theorem zne{X:Cx}{c:Expr}{t:TT}(h:PT X c t):zif X [c] t:=fun pins s σ H Q I q=>wpAny_tests_one (h pins s σ H Q I q)
theorem zl3{α:Type}{t:Sem α}{Q Q':α->Shared->Prop}{M:Model}{A:Around}{E:Value->Shared->Prop}{s:Shared}(h:wpAny M A t Q (fun _ _=>False) s)(hQ:∀ a s,Q a s->Q' a s):wpAny M A t Q' E s:=wpAny_mono h hQ fun _ _ x=>x.elim
theorem zjk{prog:Program}{w:World}{A:Around}{R:Result->Shared->Prop}{s:Shared}{elt target iter:Expr}{ifs:List Expr}{scope:Scope}{pos:Pos}{it acc:Value}{env:Env}(I:Nat->Shared->Prop)
  (turn:∀ n s,I n s->∀ E,wpAny (model prog w) A (pyNext it) (fun r s1=>match r with
   | none=>R (.ok .next) s1
   | some v=>wpAny (model prog w) A (letOwnedTupleGo target it v) (fun _ s2=>wpAny (model prog w) A (assign target env v) (fun _ s3 =>
     wpAny (model prog w) A (forIn ifs true fun c r=>if r=true then do let ok <-isTrue c env (eval c env); pure (ForInStep.yield ok)else pure (ForInStep.yield r)) (fun ok s4 =>
      (ok=true->wpAny (model prog w) A (eval elt env) (fun x s5=>wpAny (model prog w) A (call (.builtin "list.append") [acc,x]) (fun _ s6=>∃ m,m < n/\I m s6) E s5) E s4) /\
      (ok=false->∃ m,m < n/\I m s4)) E s3) E s2) E s1) E s)
  (n:Nat) (h:I n s):codeAny (model prog w) A (.compLoop (.ListComp elt [⟨target,iter,ifs,0⟩] scope pos) 0 it acc env) R s:=by
 refine codeAny_loop rfl I (fun n s hI=>?_) n h;show wpAny _ A ((compTurn _ 0 it acc env).onRaise (fun x=>do noteFrame x env; theTreesLotGoes x)) _ _ s;refine wpAny_noted ?_;rw [compTurn_list];refine qa (wpAny_standAt (qa (wpAny_mono (turn n s hI _) (fun r s1 h1=>?_) fun _ _ z=>z)));cases r with
 | none=>exact qb h1
 | some v =>
  refine qa (wpAny_mono h1 (fun _ s2 h2=>?_) fun _ _ z=>z);refine qa (wpAny_mono h2 (fun _ s3 h3=>?_) fun _ _ z=>z);refine qa (wpAny_mono h3 (fun ok s4 h4=>?_) fun _ _ z=>z);cases ok with
  | false=>exact qb ⟨rfl,h4.2 rfl⟩
  | true =>
   refine qa (qa (wpAny_mono (h4.1 rfl) (fun x s5 h5=>?_) fun _ _ z=>z));exact qa (wpAny_mono h5 (fun _ s6 h6=>qb (qb ⟨rfl,h6⟩)) fun _ _ z=>z)
def zvv(J:It)(σc:St)(g:TG)(tt:TT)(te:TE)(Z:List V->Hp->Prop)(H1:Hp):Prop :=
 ∃ W:Nat->Nat->List V->Hp->Prop,(∃ m,W 0 m [] H1)/\∀ i m ys H,W i m ys H ->
  (J.stop i H/\Z ys H)\/(J.go i H/\ys.length < sizeLine/\∃ N:List V->Hp->Prop,(∀ ys' H',N ys' H'->∃ m',m' < m/\W (i+1) m' ys' H') /\
   ∀ x H',J.yld i H x H'->g x σc H' fun σ2 H2=>tt σ2 H2 fun b H3=>if b=true then te σ2 H3 fun y H4=>N (ys++[y]) H4 else N ys H3)
def GW(σc:St)(g:TG):Prop:=∀ x H (Q:St->Hp->Prop),g x σc H Q->g x σc H fun σ2 H2=>Wk σc σ2/\Q σ2 H2
theorem zfx{elt iter tg:Expr}{ifs:List Expr}{pos:Pos}{J:It}{it:Addr}{tn:Nat->Heap->Prop}{g:TG}{tt:TT}{te:TE}{Z:List V->Hp->Prop}{RR:Value->Addr->Result->Shared->Prop}{E:Value->Shared->Prop}
  (hc:X.calm=true) (I:Inv X pins σ H s) (S:ScC scope xs) (f:Frees X cl xs js) (hts:ts.length=nt) (T:Turn X.prog X.w X.K tg J fp it tn) (st:tn 0 s.heap) (hf:∀ b∈fp,zaq X pins H b)
  (hg:∀ C s H ex,PG (zD X scope cl (ts++xs) C s H ex) tg g) (ht:∀ C s H ex,zif (zD X scope cl (ts++xs) C s H ex) ifs tt) (he:∀ C s H ex,PE (zD X scope cl (ts++xs) C s H ex) elt te)
  (gw:GW (c0 nt js σ) g) (h:zvv J (c0 nt js σ) g tt te Z H)
  (hRR:∀ (D C:Addr) (m:Str->Option Value) (s':Shared) (ys:List V) (H':Hp),Z ys H'->H' D=none->Inv X pins σ (upd H' D (.lst ys)) s'->s'.heap.Ns C m->upd H' D (.lst ys) C=none->C≠X.env.locals ->
   (∀ x c,X.env.cells.lookup x=some c->c≠C)->X.s₀.heap.objs.size<=C->(∀ p∈X.pn++pins,p.1≠C)->RR (.ref D) C (.ok .next) s') :
  wpAny (model X.prog X.w) X.A (newList []) (fun acc s3=>wpAny (model X.prog X.w) X.A (newFunctionEnv scope X.env.globals cl [] X.env.qual none .none (some X.env)) (fun cenv s4 =>
   codeAny (model X.prog X.w) X.A (.compStart (.ListComp elt [⟨tg,iter,ifs,0⟩] scope pos) 0 (.ref it) acc { cenv with scope:=relabel scope X.env }) (RR acc cenv.locals) s4) E s3) E s:=by
 refine qA (zic fun h1 hn1 hsb1 ck=>?_);dsimp only at hn1 hsb1 ck ⊢;generalize hH2:s.heap.push { cls:=.type "list",dict:=none,data:=.seq ([]:List Value).toArray }=G at hn1 hsb1 ck ⊢;have hCs:G.objs.size=s.heap.objs.size+1:=by rw [<-hH2,Heap.size_push]
 have hC:s.heap.objs.size<=G.objs.size:=by rw [hCs]; exact Nat.le_succ _
 have hDC:s.heap.objs.size≠G.objs.size:=by rw [hCs]; exact qj (Nat.lt_succ_self _)
 have hl:∀ b∈fp,b < s.heap.objs.size:=fun b hb=>by
  obtain⟨o,e,_⟩:=T.obj _ _ st b hb;exact qh e
 have old:∀ b o,s.heap.get? b=some o->h1.get? b=some o:=fun b o e =>
  hsb1 b o (hH2▸qd _ e)
 have hD1:h1.get? s.heap.objs.size=some { cls:=.type "list",data:=.seq ([]:List Value).toArray }:=hsb1 _ _ (hH2▸qg _ rfl);have J0:Inv (zD X scope cl (ts++xs) G.objs.size s H fp) [] (c0 nt js σ) H { s with heap:=h1 }:=zid (tk:=s.toks) I S f hts hC hf hl old hn1 ck;obtain⟨W,⟨m0,w0⟩,turn⟩:=h;have st1:tn 0 h1:=T.keep _ _ _ st fun b hb o e=>old b o e;have hDn:H s.heap.objs.size=none:=I.hok.fresh (qe _);have Dnot:∀ b∈fp,s.heap.objs.size≠b:=fun b hb z=>absurd (hl b hb) (by rw [<-z]; exact Nat.lt_irrefl _);have fpk:∀ {H':Hp} {pl:List (Addr×Obj)},(∀ b∈fp,H' b=none)->(∀ p∈pl,p.1=s.heap.objs.size)->∀ b∈fp,zaq (zD X scope cl (ts++xs) G.objs.size s H fp) pl H' b:=fun{H' pl} hn hp b hb=>by
  refine⟨hn b hb,qj (qi (hl b hb) hC),fun z=>?_,.inl hb,fun x c e=>((zhc I S f ck hC hf hl (ts:=ts)).exf b hb).2 x c e,fun p hpp z=>?_⟩
  ·rcases qv.mp (I.stkSub b z)with q | q
   ·exact(hf b hb).2.1 q
   ·exact(hf b hb).2.2.1 q
  ·rcases List.mem_append.mp hpp with q | q
   ·cases q
   ·exact Dnot b hb ((hp p q).symm.trans z)
 have loop:codeAny (model X.prog X.w) X.A (.compLoop (.ListComp elt [⟨tg,iter,ifs,0⟩] scope pos) 0 (.ref it) (.ref s.heap.objs.size) (compEnvC scope (cellsFrom (G.objs.size+1) scope.names cl) G.objs.size X.env)) (RR (.ref s.heap.objs.size) G.objs.size)
   { s with heap:=h1 }:=by
  refine zjk (fun n s'=>∃ i ys its nn H',Inv (zD X scope cl (ts++xs) G.objs.size s H fp) [] (c0 nt js σ) H' s'/\tn i s'.heap/\(∀ b∈fp,H' b=none)/\H' s.heap.objs.size=none /\
   s'.heap.get? s.heap.objs.size=some { cls:=.type "list",data:=.seq (List.toArray its) nn }/\zE ys its/\ys.length<=sizeLine/\W i n ys H') ?_ m0
   ⟨0,[],[],0,H,J0,st1,fun b hb=>(hf b hb).1,hDn,hD1,.nil,Nat.zero_le _,w0⟩
  rintro n s3 ⟨i,ys,its,nn,H3,I3,st3,fr3,d3,o3,r3,z3,w3⟩ E';have cne:s.heap.objs.size≠(zD X scope cl (ts++xs) G.objs.size s H fp).env.locals:=hDC;have I3p:Inv (zD X scope cl (ts++xs) G.objs.size s H fp) [(s.heap.objs.size,{ cls:=.type "list",data:=.seq its.toArray nn })] (c0 nt js σ) H3 s3:=I3.pins_of fun p hp=>by
   have e:p=(s.heap.objs.size,{ cls:=.type "list",data:=.seq its.toArray nn }):=by simpa using hp
   subst e;refine⟨o3,d3,cne,fun z=>?_,fun v z=>by cases z⟩;obtain⟨_,ob,e,_⟩:=I.stack.mem z;exact absurd (qh e) (Nat.lt_irrefl _)
  have pl1:∀ p∈[(s.heap.objs.size,({ cls:=.type "list",data:=.seq its.toArray nn }:Obj))],p.1=s.heap.objs.size:=fun p hp=>by
   have e:p=(s.heap.objs.size,{ cls:=.type "list",data:=.seq its.toArray nn }):=by simpa using hp
   rw [e]
  rcases turn i n ys H3 w3 with ⟨stop,qz⟩ | ⟨go,hsz,N,hN,step⟩
  ·refine thn (T.done (zD X scope cl (ts++xs) G.objs.size s H fp) rfl rfl rfl hc i _ s3 _ H3 E' I3p (fpk fr3 pl1) st3 stop) fun r s4 hZ=>?_
   obtain⟨hr,I4⟩:=hZ;subst hr;have o4:s4.heap.get? s.heap.objs.size=some { cls:=.type "list",data:=.seq its.toArray nn }:=(I4.pin _ (qw _ qp)).1;obtain⟨m4,n4,_⟩:=I4.loc;have hk4:HOk X.prog X.w X.K (upd H3 s.heap.objs.size (.lst ys)) s4.heap:=zgC I4.hok d3 ⟨z3,its,nn,r3,o4⟩;have un4:Un (frs X.stack) fp H (upd H3 s.heap.objs.size (.lst ys)) s.heap s4.heap:=zie I4.base d3 (qe _);refine hRR _ _ m4 s4 ys H3 qz d3 (I.call' I4.os un4 hk4 I4.bare fun b hb=>⟨(hf b hb).2.2.2.1,(hf b hb).2.1,(hf b hb).2.2.2.2.1,fun p hp=>(hf b hb).2.2.2.2.2 p hp⟩) n4 ?_ ?_ ?_ ?_ ?_
   ·rw [zq (Ne.symm hDC)]
    exact I4.free
   ·exact fun z=>absurd I.lt (by rw [<-z]; exact Nat.not_lt.mpr hC)
   ·intro x c e z
    obtain⟨v,ob,q,_⟩:=I.cell x c e;exact absurd (qh q) (by rw [z]; exact Nat.not_lt.mpr hC)
   ·exact qy I.sz hC
   ·intro p hp z
    have q:=(I.pin p hp).1;exact absurd (qh q) (by rw [z]; exact Nat.not_lt.mpr hC)
  ·refine thn (T.item (zD X scope cl (ts++xs) G.objs.size s H fp) rfl rfl rfl hc i _ s3 _ H3 E' I3p (fpk fr3 pl1) st3 go) fun r s4 hZ=>?_
   obtain⟨u,hr,h4⟩:=hZ;subst hr;refine thn h4 fun _ s5 hZ=>?_;obtain⟨x,H5,I5,r5,y5,st5,fr5⟩:=hZ;have I5':=I5.pinned (fpk fr5 pl1) (T.obj _ _ st5);refine zl3 (hg _ _ _ _ _ s5 _ H5 x u _ I5' r5 (gw _ _ _ (step x H5 y5))) fun _ s6 hZ=>?_;obtain⟨σ6,H6,I6,wk6,q6⟩:=hZ;refine zl3 (ht _ _ _ _ _ s6 σ6 H6 _ I6 q6) fun ok s7 hZ=>?_;obtain⟨H7,I7,q7⟩:=hZ;have after:∀ {H8:Hp} {s8:Shared},Inv (zD X scope cl (ts++xs) G.objs.size s H fp) ([(s.heap.objs.size,({ cls:=.type "list",data:=.seq its.toArray nn }:Obj))]++zfq fp s5.heap) σ6 H8 s8 ->
     tn (i+1) s8.heap/\(∀ b∈fp,H8 b=none)/\H8 s.heap.objs.size=none/\s8.heap.get? s.heap.objs.size=some { cls:=.type "list",data:=.seq its.toArray nn } /\
      Inv (zD X scope cl (ts++xs) G.objs.size s H fp) [] (c0 nt js σ) H8 s8:=fun{H8 s8} I8=>by
    have dd:=I8.pin (s.heap.objs.size,({ cls:=.type "list",data:=.seq its.toArray nn }:Obj)) (qw _ (List.mem_append_left _ qp));refine⟨T.keep _ _ _ st5 fun b hb o e=>(I8.pin (b,o) (qw _ (qw _ (zaH hb e)))).1,fun b hb=>?_,dd.2.1,dd.1,?_⟩
    ·obtain⟨o,e,d⟩:=T.obj _ _ st5 b hb
     exact(I8.pin (b,o) (qw _ (qw _ (zaH hb e)))).2.1
    ·exact(I8.weak wk6.1 wk6.2).pins_of fun p hp=>by cases hp
   refine⟨fun hok=>?_,fun hok=>?_⟩
   ·subst hok
    rw [if_pos rfl]at q7;refine zl3 (he _ _ _ _ _ s7 σ6 H7 _ I7 q7) fun v s8 hZ=>?_;obtain⟨y,H8,I8,ry,q8⟩:=hZ;obtain⟨st8,fr8,d8,o8,I8'⟩:=after I8;obtain⟨m',hm,w8⟩:=hN _ _ q8;refine call_meets F.slot_list_append ⟨_,o8,rfl⟩ F.entry_list_append (F.args_list_append_2 _ _) (PySem.list_append s.heap.objs.size its.toArray nn v (by rw [List.size_toArray,<-r3.length]; omega)) ⟨o8,?_⟩;obtain⟨_,f1,_,f3,f4,_⟩:=(⟨d8,cne,trivial,.inr (qe _),fun x c e=>by
     rcases zde e with z | ⟨z,_⟩
     ·exact Nat.ne_of_gt (qi (Nat.lt_of_le_of_lt hC (Nat.lt_succ_self _)) (ck.empty _ _ (mem_of_lookup z)).2)
     ·obtain⟨v0,ob,q,_⟩:=I.cell x c (zbh f x c z)
      exact Nat.ne_of_gt (qh q) |>.symm,trivial⟩:H8 s.heap.objs.size=none/\s.heap.objs.size≠(zD X scope cl (ts++xs) G.objs.size s H fp).env.locals/\True/\(s.heap.objs.size∈fp\/s.heap.objs.size<=s.heap.objs.size) /\
      (∀ x c,(cellsFrom (G.objs.size+1) scope.names cl).lookup x=some c->c≠s.heap.objs.size)/\True)
    have q:=PySem.IsL.update o8 (fun x=>x.push v);have hp:its.toArray.push v=(its++[v]).toArray:=by simp
    rw [hp]at q;refine⟨m',hm,i+1,ys++[y],its++[v],_,H8,I8'.turned (t':=s8.toks) (it:=s.heap.objs.size) (fun b o hb e=>(Heap.get?_update_other s8.heap _ (Ne.symm hb)).trans e) d8 f1 f3 f4 (fun p hp=>by cases hp),?_,fr8,d8,q,r3.append (.cons ry .nil),?_,w8⟩
    ·exact T.keep _ _ _ st8 fun b hb o e=>(Heap.get?_update_other s8.heap _ (Dnot b hb)).trans e
    ·rw [qt,List.length_singleton]
     omega
   ·subst hok
    rw [if_neg qf]at q7;obtain⟨st7,fr7,d7,o7,I7'⟩:=after I7;obtain⟨m',hm,w7⟩:=hN _ _ q7;exact⟨m',hm,i+1,ys,its,nn,H7,I7',st7,fr7,d7,o7,r3,z3,w7⟩
 exact codeAny_compStart_list loop (T.self _ _ _ _ _ st1 loop)
def tLC(wi:TI)(nt:Nat)(js:List Nat)(g:TG)(tt:TT)(te:TE):TE:=fun σ H Q=>wi σ H fun J H1 =>
 zvv J (c0 nt js σ) g tt te (fun ys H2=>∀ D,H2 D=none->Q (.ref D) (upd H2 D (.lst ys))) H1
theorem zvw{elt iter tg:Expr}{ifs:List Expr}{pos:Pos}{wi:TI}{g:TG}{tt:TT}{te:TE}(nt:Nat)(ts:List Str)(hts:ts.length=nt)(hc:X.calm=true)(S:ScC scope xs)(f:Frees X cl xs js)(hclos:closureFor scope X.env=pure cl)
  (hi:PI X tg iter wi) (hg:∀ C s H ex,PG (zD X scope cl (ts++xs) C s H ex) tg g) (gw:∀ σ:St,GW (c0 nt js σ) g) (ht:∀ C s H ex,zif (zD X scope cl (ts++xs) C s H ex) ifs tt)
  (he:∀ C s H ex,PE (zD X scope cl (ts++xs) C s H ex) elt te) (hs:∀ x,foldedSetIterable iter X.env x=pure x:=by intro _; rfl) :
  PE X (.ListComp elt [⟨tg,iter,ifs,0⟩] scope pos) (tLC wi nt js g tt te):=by
 intro pins s σ H Q I h;rw [eval_ListComp];refine wpAny_comprehension_free (use:=none) rfl hs hclos S.kind S.names (thn (hi pins s σ H _ I h) fun v s1 h1=>thn h1 fun itv s2 h2=>?_);obtain⟨it,fp,tn,J,H2,e,I2,T,st2,f2,q⟩:=h2;subst e;refine zfx (RR:=fun acc C=>compPost (model X.prog X.w) X.A X.xe none (EP X pins σ Q) acc C) hc I2 S f hts T st2 f2 hg ht he (gw σ) q ?_;intro D C m s' ys H' z hD I' hn hCn hCL hCc hCs hCp;refine⟨m,hn,fun h' hs'=>⟨.ref D,_,I'.turned (it:=C) (fun b o hb e=>hs'.extBut b o hb e) hCn hCL (.inr hCs) hCc hCp,rfl,z D hD⟩⟩
end
section
variable {X:Cx}
def zig(_ j:Int):Prop:=0 < j/\j.natAbs.log2 < 9000
theorem zih:OpR X (binaryOp .FloorDiv) (rI zig fun i j=>.int (i / j)):=opI fun i j _ _ _ _ _ hc q=>by
 have h1:(0:Int) < j:=hc.1;exact floordiv_int (by omega) (by rw [Int.fdiv_eq_ediv_of_nonneg i (by omega)]; exact q) (.inl (PyProof.noPylong_of_log2 hc.2))
theorem zjl{n:Nat}{k:Nat}(hk:0 < k)(h:n < 2^k):n.log2 < k:=by
 by_cases hn:n=0
 ·subst hn; exact hk
 ·exact(Nat.log2_lt hn).mpr h
theorem zqn{i j:Int}(h:0 < j)(h2:j<=2^128):zig i j:=⟨h,Nat.lt_trans (zjl (k:=129) (by decide) (by omega)) (by decide)⟩
end
theorem zhd{nt:Nat}{js:List Nat}{i:Nat}(h:i < nt):∀ σ:St,GW (c0 nt js σ) (zbr i):=fun σ x H Q q=>⟨znb (ze8 h),q⟩
def SameBut(p:Addr)(H H':Hp):Prop:=∀ b o,b≠p->H b=some o->H' b=some o
theorem zC{H:Hp}{p:Addr}(h:H p=none)(o:HO):zba H (upd H p o):=fun b u q=>by rw [zq (zab q h)]; exact q
def Bl(mg:Str->Option Value)(xs:List Str):Prop:=∀ x,x∈xs->mg x=none
theorem Bl.nil{mg:Str->Option Value}:Bl mg []:=fun _ h=>by cases h
theorem Bl.cons{mg:Str->Option Value}{x:Str}{xs:List Str}(h:mg x=none)(t:Bl mg xs):Bl mg (x::xs):=fun y m=>by
 rcases qv.mp m with e | e
 ·rw [e]; exact h
 ·exact t y e
def zK:Expr->Bool
 | .Starred _ _=>false
 | _=>true
theorem zbj{e:Expr}{es:List Expr}{env:Env}(h:zK e=true):starEach (e::es) env=(false,eval e env)::starEach es env:=by
 cases e<;>first | rfl | cases h
theorem zaZ{pos:Pos}{env:Env}:∀ {es:List Expr},es.all zK=true->(backTo pos (starEach es env)).any (·.1)=false
 | [],_=>rfl
 | e::es,h=>by
  rw [List.all_cons,Bool.and_eq_true]at h;rw [zbj h.1];show(false || (backTo pos (starEach es env)).any (·.1))=false;rw [Bool.false_or];exact zaZ h.2
section
variable {X:Cx} {e:Expr} {es:List Expr} {te:TE} {t:TA} {r:List V->Hp->VK->Prop} {x:Str} {id T:String} {p pos:Pos}
theorem zw4(ha:PE X e te)(hr:PA X es t)(hs:zK e=true:=by rfl):PA X (e::es) (zcs te t):=zqc ha hr (zbj hs)
theorem zvx(hc:zbK X (.builtin id) r)(hg:Gl X x)(hm:X.mg x=none)(hv:bootBuiltins x=some (.builtin id))(ha:PA X (e::es) t)(hn:x ≠ "__name__":=by decide)(hdb:(x==("__debug__":Str))=false:=by decide)
  (he:zK e=true:=by rfl) (hpl:es.all zK=true:=by rfl):PE X (.Call (.Name x p) (e::es) [] pos) (tCB r t):=zmZ hc hg hm hv ha hn hdb (zbj he) (zaZ hpl)
theorem zvy(hc:zbK X (.type T) r)(hg:Gl X x)(hm:X.mg x=none)(hv:bootBuiltins x=some (.type T))(ha:PA X (e::es) t)(hn:x ≠ "__name__":=by decide)(hdb:(x==("__debug__":Str))=false:=by decide)
  (he:zK e=true:=by rfl) (hpl:es.all zK=true:=by rfl):PE X (.Call (.Name x p) (e::es) [] pos) (tCB r t):=zlW hc hg hm hv ha hn hdb (zbj he) (zaZ hpl)
end
structure Cal (P:Program) (w:World) (K:qc) (mg:Str->Option Value) (base:Heap) (x:Str) (k:Nat) (ps:List Str) (sp:Sp):Prop where
 ex:∃ (f:Addr) (fd:FuncData),FnOk P w K mg base CX0 k f fd ps sp/\zcN K fd ps []/\PySem.W.keepIn K (.ref f)=true/\mg x=some (.ref f)
def ztG(sp:Sp)(t:TA):TE:=fun σ H Q=>t σ H fun vs H1=>sp vs H1 Q E0
section
variable {X:Cx} {k:Nat} {ps:List Str} {sp:Sp} {x:Str} {p pos:Pos} {e:Expr} {es:List Expr} {t:TA}
theorem ztH(C:Cal X.prog X.w X.K X.mg X.base x k ps sp)(hr:Room k X.A)(hg:Gl X x)(ha:PA X (e::es) t)(hdb:(x==("__debug__":Str))=false:=by decide)
  (he:zK e=true:=by rfl) (hpl:es.all zK=true:=by rfl):PE X (.Call (.Name x p) (e::es) [] pos) (ztG sp t):=by
 obtain⟨f,fd,F,hb,hk,hm⟩:=C.ex;intro pins s σ H Q I h;refine zqe (dvs:=[]) (E:=E0) F hr hg hm hk hb .nil zna ha hdb (zbj he) (zaZ hpl) pins s σ H Q I ?_;show t σ H fun vs H1=>sp (vs++[]) H1 Q E0;have z:(fun(vs:List V) (H1:Hp)=>sp (vs++[]) H1 Q E0)=fun vs H1=>sp vs H1 Q E0:=by
  funext vs H1
  rw [List.append_nil]
 rw [z];exact h
end
def znf(t:TS):TS:=fun D σ H=>∃ J:St->Hp->Prop,t { D with nx:=J } σ H/\∀ σ' H',J σ' H'->D.nx σ' H'
theorem zqo{X:Cx}{st:Stmt}{t:TS}(h:PS X st t):PS X st (znf t):=by
 intro pins s σ H D I ⟨J,q,z⟩;refine thn (h pins s σ H _ I q) fun f s' r=>?_;cases f with
 | next=>obtain⟨σ',H',I',j⟩:=r; exact⟨σ',H',I',z _ _ j⟩
 | brk=>exact r
 | cont=>exact r
 | ret u=>exact r
structure Wr (p:Prop):Prop where
 run:p
theorem zeE{mg:Str->Option Value}{xs:List Str}{x:Str}(h:Bl mg xs)(m:x∈xs):mg x=none:=h x m
theorem ze9{X:Cx}{scope:Scope}{cl:List (Str×Addr)}{C:Addr}{s:Shared}{H:Hp}{ex:List Addr}{N:List Str}(h:decide N.Nodup=true):(zD X scope cl N C s H ex).N.Nodup:=of_decide_eq_true h
def zcF(X:Cx)(js:List Nat):List Str:=js.map fun j=>X.N.getD j ""
def zcP(X:Cx)(js:List Nat):List (Str×Addr):=(zcF X js).map fun x=>(x,(X.env.cells.lookup x).getD 0)
def tgN:Expr->List Str
 | .Name x _=>[x]
 | .Tuple es _ _=>es.flatMap fun e=>match e with
  | .Name x _=>[x]
  | .Tuple fs _ _=>fs.filterMap fun e=>match e with
   | .Name x _=>some x
   | _=>none
  | _=>[]
 | _=>[]
def GWx(nt:Nat)(g:TG):Prop:=∀ (js:List Nat) (σ σ1:St),Wk (c0 nt js σ) σ1->∀ x H (Q:St->Hp->Prop),g x σ1 H Q->g x σ1 H fun σ2 H2=>Wk (c0 nt js σ) σ2/\Q σ2 H2
def zl4(nt:Nat)(g:TGs):Prop:=∀ (js:List Nat) (σ σ1:St),Wk (c0 nt js σ) σ1->∀ x H (Q:St->Hp->Prop),g x σ1 H Q->g x σ1 H fun σ2 H2=>Wk (c0 nt js σ) σ2/\Q σ2 H2
theorem zng{nt i:Nat}(h:i < nt):GWx nt (zbr i):=by
 intro js σ σ1 w x H Q q;refine⟨⟨by rw [List.length_set]; exact w.1,fun j v e=>?_⟩,q⟩;have ne:i≠j:=by
  rintro rfl;rw [ze8 h]at e;cases e
 rw [qC ne];exact w.2 j v e
theorem zfy{nt:Nat}:zl4 nt zp0:=fun js σ σ1 w x H Q q=>⟨q.1,w,q.2⟩
theorem zl5{nt:Nat}{g:TG}{gs:TGs}(h1:GWx nt g)(h2:zl4 nt gs)(mono:∀ v σ H (Q Q':St->Hp->Prop),(∀ σ' H',Q σ' H'->Q' σ' H')->g v σ H Q->g v σ H Q'):zl4 nt (zhX g gs):=by
 intro js σ σ1 w x H Q q;obtain⟨v,r,e,k⟩:=q;refine⟨v,r,e,mono _ _ _ _ _ (fun σ' H' hZ=>?_) (h1 js σ σ1 w v H _ k)⟩;obtain⟨w',q'⟩:=hZ;exact h2 js σ σ' w' r H' Q q'
theorem zhe{K:qc}{nt n:Nat}{gs:TGs}(h:zl4 nt gs):GWx nt (zp2 K n gs):=by
 intro js σ σ1 w x H Q q;obtain⟨a,xs,e,s,l,k⟩:=q;exact⟨a,xs,e,s,l,h js σ σ1 w xs H Q k⟩
theorem znh{nt:Nat}{js:List Nat}{g:TG}(h:GWx nt g):∀ σ:St,GW (c0 nt js σ) g:=fun σ x H Q q=>h js σ _ ⟨rfl,fun _ _ e=>e⟩ x H Q q
theorem zl6{i:Nat}:∀ v σ H (Q Q':St->Hp->Prop),(∀ σ' H',Q σ' H'->Q' σ' H')->zbr i v σ H Q->zbr i v σ H Q':=fun v σ H Q Q' h q=>h _ _ q
theorem zej{nt i:Nat}{gs:TGs}(h:i < nt)(h2:zl4 nt gs):zl4 nt (zhX (zbr i) gs):=zl5 (zng h) h2 zl6
section
variable {X:Cx} {pos p pos':Pos} {e a b c o:Expr} {es rest:List Expr} {te ta tb:TE} {t:TA} {r:List V->Hp->VK->Prop} {rd:R2} {x:Str} {id T:String} {i j:Nat} {tA tB':TT} {st:Stmt} {sts body:List Stmt} {ts us:TS} {g:TG} {gs:TGs} {wi:TI} {tg:Expr}
theorem w_v{i:Nat}(hN:X.N[i]?=some x:=by rfl)(hv:Vis X.env.scope x:=by first | exact Or.inl rfl | exact Or.inr (Or.inl rfl) | exact Or.inr (Or.inr rfl))(hd:(x==("__debug__":Str))=false:=by decide)
  (hcd:(x==("__classdict__":Str))=false:=by decide):Wr (PE X (.Name x pos) (zbF i)):=⟨pv i hN hv hd hcd⟩
theorem zo{n:Int}:Wr (PE X (.Constant (.int n) j pos) (tC (.int n))):=⟨zsW⟩
theorem zqp{n:Bool}:Wr (PE X (.Constant (.bool n) j pos) (tC (.bl n))):=⟨zvh⟩
theorem zdl:Wr (PE X (.Constant .none j pos) (tC .non)):=⟨zsX⟩
theorem zfz{n:Str}:Wr (PE X (.Constant (.str n) j pos) (tC (.str n))):=⟨zsY⟩
theorem zW{op:Operator}(ho:OpR X (binaryOp op) rd)(ha:Wr (PE X a ta))(hb:Wr (PE X b tb)):Wr (PE X (.BinOp a op b pos) (tOp rd ta tb)):=⟨zvl ho ha.run hb.run⟩
theorem zhf{op:UnaryOp}{r:V->Hp->VK->Prop}(ho:UnR X (unaryOp op) r)(ha:Wr (PE X a ta)):Wr (PE X (.UnaryOp op a pos) (tUn r ta)):=⟨zvm ho ha.run⟩
theorem w_not(ha:Wr (PE X a ta)):Wr (PE X (.UnaryOp .Not a pos) (zmE ta)):=⟨zs8 ha.run⟩
theorem zdL{op:CmpOp}(ho:OpR X (compareOp op) rd)(ha:Wr (PE X a ta))(hb:Wr (PE X b tb))(hm:behindInMarks op b=false:=by first | exact zmQ _ | rfl):Wr (PE X (.Compare a [op] [b] pos) (tOp rd ta tb)):=⟨zp7 ho ha.run hb.run hm⟩
theorem zaB{op:CmpOp}(ho:OpR X (compareOp op) rd)(ha:Wr (PE X a ta))(hb:Wr (PE X b tb))(hm:behindInMarks op b=false:=by first | exact zmQ _ | rfl):Wr (PT X (.Compare a [op] [b] pos) (zmR (tOp rd ta tb))):=⟨zp8 ho ha.run hb.run hm⟩
theorem zni{op}(h:Wr (PE X a te)):Wr (PE X (.BoolOp op [a] pos) te):=⟨zs6 h.run⟩
theorem zkd(ha:Wr (PE X a ta))(hb:Wr (PE X (.BoolOp .And (b::rest) pos) tb)):Wr (PE X (.BoolOp .And (a::b::rest) pos) (zmD ta tb)):=⟨zs7 ha.run hb.run⟩
theorem zqq(ha:Wr (PT X a tA)):Wr (PW X (.BoolOp .And [a] pos) tA):=⟨zpS ha.run⟩
theorem ztI(ha:Wr (PT X a tA)):Wr (PW X (.BoolOp .Or [a] pos) tA):=⟨zs2 ha.run⟩
theorem ztJ(ha:Wr (PT X a tA))(hb:Wr (PW X (.BoolOp .And (b::rest) pos) tB')):Wr (PW X (.BoolOp .And (a::b::rest) pos) (zs0 tA tB')):=⟨zs3 ha.run hb.run⟩
theorem zvz(ha:Wr (PT X a tA))(hb:Wr (PW X (.BoolOp .Or (b::rest) pos) tB')):Wr (PW X (.BoolOp .Or (a::b::rest) pos) (tOr tA tB')):=⟨zvi ha.run hb.run⟩
theorem zvA(h:Wr (PW X e tA)):Wr (PT X e tA):=⟨h.run.pt⟩
theorem ztK(ha:Wr (PT X a tA)):Wr (PT X (.UnaryOp .Not a pos) (zs1 tA)):=⟨zs4 ha.run⟩
theorem zhg(h:Wr (PE X e te))(he:∀ whole,isTrue e X.env whole=(do let v <-whole; standAt e.pos; holding [v] (truthy v)):=by intro _; rfl):Wr (PT X e (tB te)):=⟨zsZ h.run he⟩
def zvB(K:qc)(ta:TE):TT:=fun σ H Q=>ta σ H fun x H'=>∃ k,ztp K x H' k/\Q k H'
theorem zrA(hc:Wr (PT X c tA))(ha:Wr (PE X a ta))(hb:Wr (PE X b tb)):Wr (PE X (.IfExp c a b pos) (tIf tA ta tb)):=⟨zmF hc.run ha.run hb.run⟩
theorem zi:Wr (PA X [] zef):=⟨ztt⟩
theorem w_a(ha:Wr (PE X e te))(hr:Wr (PA X es t))(hs:zK e=true:=by rfl):Wr (PA X (e::es) (zcs te t)):=⟨zw4 ha.run hr.run hs⟩
theorem zS{x1}(h:Wr (PA X es t)):Wr (PE X (.Tuple es x1 pos) (ztu t)):=⟨ztv h.run⟩
theorem zaj(h:Wr (PA X es t)):Wr (PE X (.List es pos) (zqd t)):=⟨ztw h.run⟩
theorem zhh(hc:zbK X (.builtin id) r)(hv:bootBuiltins x=some (.builtin id))(ha:Wr (PA X (e::es) t))(hg:Gl X x:=by exact rfl)(hm:X.mg x=none:=by exact zeE ‹Bl _ _› (by decide))(hn:x ≠ "__name__":=by decide)(hdb:(x==("__debug__":Str))=false:=by decide)
  (he:zK e=true:=by rfl) (hpl:es.all zK=true:=by rfl):Wr (PE X (.Call (.Name x p) (e::es) [] pos) (tCB r t)):=⟨zvx hc hg hm hv ha.run hn hdb he hpl⟩
theorem zjm(hc:zbK X (.type T) r)(hv:bootBuiltins x=some (.type T))(ha:Wr (PA X (e::es) t))(hg:Gl X x:=by exact rfl)(hm:X.mg x=none:=by exact zeE ‹Bl _ _› (by decide))(hn:x ≠ "__name__":=by decide)(hdb:(x==("__debug__":Str))=false:=by decide)
  (he:zK e=true:=by rfl) (hpl:es.all zK=true:=by rfl):Wr (PE X (.Call (.Name x p) (e::es) [] pos) (tCB r t)):=⟨zvy hc hg hm hv ha.run hn hdb he hpl⟩
theorem zG{k:Nat}{ps:List Str}{sp:Sp}(ha:Wr (PA X (e::es) t))(C:Cal X.prog X.w X.K X.mg X.base x k ps sp:=by assumption)(hr:Room k X.A:=by exact Room.mono ‹Room _ _› (by decide))(hg:Gl X x:=by exact rfl)(hdb:(x==("__debug__":Str))=false:=by decide)
  (he:zK e=true:=by rfl) (hpl:es.all zK=true:=by rfl):Wr (PE X (.Call (.Name x p) (e::es) [] pos) (ztG sp t)):=⟨ztH C hr hg ha.run hdb he hpl⟩
theorem zbb(hr:IxR X rd)(ha:Wr (PE X a ta))(hb:Wr (PE X b tb))(hs:zj8 b:=by exact fun _ _=>rfl):Wr (PE X (.Subscript a b pos) (tOp rd ta tb)):=⟨zvs hr ha.run hb.run hs⟩
theorem zfa:Wr (PO X none zg2):=⟨zqf⟩
theorem zfb(h:Wr (PE X e te)):Wr (PO X (some e) (zm0 te)):=⟨zqg h.run⟩
theorem zfc{r:V->Option Int->Option Int->Hp->VK->Prop}{lo hi:Option Expr}{tl th:TO}{p2:Pos}(hr:SlR X r)(he:Wr (PE X e te))(hl:Wr (PO X lo tl))(hu:Wr (PO X hi th)):Wr (PE X (.Subscript e (.Slice lo hi none p2) pos) (tSl r te tl th)):=⟨zm1 hr he.run hl.run hu.run⟩
theorem zbx{ta:TA}(ha:Wr (PA X [a] ta))(hg:Gl X "range":=by exact rfl)(hm:X.mg "range"=none:=by exact zeE ‹Bl _ _› (by decide))(hs:zK a=true:=by rfl):Wr (PI X tg (.Call (.Name "range" p) [a] [] pos) (zmO ta)):=⟨zlP hg hm ha.run (zbj hs)⟩
theorem zu(hN:X.N.Nodup:=by first | assumption | exact ze9 rfl)(hi:X.N[i]?=some x:=by rfl)(hx:Loc X.env.scope x:=by first | exact Or.inl rfl | exact Or.inr rfl)(hf:X.fn x=true\/X.env.scope.names.lookup x=some .local:=by first | exact .inl rfl | exact .inr rfl | assumption):Wr (PG X (.Name x pos) (zbr i)):=⟨zpZ hN hi hx hf⟩
theorem zas:Wr (PGs X [] zp0):=⟨zp1⟩
theorem w_g(h1:Wr (PG X e g))(h2:Wr (PGs X es gs))(hs:(assignEach (e::es) X.env).map (·.2)=assign e X.env::(assignEach es X.env).map (·.2):=by rfl):Wr (PGs X (e::es) (zhX g gs)):=⟨zmJ h1.run h2.run hs⟩
theorem zfA{ti:TE}{tset:zlN}(ho:Wr (PE X o ta))(hi:Wr (PE X e ti))(hs:zpY X tset)
  (hh:∀ v,assign (.Subscript o e pos) X.env v=(do
   let ov <-holding [v] (eval o X.env)
   let iv <-holding [v,ov] (eval e X.env)
   standAt pos
   holding [v,ov,iv] (setItem ov iv v)
   release [v,ov,iv] []):=by intro _; rfl):Wr (PG X (.Subscript o e pos) (ztc ta ti tset)):=⟨ztd ho.run hi.run hs hh⟩
theorem zdt:Wr (zif X [] ztF):=⟨znd⟩
theorem zfB(h:Wr (PT X c tA)):Wr (zif X [c] tA):=⟨zne h.run⟩
theorem zii{elt iter:Expr}{ifs:List Expr}{scope:Scope}{js:List Nat}{tt:TT}{nt:Nat}(hi:Wr (PI X tg iter wi))(hg:∀ {C s H ex},Wr (PG (zD X scope (zcP X js) (tgN tg++zcF X js) C s H ex) tg g))(ht:∀ {C s H ex},Wr (zif (zD X scope (zcP X js) (tgN tg++zcF X js) C s H ex) ifs tt))
  (he:∀ {C s H ex},Wr (PE (zD X scope (zcP X js) (tgN tg++zcF X js) C s H ex) elt te))
  (f:Frees X (zcP X js) (zcF X js) js:=by repeat (first | exact Frees.nil | refine Frees.cons rfl (by first | exact Or.inl rfl | exact Or.inr rfl) rfl ?_)) (hclos:closureFor scope X.env=pure (zcP X js):=by rfl) (S:ScC scope (zcF X js):=by exact⟨rfl,of_decide_eq_true rfl,of_decide_eq_true rfl,of_decide_eq_true rfl,of_decide_eq_true rfl⟩) (hts:(tgN tg).length=nt:=by rfl) (hc:X.calm=true:=by rfl) (gw:∀ σ:St,GW (c0 nt js σ) g:=by first | exact zhd (by decide) | exact znh (zhe (by repeat (first | exact zfy | refine zej (by decide) ?_)))) (hs:∀ x,foldedSetIterable iter X.env x=pure x:=by intro _; rfl) :
  Wr (PE X (.ListComp elt [⟨tg,iter,ifs,0⟩] scope pos) (tLC wi nt js g tt te)):=⟨zvw nt (tgN tg) hts hc S f hclos hi.run (fun C s H ex=>hg.run) gw (fun C s H ex=>ht.run) (fun C s H ex=>he.run) hs⟩
def ztL(K:qc):List V->Hp->VK->Prop:=fun xs H Q=>∃ p ys,xs=[.ref p]/\(SqL K H p ys\/SqT K H p ys)/\Q (.int ys.length) H
def zfC(K:qc):List V->Hp->VK->Prop:=fun xs H Q=>∃ p ys,xs=[.ref p]/\((SqL K H p ys/\∀ l,H l=none->Q (.ref l) (upd H l (.tup ys)))\/(SqT K H p ys/\Q (.ref p) H))
theorem zeF{K:qc}(hK:X.K=K:=by rfl):zbK X (.builtin "len") (ztL K):=hK▸zg6
theorem zcc{K:qc}(hK:X.K=K:=by rfl):zbK X (.type "tuple") (zfC K):=hK▸zgp
theorem zap{K:qc}(hK:X.K=K:=by rfl):IxR X (ztx K):=hK▸zqi
theorem zij{K:qc}(hK:X.K=K:=by rfl):IxR X (zty K):=hK▸ztz
theorem zvC{K:qc}(hK:X.K=K:=by rfl):OpR X (compareOp .In) (rIn K false):=hK▸zlX
theorem zke{K:qc}(hK:X.K=K:=by rfl):SlR X (ztA K):=hK▸zqj
theorem za5{l:Expr}{tl:TE}{K:qc}(hl:Wr (PE X l tl))(hK:X.K=K:=by rfl):Wr (PI X tg l (zmM K tl)):=hK▸⟨zp4 hl.run⟩
theorem zek{l:Expr}{tl:TE}{K:qc}(hl:Wr (PE X l tl))(hK:X.K=K:=by rfl):Wr (PI X tg l (zth K tl)):=hK▸⟨zti hl.run⟩
theorem zat{k n:Nat}{K:qc}(h:Wr (PGs X es gs))(hK:X.K=K:=by rfl)(hc:X.calm=true:=by rfl)(hn:(assignEach es X.env).length=n:=by rfl)(hst:(assignEach es X.env).findIdx? (·.1)=none:=by rfl):Wr (PG X (.Tuple es k pos) (zp2 K n gs)):=hK▸⟨ztb hc h.run hn hst⟩
theorem zvD{K:qc}(ha:Wr (PE X a ta))(hK:X.K=K:=by rfl)(he:∀ whole,isTrue a X.env whole=(do let v <-whole; standAt a.pos; holding [v] (truthy v)):=by intro _; rfl):Wr (PT X a (zvB K ta)):=hK▸⟨zmS ha.run he⟩
theorem zaI:Wr (PSs X [] zmG):=⟨zpU⟩
theorem w_s(h1:Wr (PS X st ts))(h2:Wr (PSs X sts us)):Wr (PSs X (st::sts) (zpT ts us)):=⟨zmH h1.run h2.run⟩
theorem zQ(h1:Wr (PS X st ts)):Wr (PSs X [st] ts):=⟨zpV h1.run⟩
theorem zcQ(he:Wr (PE X e te))(hs:swapsWith e none pos.line X.env=pure false:=by rfl):Wr (PS X (.Expr e pos) (zmI te)):=⟨zpW he.run hs⟩
theorem z9(he:Wr (PE X e te)):Wr (PS X (.Return (some e) pos) (zpX te)):=⟨zs9 he.run⟩
theorem zcG{sa sb:List Stmt}(hc:Wr (PT X c tA))(ha:Wr (PSs X sa ts))(hb:Wr (PSs X sb us)):Wr (PS X (.If c sa sb pos) (zta tA ts us)):=⟨zvj hc.run ha.run hb.run⟩
theorem znj(h:Wr (PS X st ts)):Wr (PS X st (znf ts)):=⟨zqo h.run⟩
theorem zax{iter:Expr}(hi:Wr (PI X tg iter wi))(hg:Wr (PG X tg g))(hb:Wr (PSs X body ts))(hp:PassesOwn (model X.prog X.w) X.A X.env X.xe:=by first | exact PassesOwn.never | exact PassesOwn.leaving)(hc:X.calm=true:=by rfl)(hs:∀ x,foldedSetIterable iter X.env x=pure x:=by intro _; rfl) :
  Wr (PS X (.For tg iter body [] pos) (ztj wi g ts)):=⟨ztk hp hc hi.run hg.run hb.run hs⟩
theorem zY(he:Wr (PE X e te))(hN:X.N.Nodup:=by first | assumption | exact ze9 rfl)(hi:X.N[i]?=some x:=by rfl)(hx:Loc X.env.scope x:=by first | exact Or.inl rfl | exact Or.inr rfl)(hs:swapsWith e (some (.Name x pos')) pos.line X.env=pure false:=by rfl)(hf:X.fn x=true\/X.env.scope.names.lookup x=some .local:=by first | exact .inl rfl | exact .inr rfl | assumption) :
  Wr (PS X (.Assign [.Name x pos'] e pos) (zhY te (zbr i))):=⟨ztf hN hi hx he.run hs hf⟩
theorem zik(he:Wr (PE X e te))(hg:Wr (PG X tg g))(hs:swapsWithSole [tg] e pos.line X.env=pure false:=by rfl)(hw:swappedStores [tg] e X.env=pure none:=by rfl)(h1:(assignEach [tg] X.env).map (·.2)=[assign tg X.env]:=by rfl) :
  Wr (PS X (.Assign [tg] e pos) (zhY te g)):=⟨zte he.run hg.run hs hw h1⟩
end
theorem Fun.okW{P:Program}{w:World}{K:qc}{mg:Str->Option Value}{base:Heap}{x qual:Str}{st:Stmt}{f:Addr}{fd:FuncData}{N ps:List Str}{k:Nat}{sp:Sp}(F:Fun K x qual st f fd)(S:FnScope N ps (zJ st))(len:∀ vs H Q E,sp vs H Q E->vs.length=ps.length)
  (hbody:∀ (cdv:Value) (A:Around) (outer:List Env) (s:Shared) (H:Hp) (vs:List V) (Q:VK) (E:XK),Room k (A.deeper (envOfC qual (zJ st) s.heap.objs.size f cdv))->sp vs H Q E ->
   ∃ t,Wr (PSs (zgn CX0 P w K mg base N qual (zJ st) f cdv A outer s H E).nox (zar st) t)/\t { nx:=fun _ H'=>Q .non H',rt:=Q } (zbg N vs) H):FnOk P w K mg base CX0 (k+1) f fd ps sp :=
 F.ok S len fun cdv A outer s H vs Q E hr h=>let ⟨t,w,q⟩:=hbody cdv A outer s H vs Q E hr h; ⟨t,w.run,q⟩
mutual
inductive DV (K:qc) (H:Hp):V->PyData->Prop
 | non:DV K H .non .none
 | bl (b:Bool):DV K H (.bl b) (.bool b)
 | int (i:Int):DV K H (.int i) (.int i)
 | str (x:Str):DV K H (.str x) (.str x)
 | lst {a:Addr} {xs:List V} {ds:List PyData} (h:SqL K H a xs) (t:DVs K H xs ds):DV K H (.ref a) (.list ds)
 | tup {a:Addr} {xs:List V} {ds:List PyData} (h:SqT K H a xs) (t:DVs K H xs ds):DV K H (.ref a) (.tuple ds)
inductive DVs (K:qc) (H:Hp):List V->List PyData->Prop
 | nil:DVs K H [] []
 | cons {v:V} {d:PyData} {vs:List V} {ds:List PyData} (h:DV K H v d) (t:DVs K H vs ds):DVs K H (v::vs) (d::ds)
end
theorem zba.seqT{K:qc}{H H':Hp}{a:Addr}{xs:List V}(e:zba H H')(h:SqT K H a xs):SqT K H' a xs:=by
 rcases h with (h | ⟨o,h⟩) | h
 ·exact .inl (.inl (e _ _ h))
 ·exact .inl (.inr ⟨o,e _ _ h⟩)
 ·exact .inr h
mutual
theorem DV.same{K:qc}{H H':Hp}(e:zba H H'):∀ {v:V} {d:PyData},DV K H v d->DV K H' v d
 | _,_,.non=>.non
 | _,_,.bl b=>.bl b
 | _,_,.int i=>.int i
 | _,_,.str x=>.str x
 | _,_,.lst h t=>.lst (e.seq h) (DVs.same e t)
 | _,_,.tup h t=>.tup (e.seqT h) (DVs.same e t)
theorem DVs.same{K:qc}{H H':Hp}(e:zba H H'):∀ {v:List V} {d:List PyData},DVs K H v d->DVs K H' v d
 | _,_,.nil=>.nil
 | _,_,.cons h t=>.cons (DV.same e h) (DVs.same e t)
end
section
variable {X:Cx} {pins:List (Addr×Obj)} {σ:St} {H:Hp} {s:Shared}
mutual
theorem DV.reads(I:Inv X pins σ H s):∀ {v:V} {d:PyData} {u:Value},DV X.K H v d->zI v u->∃ as,Reads s.heap u d as
 | _,_,_,.non,r=>by cases r; exact⟨_,.none⟩
 | _,_,_,.bl b,r=>by cases r; exact⟨_,.bool b⟩
 | _,_,_,.int i,r=>by obtain⟨t,rfl⟩:=r; exact⟨_,.int i t⟩
 | _,_,_,.str x,r=>by obtain⟨t,rfl⟩:=r; exact⟨_,.str x t⟩
 | _,_,_,.lst h t,r=>by
  cases r;obtain⟨its,rv,⟨o,n,e1,e2,e3,e4⟩,hz⟩:=I.list h;obtain⟨as,q⟩:=DVs.reads I t rv;exact⟨_,.list e1 e2 e4 q⟩
 | _,_,_,.tup h t,r=>by
  cases r;obtain⟨its,rv,⟨o,e1,e2,n,e4⟩,hz⟩:=I.tuple h;obtain⟨as,q⟩:=DVs.reads I t rv;exact⟨_,.tuple e1 e2 e4 q⟩
theorem DVs.reads(I:Inv X pins σ H s):∀ {v:List V} {d:List PyData} {u:List Value},DVs X.K H v d->zE v u->∃ as,ReadsAll s.heap u d as
 | _,_,_,.nil,r=>by cases r; exact⟨_,.nil⟩
 | _,_,_,.cons h t,r=>by
  cases r with
  | cons r1 r2 =>
   obtain⟨a1,q1⟩:=DV.reads I h r1;obtain⟨a2,q2⟩:=DVs.reads I t r2;exact⟨_,.cons q1 q2⟩
end
end
section
variable {X:Cx} {pos p pos':Pos} {e a b c o:Expr} {es rest:List Expr} {te ta tb:TE} {t:TA} {r:List V->Hp->VK->Prop} {rd:R2} {x:Str} {id T:String} {i j:Nat} {tA tB':TT} {st:Stmt} {sts body:List Stmt} {ts us:TS} {g:TG} {gs:TGs} {wi:TI} {tg:Expr}
theorem zkf{y:Str}{py spos:Pos}{elt iter:Expr}{ifs:List Expr}{scope:Scope}{js:List Nat}{tt:TT}{nt:Nat}(hi:Wr (PI X tg iter wi))(hg:∀ {C s H ex},Wr (PG (zD X scope (zcP X js) (tgN tg++zcF X js) C s H ex) tg g))(ht:∀ {C s H ex},Wr (zif (zD X scope (zcP X js) (tgN tg++zcF X js) C s H ex) ifs tt))
  (he:∀ {C s H ex},Wr (PE (zD X scope (zcP X js) (tgN tg++zcF X js) C s H ex) elt te))
  (hN:X.N.Nodup:=by first | assumption | exact ze9 rfl) (hi':X.N[i]?=some y:=by rfl) (hy:Loc X.env.scope y:=by first | exact Or.inl rfl | exact Or.inr rfl)
  (f:Frees X (zcP X js) (zcF X js) js:=by repeat (first | exact Frees.nil | refine Frees.cons rfl (by first | exact Or.inl rfl | exact Or.inr rfl) rfl ?_)) (hclos:closureFor scope X.env=pure (zcP X js):=by rfl) (S:ScC scope (zcF X js):=by exact⟨rfl,of_decide_eq_true rfl,of_decide_eq_true rfl,of_decide_eq_true rfl,of_decide_eq_true rfl⟩) (hts:(tgN tg).length=nt:=by rfl) (hc:X.calm=true:=by rfl) (gw:∀ σ:St,GW (c0 nt js σ) g:=by first | exact zhd (by decide) | exact znh (zhe (by repeat (first | exact zfy | refine zej (by decide) ?_)))) (hs:∀ x,foldedSetIterable iter X.env x=pure x:=by intro _; rfl)
  (hsw:swapsWith (.ListComp elt [⟨tg,iter,ifs,0⟩] scope pos) (some (.Name y py)) spos.line X.env=pure true:=by rfl)
  (hf:X.fn y=true\/X.env.scope.names.lookup y=some .local:=by first | exact .inl rfl | exact .inr rfl | assumption) :
  Wr (PS X (.Assign [.Name y py] (.ListComp elt [⟨tg,iter,ifs,0⟩] scope pos) spos) (zhY (tLC wi nt js g tt te) (zbr i))):=by
 refine⟨?_⟩;intro pins s σ H D I h;rw [exec_Assign_Name_used _ _ _ _ hsw];refine qa (wpAny_standAt (qa ?_));show wpAny _ X.A (do let _ <-comprehension (.ListComp elt [⟨tg,iter,ifs,0⟩] scope pos) scope X.env _ (newList []) false (eval iter X.env) (some (assign (.Name y py) X.env))) _ _ s;refine qa (wpAny_mono (wpAny_comprehension_free (use:=some (assign (.Name y py) X.env)) (Q:=fun _ s'=>SP X pins D .next s') rfl hs hclos S.kind S.names
  (thn (hi.run pins s σ H _ I h) fun v s1 h1=>thn h1 fun itv s2 h2=>?_)) (fun _ s' hq=>qb (qb hq)) fun _ _ e=>e)
 obtain⟨it,fp,tn,J,H2,e,I2,T,st2,f2,q⟩:=h2;subst e;refine zfx (RR:=fun acc C=>compPost (model X.prog X.w) X.A X.xe (some (assign (.Name y py) X.env)) (fun _ s'=>SP X pins D .next s') acc C) hc I2 S f hts T st2 f2 (fun C s H ex=>hg.run) (fun C s H ex=>ht.run) (fun C s H ex=>he.run) (gw σ) q ?_;intro D' C m s' ys H' z hD I' hn hCn hCL hCc hCs hCp;show wpAny _ _ (assign (.Name y py) X.env (.ref D')) _ _ _;refine wpAny_assign_Name (zec (v:=.ref D') I' hN hi' hy rfl (fun s'' I'' hZ=>?_) hf);obtain⟨a,sb,ha⟩:=hZ;have ne:C≠a:=by
  rcases ha with rfl | ha
  ·exact hCL
  ·exact(hCc _ _ ha).symm
 exact⟨m,hn.sameBut sb ne,fun h' hs'=>⟨_,_,I''.turned (it:=C) (fun b o hb e=>hs'.extBut b o hb e) hCn hCL (.inr hCs) hCc hCp,z D' hD⟩⟩
theorem zqr{name:Str}{r:V->List V->Hp->VK->Prop}{apos cpos:Pos}(K:qc)(hK:X.K=K)(pa:PlainAttrs T)(slot:Slot T name id)(hty:typeOf (.builtin id)=pure (.type "method_descriptor"))(hm:MtM X id r)(ho:Wr (PE X o te))(ha:Wr (PA X (e::es) t))
  (hbase:attributeBase o name X.env (eval o X.env)=eval o X.env:=by rfl)
  (hfew:((backTo cpos (starEach (e::es) X.env)).all (fun x=>!x.1) && (backToKw cpos (keywordEach [] X.env)).all (fun x=>x.1.isSome)
   && decide ((e::es).length+([]:List Keyword).length+(if([]:List Keyword).isEmpty then 0 else 1) < 30))=true:=by rfl)
  (hline:(apos.endLine==cpos.line)=true:=by rfl) (hs:zK e=true:=by rfl) (hpl:es.all zK=true:=by rfl) :
  Wr (PE X (.Call (.Attribute o name apos) (e::es) [] cpos) (tBM K T r te t)):=hK▸⟨zvt pa slot hty hm ho.run ha.run hbase hfew hline (zbj hs) (zaZ hpl)⟩
theorem zb8{v:V}{u:Value}(hg:Gl X x)(hm:X.mg x=some u)(r:zI v u)(hd:(x==("__debug__":Str))=false:=by decide):Wr (PE X (.Name x pos) (tC v)):=⟨zpR hg hm r hd⟩
end
structure Kp (H H':Hp):Prop where
 tup:∀ b xs,H b=some (.tup xs)->H' b=some (.tup xs)
 frz:∀ b o u,H b=some (.frz o u)->H' b=some (.frz o u)
 own:∀ b x,H b=some (.own x)->H' b=some (.own x)
theorem Kp.refl(H:Hp):Kp H H:=⟨fun _ _ h=>h,fun _ _ _ h=>h,fun _ _ h=>h⟩
theorem Kp.trans{H H1 H2:Hp}(a:Kp H H1)(b:Kp H1 H2):Kp H H2:=⟨fun x y h=>b.tup x y (a.tup x y h),fun x y z h=>b.frz x y z (a.frz x y z h),fun x y h=>b.own x y (a.own x y h)⟩
theorem zba.kp{H H':Hp}(s:zba H H'):Kp H H':=⟨fun _ _ h=>s _ _ h,fun _ _ _ h=>s _ _ h,fun _ _ h=>s _ _ h⟩
end L2
namespace HT
open PySem PyProof.Rows
open PySem.SeqAt
open PySem.MeetsSeq PySem.MeetsSeq2 PySem.MeetsSeq3
section
variable {prog:Program} {w:World} {A:Around} {E:Value->Shared->Prop} {s:Shared}
end
end HT
namespace L2
open PySem PySem.Spec PyProof.Rows
section
variable {X:Cx}
end
section
variable {X:Cx} {tg:Expr}
end
section
variable {X:Cx}
end
section
variable {X:Cx}
theorem zE.at:∀ {xs:List V} {us:List Value} {i:Nat} {u:Value},zE xs us->us[i]?=some u->∃ x,xs[i]?=some x/\zI x u
 | _,_,0,_,.cons r _,e=>by
  cases(show some _=some _ from e);exact⟨_,rfl,r⟩
 | _,_,i+1,_,.cons _ t,e=>zE.at (i:=i) t e
 | _,_,0,_,.nil,e=>by cases e
 | _,_,_+1,_,.nil,e=>by cases e
theorem znk{pins:List (Addr×Obj)}{σ:St}{H:Hp}{s:Shared}{p:Addr}{xs:List V}{A:Around}{E:Value->Shared->Prop}{Q:Value->Shared->Prop}(I:Inv X pins σ H s)(hh:A.handled=none)(hq:SqL X.K H p xs\/SqT X.K H p xs)
  (h:∀ (it:Addr) (fp wr:List Addr) (n:Nat) (P:Nat->Value->Prop) (St:Nat->Heap->Prop) (s2:Shared),Walks X.prog X.w A it fp wr n P St->St 0 s2.heap->(∀ b∈fp,b < s2.heap.objs.size)->n=xs.length->(∀ i v,P i v->∃ x,xs[i]?=some x/\zI x v) ->
   (∀ h' tk,(∀ b o,b∉wr->s2.heap.get? b=some o->h'.get? b=some o)->Inv X pins σ H { s2 with heap:=h',toks:=tk })->Q (.ref it) s2) :
  wpAny (model X.prog X.w) A (pyIter (.ref p)) Q E s:=by
 rcases hq with hq | hq
 ·obtain⟨its,r,pl,hz⟩:=I.list hq
  have hp:p < s.heap.objs.size:=by
   obtain⟨o,n,e,_⟩:=pl;exact qh e
  have ne:p≠s.heap.objs.size:=qj hp;refine wpAny_pyIter_list pl.isList (h s.heap.objs.size [s.heap.objs.size,p] [s.heap.objs.size] its.toArray.size _ _ _ (Walks.list hh _ p ne its.toArray) ⟨⟨_,qg _ rfl,rfl,rfl⟩,?_⟩ (fun b hb=>?_) (by rw [List.size_toArray]; exact r.length.symm) (fun i v e=>zE.at r (by simpa using e)) fun h' tk hk=>?_)
  ·obtain⟨o,n,e,c,d,f⟩:=pl
   exact⟨o,qd _ e,c,n,f⟩
  ·rw [Heap.size_push]
   rcases qv.mp hb with z | z
   ·rw [z]; exact Nat.lt_succ_self _
   ·rw [qq.mp z]; exact Nat.lt_succ_of_lt hp
  ·exact I.kept fun b u e=>hk b u (fun z=>absurd (qh e) (by rw [qq.mp z]; exact Nat.lt_irrefl _)) (qd _ e)
 ·obtain⟨its,r,pl,hz⟩:=I.tuple hq
  have hp:p < s.heap.objs.size:=by
   obtain⟨o,e,_⟩:=pl;exact qh e
  have ne:p≠s.heap.objs.size:=qj hp;refine wpAny_pyIter_tuple (show s.heap.IsTuple p its.toArray from pl) (h s.heap.objs.size [s.heap.objs.size,p] [s.heap.objs.size] its.toArray.size _ _ _ (Walks.tuple hh _ p ne its.toArray) ⟨⟨_,qg _ rfl,rfl,rfl⟩,?_⟩ (fun b hb=>?_) (by rw [List.size_toArray]; exact r.length.symm) (fun i v e=>zE.at r (by simpa using e)) fun h' tk hk=>?_)
  ·obtain⟨o,e,c,n,f⟩:=pl
   exact⟨o,qd _ e,c,n,f⟩
  ·rw [Heap.size_push]
   rcases qv.mp hb with z | z
   ·rw [z]; exact Nat.lt_succ_self _
   ·rw [qq.mp z]; exact Nat.lt_succ_of_lt hp
  ·exact I.kept fun b u e=>hk b u (fun z=>absurd (qh e) (by rw [qq.mp z]; exact Nat.lt_irrefl _)) (qd _ e)
theorem zjn(ns:List Int):preSum (fun i=>ns.getD i 0) ns.length=ns.sum:=by
 have key:∀ k,k<=ns.length->preSum (fun i=>ns.getD i 0) k=(ns.take k).sum:=by
  intro k
  induction k with
  | zero=>intro _; rfl
  | succ k ih =>
   intro hk;have hlt:k < ns.length:=hk;show preSum (fun i=>ns.getD i 0) k+ns.getD k 0=_;rw [ih (by omega),List.take_succ,qm hlt,List.sum_append,qB,qm hlt];simp
 rw [key ns.length (qe _),List.take_of_length_le (qe _)]
def zvE(K:qc):List V->Hp->VK->Prop:=fun xs H Q=>∃ (p:Addr) (ns:List Int),xs=[.ref p]/\(SqL K H p (ns.map V.int)\/SqT K H p (ns.map V.int))/\Q (.int ns.sum) H
theorem zvF(K:qc)(hK:X.K=K)(hc:X.calm=true):zbK X (.builtin "sum") (zvE K):=by
 subst hK;intro pins s σ H xs us Q I r h;obtain⟨p,ns,rfl,hq,q⟩:=h;obtain⟨u,rfl,ru⟩:=zeB r;cases ru;refine call_sum_walkG (znk I (I.ok.hd hc) hq fun it fp wr n P St s2 W st hfp hn hP hI=>⟨it,fp,wr,n,P,St,fun i=>ns.getD i 0,rfl,W,st,hfp,?_,fun h' tk t' hk=>?_⟩)
 ·intro i v hv
  obtain⟨x,ex,rx⟩:=hP i v hv;rw [List.getElem?_map]at ex;cases eb:ns[i]? with
  | none=>rw [eb]at ex; cases ex
  | some b =>
   rw [eb]at ex;cases ex;obtain⟨t,rfl⟩:=rx;have ew:ns.getD i 0=b:=by rw [qB,eb]; rfl
   refine⟨t,?_⟩;show Value.int b t=Value.int (ns.getD i 0) t;rw [ew]
 ·rw [hn,List.length_map,zjn]
  exact⟨.int _,H,hI h' tk hk,⟨t',rfl⟩,q⟩
end
section
variable {prog:Program} {w:World} {A:Around} {R:Result->Shared->Prop} {it:Addr} {fp wr:List Addr} {n:Nat} {P:Nat->Value->Prop} {St:Nat->Heap->Prop}
end
section
variable {prog:Program} {w:World} {A:Around} {E:Value->Shared->Prop} {s:Shared}
end
section
variable {X:Cx}
end
section
variable {prog:Program} {w:World} {A:Around} {E:Value->Shared->Prop} {s:Shared}
theorem zcl{it t:Addr}{i:Nat}{items:Array Value}{x:Value}{Q:Value->Shared->Prop}(hi:s.heap.IsTupleIter it t i)(ht:s.heap.IsTuple t items)(hx:items[i]?=some x)
  (q:∀ h',h'.IsTupleIter it t (i+1)->Heap.SameBut it s.heap h'->Q x { s with heap:=h' }):wpAny (model prog w) A (Builtin.SmallTypes.nextOf (.ref it)) Q E s:=by
 obtain⟨oi,e1,e2,e3⟩:=id hi;obtain⟨ot,f1,f2,nt,f3⟩:=ht;unfold Builtin.SmallTypes.nextOf;refine qa (wpAny_callSpecial?_slot (name:=Str.ofString "__next__") hi.typeIs slot_tupleiter_next
  (wpAny_call_entry slot_tupleiter_next hi.typeIs entry_tupleiter_next ?_ (args_tupleiter_next _)))
 show wpAny _ _ (field (.ref it) 0 >>= _) _ _ s;refine qa (wpAny_field e1 e3 (x:=.ref t) rfl ?_);show wpAny _ _ (if(Value.ref t==Value.none)=true then _ else _) _ _ s;rw [if_neg (show ¬((Value.ref t==Value.none)=true) from qf)];show wpAny _ _ (field (.ref it) 1 >>= _) _ _ s;refine qa (wpAny_field e1 e3 (x:=.int i 0) rfl ?_);show wpAny _ _ (seqItems? (.ref t) >>= _) _ _ s;refine qa (wpAny_seqItems f1 f3 ?_);simp only [Int.toNat_natCast,hx];refine qa (wpAny_setField e1 e3 (by simp) (qb ⟨x,rfl,qb (q _ ?_ (Heap.SameBut.update ..))⟩));refine⟨_,Heap.get?_update_self _ e1 (Obj.isFreed_of_fields (Obj.data_mapFields e3 _)),(Obj.cls_mapFields ..).trans e2,?_⟩;rw [Obj.data_mapFields e3];simp [rawInt]
theorem zel{it t:Addr}{i:Nat}{items:Array Value}{Q:Value->Shared->Prop}(hh:A.handled=none)(hi:s.heap.IsTupleIter it t i)(ht:s.heap.IsTuple t items)(hx:items[i]?=none)
  (q:∀ h' e,Heap.ExtBut it s.heap h'->(∃ o,h'.get? e=some o/\o.cls=.type "StopIteration")->E (.ref e) { s with heap:=h' }):wpAny (model prog w) A (Builtin.SmallTypes.nextOf (.ref it)) Q E s:=by
 obtain⟨oi,e1,e2,e3⟩:=id hi;obtain⟨ot,f1,f2,nt,f3⟩:=ht;unfold Builtin.SmallTypes.nextOf;refine qa (wpAny_callSpecial?_slot (name:=Str.ofString "__next__") hi.typeIs slot_tupleiter_next
  (wpAny_call_entry slot_tupleiter_next hi.typeIs entry_tupleiter_next ?_ (args_tupleiter_next _)))
 show wpAny _ _ (field (.ref it) 0 >>= _) _ _ s;refine qa (wpAny_field e1 e3 (x:=.ref t) rfl ?_);show wpAny _ _ (if(Value.ref t==Value.none)=true then _ else _) _ _ s;rw [if_neg (show ¬((Value.ref t==Value.none)=true) from qf)];show wpAny _ _ (field (.ref it) 1 >>= _) _ _ s;refine qa (wpAny_field e1 e3 (x:=.int i 0) rfl ?_);show wpAny _ _ (seqItems? (.ref t) >>= _) _ _ s;refine qa (wpAny_seqItems f1 f3 ?_);simp only [Int.toNat_natCast,hx];refine qa (wpAny_rule (qa (wpAny_setField e1 e3 (by simp) ?_)));show wpAny _ _ (newExc (.type "StopIteration") [] >>= _) _ _ _;refine qa ?_;simp only [newExc,newTuple];refine qa (qA ?_ (by show(0:Nat)<=sizeLine; exact Nat.zero_le _));refine qa (m:=firstArgMember _ _) (wpAny_of_eq (a:=Value.none) (by first | rfl | (simp only [firstArgMember]; rfl)) ?_);refine qA ?_ (by first | trivial | size_fits);simp only [raiseNew];refine qa (wpAny_handled ?_)
 first | rw [show A.in1.handled=none from hh] | rw [hh]
 refine qa (qb (wpAny_throw ?_));exact q _ _ (((Heap.SameBut.update ..).extBut.push _).push _) ⟨_,qg _ rfl,rfl⟩
end
theorem zeG{prog:Program}{w:World}{A:Around}(hh:A.handled=none)(it t:Addr)(ne:t≠it)(items:Array Value) :
  Draws prog w A it [it,t] items.size (fun i v=>items[i]?=some v) (fun i h=>h.IsTupleIter it t i/\h.IsTuple t items) where
 live:=fun _ _ st=>let ⟨o,ho,_⟩:=st.1; ⟨o,ho⟩
 frame:=fun _ _ _ st hk=>by
  obtain⟨⟨o,a1,a2,a3⟩,⟨o2,b1,b2⟩⟩:=st;exact⟨⟨o,hk it (by simp) o a1,a2,a3⟩,⟨o2,hk t (by simp) o2 b1,b2⟩⟩
 item:=fun i s Q E hi st q=>by
  refine zcl st.1 st.2 (x:=items[i]) (by simp [hi]) fun h' hit' hs'=>?_;exact q _ h' s.toks (by simp [hi]) ⟨hit',st.2.extBut hs'.extBut ne⟩ hs'
 done:=fun s Q E st q=>zel hh st.1 st.2 (by simp) q
theorem zl7(t:Addr)(items:Array Value)(n:Nat)(dct:Option Addr)(sl:Array (Option Value)) :
  Meets (Builtin.«enumerate.__new__» ⟨[.type "enumerate",.ref t],[]⟩) (fun _ R s=>s.heap.get? t=some { cls:=.type "tuple",dict:=dct,data:=.seq items n,slots:=sl } /\
   R (.ok (.ret (.ref (s.heap.push { cls:=.type "tuple_iterator",data:=.fields #[.ref t,.int 0 0] }).objs.size)))
    { s with heap:=(s.heap.push { cls:=.type "tuple_iterator",data:=.fields #[.ref t,.int 0 0] }).push { cls:=.type "enumerate",data:=.fields #[.none,.bool false,.ref s.heap.objs.size,rawInt 0,.none,.none] } }) :=
 .of_wp fun prog w A R s h=>by
  obtain⟨hp,g,d,tk,os⟩:=s;obtain⟨hl,h⟩:=h;have hsub:=sub_enumerate;have hT:Heap.IsTuple (Shared.heap ⟨hp,g,d,tk,os⟩) t items:=⟨_,hl,rfl,n,rfl⟩
  wp_walk using PySem.AutoSeq1.wpAny_loadPart' hl
  refine wpAny_stack_any fun st=>qb ?_;split
  ·rename_i c _ _ _ _ _
   cases(c==Value.type "enumerate")
   ·wp_walk using PySem.AutoSeq1.wpAny_loadPart' hl,wpAny_pyIter_tuple hT
    exact⟨_,rfl,h⟩
   ·wp_walk using PySem.AutoSeq1.wpAny_loadPart' hl,wpAny_pyIter_tuple hT
    exact⟨_,rfl,h⟩
  ·wp_walk using PySem.AutoSeq1.wpAny_loadPart' hl,wpAny_pyIter_tuple hT
   exact⟨_,rfl,h⟩
section
variable {prog:Program} {w:World} {A:Around} {E:Value->Shared->Prop} {s:Shared}
theorem zjo{t:Addr}{items:Array Value}{Q:Value->Shared->Prop}(hT:s.heap.IsTuple t items)
  (h:∀ h',IsEnum h' (s.heap.objs.size+1) s.heap.objs.size 0 .none->h'.IsTupleIter s.heap.objs.size t 0->(∀ b o,s.heap.get? b=some o->h'.get? b=some o)->Q (.ref (s.heap.objs.size+1)) { s with heap:=h' }) :
  wpAny (model prog w) A (call (.type "enumerate") [.ref t]) Q E s:=by
 obtain⟨⟨c,dct,dt,sl⟩,hl,hc,n,hd⟩:=hT;replace hc:c=.type "tuple":=hc;replace hd:dt=.seq items n:=hd;subst hc hd;refine callType_new F.called_enumerate (by decide) (F.typeCall_enumerate_1 _) (F.newCall_enumerate_1 _) (fun obj=>F.args_object_init_2 obj _) F.entry_enumerate_new
  (zl7 t items n dct sl) ⟨hl,?_⟩
 have hz:(s.heap.push { cls:=.type "tuple_iterator",data:=.fields #[.ref t,.int 0 0] }).objs.size=s.heap.objs.size+1:=Heap.size_push ..;show _/\_;rw [hz];have he:IsEnum ((s.heap.push { cls:=.type "tuple_iterator",data:=.fields #[.ref t,.int 0 0] }).push
   { cls:=.type "enumerate",data:=.fields #[.none,.bool false,.ref s.heap.objs.size,rawInt 0,.none,.none] }) (s.heap.objs.size+1) s.heap.objs.size 0 .none:=by
  have z:=qg (s.heap.push { cls:=.type "tuple_iterator",data:=.fields #[.ref t,.int 0 0] })
   (o:={ cls:=.type "enumerate",data:=.fields #[.none,.bool false,.ref s.heap.objs.size,rawInt 0,.none,.none] }) rfl
  rw [hz]at z;exact z
 exact⟨⟨_,he,rfl⟩,h _ he ⟨_,qd _ (qg _ rfl),rfl,rfl⟩ fun b o x=>qd _ (qd _ x)⟩
end
section
variable {X:Cx} {pins:List (Addr×Obj)} {σ:St} {H:Hp} {s:Shared} {h':Heap}
theorem Inv.turnedW{t':Nat}{wr:List Addr}(I:Inv X pins σ H s)(k:∀ b o,b∉wr->s.heap.get? b=some o->h'.get? b=some o)(hf:∀ b∈wr,zaq X pins H b):Inv X pins σ H { s with heap:=h',toks:=t' }:=by
 have nit:∀ b u,H b=some u->b∉wr:=fun b u e z=>by rw [(hf b z).1]at e; cases e
 refine I.step (g':=s.gens) (d':=s.drawn) (ch:=wr) (fun b hb=>?_) (fun b o _ _ hc e _=>k b o hc e) (fun b o _ _ hc e _=>⟨o.slots,k b o hc e⟩) (fun _ _ _ _ n=>n)
  (fun b o hc e=>⟨o,k b o hc e⟩) (fun _ _ e=>e) (fun _ _ _ e=>e) (fun b ps e=>⟨#[],by rw [e]; simp⟩) (fun m hm=>?_) (fun b u e=>?_) I.bare
 ·obtain⟨_,z1,_,z3,z4,z5⟩:=hf b hb
  exact⟨z3,z1,z4,z5⟩
 ·obtain⟨o,es,ep,ho,r⟩:=hm
  exact⟨o,es,ep,k _ o (fun z=>(hf _ z).2.1 rfl) ho,r⟩
 ·refine(I.hok b u e).stay (fun c v hc q=>k c v ?_ q) (fun _ q=>q) fun _ _ q=>q
  rcases hc with z | z
  ·rw [z]; exact nit b u e
  ·exact nit c _ z
theorem Inv.track{a:Addr}{o:HO}(I:Inv X pins σ H s)(f:zaq X pins H a)(ha:X.s₀.heap.objs.size<=a)(new:zP X.prog X.w X.K (upd H a o) s.heap a o):Inv X pins σ (upd H a o) s:=by
 obtain⟨f0,f1,f2,f3,f4,f5⟩:=f;refine⟨I.ok,I.os,I.bare,zie I.base f0 ha,I.loc,I.cell,?_,fun x c e=>?_,fun p hp=>?_,zgC I.hok f0 new,I.len⟩
 ·rw [zq (Ne.symm f1)]
  exact I.free
 ·rw [zq (f4 x c e)]
  exact I.freeC x c e
 ·obtain⟨p1,p2,p3⟩:=I.pin p hp
  refine⟨p1,?_,p3⟩;rw [zq (f5 p hp)];exact p2
end
def Ite(K:qc)(a:Addr):It :=
 ⟨fun i H=>∃ xs x,SqT K H a xs/\xs[i]?=some x,fun i H x H'=>∃ T,H T=none/\x=.ref T/\∀ xs v,SqT K H a xs->xs[i]?=some v->H'=upd H T (.tup [.int i,v]),fun i H=>∃ xs,SqT K H a xs/\xs.length=i⟩
theorem zl8{P:Program}{w:World}{K:qc}{elts:List Expr}{k:Nat}{pos:Pos}(e it t:Addr)(hei:e≠it)(hte:t≠e)(hti:t≠it) :
  Turn P w K (.Tuple elts k pos) (Ite K t) [e,it] e (fun i h=>(∃ old,IsEnum h e it i old)/\h.IsTupleIter it t i) where
 mem:=by simp
 obj:=fun i h st b hb=>by
  obtain⟨⟨old,he⟩,⟨o,ho,_,hd⟩⟩:=st;rcases qv.mp hb with z | z
  ·subst z
   exact⟨_,he,fun v q=>by
    have q':Data.fields _=Data.cell v:=q;cases q'⟩
  ·rw [qq.mp z]
   exact⟨o,ho,fun v q=>by rw [hd]at q; cases q⟩
 keep:=fun i h h' st kk=>by
  obtain⟨⟨old,he⟩,⟨o,ho,hc,hd⟩⟩:=st;exact⟨⟨old,kk e (by simp) _ he⟩,⟨o,kk it (by simp) _ ho,hc,hd⟩⟩
 item:=by
  intro X hP hw hK hc i pins s σ H E I hf st hg;subst hP hw hK;obtain⟨xs,x,hq,hx⟩:=hg;obtain⟨its,rv,ht,hz⟩:=I.tuple hq;have hi:i < its.toArray.size:=by
   rw [List.size_toArray,<-rv.length];exact(qk.mp hx).1
  have W:=WalksT.enumerateD (zeG (prog:=X.prog) (w:=X.w) (A:=X.A.in1) (I.ok.hd hc) it t hti its.toArray) e hei (by simp [hei,Ne.symm hte]) (by simp);refine W.item i s _ _ hi ⟨st.1,st.2,ht⟩ fun T vals h1 tk hP hT isT mid kk=>?_;refine⟨_,rfl,W.go elts k pos i T { s with heap:=h1,toks:=tk } _ _ mid fun h2 st2 kk2=>?_⟩;obtain⟨tt,u,hu,rfl⟩:=hP;have apart:=W.apart _ _ _ mid;have I2:Inv X pins σ H { s with heap:=h2,toks:=tk }:=I.turnedW (wr:=[e,it]) (fun b o hb q=>kk2 b o hb (kk b o hb q)) hf;have fT:zaq X pins H T:=I.fpOk hT (I.hok.fresh hT);have ru:zI x u:=by
   obtain⟨u',eu,r⟩:=rv.get hx;have:u'=u:=by
    have z:its[i]?=some u:=by simpa using hu
    rw [eu]at z;exact qx z
   rw [<-this];exact r
  obtain⟨oT,g1,g2,nT,g3⟩:=isT;have I3:Inv X pins σ (upd H T (.tup [.int i,x])) { s with heap:=h2,toks:=tk }:=I2.track fT (qy I.sz hT) ⟨by show 2<=sizeLine; decide,[.int i tt,u],.cons ⟨tt,rfl⟩ (.cons ru .nil),oT,kk2 T oT apart g1,g2,⟨nT,g3⟩,.inr ⟨_,_,_,rfl⟩⟩;refine⟨.ref T,_,I3,rfl,⟨T,I.hok.fresh hT,rfl,fun xs' v hq' hv=>?_⟩,⟨?_,st2.2.1⟩,fun b hb=>?_⟩
  ·have:=I.tuple_inj hq hq'
   subst this;rw [hx]at hv;cases hv;rfl
  ·exact st2.1
  ·have ne:b≠T:=fun z=>apart (by rw [<-z]; exact hb)
   rw [zq ne];exact(hf b hb).1
 done:=by
  intro X hP hw hK hc i pins s σ H E I hf st hg;subst hP hw hK;obtain⟨xs,hq,hl⟩:=hg;obtain⟨its,rv,ht,hz⟩:=I.tuple hq;have hi:i=its.toArray.size:=by
   rw [List.size_toArray,<-rv.length];exact hl.symm
  have W:=WalksT.enumerateD (zeG (prog:=X.prog) (w:=X.w) (A:=X.A.in1) (I.ok.hd hc) it t hti its.toArray) e hei (by simp [hei,Ne.symm hte]) (by simp);refine W.done s _ _ ?_ fun h1 tk kk=>⟨rfl,I.turnedW (wr:=[e,it]) kk hf⟩;rw [<-hi];exact⟨st.1,st.2,ht⟩
 self:=fun _ _ _ _ _ st h=>by
  obtain⟨⟨old,he⟩,_⟩:=st;exact wpAny_pyIter_enum he h
section
variable {X:Cx} {elts:List Expr} {k:Nat} {tpos:Pos}
def zrB(K:qc)(ta:TA):TI:=fun σ H R=>ta σ H fun vs H1=>∃ a,vs=[.ref a]/\(∃ xs,SqT K H1 a xs)/\R (Ite K a) H1
theorem zkg{a:Expr}{ta:TA}{p pos:Pos}{K:qc}(ha:Wr (PA X [a] ta))(hK:X.K=K:=by rfl)(hg:Gl X "enumerate":=by exact rfl)(hm:X.mg "enumerate"=none:=by exact zeE ‹Bl _ _› (by decide))(hs:zK a=true:=by rfl) :
  Wr (PI X (.Tuple elts k tpos) (.Call (.Name "enumerate" p) [a] [] pos) (zrB K ta)):=by
 subst hK;refine⟨?_⟩;intro pins s σ H R I h;refine Call_ (zcL I hg hm boot_enumerate (PyProof.Rows.callWith_type1 (thn (ha.run pos pins s σ H _ I h) fun us s1 hZ=>?_) (zbj hs) rfl));obtain⟨vs,H1,I1,r1,q1⟩:=hZ;obtain⟨t,e,⟨xs,hq⟩,q⟩:=q1;subst e;obtain⟨u,rfl,ru⟩:=zeB r1;cases ru;obtain⟨its,rv,ht,hz⟩:=I1.tuple hq;have tl:t < s1.heap.objs.size:=by
  obtain⟨o,e,_⟩:=ht;exact qh e
 refine zjo (show s1.heap.IsTuple t its.toArray from ht) fun h' he hit kk=>?_;have I2:Inv X pins σ H1 { s1 with heap:=h' }:=I1.kept (t':=s1.toks) kk;refine wpAny_pyIter_enum he ?_;refine⟨s1.heap.objs.size+1,[s1.heap.objs.size+1,s1.heap.objs.size],_,_,H1,rfl,I2,zl8 (s1.heap.objs.size+1) s1.heap.objs.size t (Nat.succ_ne_self _) (qj (Nat.lt_succ_of_lt tl)) (qj tl),⟨⟨_,he⟩,hit⟩,fun b hb=>?_,q⟩;rcases qv.mp hb with z | z
 ·subst z
  exact I1.fpOk (Nat.le_succ _) (I1.hok.fresh (Nat.le_succ _))
 ·rw [qq.mp z]
  exact I1.fpOk (qe _) (I1.hok.fresh (qe _))
end
section
variable {X:Cx}
end
section
variable {X:Cx} {pos pos':Pos} {o i v:Expr} {td ty tv:TE} {k:Nat}
theorem zkh:Wr (PE X (.Dict [] [] pos) zha):=⟨zm8⟩
theorem zjp(hr:Room k X.A)(ho:Wr (PE X o td))(hi:Wr (PE X i ty))(hs:zqk i:=by intro _ _; rfl):Wr (PE X (.Subscript o i pos) (zm7 X.K td ty)):=⟨zql (zib hr) ho.run hi.run hs⟩
theorem zjq(hr:Room k X.A)(hi:Wr (PE X i ty))(ho:Wr (PE X o td))(h1:behindInMarks .In o=false:=by rfl):Wr (PT X (.Compare i [.In] [o] pos) (tB (ztC X.K ty td))):=⟨zmC (ztD (zib hr) hi.run ho.run) h1⟩
end
end L2
namespace L2
open PySem PySem.W PyProof.Rows
section
variable {α β:Type}
end
section
variable {rk:Nat->Int} {n:Nat}
end
end L2
namespace L2
open PySem PySem.Spec PyProof.Rows
open PySem.AutoSeq1 (wpAny_loadPart')
open MeetsSeq MeetsSeq2 MeetsSeq3 SeqRoads2
def znl:List Int->List Int->Bool
 | [],[]=>false
 | [],_::_=>true
 | _::_,[]=>false
 | a::as,b::bs=>if a=b then znl as bs else decide (a < b)
end L2
namespace L2
open PySem PySem.Spec PySem.W PyProof.Rows
section
variable {prog:Program} {w:World} {A:Around} {E:Value->Shared->Prop} {s:Shared}
end
theorem zki:∀ a:List Int,znl a a=false
 | []=>rfl
 | a::as=>by unfold znl; rw [if_pos rfl]; exact zki as
theorem zqs{ns ms:List Int}:(ns.map fun n=>(Sum.inl n:Key))=(ms.map fun n=>(Sum.inl n:Key))↔ns=ms:=by
 constructor
 ·intro h
  have:=congrArg (List.map fun k:Key=>match k with | .inl n=>n | .inr _=>0) h;rw [List.map_map,List.map_map]at this;simpa [Function.comp_def] using this
 ·rintro rfl; rfl
section
variable {prog:Program} {w:World} {A:Around} {s:Shared}
end
section
variable {X:Cx}
end
end L2
namespace L2
open PySem PySem.Spec PyProof.Rows
def zgq(h:Heap)(d:Addr)(es:Array DictEntry)(ep:Nat):Prop:=∃ o,h.get? d=some o/\o.ExactDict/\o.data=.dict es ep
theorem zgq.typeIs{s:Shared}{d:Addr}{es:Array DictEntry}{ep:Nat}(r:zgq s.heap d es ep):s.TypeIs (.ref d) "dict":=by
 obtain⟨o,e,x,_⟩:=r;exact⟨o,e,x.1⟩
section
variable {prog:Program} {w:World} {A:Around} {E:Value->Shared->Prop} {s:Shared} {it d:Addr} {i ep:Nat} {es:Array DictEntry}
end
theorem zdu{α β:Type}{R:α->β->Prop}:∀ {xs:List α} {ys:List β},Paired R xs ys->∀ (i:Nat) (x:α),xs[i]?=some x->∃ y,ys[i]?=some y/\R x y
 | _,_,.nil,i,x,h=>by simp at h
 | _,_,.cons r _,0,x,h=>by
  cases(show some _=some x from h);exact⟨_,rfl,r⟩
 | _,_,.cons _ t,i+1,x,h=>zdu t i x h
theorem zdv{α β:Type}{R:α->β->Prop}:∀ {xs:List α} {ys:List β},Paired R xs ys->xs.length=ys.length
 | _,_,.nil=>rfl
 | _,_,.cons _ t=>by rw [qu,qu,zdv t]
section
variable {X:Cx} {tg:Expr}
theorem Inv.freeze{pins:List (Addr×Obj)}{σ:St}{H:Hp}{s:Shared}{a:Addr}{kvs:List (List Key×V)}(I:Inv X pins σ H s)(e:H a=some (.dT kvs)):∃ o,s.heap.get? a=some o/\Inv X pins σ (upd H a (.frz o (.dT kvs))) s:=by
 have ok:=(show zP X.prog X.w X.K H s.heap a (.dT kvs) from I.hok a _ e);obtain⟨z,y,xs,r,o,es,ep,h1,h2⟩:=id ok;refine⟨o,h1,?_⟩;have ok2:zP X.prog X.w X.K (upd H a (.frz o (.dT kvs))) s.heap a (.dT kvs):=ok.stay (fun _ _ _ q=>q) (fun b q=>by rw [zq (zfp q e (by intro z; cases z))]; exact q) fun b ys q=>by rw [zq (zfp q e (by intro z; cases z))]; exact q
 exact I.write (t':=s.toks) (h':=s.heap) (by rw [e]; trivial) (.inl rfl) (fun _ _ _ q=>q) ⟨o,h1⟩ ⟨h1,ok2⟩
end
end L2
namespace L2
open PySem PySem.Spec PyProof.Rows
open PySem.W (Looks)
def zw5(C p:Addr):Obj:={ cls:=.ref C,data:=.fields #[.ref p,.none,.none,.none,.bool false,.none] }
section
variable {prog:Program} {w:World} {A:Around} {E:Value->Shared->Prop} {h:Heap} {g:Array GenState} {d:Drawn} {t:Nat} {os:OsState}
variable {nm q:Str} {C N:Addr} {bs bm bmB:List Value} {hdct:Bool} {sn:List Str} {sub:List Value} {ab:Bool} {col:Option Bool} {dd:Option Addr} {k0 k1 k2 k3 k5:Option Value} {B newId initId:String}
end
abbrev xUp:List Value:=[.type "ValueError",.type "Exception",.type "BaseException",.type "object"]
structure XC (K:qc) (C:Addr):Prop where
 at_:∃ nm q N bs bm sn sub ab col dd k0 k1 k2 k3 k5,K.lookup C=some (excClassObj nm q C N bs bm true sn sub ab col dd k0 k1 k2 k3 k5 "ValueError.__new__")/\PySem.W.tailIn K xUp bm=true
 ga:PySem.W.findIn K (.ref C) "__getattribute__"=some (some (.builtin "BaseException.__getattribute__"))
 gh:PySem.W.findIn K (.ref C) "__getattr__"=some none
 sa:PySem.W.findIn K (.ref C) "__setattr__"=some (some (.builtin "object.__setattr__"))
section
variable {prog:Program} {w:World} {A:Around} {K:qc} {C x:Addr} {s:Shared} {R:Result->Shared->Prop}
end
end L2
namespace L2
open PySem PySem.Spec PyProof.Rows
open PySem.W (Looks InstAt)
section
variable {prog:Program} {w:World} {A:Around} {E:Value->Shared->Prop} {K:qc} {C x:Addr} {s:Shared} {R:Result->Shared->Prop}
end
end L2
namespace L2
open PySem PySem.Spec PyProof.Rows
open PySem.W (Looks InstAt)
structure XI (K:qc) (C:Addr):Prop where
 cl:XC K C
 ca:PySem.W.findIn K (.ref C) "__class__"=some (some (.builtin "object.__class__"))
 cg:PySem.W.specialIn K (.builtin "object.__class__") "__get__"=some (some (.builtin "getset_descriptor.__get__"))
 ct:PySem.W.takesIn K (.builtin "object.__class__")=some true
 cm:PySem.W.mroIn K C (.type "object")=some true
section
variable {prog:Program} {w:World} {A:Around} {E:Value->Shared->Prop} {K:qc} {C x:Addr} {s:Shared} {R:Result->Shared->Prop}
end
end L2
namespace L2
open PySem PySem.Spec PyProof.Rows
open PySem.W (Looks InstAt)
def XV(H:Hp)(a C:Addr)(fs:List (Str×V)):Prop:=∃ ox,H a=some (.frz ox (.own 0))/\ox.cls=.ref C/\PySem.W.notCls ox=true /\
 ((fs=[]/\ox.dict=none)\/∃ od dx,ox.dict=some dx/\H dx=some (.frz od (.xd fs)))
section
variable {X:Cx} {pins:List (Addr×Obj)} {σ:St} {H:Hp} {s:Shared} {a C:Addr} {fs:List (Str×V)} {o e value:Expr} {f:Str} {pos pos':Pos} {ta tv:TE} {v:V}
end
section
variable {X:Cx} {CX:CXT} {k:Nat} {f C:Addr} {fd:FuncData} {ps:List Str} {sp:Sp} {E:XK} {x:Str} {p pos:Pos} {e:Expr} {es:List Expr} {t:TA}
end
end L2
namespace L2
open PySem PySem.Spec PyProof.Rows
open PySem.W (Looks InstAt)
section
variable {prog:Program} {w:World} {A:Around} {K:qc} {C x:Addr} {s:Shared} {R:Result->Shared->Prop}
end
section
variable {X:Cx} {C:Addr} {x:Str} {p pos:Pos}
end
end L2
namespace L2
open PySem PySem.Spec PyProof.Rows
open PySem.W (Looks InstAt)
def zw6(a C:Addr)(d tb:Option Addr)(h:Heap):Prop:=∃ oe vs,h.get? a=some oe/\oe.cls=.ref C/\oe.dict=d/\oe.data=.fields vs/\vs[1]?=some (tb.elim .none .ref)/\(tb=none->∃ p,oe={ zw5 C p with dict:=d })
def pTb(T:Addr)(h:Heap):Prop:=∃ oT ts,h.get? T=some oT/\oT.data=.fields ts/\ts[3]?=some .none
def zw7(a C:Addr)(d tb:Option Addr):HO:=.ext (zw6 a C d tb)
def xTb(T:Addr):HO:=.ext (pTb T)
def zw8(H:Hp)(a C:Addr)(fs:List (Str×V)):Prop:=∃ d tb,H a=some (zw7 a C d tb)/\(∀ T,tb=some T->H T=some (xTb T)/\T≠a) /\
 ((fs=[]/\d=none)\/∃ od dx,d=some dx/\H dx=some (.frz od (.xd fs)))
section
variable {X:Cx} {pins:List (Addr×Obj)} {σ:St} {H:Hp} {s:Shared} {h':Heap}
end
end L2
namespace L2
open PySem PySem.Spec PyProof.Rows
open PySem.W (Looks InstAt)
abbrev EXT:=St->Addr->Hp->Prop
section
variable {X:Cx} {EX:EXT} {e:Expr} {te:TE} {pos:Pos}
end
section
variable {X:Cx} {C:Addr} {x:Str} {p pos:Pos}
end
def CXv(P:Program)(w:World)(K:qc):CXT:=fun outer H s E e s'=>∃ a H',e=.ref a/\s'.os=s.os/\AllBare s'.gens/\Un (frs outer) [] H H' s.heap s'.heap/\HOk P w K H' s'.heap/\E e none H'
section
variable {X:Cx} {EX:EXT} {k:Nat} {f:Addr} {fd:FuncData} {ps:List Str} {sp:Sp} {x:Str} {p pos:Pos} {e:Expr} {es:List Expr} {t:TA}
end
end L2
namespace L2
open PySem PySem.Spec PyProof.Rows
open PySem.W (Looks InstAt)
abbrev Cx.body(X:Cx)(pn:List (Addr×Obj))(E:Value->Shared->Prop):Cx:={ X with pn:=pn,xe:=E }
section
variable {X:Cx} {pins:List (Addr×Obj)} {σ:St} {H:Hp} {s:Shared} {E:Value->Shared->Prop} {a:Addr} {pn:List (Addr×Obj)}
end
section
variable {prog:Program} {w:World} {A:Around} {E:Value->Shared->Prop} {K:qc} {C C':Addr}
end
section
variable {X:Cx} {i:Nat} {n cls:Str} {C':Addr} {body suite:List Stmt} {b₀:Stmt} {tb:EXT->TS} {th:TS} {np hpos pos:Pos}
end
end L2
namespace L2
open PySem PySem.Spec PyProof.Rows
abbrev D:=PyData
def k1D:Key->D
 | .inl i=>.int i
 | .inr x=>.str x
def kTD(ks:List Key):D:=.tuple (ks.map k1D)
def PL(K:qc)(H:Hp)(a:Addr)(xs:List V):Prop :=
 (∃ o,H a=some (.frz o (.lst xs)))\/∃ (o:Obj) (its:Array Value) (n:Nat),K.lookup a=some o/\o.cls=.type "list"/\o.dict=none/\o.data=.seq its n/\its.size<=sizeLine/\zE xs its.toList
def XN(K:qc)(n:Str)(C:Addr):Prop:=PySem.W.nsIn K mainGlobals n=some (some (.ref C))
def noX:List (D×D)->Bool
 | (.none,_)::_=>false
 | (.bool _,_)::_=>false
 | _=>true
theorem TpK.sq{K:qc}{H:Hp}{a:Addr}{xs:List V}(h:TpK K H a xs):SqT K H a xs:=h.imp .inl fun⟨o,i,n,a,b,c,d,e,_⟩=>⟨o,i,n,a,b,c,d,e⟩
theorem TpK.kp{K:qc}{H H':Hp}{a:Addr}{xs:List V}(e:Kp H H')(h:TpK K H a xs):TpK K H' a xs:=h.keeps e.tup
mutual
inductive DF (K:qc) (H:Hp):V->D->Prop
 | non:DF K H .non .none
 | bl (b:Bool):DF K H (.bl b) (.bool b)
 | int (i:Int):DF K H (.int i) (.int i)
 | str (x:Str):DF K H (.str x) (.str x)
 | tup {a:Addr} {xs:List V} {ds:List D} (h:TpK K H a xs) (t:DFs K H xs ds):DF K H (.ref a) (.tuple ds)
 | lst {a:Addr} {xs:List V} {ds:List D} (h:PL K H a xs) (t:DFs K H xs ds):DF K H (.ref a) (.list ds)
 | dct {a:Addr} {o:Obj} {ws:List (List Key×V)} {kvs:List (D×D)} (h:H a=some (.frz o (.dT ws))) (t:DFt K H ws kvs):DF K H (.ref a) (.dict kvs)
 | exc {a C:Addr} {n:Str} {fs:List (Str×V)} {ds:List (D×D)} (h:XV H a C fs) (e:XN K n C) (t:DFf K H fs ds):DF K H (.ref a) (.dict ((.none,.str n)::ds))
 | obj {a C dx:Addr} {o:Obj} {n:Str} {fs:List (Str×V)} {ds:List (D×D)} (h:H a=some (.frz o (.ins C dx fs))) (e:XN K n C) (t:DFf K H fs ds):DF K H (.ref a) (.dict ((.bool true,.str n)::ds))
inductive DFs (K:qc) (H:Hp):List V->List D->Prop
 | nil:DFs K H [] []
 | cons {v:V} {d:D} {vs:List V} {ds:List D} (h:DF K H v d) (t:DFs K H vs ds):DFs K H (v::vs) (d::ds)
inductive DFt (K:qc) (H:Hp):List (List Key×V)->List (D×D)->Prop
 | nil:DFt K H [] []
 | cons {k:List Key} {v:V} {d:D} {vs:List (List Key×V)} {ds:List (D×D)} (h:DF K H v d) (t:DFt K H vs ds):DFt K H ((k,v)::vs) ((kTD k,d)::ds)
inductive DFf (K:qc) (H:Hp):List (Str×V)->List (D×D)->Prop
 | nil:DFf K H [] []
 | cons {k:Str} {v:V} {d:D} {vs:List (Str×V)} {ds:List (D×D)} (h:DF K H v d) (t:DFf K H vs ds):DFf K H ((k,v)::vs) ((.str k,d)::ds)
end
theorem XV.kp{H H':Hp}{a C:Addr}{fs:List (Str×V)}(e:Kp H H')(h:XV H a C fs):XV H' a C fs:=by
 obtain⟨ox,h1,h2,h3,h4⟩:=h;refine⟨ox,e.frz _ _ _ h1,h2,h3,?_⟩;rcases h4 with h4 | ⟨od,dx,h5,h6⟩
 ·exact .inl h4
 ·exact .inr ⟨od,dx,h5,e.frz _ _ _ h6⟩
theorem PL.kp{K:qc}{H H':Hp}{a:Addr}{xs:List V}(e:Kp H H')(h:PL K H a xs):PL K H' a xs:=by
 rcases h with ⟨o,h⟩ | h
 ·exact .inl ⟨o,e.frz _ _ _ h⟩
 ·exact .inr h
theorem PL.sq{K:qc}{H:Hp}{a:Addr}{xs:List V}(h:PL K H a xs):SqL K H a xs:=by
 rcases h with ⟨o,h⟩ | h
 ·exact .inl (.inr ⟨o,h⟩)
 ·exact .inr h
mutual
theorem DF.kp{K:qc}{H H':Hp}(e:Kp H H'):∀ {v:V} {d:D},DF K H v d->DF K H' v d
 | _,_,.non=>.non
 | _,_,.bl b=>.bl b
 | _,_,.int i=>.int i
 | _,_,.str x=>.str x
 | _,_,.tup h t=>.tup (h.keeps e.tup) (DFs.kp e t)
 | _,_,.lst h t=>.lst (h.kp e) (DFs.kp e t)
 | _,_,.dct h t=>.dct (e.frz _ _ _ h) (DFt.kp e t)
 | _,_,.exc h n t=>.exc (h.kp e) n (DFf.kp e t)
 | _,_,.obj h n t=>.obj (e.frz _ _ _ h) n (DFf.kp e t)
theorem DFs.kp{K:qc}{H H':Hp}(e:Kp H H'):∀ {v:List V} {d:List D},DFs K H v d->DFs K H' v d
 | _,_,.nil=>.nil
 | _,_,.cons h t=>.cons (DF.kp e h) (DFs.kp e t)
theorem DFt.kp{K:qc}{H H':Hp}(e:Kp H H'):∀ {v:List (List Key×V)} {d:List (D×D)},DFt K H v d->DFt K H' v d
 | _,_,.nil=>.nil
 | _,_,.cons h t=>.cons (DF.kp e h) (DFt.kp e t)
theorem DFf.kp{K:qc}{H H':Hp}(e:Kp H H'):∀ {v:List (Str×V)} {d:List (D×D)},DFf K H v d->DFf K H' v d
 | _,_,.nil=>.nil
 | _,_,.cons h t=>.cons (DF.kp e h) (DFf.kp e t)
end
section
variable {K:qc} {H:Hp}
theorem DFs.snoc{v:V}{d:D}(h:DF K H v d):∀ {vs:List V} {ds:List D},DFs K H vs ds->DFs K H (vs++[v]) (ds++[d])
 | _,_,.nil=>.cons h .nil
 | _,_,.cons a t=>.cons a (DFs.snoc h t)
theorem DFs.app:∀ {vs ws:List V} {ds es:List D},DFs K H vs ds->DFs K H ws es->DFs K H (vs++ws) (ds++es)
 | _,_,_,_,.nil,q=>q
 | _,_,_,_,.cons a t,q=>.cons a (DFs.app t q)
theorem DFs.len:∀ {vs:List V} {ds:List D},DFs K H vs ds->vs.length=ds.length
 | _,_,.nil=>rfl
 | _,_,.cons _ t=>congrArg (·+1) (DFs.len t)
theorem DFs.get:∀ {vs:List V} {ds:List D} {i:Nat} {d:D},DFs K H vs ds->ds[i]?=some d->∃ v,vs[i]?=some v/\DF K H v d
 | _,_,0,_,.cons h _,e=>by
  cases(show some _=some _ from e);exact⟨_,rfl,h⟩
 | _,_,i+1,_,.cons _ t,e=>DFs.get (i:=i) t e
 | _,_,0,_,.nil,e=>by cases e
 | _,_,_+1,_,.nil,e=>by cases e
theorem DFs.take:∀ {vs:List V} {ds:List D} (n:Nat),DFs K H vs ds->DFs K H (vs.take n) (ds.take n)
 | _,_,0,_=>by simpa using DFs.nil
 | _,_,n+1,.nil=>by simpa using DFs.nil
 | _,_,n+1,.cons h t=>.cons h (DFs.take n t)
theorem DFs.drop:∀ {vs:List V} {ds:List D} (n:Nat),DFs K H vs ds->DFs K H (vs.drop n) (ds.drop n)
 | _,_,0,q=>q
 | _,_,n+1,.nil=>by simpa using DFs.nil
 | _,_,n+1,.cons h t=>DFs.drop n t
theorem DFs.set{v:V}{d:D}(h:DF K H v d):∀ {vs:List V} {ds:List D} (n:Nat),DFs K H vs ds->DFs K H (vs.set n v) (ds.set n d)
 | _,_,_,.nil=>.nil
 | _,_,0,.cons _ t=>.cons h t
 | _,_,n+1,.cons a t=>.cons a (DFs.set h n t)
end
inductive PU where
 | d (x:D) | l (xs:List D) | t (kvs:List (List Key×D)) | x (kvs:List (List K3×D))
inductive U where
 | d (x:D)
 | l (xs:List D) | t (kvs:List (List Key×D)) | k (kvs:List (Key×D))
 | o (c:Str) (fs:List (Str×PU))
def U.own:U->Bool
 | .d _=>false
 | _=>true
def KVd{κ:Type}(K:qc)(H:Hp):List (κ×V)->List (κ×D)->Prop:=Paired fun p q=>p.1=q.1/\DF K H p.2 q.2
def chn(C dx:Addr)(vs:List (Str×V)):List (Addr×HO)->HO
 | []=>.ins C dx vs
 | (b,p)::r=>.sub b p (chn C dx vs r)
inductive FO (K:qc) (H:Hp):List (Str×V)->List (Addr×HO)->List (Str×PU)->Prop
 | nil:FO K H [] [] []
 | d {n:Str} {v:V} {x:D} {vs:List (Str×V)} {ps:List (Addr×HO)} {fs:List (Str×PU)} (h:DF K H v x) (t:FO K H vs ps fs):FO K H ((n,v)::vs) ps ((n,.d x)::fs)
 | l {n:Str} {b:Addr} {us:List V} {xs:List D} {vs:List (Str×V)} {ps:List (Addr×HO)} {fs:List (Str×PU)} (h:DFs K H us xs) (t:FO K H vs ps fs):FO K H ((n,.ref b)::vs) ((b,.lst us)::ps) ((n,.l xs)::fs)
 | t {n:Str} {b:Addr} {us:List (List Key×V)} {xs:List (List Key×D)} {vs:List (Str×V)} {ps:List (Addr×HO)} {fs:List (Str×PU)} (h:KVd K H us xs) (t:FO K H vs ps fs):FO K H ((n,.ref b)::vs) ((b,.dT us)::ps) ((n,.t xs)::fs)
 | x {n:Str} {b:Addr} {us:List (List K3×V)} {xs:List (List K3×D)} {vs:List (Str×V)} {ps:List (Addr×HO)} {fs:List (Str×PU)} (h:KVd K H us xs) (t:FO K H vs ps fs):FO K H ((n,.ref b)::vs) ((b,.dX us)::ps) ((n,.x xs)::fs)
def Rp(K:qc)(H:Hp)(v:V):U->Prop
 | .d x=>DF K H v x
 | .l xs=>∃ a us,v=.ref a/\H a=some (.lst us)/\DFs K H us xs
 | .t kvs=>∃ a ws,v=.ref a/\H a=some (.dT ws)/\KVd K H ws kvs
 | .k kvs=>∃ a ws,v=.ref a/\H a=some (.dK ws)/\KVd K H ws kvs
 | .o c fs=>∃ a C dx vs ps,v=.ref a/\H a=some (chn C dx vs ps)/\ps≠[]/\XN K c C/\(ps.map (·.1)).Nodup/\FO K H vs ps fs/\dx∉ps.map (·.1)/\∀ q∈ps,H q.1=some (.own a)
def Mo:HO->Prop
 | .lst _=>True
 | .dT _=>True
 | .dK _=>True
 | .sub _ _ _=>True
 | _=>False
theorem Mo.chn{C dx:Addr}{vs:List (Str×V)}{ps:List (Addr×HO)}(h:ps≠[]):Mo (chn C dx vs ps):=by
 cases ps with
 | nil=>exact absurd rfl h
 | cons p r=>trivial
theorem Rp.own{K:qc}{H:Hp}{v:V}{u:U}(h:Rp K H v u)(o:u.own=true):∃ a c,v=.ref a/\H a=some c/\Mo c:=by
 cases u with
 | d x=>cases o
 | l xs=>obtain⟨a,us,e,q,_⟩:=h; exact⟨a,_,e,q,trivial⟩
 | t xs=>obtain⟨a,us,e,q,_⟩:=h; exact⟨a,_,e,q,trivial⟩
 | k xs=>obtain⟨a,us,e,q,_⟩:=h; exact⟨a,_,e,q,trivial⟩
 | o c fs=>obtain⟨a,C,dx,vs,ps,e,q,n,_⟩:=h; exact⟨a,_,e,q,Mo.chn n⟩
theorem KVd.kp{κ:Type}{K:qc}{H H':Hp}(e:Kp H H'){ws:List (κ×V)}{kvs:List (κ×D)}(h:KVd K H ws kvs):KVd K H' ws kvs:=Paired.mapP h fun _ _ z=>⟨z.1,z.2.kp e⟩
theorem FO.kp{K:qc}{H H':Hp}(e:Kp H H'){vs:List (Str×V)}{ps:List (Addr×HO)}{fs:List (Str×PU)}(h:FO K H vs ps fs):FO K H' vs ps fs:=by
 induction h with
 | nil=>exact .nil
 | d h _ ih=>exact .d (h.kp e) ih
 | l h _ ih=>exact .l (h.kp e) ih
 | t h _ ih=>exact .t (h.kp e) ih
 | x h _ ih=>exact .x (h.kp e) ih
theorem Rp.kp{K:qc}{H H':Hp}{v:V}{u:U}(h:Rp K H v u)(e:Kp H H')(o:u.own=true->∀ a c,v=.ref a->H a=some c->H' a=some c):Rp K H' v u:=by
 cases u with
 | d x=>exact DF.kp e h
 | l xs=>obtain⟨a,us,ev,q,t⟩:=h; exact⟨a,us,ev,o rfl a _ ev q,t.kp e⟩
 | t xs=>obtain⟨a,us,ev,q,t⟩:=h; exact⟨a,us,ev,o rfl a _ ev q,t.kp e⟩
 | k xs=>obtain⟨a,us,ev,q,t⟩:=h; exact⟨a,us,ev,o rfl a _ ev q,t.kp e⟩
 | o c fs=>obtain⟨a,C,dx,vs,ps,ev,q,n,x,nd,t,d,w⟩:=h; exact⟨a,C,dx,vs,ps,ev,o rfl a _ ev q,n,x,nd,t.kp e,d,fun z hz=>e.own _ _ (w z hz)⟩
abbrev En:=List (Option U)
def Ow(ρ:En)(σ:St)(a:Addr):Prop:=∃ (i:Nat) (u:U),ρ[i]?=some (some u)/\u.own=true/\σ[i]?=some (some (.ref a))
structure Rs (K:qc) (ρ:En) (σ:St) (H:Hp):Prop where
 len:ρ.length=σ.length
 rep:∀ (i:Nat) (u:U),ρ[i]?=some (some u)->∃ v,σ[i]?=some (some v)/\Rp K H v u
 apart:∀ (i j:Nat) (u w:U),ρ[i]?=some (some u)->ρ[j]?=some (some w)->u.own=true->w.own=true->σ[i]?=σ[j]?->i=j
def Fr'(A:Addr->Prop)(H H':Hp):Prop:=∀ a o,H a=some o->¬A a->H' a=some o
structure Shr (ρ ρ':En):Prop where
 len:ρ'.length=ρ.length
 own:∀ (i:Nat) (u:U),ρ'[i]?=some (some u)->u.own=true->∃ w,ρ[i]?=some (some w)/\w.own=true
 live:∀ (i:Nat) (u:U),ρ[i]?=some (some u)->∃ w,ρ'[i]?=some (some w)
def Nw(H:Hp)(v:V)(u:U):Prop:=u.own=true->∃ a,v=.ref a/\H a=none
structure Go (K:qc) (ρ:En) (σ:St) (H:Hp) (ρ':En) (H':Hp):Prop where
 rs:Rs K ρ' σ H'
 fr:Fr' (Ow ρ σ) H H'
 shr:Shr ρ ρ'
 dm:∀ a,H' a=none->H a=none
section
variable {K:qc} {ρ ρ' ρ'':En} {σ:St} {H H' H'':Hp} {a:Addr}
theorem Rs.ow(r:Rs K ρ σ H)(o:Ow ρ σ a):∃ c,H a=some c/\Mo c:=by
 obtain⟨i,u,e,ou,es⟩:=o;obtain⟨v,ev,p⟩:=r.rep i u e;rw [es]at ev;cases ev;obtain⟨b,c,eb,q,m⟩:=p.own ou;cases eb;exact⟨c,q,m⟩
theorem Fr'.kp(r:Rs K ρ σ H)(f:Fr' (Ow ρ σ) H H'):Kp H H':=by
 refine⟨fun b xs h=>f b _ h fun o=>?_,fun b ob u h=>f b _ h fun o=>?_,fun b x h=>f b _ h fun o=>?_⟩
 all_goals
  obtain⟨c,q,m⟩:=r.ow o;rw [h]at q;cases q;exact m
theorem Shr.refl(ρ:En):Shr ρ ρ:=⟨rfl,fun i u e o=>⟨u,e,o⟩,fun i u e=>⟨u,e⟩⟩
theorem Shr.trans(a:Shr ρ ρ')(b:Shr ρ' ρ''):Shr ρ ρ'':=⟨b.1.trans a.1,fun i u e o=>let ⟨w,e',o'⟩:=b.2 i u e o; a.2 i w e' o',fun i u e=>let ⟨w,e'⟩:=a.3 i u e; b.3 i w e'⟩
theorem Shr.ow(s:Shr ρ ρ')(o:Ow ρ' σ a):Ow ρ σ a:=by
 obtain⟨i,u,e,ou,es⟩:=o;obtain⟨w,e',o'⟩:=s.2 i u e ou;exact⟨i,w,e',o',es⟩
theorem Go.refl(r:Rs K ρ σ H):Go K ρ σ H ρ H:=⟨r,fun _ _ h _=>h,Shr.refl _,fun _ h=>h⟩
theorem Go.trans(a:Go K ρ σ H ρ' H')(b:Go K ρ' σ H' ρ'' H''):Go K ρ σ H ρ'' H'' :=
 ⟨b.rs,fun c o h n=>b.fr c o (a.fr c o h n) fun z=>n (a.shr.ow z),a.shr.trans b.shr,fun c h=>a.dm c (b.dm c h)⟩
theorem Go.kp(r:Rs K ρ σ H)(g:Go K ρ σ H ρ' H'):Kp H H':=g.fr.kp r
theorem Go.stay{v:V}{u:U}(r:Rs K ρ σ H)(g:Go K ρ σ H ρ' H')(h:Rp K H v u)(n:u.own=true->∃ a,v=.ref a/\¬Ow ρ σ a):Rp K H' v u:=by
 refine h.kp (g.kp r) fun o a c ev q=>?_;obtain⟨b,eb,nb⟩:=n o;cases ev;cases eb;exact g.fr _ _ q nb
theorem Nw.out{v:V}{u:U}(r:Rs K ρ σ H)(n:Nw H v u):u.own=true->∃ a,v=.ref a/\¬Ow ρ σ a:=fun o=>by
 obtain⟨a,e,h⟩:=n o;refine⟨a,e,fun z=>?_⟩;obtain⟨c,q,_⟩:=r.ow z;rw [h]at q;cases q
theorem zba.dm(s:zba H H'):∀ a,H' a=none->H a=none:=fun a h=>by
 cases e:H a with
 | none=>rfl
 | some o=>rw [s a o e]at h; cases h
theorem Go.grow(r:Rs K ρ σ H)(s:zba H H'):Go K ρ σ H ρ H' :=
 ⟨⟨r.len,fun i u e=>let ⟨v,ev,p⟩:=r.rep i u e; ⟨v,ev,p.kp s.kp fun _ a c _ q=>s a c q⟩,r.apart⟩,fun a o h _=>s a o h,Shr.refl _,s.dm⟩
end
inductive Ar where
 | s (i:Nat) | u (x:U)
def Ar.get(ρ:En):Ar->Option U
 | .s i=>(ρ[i]?).join
 | .u x=>some x
def zfD(K:qc)(ρ:En)(σ:St)(H H':Hp)(v:V):Ar->Prop
 | .s i=>σ[i]?=some (some v)/\∃ u,ρ[i]?=some (some u)
 | .u x=>Rp K H' v x/\Nw H v x
abbrev ME:=En->Option (Ar×En)
abbrev MA:=En->Option (List Ar×En)
abbrev MT:=En->Option (Bool×En)
def VE(K:qc)(t:TE)(m:ME):Prop :=
 ∀ (ρ:En) (σ:St) (H:Hp) (a:Ar) (ρ':En) (Q:VK),Rs K ρ σ H->m ρ=some (a,ρ')->(∀ v H',Go K ρ σ H ρ' H'->zfD K ρ' σ H H' v a->Q v H')->t σ H Q
def VT(K:qc)(t:TT)(m:MT):Prop :=
 ∀ (ρ:En) (σ:St) (H:Hp) (b:Bool) (ρ':En) (Q:Bool->Hp->Prop),Rs K ρ σ H->m ρ=some (b,ρ')->(∀ H',Go K ρ σ H ρ' H'->Q b H')->t σ H Q
structure ArS (K:qc) (ρ:En) (σ:St) (H H':Hp) (vs:List V) (as:List Ar):Prop where
 len:vs.length=as.length
 ar:∀ (i:Nat) (a:Ar),as[i]?=some a->∃ v,vs[i]?=some v/\zfD K ρ σ H H' v a
 ap:∀ (i j:Nat) (x y:U),as[i]?=some (.u x)->as[j]?=some (.u y)->x.own=true->y.own=true->vs[i]?=vs[j]?->i=j
def VAs(K:qc)(t:TA)(m:MA):Prop :=
 ∀ (ρ:En) (σ:St) (H:Hp) (as:List Ar) (ρ':En) (Q:List V->Hp->Prop),Rs K ρ σ H->m ρ=some (as,ρ')->(∀ vs H',Go K ρ σ H ρ' H'->ArS K ρ' σ H H' vs as->Q vs H')->t σ H Q
section
variable {K:qc} {ρ ρ' ρ'':En} {σ:St} {H H' H'':Hp} {v:V} {a:Ar} {u:U}
theorem Nw.mono(n:Nw H' v u)(h:∀ a,H' a=none->H a=none):Nw H v u:=fun o=>let ⟨a,e,q⟩:=n o; ⟨a,e,h a q⟩
theorem Nw.out'(r:Rs K ρ σ H)(g:Go K ρ σ H ρ' H')(n:Nw H v u):u.own=true->∃ a,v=.ref a/\¬Ow ρ' σ a:=fun o=>by
 obtain⟨b,e,q⟩:=n.out r o;exact⟨b,e,fun z=>q (g.shr.ow z)⟩
theorem zfD.later(r:Rs K ρ σ H)(g1:Go K ρ σ H ρ' H')(g2:Go K ρ' σ H' ρ'' H'')(h:zfD K ρ' σ H H' v a)(e:a.get ρ''=some u):Rp K H'' v u:=by
 cases a with
 | s i =>
  obtain⟨es,_⟩:=h;have e':ρ''[i]?=some (some u):=by
   cases q:ρ''[i]? with
   | none=>rw [show Ar.get ρ'' (.s i)=(ρ''[i]?).join from rfl,q]at e; cases e
   | some o =>
    rw [show Ar.get ρ'' (.s i)=(ρ''[i]?).join from rfl,q]at e;cases o with
    | none=>cases e
    | some x=>cases e; rfl
  obtain⟨w,ew,p⟩:=g2.rs.rep i u e';rw [es]at ew;cases ew;exact p
 | u x =>
  cases(show some x=some u from e);exact g2.stay g1.rs h.1 (h.2.out' r g1)
theorem zfD.now(r:Rs K ρ σ H)(g1:Go K ρ σ H ρ' H')(h:zfD K ρ' σ H H' v a)(e:a.get ρ'=some u):Rp K H' v u:=h.later r g1 (Go.refl g1.rs) e
theorem Nw.data{x:D}:Nw H v (.d x):=fun o=>by cases o
def zk(i:Nat):ME:=fun ρ=>match ρ[i]? with
 | some (some _)=>some (.s i,ρ)
 | _=>none
theorem zj{i:Nat}:VE K (zbF i) (zk i):=by
 intro ρ σ H a ρ' Q r e q;unfold zk at e;split at e
 ·rename_i u eu
  cases e;obtain⟨v,ev,p⟩:=r.rep i u eu;exact⟨v,ev,q v H (Go.refl r) ⟨ev,u,eu⟩⟩
 ·cases e
def mC(x:D):ME:=fun ρ=>some (.u (.d x),ρ)
theorem v_c{c:V}{x:D}(h:∀ H,DF K H c x):VE K (tC c) (mC x):=by
 intro ρ σ H a ρ' Q r e q;cases e;exact q _ _ (Go.refl r) ⟨h H,Nw.data⟩
theorem zn{n:Int}:VE K (tC (.int n)) (mC (.int n)):=v_c fun _=>.int n
theorem zfE{n:Str}:VE K (tC (.str n)) (mC (.str n)):=v_c fun _=>.str n
theorem zqt{n:Bool}:VE K (tC (.bl n)) (mC (.bool n)):=v_c fun _=>.bl n
theorem zdM:VE K (tC .non) (mC .none):=v_c fun _=>.non
def VO(K:qc)(r:R2)(f:U->U->Option U):Prop :=
 ∀ (x y:V) (a b u:U) (H:Hp) (Q:VK),Rp K H x a->Rp K H y b->f a b=some u->(∀ v H',zba H H'->Rp K H' v u->Nw H v u->Q v H')->r x y H Q
def mOp(f:U->U->Option U)(ma mb:ME):ME:=fun ρ=>(ma ρ).bind fun p=>(mb p.2).bind fun q=>(p.1.get q.2).bind fun x=>(q.1.get q.2).bind fun y=>(f x y).bind fun u=>some (.u u,q.2)
theorem zd{α β:Type}{o:Option α}{f:α->Option β}{b:β}(h:o.bind f=some b):∃ a,o=some a/\f a=some b:=Option.bind_eq_some_iff.mp h
theorem zy{r:R2}{f:U->U->Option U}{ta tb:TE}{ma mb:ME}(h:VO K r f)(ha:VE K ta ma)(hb:VE K tb mb):VE K (tOp r ta tb) (mOp f ma mb):=by
 intro ρ σ H a ρ' Q rs e q;obtain⟨⟨a1,ρ1⟩,e1,e⟩:=zd e;obtain⟨⟨b1,ρ2⟩,e2,e⟩:=zd e;obtain⟨x,ex,e⟩:=zd e;obtain⟨y,ey,e⟩:=zd e;obtain⟨u,eu,e⟩:=zd e;cases e;refine ha ρ σ H a1 ρ1 _ rs e1 fun v1 H1 g1 k1=>hb ρ1 σ H1 b1 ρ2 _ g1.rs e2 fun v2 H2 g2 k2=>?_;refine h _ _ x y u H2 _ (k1.later rs g1 g2 ex) (k2.now g1.rs g2 ey) eu fun v H3 s p n=>?_;exact q v H3 ((g1.trans g2).trans (Go.grow g2.rs s)) ⟨p,n.mono (g1.trans g2).dm⟩
def VU(K:qc)(r:V->Hp->VK->Prop)(f:U->Option U):Prop :=
 ∀ (x:V) (a u:U) (H:Hp) (Q:VK),Rp K H x a->f a=some u->(∀ v H',zba H H'->Rp K H' v u->Nw H v u->Q v H')->r x H Q
def mUn(f:U->Option U)(ma:ME):ME:=fun ρ=>(ma ρ).bind fun p=>(p.1.get p.2).bind fun x=>(f x).bind fun u=>some (.u u,p.2)
theorem zhi{r:V->Hp->VK->Prop}{f:U->Option U}{ta:TE}{ma:ME}(h:VU K r f)(ha:VE K ta ma):VE K (tUn r ta) (mUn f ma):=by
 intro ρ σ H a ρ' Q rs e q;obtain⟨⟨a1,ρ1⟩,e1,e⟩:=zd e;obtain⟨x,ex,e⟩:=zd e;obtain⟨u,eu,e⟩:=zd e;cases e;refine ha ρ σ H a1 ρ1 _ rs e1 fun v1 H1 g1 k1=>?_;refine h _ x u H1 _ (k1.now rs g1 ex) eu fun v H3 s p n=>?_;exact q v H3 (g1.trans (Go.grow g1.rs s)) ⟨p,n.mono g1.dm⟩
def zt:MA:=fun ρ=>some ([],ρ)
def zf(me:ME)(ma:MA):MA:=fun ρ=>(me ρ).bind fun p=>(ma p.2).bind fun q=>some (p.1::q.1,q.2)
theorem zm:VAs K zef zt:=by
 intro ρ σ H as ρ' Q r e q;cases e;exact q [] H (Go.refl r) ⟨rfl,fun i a e=>by simp at e,fun i j x y e=>by simp at e⟩
theorem ze{te:TE}{t:TA}{me:ME}{ma:MA}(he:VE K te me)(ha:VAs K t ma):VAs K (zcs te t) (zf me ma):=by
 intro ρ σ H as ρ' Q r e q;obtain⟨⟨a1,ρ1⟩,e1,e⟩:=zd e;obtain⟨⟨as2,ρ2⟩,e2,e⟩:=zd e;cases e;refine he ρ σ H a1 ρ1 _ r e1 fun v1 H1 g1 k1=>ha ρ1 σ H1 as2 _ _ g1.rs e2 fun vs H2 g2 s2=>?_;have own1:∀ x,a1=.u x->x.own=true->∃ b c,v1=.ref b/\H1 b=some c:=fun x ea o=>by
  subst ea;obtain⟨b,c,eb,hb,_⟩:=k1.1.own o;exact⟨b,c,eb,hb⟩
 have oth:∀ (j:Nat) (y:U),as2[j]?=some (.u y)->y.own=true->∃ b,vs[j]?=some (.ref b)/\H1 b=none:=fun j y ej o=>by
  obtain⟨v,ev,k⟩:=s2.ar j _ ej;obtain⟨b,eb,hb⟩:=k.2 o;subst eb;exact⟨b,ev,hb⟩
 have ne:∀ (x:U) (j:Nat) (y:U),a1=.u x->x.own=true->as2[j]?=some (.u y)->y.own=true->some v1≠vs[j]?:=fun x j y ea ox ej oy z=>by
  obtain⟨b,c,e1,h1⟩:=own1 x ea ox;obtain⟨b',e2,h2⟩:=oth j y ej oy;rw [e2,e1]at z;cases z;rw [h1]at h2;cases h2
 refine q (v1::vs) H2 (g1.trans g2) ⟨by simp [s2.len],fun i a ei=>?_,fun i j x y ei ej ox oy ev=>?_⟩
 ·cases i with
  | zero =>
   cases(show some a1=some a from ei);refine⟨v1,rfl,?_⟩;cases a1 with
   | s k =>
    obtain⟨es,w,ew⟩:=k1;exact⟨es,g2.shr.live k w ew⟩
   | u x=>exact⟨g2.stay g1.rs k1.1 (k1.2.out' r g1),k1.2⟩
  | succ i =>
   obtain⟨v,ev,k⟩:=s2.ar i a ei;refine⟨v,ev,?_⟩;cases a with
   | s k'=>exact k
   | u x=>exact⟨k.1,k.2.mono g1.dm⟩
 ·cases i with
  | zero =>
   cases j with
   | zero=>rfl
   | succ j=>exact absurd ev (ne x j y (qx ei) ox ej oy)
  | succ i =>
   cases j with
   | zero=>exact absurd ev.symm (ne y i x (qx ej) oy ei ox)
   | succ j=>exact congrArg (·+1) (s2.ap i j x y ei ej ox oy ev)
end
end L2
namespace L2
open PySem PySem.Spec PyProof.Rows
open Classical in
noncomputable def fIC(c:Int->Int->Prop)(g:Int->Int->D):U->U->Option U
 | .d (.int i),.d (.int j)=>if c i j then some (.d (g i j))else none
 | _,_=>none
def fI(g:Int->Int->D):U->U->Option U
 | .d (.int i),.d (.int j)=>some (.d (g i j))
 | _,_=>none
section
variable {K:qc}
theorem DF.int_inv{H:Hp}{v:V}{i:Int}(h:DF K H v (.int i)):v=.int i:=by cases h; rfl
theorem DF.str_inv{H:Hp}{v:V}{x:Str}(h:DF K H v (.str x)):v=.str x:=by cases h; rfl
theorem DF.bl_inv{H:Hp}{v:V}{b:Bool}(h:DF K H v (.bool b)):v=.bl b:=by cases h; rfl
theorem DF.tup_inv{H:Hp}{v:V}{ds:List D}(h:DF K H v (.tuple ds)):∃ a xs,v=.ref a/\TpK K H a xs/\DFs K H xs ds:=by cases h with | tup h t=>exact⟨_,_,rfl,h,t⟩
theorem DF.lst_inv{H:Hp}{v:V}{ds:List D}(h:DF K H v (.list ds)):∃ a xs,v=.ref a/\PL K H a xs/\DFs K H xs ds:=by cases h with | lst h t=>exact⟨_,_,rfl,h,t⟩
theorem DF.dct_inv{H:Hp}{v:V}{ds:List (D×D)}(h:DF K H v (.dict ds))(nx:noX ds=true):∃ a o ws,v=.ref a/\H a=some (.frz o (.dT ws))/\DFt K H ws ds:=by
 cases h with
 | dct h t=>exact⟨_,_,_,rfl,h,t⟩
 | exc h n t=>cases nx
 | obj h n t=>cases nx
theorem zkj{c:Int->Int->Prop}{g:Int->Int->V}{gd:Int->Int->D}(h:∀ i j H,DF K H (g i j) (gd i j)):VO K (rI c g) (fIC c gd):=by
 intro x y a b u H Q ha hb e q;unfold fIC at e;split at e
 ·rename_i i j
  split at e
  ·rename_i hc
   cases e;exact⟨i,j,DF.int_inv ha,DF.int_inv hb,hc,q _ _ (fun _ _ z=>z) (h i j H) Nw.data⟩
  ·cases e
 ·cases e
theorem znm{g:Int->Int->V}{gd:Int->Int->D}(h:∀ i j H,DF K H (g i j) (gd i j)):VO K (rI0 g) (fI gd):=by
 intro x y a b u H Q ha hb e q;unfold fI at e;split at e
 ·rename_i i j
  cases e;exact⟨i,j,DF.int_inv ha,DF.int_inv hb,q _ _ (fun _ _ z=>z) (h i j H) Nw.data⟩
 ·cases e
def zcd:=fI fun i j=>.int (i+j)
def zhj:=fI fun i j=>.int (i - j)
noncomputable def zce:=fIC zlR fun i j=>.int (i * j)
noncomputable def zfF:=fIC (fun _ j=>0 < j) fun i j=>.int (i % j)
noncomputable def zil:=fIC zig fun i j=>.int (i / j)
noncomputable def zqu:=fIC zp5 fun i j=>.int (i^j.toNat)
def fLt:=fI fun i j=>.bool (decide (i < j))
def fGt:=fI fun i j=>.bool (decide (j < i))
def fGe:=fI fun i j=>.bool (decide (j<=i))
theorem zaC:VO K (rI0 fun i j=>.int (i+j)) zcd:=znm fun i j H=>.int _
theorem zdw:VO K (rI0 fun i j=>.int (i - j)) zhj:=znm fun i j H=>.int _
theorem zaX:VO K (rI zlR fun i j=>.int (i * j)) zce:=zkj fun i j H=>.int _
theorem zcR:VO K (rI (fun _ j=>0 < j) fun i j=>.int (i % j)) zfF:=zkj fun i j H=>.int _
theorem zkk:VO K (rI zig fun i j=>.int (i / j)) zil:=zkj fun i j H=>.int _
theorem ztM:VO K (rI zp5 fun i j=>.int (i^j.toNat)) zqu:=zkj fun i j H=>.int _
theorem zvG:VO K (rI0 fun i j=>.bl (decide (i < j))) fLt:=znm fun i j H=>.bl _
theorem zkl:VO K (rI0 fun i j=>.bl (decide (j < i))) fGt:=znm fun i j H=>.bl _
theorem zrC:VO K (rI0 fun i j=>.bl (decide (j<=i))) fGe:=znm fun i j H=>.bl _
def zeY:U->Option U
 | .d (.int i)=>some (.d (.int (-i)))
 | _=>none
theorem zcm:VU K (rU fun i=>.int (-i)) zeY:=by
 intro x a u H Q ha e q;unfold zeY at e;split at e
 ·rename_i i
  cases e;exact⟨i,DF.int_inv ha,q _ _ (fun _ _ z=>z) (.int _) Nw.data⟩
 ·cases e
def U.py:U->Option D
 | .d x=>some x
 | .l xs=>some (.list xs)
 | _=>none
mutual
theorem DF.dv{H:Hp}:∀ {v:V} {d:D},DF K H v d->d.hasDict=false->DV K H v d
 | _,_,.non,_=>.non
 | _,_,.bl b,_=>.bl b
 | _,_,.int i,_=>.int i
 | _,_,.str x,_=>.str x
 | _,_,.tup h t,q=>.tup ((TpK.sq h)) (DFs.dv t (by simpa [PyData.hasDict] using q))
 | _,_,.lst h t,q=>.lst h.sq (DFs.dv t (by simpa [PyData.hasDict] using q))
 | _,_,.dct h t,q=>by simp [PyData.hasDict]at q
 | _,_,.exc h n t,q=>by simp [PyData.hasDict]at q
 | _,_,.obj h n t,q=>by simp [PyData.hasDict]at q
theorem DFs.dv{H:Hp}:∀ {v:List V} {d:List D},DFs K H v d->PyData.hasDictAll d=false->DVs K H v d
 | _,_,.nil,_=>.nil
 | _,_,.cons h t,q=>by
  simp only [PyData.hasDictAll,Bool.or_eq_false_iff]at q;exact .cons (DF.dv h q.1) (DFs.dv t q.2)
end
theorem Rp.dv{H:Hp}{v:V}{u:U}{x:D}(h:Rp K H v u)(e:u.py=some x)(q:x.hasDict=false):DV K H v x:=by
 cases u with
 | d y=>cases e; exact DF.dv h q
 | l xs =>
  cases e;obtain⟨a,us,rfl,h1,h2⟩:=h;exact .lst (SqL.of h1) (DFs.dv h2 (by simpa [PyData.hasDict] using q))
 | t=>cases e
 | k=>cases e
 | o=>cases e
mutual
theorem zdx:∀ (x:D),x.canLay0=true->x.hasDict=false
 | .none,_=>rfl
 | .bool _,_=>rfl
 | .int _,_=>rfl
 | .str _,_=>rfl
 | .list xs,h=>by simp only [PyData.hasDict]; exact hasDictAll_of xs (by simpa [PyData.canLay0] using h)
 | .tuple xs,h=>by simp only [PyData.hasDict]; exact hasDictAll_of xs (by simpa [PyData.canLay0] using h)
 | .dict _,h=>by simp [PyData.canLay0]at h
theorem hasDictAll_of:∀ (xs:List D),PyData.canLayAll0 xs=true->PyData.hasDictAll xs=false
 | [],_=>rfl
 | x::xs,h=>by
  simp only [PyData.canLayAll0,Bool.and_eq_true]at h;simp only [PyData.hasDictAll,zdx x h.1,hasDictAll_of xs h.2];rfl
end
def ztN(K:qc)(neg:Bool):R2:=fun x y H Q=>∃ a b,DV K H x a/\DV K H y b/\SeqAt.shaped a=true/\SeqAt.shaped b=true/\Q (.bl (if neg=true then !PyData.eqv a b else PyData.eqv a b)) H
theorem ztO{X:Cx}(K:qc)(hK:X.K=K){k:Nat}(hr:Room k X.A):OpR X (compareOp .Eq) (ztN K false):=by
 subst hK;intro pins s σ H x y v u Q I rx ry h;obtain⟨a,b,da,db,sa,sb,q⟩:=h;obtain⟨as,ra⟩:=DV.reads I da rx;obtain⟨bs,rb⟩:=DV.reads I db ry;exact SeqAt.compareEq_shaped ra rb sa sb hr.units ⟨.bl _,H,I,rfl,q⟩
theorem ztP{X:Cx}(K:qc)(hK:X.K=K){k:Nat}(hr:Room k X.A):OpR X (compareOp .NotEq) (ztN K true):=by
 subst hK;intro pins s σ H x y v u Q I rx ry h;obtain⟨a,b,da,db,sa,sb,q⟩:=h;obtain⟨as,ra⟩:=DV.reads I da rx;obtain⟨bs,rb⟩:=DV.reads I db ry;exact SeqAt.compareNe_shaped ra rb sa sb hr.units ⟨.bl _,H,I,rfl,q⟩
def zim(neg:Bool)(a b:U):Option U:=a.py.bind fun x=>b.py.bind fun y=>if SeqAt.shaped x=true/\SeqAt.shaped y=true then some (.d (.bool (if neg=true then !PyData.eqv x y else PyData.eqv x y)))else none
theorem znn(neg:Bool):VO K (ztN K neg) (zim neg):=by
 intro x y a b u H Q ha hb e q;obtain⟨dx,ex,e⟩:=zd e;obtain⟨dy,ey,e⟩:=zd e;split at e
 ·rename_i hs
  cases e;exact⟨dx,dy,ha.dv ex (zdx _ (SeqAt.canLay_of_shaped hs.1)),hb.dv ey (zdx _ (SeqAt.canLay_of_shaped hs.2)),hs.1,hs.2,q _ _ (fun _ _ z=>z) (.bl _) Nw.data⟩
 ·cases e
theorem DFs.atI{H:Hp}{xs:List V}{ds:List D}{i:Int}{d:D}(h:DFs K H xs ds)(e:L2.atI ds i=some d):∃ v,L2.atI xs i=some v/\DF K H v d:=by
 unfold L2.atI at e ⊢;obtain⟨j,ej,e⟩:=zd e;obtain⟨v,ev,k⟩:=h.get e;refine⟨v,?_,k⟩;rw [h.len,ej];exact ev
def zaS:U->U->Option U
 | .l ds,.d (.int i)=>(atI ds i).map .d
 | .d (.list ds),.d (.int i)=>(atI ds i).map .d
 | _,_=>none
def zin:U->U->Option U
 | .d (.tuple ds),.d (.int i)=>(atI ds i).map .d
 | _,_=>none
theorem zac:VO K (ztx K) zaS:=by
 intro x y a b u H Q ha hb e q;unfold zaS at e;split at e
 ·rename_i ds i
  obtain⟨d,ed,rfl⟩:=qr.mp e;obtain⟨p,us,rfl,h1,h2⟩:=ha;obtain⟨v,ev,k⟩:=h2.atI ed;exact⟨p,us,i,v,rfl,DF.int_inv hb,SqL.of h1,ev,q _ _ (fun _ _ z=>z) k Nw.data⟩
 ·rename_i ds i
  obtain⟨d,ed,rfl⟩:=qr.mp e;obtain⟨p,us,rfl,h1,h2⟩:=DF.lst_inv ha;obtain⟨v,ev,k⟩:=h2.atI ed;exact⟨p,us,i,v,rfl,DF.int_inv hb,h1.sq,ev,q _ _ (fun _ _ z=>z) k Nw.data⟩
 ·cases e
theorem zfG:VO K (zty K) zin:=by
 intro x y a b u H Q ha hb e q;unfold zin at e;split at e
 ·rename_i ds i
  obtain⟨d,ed,rfl⟩:=qr.mp e;obtain⟨p,us,rfl,h1,h2⟩:=DF.tup_inv ha;obtain⟨v,ev,k⟩:=h2.atI ed;exact⟨p,us,i,v,rfl,DF.int_inv hb,(TpK.sq h1),ev,q _ _ (fun _ _ z=>z) k Nw.data⟩
 ·cases e
end
end L2
namespace L2
open PySem PySem.Spec PyProof.Rows
section
variable {K:qc} {ρ ρ':En} {σ:St} {H H':Hp}
theorem zbc{a:Addr}{c:HO}(h:H a=some c)(m:Mo c)(o:HO):Kp H (upd H a o):=by
 refine⟨fun b xs e=>?_,fun b ob u e=>?_,fun b x e=>?_⟩
 all_goals
  rw [zq (zfp e h (by rintro rfl; exact m))];exact e
theorem Go.own{i:Nat}{u u':U}{a:Addr}{o:HO}(r:Rs K ρ σ H)(e:ρ[i]?=some (some u))(ou:u.own=true)(es:σ[i]?=some (some (.ref a)))(p:Rp K (upd H a o) (.ref a) u'):Go K ρ σ H (ρ.set i (some u')) (upd H a o):=by
 have hi:i < ρ.length:=(qk.mp e).1;obtain⟨c,hc,mc⟩:=r.ow ⟨i,u,e,ou,es⟩;have kp:=zbc hc mc o;refine⟨⟨by rw [List.length_set]; exact r.len,fun j w ej=>?_,fun j k w w' ej ek oj ok es'=>?_⟩,fun b ob hb n=>?_,⟨List.length_set,fun j w ej oj=>?_,fun j w ej=>?_⟩,fun b hb=>?_⟩
 ·by_cases hj:i=j
  ·subst hj
   rw [List.getElem?_set_self hi]at ej;cases ej;exact⟨_,es,p⟩
  ·rw [qC hj]at ej
   obtain⟨v,ev,q⟩:=r.rep j w ej;refine⟨v,ev,q.kp kp fun ow b c' eb hb=>?_⟩;have ne:b≠a:=by
    rintro rfl;exact hj (r.apart i j u w e ej ou ow (by rw [es,ev,eb]))
   rw [zq ne];exact hb
 ·have own:∀ (j:Nat) (w:U),(ρ.set i (some u'))[j]?=some (some w)->w.own=true->∃ w',ρ[j]?=some (some w')/\w'.own=true:=fun j w ej oj=>by
   by_cases hj:i=j
   ·subst hj; exact⟨u,e,ou⟩
   ·rw [qC hj]at ej; exact⟨w,ej,oj⟩
  obtain⟨x,ex,ox⟩:=own j w ej oj;obtain⟨y,ey,oy⟩:=own k w' ek ok;exact r.apart j k x y ex ey ox oy es'
 ·have ne:b≠a:=by
   rintro rfl;exact n ⟨i,u,e,ou,es⟩
  rw [zq ne];exact hb
 ·by_cases hj:i=j
  ·subst hj; exact⟨u,e,ou⟩
  ·rw [qC hj]at ej; exact⟨w,ej,oj⟩
 ·by_cases hj:i=j
  ·subst hj; exact⟨u',List.getElem?_set_self hi⟩
  ·exact⟨w,by rw [qC hj]; exact ej⟩
 ·by_cases hb':b=a
  ·subst hb'; rw [zr]at hb; cases hb
  ·rw [zq hb']at hb; exact hb
theorem Rp.own_ref{v:V}{u:U}(h:Rp K H v u)(o:u.own=true):∃ a,v=.ref a:=let ⟨a,_,e,_⟩:=h.own o; ⟨a,e⟩
def Fz(K:qc)(H:Hp)(v:V)(H':Hp):Prop :=
 (∃ a xs o,v=.ref a/\K.lookup a=none/\H a=some (.lst xs)/\H'=upd H a (.frz o (.lst xs)))\/(∃ a xs o,v=.ref a/\K.lookup a=none/\H a=some (.dT xs)/\H'=upd H a (.frz o (.dT xs))) \/
  ((∀ a,v=.ref a->(∀ xs,H a≠some (.lst xs))/\∀ xs,H a≠some (.dT xs))/\H'=H)
def tFz(K:qc)(t:TE):TE:=fun σ H Q=>t σ H fun v H1=>∀ H2,Fz K H1 v H2->Q v H2
theorem Inv.freezeL{X:Cx}{pins:List (Addr×Obj)}{s:Shared}{a:Addr}{xs:List V}(I:Inv X pins σ H s)(e:H a=some (.lst xs)):∃ o,s.heap.get? a=some o/\Inv X pins σ (upd H a (.frz o (.lst xs))) s:=by
 have ok:=(show zP X.prog X.w X.K H s.heap a (.lst xs) from I.hok a _ e);obtain⟨z,its,n,r,h1⟩:=id ok;refine⟨_,h1,?_⟩;have ok2:zP X.prog X.w X.K (upd H a (.frz { cls:=.type "list",data:=.seq its.toArray n } (.lst xs))) s.heap a (.lst xs):=⟨z,its,n,r,h1⟩;exact I.write (t':=s.toks) (h':=s.heap) (by rw [e]; trivial) (.inl rfl) (fun _ _ _ q=>q) ⟨_,h1⟩ ⟨h1,ok2⟩
theorem zvH{X:Cx}{e:Expr}{t:TE}(h:PE X e t):PE X e (tFz X.K t):=by
 intro pins s σ H Q I q;refine thn (h pins s σ H _ I q) fun u s1 hZ=>?_;obtain⟨v,H1,I1,r,k⟩:=hZ;have nk:∀ a c,H1 a=some c->X.K.lookup a=none:=fun a c ea=>by
  cases q:X.K.lookup a with
  | none=>rfl
  | some o=>rw [(I1.bs a o (I1.ok.mod.kin a o q)).2]at ea; cases ea
 by_cases c1:∃ a xs,v=.ref a/\H1 a=some (.lst xs)
 ·obtain⟨a,xs,ev,ea⟩:=c1
  obtain⟨o,_,I2⟩:=I1.freezeL ea;exact⟨v,_,I2,r,k _ (.inl ⟨a,xs,o,ev,nk a _ ea,ea,rfl⟩)⟩
 ·by_cases c2:∃ a xs,v=.ref a/\H1 a=some (.dT xs)
  ·obtain⟨a,xs,ev,ea⟩:=c2
   obtain⟨o,_,I2⟩:=I1.freeze ea;exact⟨v,_,I2,r,k _ (.inr (.inl ⟨a,xs,o,ev,nk a _ ea,ea,rfl⟩))⟩
  ·exact⟨v,H1,I1,r,k _ (.inr (.inr ⟨fun a ev=>⟨fun xs z=>c1 ⟨a,xs,ev,z⟩,fun xs z=>c2 ⟨a,xs,ev,z⟩⟩,rfl⟩))⟩
theorem zbd{X:Cx}{e:Expr}{t:TE}{K:qc}(h:Wr (PE X e t))(hK:X.K=K:=by rfl):Wr (PE X e (tFz K t)):=hK▸⟨zvH h.run⟩
def U.fz:U->Option D
 | .d x=>some x
 | .l xs=>some (.list xs)
 | .t kvs=>some (.dict (kvs.map fun p=>(kTD p.1,p.2)))
 | .k _=>none
 | .o _ _=>none
def mFz(me:ME):ME:=fun ρ=>(me ρ).bind fun p=>(p.1.get p.2).bind fun u=>u.fz.bind fun x=>some (.u (.d x),match p.1 with | .s i=>p.2.set i (some (.d x)) | .u _=>p.2)
theorem ztQ{ws:List (List Key×V)}{kvs:List (List Key×D)}(h:KVd K H ws kvs):DFt K H ws (kvs.map fun p=>(kTD p.1,p.2)):=by
 induction h with
 | nil=>exact .nil
 | @cons p q ps qs hq t ih =>
  obtain⟨k,v⟩:=p;obtain⟨k',d⟩:=q;obtain⟨e,hd⟩:=hq;cases(show k=k' from e);exact .cons hd ih
theorem Fz.rp{v:V}{u:U}{x:D}(h:Fz K H v H')(p:Rp K H v u)(e:u.fz=some x):DF K H' v x/\(u.own=false->H'=H)/\(u.own=true->∃ a o,v=.ref a/\H'=upd H a o):=by
 cases u with
 | d y =>
  cases e;have k:H'=H:=by
   rcases h with ⟨a,xs,o,rfl,nk,ea,_⟩ | ⟨a,xs,o,rfl,nk,ea,_⟩ | ⟨_,rfl⟩
   ·exfalso
    cases(show DF K H _ _ from p)with
    | tup h _ =>
     rcases h with h | ⟨ob,its,n,hk,_⟩
     ·rw [ea]at h; cases h
     ·rw [nk]at hk; cases hk
    | lst h _ =>
     rcases h with ⟨o,h⟩ | ⟨ob,its,n,hk,_⟩
     ·rw [ea]at h; cases h
     ·rw [nk]at hk; cases hk
    | dct h _=>rw [ea]at h; cases h
    | exc h _ _=>obtain⟨_,h,_⟩:=h; rw [ea]at h; cases h
    | obj h _ _=>rw [ea]at h; cases h
   ·exfalso
    cases(show DF K H _ _ from p)with
    | tup h _ =>
     rcases h with h | ⟨ob,its,n,hk,_⟩
     ·rw [ea]at h; cases h
     ·rw [nk]at hk; cases hk
    | lst h _ =>
     rcases h with ⟨o,h⟩ | ⟨ob,its,n,hk,_⟩
     ·rw [ea]at h; cases h
     ·rw [nk]at hk; cases hk
    | dct h _=>rw [ea]at h; cases h
    | exc h _ _=>obtain⟨_,h,_⟩:=h; rw [ea]at h; cases h
    | obj h _ _=>rw [ea]at h; cases h
   ·rfl
  subst k;exact⟨p,fun _=>rfl,fun z=>by cases z⟩
 | l xs =>
  cases e;obtain⟨a,us,rfl,ea,ds⟩:=p;rcases h with ⟨a',xs',o,ev,_,ea',rfl⟩ | ⟨a',xs',o,ev,_,ea',_⟩ | ⟨z,_⟩
  ·cases ev
   rw [ea]at ea';cases ea';exact⟨.lst (.inl ⟨o,zr⟩) (ds.kp (zbc ea trivial _)),(fun z=>by cases z),fun _=>⟨a,_,rfl,rfl⟩⟩
  ·cases ev
   rw [ea]at ea';cases ea'
  ·exact absurd ea ((z a rfl).1 us)
 | t xs =>
  cases e;obtain⟨a,us,rfl,ea,ds⟩:=p;rcases h with ⟨a',xs',o,ev,_,ea',_⟩ | ⟨a',xs',o,ev,_,ea',rfl⟩ | ⟨z,_⟩
  ·cases ev
   rw [ea]at ea';cases ea'
  ·cases ev
   rw [ea]at ea';cases ea';exact⟨.dct zr (ztQ (ds.kp (zbc ea trivial _))),(fun z=>by cases z),fun _=>⟨a,_,rfl,rfl⟩⟩
  ·exact absurd ea ((z a rfl).2 us)
 | k xs=>cases e
 | o=>cases e
theorem zbe{t:TE}{m:ME}(h:VE K t m):VE K (tFz K t) (mFz m):=by
 intro ρ σ H a ρ' Q r e q;obtain⟨⟨b,ρ1⟩,e1,e⟩:=zd e;obtain⟨u,eu,e⟩:=zd e;obtain⟨x,ex,e⟩:=zd e;cases e;refine h ρ σ H b ρ1 _ r e1 fun v H1 g1 k1=>fun H2 fz=>?_;have p:=k1.now r g1 eu;obtain⟨d,f1,f2⟩:=fz.rp p ex;cases b with
 | s i =>
  have ei:ρ1[i]?=some (some u):=by
   have z:(ρ1[i]?).join=some u:=eu;cases q:ρ1[i]? with
   | none=>rw [q]at z; cases z
   | some o=>rw [q]at z; cases o with
    | none=>cases z
    | some w=>cases z; rfl
  have hi:i < ρ1.length:=(qk.mp ei).1
  by_cases ou:u.own=true
  ·obtain⟨a,o,rfl,rfl⟩:=f2 ou
   exact q _ _ (g1.trans (Go.own (u':=.d x) g1.rs ei ou k1.1 d)) ⟨d,Nw.data⟩
  ·have ou':u.own=false:=by simpa using ou
   cases f1 ou';cases u with
   | d y =>
    cases ex;have es:ρ1.set i (some (.d x))=ρ1:=by
     apply List.ext_getElem?;intro j
     by_cases hj:i=j
     ·subst hj; rw [List.getElem?_set_self hi,ei]
     ·rw [qC hj]
    show Q v H1;refine q v H1 ?_ ⟨d,Nw.data⟩;show Go K ρ σ H (ρ1.set i (some (.d x))) H1;rw [es];exact g1
   | l=>cases ou'
   | t=>cases ou'
   | k=>cases ou'
   | o=>cases ou'
 | u w =>
  cases(show some w=some u from eu)
  by_cases ou:u.own=true
  ·obtain⟨a,o,rfl,rfl⟩:=f2 ou
   obtain⟨a',ea',na'⟩:=k1.2 ou;cases ea';obtain⟨c,hc,mc⟩:∃ c,H1 a=some c/\Mo c:=by
    obtain⟨b,c,eb,hb,m⟩:=p.own ou;cases eb;exact⟨c,hb,m⟩
   have nw:¬Ow ρ1 σ a:=by
    obtain⟨b,eb,nb⟩:=k1.2.out' r g1 ou;cases eb;exact nb
   have kp:=zbc hc mc o;refine q _ _ ⟨⟨g1.rs.len,fun j y ej=>?_,g1.rs.apart⟩,fun b ob hb n=>?_,g1.shr,fun b hb=>?_⟩ ⟨d,Nw.data⟩
   ·obtain⟨v,ev,p'⟩:=g1.rs.rep j y ej
    refine⟨v,ev,p'.kp kp fun oy b c' eb hb=>?_⟩;have ne:b≠a:=by
     rintro rfl;subst eb;exact nw ⟨j,y,ej,oy,ev⟩
    rw [zq ne];exact hb
   ·have ne:b≠a:=by
     rintro rfl;rw [na']at hb;cases hb
    rw [zq ne];exact g1.fr b ob hb n
   ·by_cases hb':b=a
    ·subst hb'; exact na'
    ·rw [zq hb']at hb; exact g1.dm b hb
  ·have ou':u.own=false:=by simpa using ou
   cases f1 ou';exact q v H1 g1 ⟨d,Nw.data⟩
end
section
variable {K:qc} {ρ ρ':En} {σ:St} {H H':Hp}
def zao(ρ:En):List Ar->Option (List U)
 | []=>some []
 | a::as=>(a.get ρ).bind fun u=>(zao ρ as).bind fun us=>some (u::us)
def zcf:List U->Option (List D)
 | []=>some []
 | .d x::us=>(zcf us).bind fun xs=>some (x::xs)
 | _::_=>none
def RpL(K:qc)(H:Hp):List V->List U->Prop:=Paired fun v u=>Rp K H v u
theorem ztR{vs:List V}{as:List Ar}{us:List U}(len:vs.length=as.length)(h:∀ (i:Nat) (a:Ar),as[i]?=some a->∃ v,vs[i]?=some v/\∀ u,a.get ρ=some u->Rp K H v u)(e:zao ρ as=some us):RpL K H vs us:=by
 induction as generalizing vs us with
 | nil =>
  cases e;cases vs with
  | nil=>exact .nil
  | cons=>simp at len
 | cons a as ih =>
  obtain⟨u,eu,e⟩:=zd e;obtain⟨us',eus,e⟩:=zd e;cases e;cases vs with
  | nil=>simp at len
  | cons v vs =>
   obtain⟨v',ev,k⟩:=h 0 a rfl;cases(show some v=some v' from ev);exact .cons (k u eu) (ih (by simpa using len) (fun i b eb=>h (i+1) b eb) eus)
theorem ArS.rpl{vs:List V}{as:List Ar}{us:List U}(r:Rs K ρ σ H)(g:Go K ρ σ H ρ' H')(s:ArS K ρ' σ H H' vs as)(e:zao ρ' as=some us):RpL K H' vs us :=
 ztR s.len (fun i a ea=>let ⟨v,ev,k⟩:=s.ar i a ea; ⟨v,ev,fun u eu=>k.now r g eu⟩) e
theorem zno{vs:List V}{us:List U}{ds:List D}(h:RpL K H vs us)(e:zcf us=some ds):DFs K H vs ds:=by
 induction h generalizing ds with
 | nil=>cases e; exact .nil
 | @cons v u vs us hv t ih =>
  cases u with
  | d x =>
   obtain⟨xs,ex,e⟩:=zd (show(zcf us).bind (fun xs=>some (x::xs))=some ds from e);cases e;exact .cons hv (ih ex)
  | l=>cases e
  | t=>cases e
  | k=>cases e
  | o=>cases e
def zag(ma:MA):ME:=fun ρ=>(ma ρ).bind fun p=>(zao p.2 p.1).bind fun us=>(zcf us).bind fun ds=>if ds.length<=sizeLine then some (.u (.d (.tuple ds)),p.2)else none
def zbi(ma:MA):ME:=fun ρ=>(ma ρ).bind fun p=>(zao p.2 p.1).bind fun us=>(zcf us).bind fun ds=>if ds.length<=sizeLine then some (.u (.l ds),p.2)else none
theorem zT{t:TA}{m:MA}(h:VAs K t m):VE K (ztu t) (zag m):=by
 intro ρ σ H a ρ' Q r e q;obtain⟨⟨as,ρ1⟩,e1,e⟩:=zd e;obtain⟨us,eu,e⟩:=zd e;obtain⟨ds,ed,e⟩:=zd e;split at e
 ·rename_i hz
  cases e;refine h ρ σ H as _ _ r e1 fun vs H1 g1 s1=>?_;have dd:=zno (s1.rpl r g1 eu) ed;refine⟨by rw [dd.len]; exact hz,fun p hp=>?_⟩;have sm:=zC hp (.tup vs);exact q _ _ (g1.trans (Go.grow g1.rs sm)) ⟨.tup (.inl zr) (dd.kp sm.kp),Nw.data⟩
 ·cases e
theorem zam{t:TA}{m:MA}(h:VAs K t m):VE K (zqd t) (zbi m):=by
 intro ρ σ H a ρ' Q r e q;obtain⟨⟨as,ρ1⟩,e1,e⟩:=zd e;obtain⟨us,eu,e⟩:=zd e;obtain⟨ds,ed,e⟩:=zd e;split at e
 ·rename_i hz
  cases e;refine h ρ σ H as _ _ r e1 fun vs H1 g1 s1=>?_;have dd:=zno (s1.rpl r g1 eu) ed;refine⟨by rw [dd.len]; exact hz,fun p hp=>?_⟩;have sm:=zC hp (.lst vs);exact q _ _ (g1.trans (Go.grow g1.rs sm)) ⟨⟨p,_,rfl,zr,dd.kp sm.kp⟩,fun _=>⟨p,rfl,g1.dm p hp⟩⟩
 ·cases e
def VC(K:qc)(r:List V->Hp->VK->Prop)(f:List U->Option U):Prop :=
 ∀ (vs:List V) (us:List U) (u:U) (H:Hp) (Q:VK),RpL K H vs us->f us=some u->(∀ v H',zba H H'->Rp K H' v u->Nw H v u->Q v H')->r vs H Q
def mCB(f:List U->Option U)(ma:MA):ME:=fun ρ=>(ma ρ).bind fun p=>(zao p.2 p.1).bind fun us=>(f us).bind fun u=>some (.u u,p.2)
theorem zem{r:List V->Hp->VK->Prop}{f:List U->Option U}{t:TA}{m:MA}(hc:VC K r f)(h:VAs K t m):VE K (tCB r t) (mCB f m):=by
 intro ρ σ H a ρ' Q rs e q;obtain⟨⟨as,ρ1⟩,e1,e⟩:=zd e;obtain⟨us,eu,e⟩:=zd e;obtain⟨u,ef,e⟩:=zd e;cases e;refine h ρ σ H as _ _ rs e1 fun vs H1 g1 s1=>hc vs us u H1 _ (s1.rpl rs g1 eu) ef fun v H2 s p n=>?_;exact q v H2 (g1.trans (Go.grow g1.rs s)) ⟨p,n.mono g1.dm⟩
def f1(f:U->Option U):List U->Option U
 | [u]=>f u
 | _=>none
theorem zqv{r:List V->Hp->VK->Prop}{f:U->Option U}(h:∀ (v:V) (a u:U) (H:Hp) (Q:VK),Rp K H v a->f a=some u->(∀ v H',zba H H'->Rp K H' v u->Nw H v u->Q v H')->r [v] H Q):VC K r (f1 f):=by
 intro vs us u H Q hr e q;cases hr with
 | nil=>cases e
 | cons h1 t =>
  cases t with
  | nil=>exact h _ _ _ _ _ h1 e q
  | cons=>cases e
def U.items:U->Option (List D)
 | .d (.tuple xs)=>some xs
 | .d (.list xs)=>some xs
 | .l xs=>some xs
 | _=>none
theorem Rp.items{v:V}{u:U}{xs:List D}(h:Rp K H v u)(e:u.items=some xs):∃ p ys,v=.ref p/\(SqL K H p ys\/SqT K H p ys)/\DFs K H ys xs:=by
 cases u with
 | d x =>
  cases x with
  | tuple ds=>cases e; obtain⟨a,ys,rfl,h1,h2⟩:=DF.tup_inv h; exact⟨a,ys,rfl,.inr ((TpK.sq h1)),h2⟩
  | list ds=>cases e; obtain⟨a,ys,rfl,h1,h2⟩:=DF.lst_inv h; exact⟨a,ys,rfl,.inl h1.sq,h2⟩
  | _=>cases e
 | l ds=>cases e; obtain⟨a,ys,rfl,h1,h2⟩:=h; exact⟨a,ys,rfl,.inl (SqL.of h1),h2⟩
 | t=>cases e
 | k=>cases e
 | o=>cases e
def zfH(u:U):Option U:=u.items.map fun xs=>.d (.int xs.length)
theorem zdy:VC K (ztL K) (f1 zfH):=zqv fun v a u H Q h e q=>by
 obtain⟨xs,ex,rfl⟩:=qr.mp e;obtain⟨p,ys,rfl,s,d⟩:=h.items ex;exact⟨p,ys,rfl,s,q _ _ (fun _ _ z=>z) (by rw [d.len]; exact .int _) Nw.data⟩
def zen(u:U):Option U:=u.items.map fun xs=>.d (.tuple xs)
theorem zdN:VC K (zfC K) (f1 zen):=zqv fun v a u H Q h e q=>by
 obtain⟨xs,ex,rfl⟩:=qr.mp e;cases a with
 | d x =>
  cases x with
  | tuple ds =>
   cases ex;obtain⟨a,ys,rfl,h1,h2⟩:=DF.tup_inv h;exact⟨a,ys,rfl,.inr ⟨(TpK.sq h1),q _ _ (fun _ _ z=>z) (.tup h1 h2) Nw.data⟩⟩
  | list ds =>
   cases ex;obtain⟨a,ys,rfl,h1,h2⟩:=DF.lst_inv h;refine⟨a,ys,rfl,.inl ⟨h1.sq,fun l hl=>?_⟩⟩;have sm:=zC hl (.tup ys);exact q _ _ sm (.tup (.inl zr) (h2.kp sm.kp)) Nw.data
  | _=>cases ex
 | l ds =>
  cases ex;obtain⟨a,ys,rfl,h1,h2⟩:=h;refine⟨a,ys,rfl,.inl ⟨SqL.of h1,fun l hl=>?_⟩⟩;have sm:=zC hl (.tup ys);exact q _ _ sm (.tup (.inl zr) (h2.kp sm.kp)) Nw.data
 | t=>cases ex
 | k=>cases ex
 | o=>cases ex
def zxl:U->Option U
 | .d (.int i)=>some (.d (.int (if i < 0 then -i else i)))
 | _=>none
def zkm:U->Option U
 | .d (.int i)=>some (.d (.int i))
 | .d (.bool k)=>some (.d (.int (if k then 1 else 0)))
 | _=>none
theorem zqw:VC K (fun xs H Q=>(∃ i,xs=[.int i]/\Q (.int i) H)\/∃ k,xs=[.bl k]/\Q (.int (if k then 1 else 0)) H) (f1 zkm):=zqv fun v a u H Q h e q=>by
 unfold zkm at e;split at e
 ·rename_i i
  cases e;cases DF.int_inv h;exact .inl ⟨i,rfl,q _ _ (fun _ _ z=>z) (.int _) Nw.data⟩
 ·rename_i i
  cases e;cases DF.bl_inv h;exact .inr ⟨i,rfl,q _ _ (fun _ _ z=>z) (.int _) Nw.data⟩
 ·cases e
def zeH:List D->Option (List Int)
 | []=>some []
 | .int i::xs=>(zeH xs).bind fun is=>some (i::is)
 | _::_=>none
theorem znp{ys:List V}{xs:List D}{ns:List Int}(h:DFs K H ys xs)(e:zeH xs=some ns):ys=ns.map V.int:=by
 induction xs generalizing ys ns with
 | nil=>cases e; cases h; rfl
 | cons x xs ih =>
  cases h with
  | cons h1 t =>
   cases x with
   | int i =>
    obtain⟨is,ei,e⟩:=zd (show(zeH xs).bind (fun is=>some (i::is))=some ns from e);cases e;rw [ih t ei,DF.int_inv h1];rfl
   | _=>cases e
def ztS(u:U):Option U:=u.items.bind fun xs=>(zeH xs).map fun ns=>.d (.int ns.sum)
theorem ztT:VC K (zvE K) (f1 ztS):=zqv fun v a u H Q h e q=>by
 obtain⟨xs,ex,e⟩:=zd e;obtain⟨ns,en,rfl⟩:=qr.mp e;obtain⟨p,ys,rfl,s,d⟩:=h.items ex;cases znp d en;exact⟨p,ns,rfl,s,q _ _ (fun _ _ z=>z) (.int _) Nw.data⟩
def mB(me:ME):MT:=fun ρ=>(me ρ).bind fun p=>(p.1.get p.2).bind fun u=>match u with | .d (.bool b)=>some (b,p.2) | _=>none
theorem zfI{t:TE}{m:ME}(h:VE K t m):VT K (tB t) (mB m):=by
 intro ρ σ H b ρ' Q r e q;obtain⟨⟨a,ρ1⟩,e1,e⟩:=zd e;obtain⟨u,eu,e⟩:=zd e;split at e
 ·cases e
  refine h ρ σ H a _ _ r e1 fun v H1 g1 k1=>?_;exact⟨_,DF.bl_inv (k1.now r g1 eu),q _ g1⟩
 ·cases e
theorem zai{t:TE}{m:ME}(h:VE K t m):VT K (zmR t) (mB m):=zfI h
def zqx(ma mb:MT):MT:=fun ρ=>(ma ρ).bind fun p=>if p.1=true then mb p.2 else some (false,p.2)
def mOr(ma mb:MT):MT:=fun ρ=>(ma ρ).bind fun p=>if p.1=true then some (true,p.2)else mb p.2
def zqy(ma:MT):MT:=fun ρ=>(ma ρ).bind fun p=>some (!p.1,p.2)
theorem ztU{ta tb:TT}{ma mb:MT}(ha:VT K ta ma)(hb:VT K tb mb):VT K (zs0 ta tb) (zqx ma mb):=by
 intro ρ σ H b ρ' Q r e q;obtain⟨⟨c,ρ1⟩,e1,e⟩:=zd e;refine ha ρ σ H c ρ1 _ r e1 fun H1 g1=>?_;dsimp only at e;split at e
 ·rename_i hc
  rw [if_pos hc];exact hb ρ1 σ H1 b ρ' _ g1.rs e fun H2 g2=>q H2 (g1.trans g2)
 ·rename_i hc
  rw [if_neg hc];cases e;exact q H1 g1
theorem zvI{ta tb:TT}{ma mb:MT}(ha:VT K ta ma)(hb:VT K tb mb):VT K (tOr ta tb) (mOr ma mb):=by
 intro ρ σ H b ρ' Q r e q;obtain⟨⟨c,ρ1⟩,e1,e⟩:=zd e;refine ha ρ σ H c ρ1 _ r e1 fun H1 g1=>?_;dsimp only at e;split at e
 ·rename_i hc
  rw [if_pos hc];cases e;exact q H1 g1
 ·rename_i hc
  rw [if_neg hc];exact hb ρ1 σ H1 b ρ' _ g1.rs e fun H2 g2=>q H2 (g1.trans g2)
theorem ztV{ta:TT}{ma:MT}(ha:VT K ta ma):VT K (zs1 ta) (zqy ma):=by
 intro ρ σ H b ρ' Q r e q;obtain⟨⟨c,ρ1⟩,e1,e⟩:=zd e;cases e;exact ha ρ σ H c _ _ r e1 fun H1 g1=>q H1 g1
def zfJ(ma mb:ME):ME:=fun ρ=>(mB ma ρ).bind fun p=>if p.1=true then mb p.2 else some (.u (.d (.bool false)),p.2)
theorem ztW{a:Ar}{v:V}{H1 H2:Hp}{ρ1 ρ2:En}(g1:Go K ρ σ H ρ1 H1)(h:zfD K ρ2 σ H1 H2 v a):zfD K ρ2 σ H H2 v a:=by
 cases a with
 | s i=>exact h
 | u x=>exact⟨h.1,h.2.mono g1.dm⟩
theorem zhk{ta tb:TE}{ma mb:ME}(ha:VE K ta ma)(hb:VE K tb mb):VE K (zmD ta tb) (zfJ ma mb):=by
 intro ρ σ H a ρ' Q r e q;obtain⟨⟨c,ρ1⟩,e1,e⟩:=zd e;refine zfI ha ρ σ H c ρ1 (fun c H1=>if c=true then tb σ H1 Q else Q (.bl false) H1) r e1 fun H1 g1=>?_;dsimp only at e;split at e
 ·rename_i hc
  rw [if_pos hc];exact hb ρ1 σ H1 a ρ' _ g1.rs e fun v H2 g2 k=>q v H2 (g1.trans g2) (ztW g1 k)
 ·rename_i hc
  rw [if_neg hc];cases e;exact q _ H1 g1 ⟨.bl _,Nw.data⟩
def zio(ma:ME):ME:=fun ρ=>(mB ma ρ).bind fun p=>some (.u (.d (.bool (!p.1))),p.2)
theorem znq{ta:TE}{ma:ME}(ha:VE K ta ma):VE K (zmE ta) (zio ma):=by
 intro ρ σ H a ρ' Q r e q;obtain⟨⟨c,ρ1⟩,e1,e⟩:=zd e;cases e;exact zfI ha ρ σ H c _ (fun c H1=>Q (.bl (!c)) H1) r e1 fun H1 g1=>q _ H1 g1 ⟨.bl _,Nw.data⟩
def mIf(mt:MT)(ma mb:ME):ME:=fun ρ=>(mt ρ).bind fun p=>if p.1=true then ma p.2 else mb p.2
theorem zvJ{tt:TT}{ta tb:TE}{mt:MT}{ma mb:ME}(ht:VT K tt mt)(ha:VE K ta ma)(hb:VE K tb mb):VE K (tIf tt ta tb) (mIf mt ma mb):=by
 intro ρ σ H a ρ' Q r e q;obtain⟨⟨c,ρ1⟩,e1,e⟩:=zd e;refine ht ρ σ H c ρ1 _ r e1 fun H1 g1=>?_;dsimp only at e;split at e
 ·rename_i hc
  rw [if_pos hc];exact ha ρ1 σ H1 a ρ' _ g1.rs e fun v H2 g2 k=>q v H2 (g1.trans g2) (ztW g1 k)
 ·rename_i hc
  rw [if_neg hc];exact hb ρ1 σ H1 a ρ' _ g1.rs e fun v H2 g2 k=>q v H2 (g1.trans g2) (ztW g1 k)
def U.tru:U->Option Bool
 | .d .none=>some false
 | .d (.bool b)=>some b
 | .d (.int i)=>some (i != 0)
 | .d (.str x)=>if x.length<=sizeLine then some ((x.length:Int) != 0)else none
 | .d (.tuple xs)=>some (!xs.isEmpty)
 | .d (.list xs)=>some (!xs.isEmpty)
 | .l xs=>some (!xs.isEmpty)
 | _=>none
theorem zcS{ys:List V}{xs:List D}(h:DFs K H ys xs):(!xs.isEmpty)=!ys.isEmpty:=by cases h<;>rfl
def zqz(ma:ME):MT:=fun ρ=>(ma ρ).bind fun p=>(p.1.get p.2).bind fun u=>u.tru.bind fun b=>some (b,p.2)
theorem ztX{ta:TE}{ma:ME}(ha:VE K ta ma):VT K (zvB K ta) (zqz ma):=by
 intro ρ σ H b ρ' Q r e q;obtain⟨⟨a,ρ1⟩,e1,e⟩:=zd e;obtain⟨u,eu,e⟩:=zd e;obtain⟨c,ec,e⟩:=zd e;cases e;refine ha ρ σ H a _ _ r e1 fun v H1 g1 k1=>⟨_,?_,q _ g1⟩;have p:=k1.now r g1 eu;cases u with
 | d x =>
  cases(show DF K H1 v x from p)with
  | non=>cases ec; rfl
  | bl=>cases ec; rfl
  | int=>cases ec; rfl
  | str x =>
   unfold U.tru at ec;dsimp only at ec;split at ec
   ·cases ec; exact⟨by assumption,rfl⟩
   ·cases ec
  | tup h t=>cases ec; exact .inr (.inl ⟨_,(TpK.sq h),zcS t⟩)
  | lst h t=>cases ec; exact .inl ⟨_,h.sq,zcS t⟩
  | dct=>cases ec
  | exc=>cases ec
  | obj=>cases ec
 | l xs=>cases ec; obtain⟨a,us,rfl,h1,h2⟩:=p; exact .inl ⟨_,SqL.of h1,zcS h2⟩
 | t=>cases ec
 | k=>cases ec
 | o=>cases ec
end
section
variable {K:qc} {ρ ρ':En} {σ:St} {H H':Hp}
abbrev FD:=List U->Option (U×List U)
def sm(xs:List U):En:=xs.map some
def smV(vs:List V):St:=vs.map some
def spV(K:qc)(n:Nat)(f:FD):Sp:=fun vs H Q _=>∃ us r outs,us.length=n/\Rs K (sm us) (smV vs) H/\f us=some (r,outs) /\
 ∀ v H',Go K (sm us) (smV vs) H (sm outs) H'->Rp K H' v r->Nw H v r->Q v H'
def wb:En->List Ar->List U->En
 | ρ,.s j::as,o::os=>wb (ρ.set j (some o)) as os
 | ρ,.u _::as,_::os=>wb ρ as os
 | ρ,_,_=>ρ
def zcH(ρ:En):List Ar->Bool
 | []=>true
 | .s j::as=>(match ρ[j]? with | some (some u)=>!u.own || !(as.any fun a=>match a with | .s k=>decide (k=j) | _=>false) | _=>true) && zcH ρ as
 | .u _::as=>zcH ρ as
def z8(f:FD)(ma:MA):ME:=fun ρ=>(ma ρ).bind fun p=>if zcH p.2 p.1=true then(zao p.2 p.1).bind fun us=>(f us).bind fun o=>some (.u o.1,wb p.2 p.1 o.2)else none
theorem zdO:∀ {as:List Ar} {us:List U},zao ρ as=some us->us.length=as.length
 | [],us,e=>by cases e; rfl
 | a::as,us,e=>by
  obtain⟨u,eu,e⟩:=zd e;obtain⟨us',eus,e⟩:=zd e;cases e;simp [zdO eus]
theorem zkn:∀ {as:List Ar} {us:List U} {i:Nat} {a:Ar},zao ρ as=some us->as[i]?=some a->∃ u,us[i]?=some u/\a.get ρ=some u
 | [],us,i,a,e,ea=>by simp at ea
 | b::as,us,i,a,e,ea=>by
  obtain⟨u,eu,e⟩:=zd e;obtain⟨us',eus,e⟩:=zd e;cases e;cases i with
  | zero=>cases(show some b=some a from ea); exact⟨u,rfl,eu⟩
  | succ i=>exact zkn (i:=i) eus ea
theorem zfK:∀ {as:List Ar} {us:List U} {i:Nat} {u:U},zao ρ as=some us->us[i]?=some u->∃ a,as[i]?=some a/\a.get ρ=some u:=fun{as us i u} e eu=>by
 have hi:i < as.length:=by rw [<-zdO e]; exact(qk.mp eu).1
 obtain⟨u',e1,e2⟩:=zkn e (qm hi);rw [eu]at e1;cases e1;exact⟨_,qm hi,e2⟩
theorem zrD{j:Nat}{u:U}(e:Ar.get ρ (.s j)=some u):ρ[j]?=some (some u):=by
 have z:(ρ[j]?).join=some u:=e;cases q:ρ[j]? with
 | none=>rw [q]at z; cases z
 | some o =>
  rw [q]at z;cases o with
  | none=>cases z
  | some w=>cases z; rfl
theorem zko:∀ {as:List Ar} {p q j:Nat} {u:U},zcH ρ as=true->as[p]?=some (.s j)->as[q]?=some (.s j)->ρ[j]?=some (some u)->u.own=true->p=q
 | [],p,q,j,u,_,e,_,_,_=>by simp at e
 | a::as,p,q,j,u,d,ep,eq,ej,ou=>by
  have dd:zcH ρ as=true:=by
   cases a with
   | s k=>unfold zcH at d; rw [Bool.and_eq_true]at d; exact d.2
   | u=>exact d
  have nope:∀ {q':Nat},a=.s j->as[q']?=some (.s j)->False:=fun{q'} ea eq'=>by
   subst ea;unfold zcH at d;rw [Bool.and_eq_true,ej]at d;have d1:=d.1;dsimp only at d1;rw [ou]at d1;have m:(as.any fun a=>match a with | .s k=>decide (k=j) | _=>false)=true:=List.any_eq_true.mpr ⟨.s j,List.mem_of_getElem? eq',by simp⟩;rw [m]at d1;cases d1
  cases p with
  | zero =>
   cases q with
   | zero=>rfl
   | succ q=>exact(nope (qx ep) eq).elim
  | succ p =>
   cases q with
   | zero=>exact(nope (qx eq) ep).elim
   | succ q=>exact congrArg (·+1) (zko dd ep eq ej ou)
theorem zaU{us:List U}{i:Nat}{u:U}:(sm us)[i]?=some (some u)↔us[i]?=some u:=by
 unfold sm;rw [List.getElem?_map];cases us[i]?<;>simp
theorem zeo{vs:List V}{i:Nat}{v:V}:(smV vs)[i]?=some (some v)↔vs[i]?=some v:=by
 unfold smV;rw [List.getElem?_map];cases vs[i]?<;>simp
theorem zkp:∀ {as:List Ar} {os:List U} {ρ:En} {j:Nat} {w:U},(wb ρ as os)[j]?=some (some w)->as.length=os.length->(∃ p:Nat,as[p]?=some (Ar.s j)/\os[p]?=some w)\/(ρ[j]?=some (some w)/\∀ p:Nat,as[p]?≠some (Ar.s j))
 | [],os,ρ,j,w,e,_=>.inr ⟨by cases os<;>exact e,fun p z=>by simp at z⟩
 | a::as,[],ρ,j,w,e,l=>by simp at l
 | .u x::as,o::os,ρ,j,w,e,l=>by
  rcases zkp (as:=as) (os:=os) (ρ:=ρ) (show(wb ρ as os)[j]?=some (some w) from e) (by simpa using l)with ⟨p,h1,h2⟩ | ⟨h1,h2⟩
  ·exact .inl ⟨p+1,h1,h2⟩
  ·refine .inr ⟨h1,fun p z=>?_⟩
   cases p with
   | zero=>cases(show some (Ar.u x)=some (.s j) from z)
   | succ p=>exact h2 p z
 | .s k::as,o::os,ρ,j,w,e,l=>by
  rcases zkp (as:=as) (os:=os) (ρ:=ρ.set k (some o)) (show(wb (ρ.set k (some o)) as os)[j]?=some (some w) from e) (by simpa using l)with ⟨p,h1,h2⟩ | ⟨h1,h2⟩
  ·exact .inl ⟨p+1,h1,h2⟩
  ·by_cases hk:k=j
   ·subst hk
    have hl:k < (ρ.set k (some o)).length:=(qk.mp h1).1;rw [List.length_set]at hl;rw [List.getElem?_set_self hl]at h1;exact .inl ⟨0,rfl,by cases h1; rfl⟩
   ·rw [qC hk]at h1
    refine .inr ⟨h1,fun p z=>?_⟩;cases p with
    | zero=>cases(show some (Ar.s k)=some (.s j) from z); exact hk rfl
    | succ p=>exact h2 p z
theorem zhl:∀ (ρ:En) (as:List Ar) (os:List U),(wb ρ as os).length=ρ.length
 | ρ,[],os=>by cases os<;>rfl
 | ρ,.s k::as,[]=>rfl
 | ρ,.u k::as,[]=>rfl
 | ρ,.s k::as,o::os=>by show(wb (ρ.set k (some o)) as os).length=_; rw [zhl]; exact List.length_set
 | ρ,.u k::as,o::os=>zhl ρ as os
theorem zfd:∀ {as:List Ar} {os:List U} {ρ:En} {j:Nat} {w:U},ρ[j]?=some (some w)->∃ w',(wb ρ as os)[j]?=some (some w')
 | [],os,ρ,j,w,e=>⟨w,by cases os<;>exact e⟩
 | .s k::as,[],ρ,j,w,e=>⟨w,e⟩
 | .u k::as,[],ρ,j,w,e=>⟨w,e⟩
 | .u k::as,o::os,ρ,j,w,e=>zfd (as:=as) (os:=os) e
 | .s k::as,o::os,ρ,j,w,e=>by
  by_cases hk:k=j
  ·subst hk
   exact zfd (as:=as) (os:=os) (w:=o) (List.getElem?_set_self (qk.mp e).1)
  ·exact zfd (as:=as) (os:=os) (w:=w) (by rw [qC hk]; exact e)
theorem ztY{as:List Ar}{us:List U}{vs:List V}{ρ1:En}{H1:Hp}(rs:Rs K ρ σ H)(g1:Go K ρ σ H ρ1 H1)(s1:ArS K ρ1 σ H H1 vs as)(dj:zcH ρ1 as=true)(eu:zao ρ1 as=some us) :
  Rs K (sm us) (smV vs) H1/\∀ (outs:List U) (H2:Hp),Go K (sm us) (smV vs) H1 (sm outs) H2->Go K ρ σ H (wb ρ1 as outs) H2:=by
 have rp:=s1.rpl rs g1 eu;have lus:=zdO eu;have lvs:=s1.len;have adr:∀ (i:Nat) (u:U),us[i]?=some u->u.own=true->∃ b,vs[i]?=some (.ref b)/\((∃ j,as[i]?=some (.s j)/\σ[j]?=some (some (.ref b))/\ρ1[j]?=some (some u))\/(as[i]?=some (.u u)/\H b=none)):=fun i u ei ou=>by
  obtain⟨a,ea,eg⟩:=zfK eu ei;obtain⟨v,ev,k⟩:=s1.ar i a ea;have p:=k.now rs g1 eg;obtain⟨b,rfl⟩:=p.own_ref ou;refine⟨b,ev,?_⟩;cases a with
  | s j=>exact .inl ⟨j,ea,k.1,zrD eg⟩
  | u x =>
   cases(show some x=some u from eg);obtain⟨b',eb,hb⟩:=k.2 ou;cases eb;exact .inr ⟨ea,hb⟩
 have apart:∀ (i j:Nat) (u w:U),us[i]?=some u->us[j]?=some w->u.own=true->w.own=true->vs[i]?=vs[j]?->i=j:=fun i j u w ei ej ou ow ev=>by
  obtain⟨b,vb,hb⟩:=adr i u ei ou;obtain⟨c,vc,hc⟩:=adr j w ej ow;have bc:b=c:=by rw [vb,vc]at ev; cases ev; rfl
  subst bc;rcases hb with ⟨x,ax,sx,rx⟩ | ⟨ax,nx⟩
  ·rcases hc with ⟨y,ay,sy,ry⟩ | ⟨ay,ny⟩
   ·have xy:x=y:=g1.rs.apart x y u w rx ry ou ow (by rw [sx,sy])
    subst xy;exact zko dj ax ay rx ou
   ·exfalso
    obtain⟨w',ew',ow'⟩:=g1.shr.own x u rx ou;obtain⟨c',hc',_⟩:=rs.ow ⟨x,w',ew',ow',sx⟩;rw [ny]at hc';cases hc'
  ·rcases hc with ⟨y,ay,sy,ry⟩ | ⟨ay,ny⟩
   ·exfalso
    obtain⟨w',ew',ow'⟩:=g1.shr.own y w ry ow;obtain⟨c',hc',_⟩:=rs.ow ⟨y,w',ew',ow',sy⟩;rw [nx]at hc';cases hc'
   ·exact s1.ap i j u w ax ay ou ow ev
 have rsA:Rs K (sm us) (smV vs) H1:=by
  refine⟨by unfold sm smV; rw [List.length_map,List.length_map]; omega,fun i u ei=>?_,fun i j u w ei ej ou ow ev=>?_⟩
  ·have ei':=zaU.mp ei
   obtain⟨a,ea,eg⟩:=zfK eu ei';obtain⟨v,ev,k⟩:=s1.ar i a ea;exact⟨v,zeo.mpr ev,k.now rs g1 eg⟩
  ·have ei':=zaU.mp ei
   have ej':=zaU.mp ej;refine apart i j u w ei' ej' ou ow ?_;obtain⟨b,vb,_⟩:=adr i u ei' ou;obtain⟨c,vc,_⟩:=adr j w ej' ow;rw [zeo.mpr vb,zeo.mpr vc]at ev;rw [vb,vc];exact qx ev
 refine⟨rsA,fun outs H2 g2=>?_⟩;have lo:outs.length=us.length:=by have:=g2.shr.len; unfold sm at this; simpa using this
 have kp2:=g2.kp rsA;have owA:∀ b,Ow (sm us) (smV vs) b->Ow ρ1 σ b\/H b=none:=fun b ⟨i,u,ei,ou,es⟩=>by
  obtain⟨c,vc,hc⟩:=adr i u (zaU.mp ei) ou;rw [zeo.mp es]at vc;cases vc;rcases hc with ⟨j,_,sj,rj⟩ | ⟨_,nb⟩
  ·exact .inl ⟨j,u,rj,ou,sj⟩
  ·exact .inr nb
 have outsAt:∀ (i:Nat) (w:U),outs[i]?=some w->∃ x,vs[i]?=some x/\Rp K H2 x w:=fun i w ei=>by
  obtain⟨x,ex,px⟩:=g2.rs.rep i w (zaU.mpr ei);exact⟨x,zeo.mp ex,px⟩
 have lao:as.length=outs.length:=by omega
 have ownBack:∀ (j:Nat) (w:U),(wb ρ1 as outs)[j]?=some (some w)->w.own=true->∃ w',ρ1[j]?=some (some w')/\w'.own=true:=fun j w ej ow=>by
  rcases zkp ej lao with ⟨p,ap,op⟩ | ⟨h1,_⟩
  ·obtain⟨w',ew',ow'⟩:=g2.shr.own p w (zaU.mpr op) ow
   obtain⟨a,ea,eg⟩:=zfK eu (zaU.mp ew');rw [ap]at ea;cases ea;exact⟨w',zrD eg,ow'⟩
  ·exact⟨w,h1,ow⟩
 refine⟨⟨by rw [zhl]; exact g1.rs.len,fun j w ej=>?_,fun i j u w ei ej ou ow es=>?_⟩,fun b ob hb nb=>?_,?_,fun b hb=>g1.dm b (g2.dm b hb)⟩
 ·rcases zkp ej lao with ⟨p,ap,op⟩ | ⟨h1,h2⟩
  ·obtain⟨x,vx,px⟩:=outsAt p w op
   obtain⟨v',ev',k'⟩:=s1.ar p _ ap;rw [vx]at ev';cases ev';exact⟨x,k'.1,px⟩
  ·obtain⟨x,ex,px⟩:=g1.rs.rep j w h1
   refine⟨x,ex,px.kp kp2 fun ow b c eb hb=>?_⟩;refine g2.fr b c hb fun⟨i,u,ei,ou,es⟩=>?_;obtain⟨c',vc',hc'⟩:=adr i u (zaU.mp ei) ou;rw [zeo.mp es]at vc';cases vc';subst eb;rcases hc' with ⟨k,ak,sk,rk⟩ | ⟨_,nb⟩
   ·have:k=j:=g1.rs.apart k j u w rk h1 ou ow (by rw [sk,ex])
    subst this;exact h2 i ak
   ·obtain⟨w',ew',ow'⟩:=g1.shr.own j w h1 ow
    obtain⟨c'',hc'',_⟩:=rs.ow ⟨j,w',ew',ow',ex⟩;rw [nb]at hc'';cases hc''
 ·obtain⟨x,ex,ox⟩:=ownBack i u ei ou
  obtain⟨y,ey,oy⟩:=ownBack j w ej ow;exact g1.rs.apart i j x y ex ey ox oy es
 ·refine g2.fr b ob (g1.fr b ob hb nb) fun z=>?_
  rcases owA b z with z | z
  ·exact nb (g1.shr.ow z)
  ·rw [z]at hb; cases hb
 ·refine⟨by rw [zhl]; exact g1.shr.len,fun j w ej ow=>?_,fun j w ej=>?_⟩
  ·obtain⟨x,ex,ox⟩:=ownBack j w ej ow
   exact g1.shr.own j x ex ox
  ·obtain⟨x,ex⟩:=g1.shr.live j w ej
   exact zfd ex
theorem zrE:∀ ρ as ρ',zt ρ=some (as,ρ')->as.length=0:=fun ρ as ρ' e=>by cases e; rfl
theorem znr{n:Nat}{me:ME}{ma:MA}(h:∀ ρ as ρ',ma ρ=some (as,ρ')->as.length=n):∀ ρ as ρ',zf me ma ρ=some (as,ρ')->as.length=n+1:=fun ρ as ρ' e=>by
 obtain⟨⟨a1,ρ1⟩,e1,e⟩:=zd e;obtain⟨⟨as2,ρ2⟩,e2,e⟩:=zd e;cases e;simp [h _ _ _ e2]
theorem zF{f:FD}{t:TA}{m:MA}(n:Nat)(h:VAs K t m)(hn:∀ ρ as ρ',m ρ=some (as,ρ')->as.length=n:=by repeat (first | exact zrE | refine znr ?_)):VE K (ztG (spV K n f) t) (z8 f m):=by
 intro ρ σ H a ρ' Q rs e q;obtain⟨⟨as,ρ1⟩,e1,e⟩:=zd e;dsimp only at e;split at e
 ·rename_i dj
  obtain⟨us,eu,e⟩:=zd e;obtain⟨⟨r,outs⟩,ef,e⟩:=zd e;cases e;refine h ρ σ H as ρ1 _ rs e1 fun vs H1 g1 s1=>?_;obtain⟨rsA,back⟩:=ztY rs g1 s1 dj eu;exact⟨us,r,outs,by rw [zdO eu]; exact hn _ _ _ e1,rsA,ef,fun v H2 g2 p n2=>q v H2 (back outs H2 g2) ⟨p,n2.mono g1.dm⟩⟩
 ·cases e
end
inductive Fl where
 | nx (ρ:En) | bk (ρ:En) | ct (ρ:En) | rt (u:U) (ρ:En) | ex (x:D) (ρ:En)
def zvK(K:qc)(H:Hp)(a:Addr)(x:D):Prop:=∃ n C fs ds,x=.dict ((.none,.str n)::ds)/\zw8 H a C fs/\XN K n C/\DFf K H fs ds
structure Sn (K:qc) (pn:List Nat) (σ₀:St) (A:Addr->Prop) (H₀ H₁:Hp) (ρ:En) (σ:St) (H:Hp):Prop where
 rs:Rs K ρ σ H
 fr:Fr' A H₀ H
 ow:∀ (i:Nat) (u:U) (a:Addr),ρ[i]?=some (some u)->u.own=true->σ[i]?=some (some (.ref a))->(i∈pn/\A a)\/H₀ a=none
 pin:∀ i∈pn,σ[i]?=σ₀[i]?
 dm:∀ a,H a=none->H₀ a=none
 kp:Kp H₁ H
def EX0:EXT:=fun _ _ _=>False
def zw9(K:qc)(pn:List Nat)(EX:EXT)(σ₀:St)(A:Addr->Prop)(H₀ H₁:Hp)(D:Ends):Fl->Prop
 | .nx ρ=>∀ σ H,Sn K pn σ₀ A H₀ H₁ ρ σ H->D.nx σ H
 | .bk ρ=>∀ σ H,Sn K pn σ₀ A H₀ H₁ ρ σ H->D.bk σ H
 | .ct ρ=>∀ σ H,Sn K pn σ₀ A H₀ H₁ ρ σ H->D.ct σ H
 | .rt u ρ=>∀ v σ H,Sn K pn σ₀ A H₀ H₁ ρ σ H->Rp K H v u->Nw H₀ v u->D.rt v H
 | .ex x ρ=>∀ a σ H,Sn K pn σ₀ A H₀ H₁ ρ σ H->H₀ a=none->zvK K H a x->EX σ a H
abbrev MS:=En->Option Fl
def VS(K:qc)(pn:List Nat)(EX:EXT)(t:TS)(m:MS):Prop :=
 ∀ (σ₀:St) (A:Addr->Prop) (H₀ H₁:Hp) (ρ:En) (σ:St) (H:Hp) (f:Fl) (D:Ends),Sn K pn σ₀ A H₀ H₁ ρ σ H->m ρ=some f->zw9 K pn EX σ₀ A H₀ H₁ D f->t D σ H
section
variable {EX:EXT} {K:qc} {pn:List Nat} {σ₀:St} {A:Addr->Prop} {H₀ H₁ H₂:Hp} {ρ ρ':En} {σ:St} {H H':Hp}
theorem Sn.go(s:Sn K pn σ₀ A H₀ H₁ ρ σ H)(g:Go K ρ σ H ρ' H'):Sn K pn σ₀ A H₀ H₁ ρ' σ H':=by
 refine⟨g.rs,fun a o h n=>g.fr a o (s.fr a o h n) fun⟨i,u,e,ou,es⟩=>?_,fun i u a e o es=>?_,s.pin,fun a h=>s.dm a (g.dm a h),s.kp.trans (g.kp s.rs)⟩
 ·rcases s.ow i u a e ou es with z | z
  ·exact n z.2
  ·rw [z]at h; cases h
 ·obtain⟨w,e',o'⟩:=g.shr.own i u e o
  exact s.ow i w a e' o' es
theorem Sn.re(s:Sn K pn σ₀ A H₀ H₂ ρ σ H)(k:Kp H₁ H₂):Sn K pn σ₀ A H₀ H₁ ρ σ H:=⟨s.rs,s.fr,s.ow,s.pin,s.dm,k.trans s.kp⟩
theorem Sn.at(s:Sn K pn σ₀ A H₀ H₁ ρ σ H):Sn K pn σ₀ A H₀ H ρ σ H:=⟨s.rs,s.fr,s.ow,s.pin,s.dm,Kp.refl H⟩
theorem Sn.set{i:Nat}{v:V}{u:U}(s:Sn K pn σ₀ A H₀ H₁ ρ σ H)(hi:i∉pn)(p:Rp K H v u)(n:u.own=true->∃ a,v=.ref a/\H₀ a=none/\¬Ow ρ σ a):Sn K pn σ₀ A H₀ H₁ (ρ.set i (some u)) (σ.set i (some v)) H:=by
 have ll:=s.rs.len;have inv:∀ (j:Nat) (w:U),(ρ.set i (some u))[j]?=some (some w)->(j=i/\w=u/\i < ρ.length)\/(j≠i/\ρ[j]?=some (some w)):=fun j w e=>by
  by_cases hj:i=j
  ·subst hj
   have hl:=(qk.mp e).1;rw [List.length_set]at hl;rw [List.getElem?_set_self hl]at e;cases e;exact .inl ⟨rfl,rfl,hl⟩
  ·rw [qC hj]at e
   exact .inr ⟨Ne.symm hj,e⟩
 have sat:∀ j,j≠i->(σ.set i (some v))[j]?=σ[j]?:=fun j h=>qC (Ne.symm h);have sself:i < ρ.length->(σ.set i (some v))[i]?=some (some v):=fun h=>List.getElem?_set_self (by omega);refine⟨⟨by rw [List.length_set,List.length_set]; exact ll,fun j w e=>?_,fun j k x y ej ek ox oy es=>?_⟩,s.fr,fun j w a e o es=>?_,fun j hj=>?_,s.dm,s.kp⟩
 ·rcases inv j w e with ⟨rfl,rfl,hl⟩ | ⟨hj,e'⟩
  ·exact⟨v,sself hl,p⟩
  ·rw [sat j hj]
   exact s.rs.rep j w e'
 ·rcases inv j x ej with ⟨rfl,rfl,hl⟩ | ⟨hj,ej'⟩
  ·rcases inv k y ek with ⟨rfl,rfl,_⟩ | ⟨hk,ek'⟩
   ·rfl
   ·exfalso
    obtain⟨a,rfl,_,na⟩:=n ox;rw [sself hl,sat k hk]at es;exact na ⟨k,y,ek',oy,es.symm⟩
  ·rcases inv k y ek with ⟨rfl,rfl,hl⟩ | ⟨hk,ek'⟩
   ·exfalso
    obtain⟨a,rfl,_,na⟩:=n oy;rw [sself hl,sat j hj]at es;exact na ⟨j,x,ej',ox,es⟩
   ·rw [sat j hj,sat k hk]at es
    exact s.rs.apart j k x y ej' ek' ox oy es
 ·rcases inv j w e with ⟨rfl,rfl,hl⟩ | ⟨hj,e'⟩
  ·rw [sself hl]at es
   cases es;obtain⟨b,eb,hb,_⟩:=n o;cases eb;exact .inr hb
  ·rw [sat j hj]at es
   exact s.ow j w a e' o es
 ·rw [sat j (fun z=>hi (z▸hj))]
  exact s.pin j hj
theorem zfD.own{a:Ar}{v:V}{u:U}(r:Rs K ρ σ H)(g:Go K ρ σ H ρ' H')(k:zfD K ρ' σ H H' v a)(e:a.get ρ'=some u)(nc:∀ j,a=.s j->u.own=false):Nw H v u/\(u.own=true->∃ b,v=.ref b/\¬Ow ρ' σ b):=by
 cases a with
 | s j=>exact⟨(fun o=>by rw [nc j rfl]at o; cases o),fun o=>by rw [nc j rfl]at o; cases o⟩
 | u x =>
  cases(show some x=some u from e);exact⟨k.2,k.2.out' r g⟩
def put(p:Ar×En):Option (U×En):=match p.1 with
 | .s i=>match p.2[i]? with
  | some (some (.d x))=>some (.d x,p.2)
  | _=>none
 | .u u=>some (u,p.2)
theorem zns{a:Ar}{u:U}{ρ1 ρ2:En}(e:put (a,ρ1)=some (u,ρ2)):ρ2=ρ1/\a.get ρ1=some u/\∀ j,a=.s j->u.own=false:=by
 cases a with
 | s i =>
  unfold put at e;dsimp only at e;split at e
  ·rename_i x ex
   cases e;refine⟨rfl,?_,fun _ _=>rfl⟩;show(ρ1[i]?).join=_;rw [ex];rfl
  ·cases e
 | u x =>
  cases e;exact⟨rfl,rfl,fun j z=>by cases z⟩
def zae(i:Nat)(me:ME):MS:=fun ρ=>(me ρ).bind fun p=>(put p).bind fun q=>some (.nx (q.2.set i (some q.1)))
theorem zR{i:Nat}{te:TE}{me:ME}(h:VE K te me)(hi:i∉pn:=by decide):VS K pn EX (zhY te (zbr i)) (zae i me):=by
 intro σ₀ A H₀ H₁ ρ σ H f D s e k;obtain⟨⟨a,ρ1⟩,e1,e⟩:=zd e;obtain⟨⟨u,ρ2⟩,e2,e3⟩:=zd e;clear e;obtain⟨rfl,eg,nc⟩:=zns e2;cases e3;refine h ρ σ H a ρ2 _ s.rs e1 fun v H1 g1 k1=>?_;obtain⟨n1,n2⟩:=k1.own s.rs g1 eg nc;have s1:=s.go g1;refine k _ _ (s1.set hi (k1.now s.rs g1 eg) fun o=>?_);obtain⟨b,rfl,hb⟩:=n2 o;obtain⟨b',eb,hb'⟩:=n1 o;cases eb;exact⟨b,rfl,s.dm b hb',hb⟩
def zM(m1 m2:MS):MS:=fun ρ=>(m1 ρ).bind fun f=>match f with
 | .nx ρ'=>m2 ρ'
 | f=>some f
theorem zA{t1 t2:TS}{m1 m2:MS}(h1:VS K pn EX t1 m1)(h2:VS K pn EX t2 m2):VS K pn EX (zpT t1 t2) (zM m1 m2):=by
 intro σ₀ A H₀ H₁ ρ σ H f D s e k;obtain⟨f1,e1,e⟩:=zd e;refine h1 σ₀ A H₀ H₁ ρ σ H f1 _ s e1 ?_;cases f1 with
 | nx ρ1=>exact fun σ1 H1 s1=>h2 σ₀ A H₀ H₁ ρ1 σ1 H1 f D s1 e k
 | bk ρ1=>cases e; exact k
 | ct ρ1=>cases e; exact k
 | rt u ρ1=>cases e; exact k
 | ex x ρ1=>cases e; exact k
def za0:MS:=fun ρ=>some (.nx ρ)
theorem zaJ:VS K pn EX zmG za0:=fun σ₀ A H₀ H₁ ρ σ H f D s e k=>by cases e; exact k σ H s
def zbR(mt:MT)(m1 m2:MS):MS:=fun ρ=>(mt ρ).bind fun p=>if p.1=true then m1 p.2 else m2 p.2
theorem zbs{tt:TT}{t1 t2:TS}{mt:MT}{m1 m2:MS}(ht:VT K tt mt)(h1:VS K pn EX t1 m1)(h2:VS K pn EX t2 m2):VS K pn EX (zta tt t1 t2) (zbR mt m1 m2):=by
 intro σ₀ A H₀ H₁ ρ σ H f D s e k;obtain⟨⟨c,ρ1⟩,e1,e⟩:=zd e;refine ht ρ σ H c ρ1 _ s.rs e1 fun H1 g1=>?_;dsimp only at e;split at e
 ·rename_i hc
  rw [if_pos hc];exact h1 σ₀ A H₀ H₁ ρ1 σ H1 f D (s.go g1) e k
 ·rename_i hc
  rw [if_neg hc];exact h2 σ₀ A H₀ H₁ ρ1 σ H1 f D (s.go g1) e k
theorem znt{t:TS}{m:MS}(h:VS K pn EX t m):VS K pn EX (znf t) m:=by
 intro σ₀ A H₀ H₁ ρ σ H f D s e k;cases f with
 | nx ρ1=>exact⟨fun σ' H'=>Sn K pn σ₀ A H₀ H₁ ρ1 σ' H',h σ₀ A H₀ H₁ ρ σ H _ _ s e (fun σ' H' s'=>s'),fun σ' H' s'=>k σ' H' s'⟩
 | bk ρ1=>exact⟨D.nx,h σ₀ A H₀ H₁ ρ σ H _ _ s e k,fun _ _ z=>z⟩
 | ct ρ1=>exact⟨D.nx,h σ₀ A H₀ H₁ ρ σ H _ _ s e k,fun _ _ z=>z⟩
 | rt u ρ1=>exact⟨D.nx,h σ₀ A H₀ H₁ ρ σ H _ _ s e k,fun _ _ z=>z⟩
 | ex x ρ1=>exact⟨D.nx,h σ₀ A H₀ H₁ ρ σ H _ _ s e k,fun _ _ z=>z⟩
def zct(me:ME):MS:=fun ρ=>(me ρ).bind fun p=>some (.nx p.2)
theorem zcT{te:TE}{me:ME}(h:VE K te me):VS K pn EX (zmI te) (zct me):=by
 intro σ₀ A H₀ H₁ ρ σ H f D s e k;obtain⟨⟨a,ρ1⟩,e1,e⟩:=zd e;cases e;exact h ρ σ H a _ _ s.rs e1 fun v H1 g1 k1=>k σ H1 (s.go g1)
def zau(me:ME):MS:=fun ρ=>(me ρ).bind fun p=>(put p).bind fun q=>some (.rt q.1 q.2)
theorem zad{te:TE}{me:ME}(h:VE K te me):VS K pn EX (zpX te) (zau me):=by
 intro σ₀ A H₀ H₁ ρ σ H f D s e k;obtain⟨⟨a,ρ1⟩,e1,e⟩:=zd e;obtain⟨⟨u,ρ2⟩,e2,e3⟩:=zd e;clear e;obtain⟨rfl,eg,nc⟩:=zns e2;cases e3;refine h ρ σ H a _ _ s.rs e1 fun v H1 g1 k1=>?_;obtain⟨n1,n2⟩:=k1.own s.rs g1 eg nc;exact k v σ H1 (s.go g1) (k1.now s.rs g1 eg) (n1.mono s.dm)
def zdP(pn:List Nat)(i:Nat):MS:=fun ρ=>if i∈pn then none else(match ρ[i]? with
 | some (some u)=>some (.rt u (ρ.set i none))
 | _=>none)
theorem zhm{i:Nat}:VS K pn EX (zpX (zbF i)) (zdP pn i):=by
 intro σ₀ A H₀ H₁ ρ σ H f D s e k;unfold zdP at e;split at e
 ·cases e
 rename_i hi;split at e
 ·rename_i u eu
  cases e;obtain⟨v,ev,p⟩:=s.rs.rep i u eu;have back:∀ (j:Nat) (w:U),(ρ.set i none)[j]?=some (some w)->ρ[j]?=some (some w):=fun j w e=>by
   by_cases hj:i=j
   ·subst hj
    have hl:=(qk.mp e).1;rw [List.length_set]at hl;rw [List.getElem?_set_self hl]at e;cases e
   ·rw [qC hj]at e
    exact e
  refine⟨v,ev,k v σ H ⟨⟨by rw [List.length_set]; exact s.rs.len,fun j w e=>s.rs.rep j w (back j w e),fun a b x y ea eb=>s.rs.apart a b x y (back a x ea) (back b y eb)⟩,s.fr,fun j w a e=>s.ow j w a (back j w e),s.pin,s.dm,s.kp⟩ p fun o=>?_⟩;obtain⟨a,rfl⟩:=p.own_ref o;rcases s.ow i u a eu o ev with z | z
  ·exact absurd z.1 hi
  ·exact⟨a,rfl,z⟩
 ·cases e
end
section
variable {EX:EXT} {K:qc} {pn:List Nat} {σ₀:St} {A:Addr->Prop} {H₀ H₁ H₂:Hp} {ρ ρ':En} {σ:St} {H H':Hp}
def zjr(K:qc)(J:It)(H₁:Hp)(ds:List D):Prop:=∀ H,Kp H₁ H->∀ i:Nat,(∀ d,ds[i]?=some d->J.go i H/\∀ x H',J.yld i H x H'->zba H H'/\DF K H' x d)/\(i=ds.length->J.stop i H)
abbrev MI:=En->Option (List D×En)
def VI(K:qc)(wi:TI)(mi:MI):Prop :=
 ∀ (ρ:En) (σ:St) (H:Hp) (ds:List D) (ρ':En) (R:It->Hp->Prop),Rs K ρ σ H->mi ρ=some (ds,ρ')->(∀ J H',Go K ρ σ H ρ' H'->zjr K J H' ds->R J H')->wi σ H R
def zdz:U->Option (List D)
 | .d (.list xs)=>some xs
 | _=>none
def zhn:U->Option (List D)
 | .d (.tuple xs)=>some xs
 | _=>none
def mIt(f:U->Option (List D))(me:ME):MI:=fun ρ=>(me ρ).bind fun p=>(p.1.get p.2).bind fun u=>(f u).bind fun ds=>some (ds,p.2)
theorem za6{te:TE}{me:ME}(h:VE K te me):VI K (zmM K te) (mIt zdz me):=by
 intro ρ σ H ds ρ' R r e q;obtain⟨⟨a,ρ1⟩,e1,e⟩:=zd e;obtain⟨u,eu,e⟩:=zd e;obtain⟨xs,ex,e⟩:=zd e;cases e;refine h ρ σ H a _ _ r e1 fun v H1 g1 k1=>?_;have p:=k1.now r g1 eu;unfold zdz at ex;split at ex
 ·cases ex
  obtain⟨b,ys,rfl,h1,h2⟩:=DF.lst_inv p;refine⟨b,rfl,⟨ys,h1.sq⟩,q _ _ g1 fun H2 k i=>⟨fun d ed=>?_,fun ei=>?_⟩⟩
  ·obtain⟨v,ev,dv⟩:=(h2.kp k).get ed
   refine⟨⟨ys,v,(h1.kp k).sq,ev⟩,fun x H' y=>?_⟩;obtain⟨rfl,y⟩:=y;have:=y ys (h1.kp k).sq;rw [ev]at this;cases this;exact⟨fun _ _ z=>z,dv⟩
  ·exact⟨ys,(h1.kp k).sq,by rw [h2.len]; omega⟩
 ·cases ex
theorem zep{te:TE}{me:ME}(h:VE K te me):VI K (zth K te) (mIt zhn me):=by
 intro ρ σ H ds ρ' R r e q;obtain⟨⟨a,ρ1⟩,e1,e⟩:=zd e;obtain⟨u,eu,e⟩:=zd e;obtain⟨xs,ex,e⟩:=zd e;cases e;refine h ρ σ H a _ _ r e1 fun v H1 g1 k1=>?_;have p:=k1.now r g1 eu;unfold zhn at ex;split at ex
 ·cases ex
  obtain⟨b,ys,rfl,h1,h2⟩:=DF.tup_inv p;refine⟨b,rfl,⟨ys,(TpK.sq h1)⟩,q _ _ g1 fun H2 k i=>⟨fun d ed=>?_,fun ei=>?_⟩⟩
  ·obtain⟨v,ev,dv⟩:=(h2.kp k).get ed
   refine⟨⟨ys,v,(TpK.kp k h1).sq,ev⟩,fun x H' y=>?_⟩;obtain⟨rfl,y⟩:=y;have:=y ys ((TpK.kp k h1).sq);rw [ev]at this;cases this;exact⟨fun _ _ z=>z,dv⟩
  ·exact⟨ys,(TpK.kp k h1).sq,by rw [h2.len]; omega⟩
 ·cases ex
def zaY(lo:Int)(n:Nat):List D:=(List.range n).map fun i=>.int (lo+(i:Nat))
theorem zfL(lo:Int)(n:Nat):(zaY lo n).length=n:=by simp [zaY]
theorem zgD{lo:Int}{n i:Nat}{d:D}(h:(zaY lo n)[i]?=some d):i < n/\d=.int (lo+(i:Nat)):=by
 have hl:=(qk.mp h).1;rw [zfL]at hl;refine⟨hl,?_⟩;unfold zaY at h;rw [List.getElem?_map,List.getElem?_range hl]at h;cases h;rfl
theorem zjs{lo:Int}{n:Nat}:zjr K (Itr lo n) H₁ (zaY lo n):=fun H k i=>⟨fun d ed=>by
  obtain⟨hi,rfl⟩:=zgD ed;refine⟨hi,fun x H' y=>?_⟩;obtain⟨rfl,rfl⟩:=y;exact⟨fun _ _ z=>z,.int _⟩,fun ei=>by rw [zfL]at ei; exact Nat.le_of_eq ei.symm⟩
def zcU(ma:MA):MI:=fun ρ=>(ma ρ).bind fun p=>(zao p.2 p.1).bind fun us=>match us with
 | [.d (.int j)]=>if -(2^62)<=j/\j < 2^62 then some (zaY 0 j.toNat,p.2)else none
 | _=>none
theorem zbT{ta:TA}{ma:MA}(h:VAs K ta ma):VI K (zmO ta) (zcU ma):=by
 intro ρ σ H ds ρ' R r e q;obtain⟨⟨as,ρ1⟩,e1,e⟩:=zd e;obtain⟨us,eu,e⟩:=zd e;refine h ρ σ H as ρ1 _ r e1 fun vs H1 g1 s1=>?_;have rp:=s1.rpl r g1 eu;dsimp only at e;split at e
 ·split at e
  ·rename_i j hc
   cases e;cases rp with
   | cons h1 t =>
    cases t;cases DF.int_inv h1;exact⟨j,rfl,hc.1,hc.2,q _ _ g1 zjs⟩
  ·cases e
 ·cases e
def za1:Nat->List D->List D
 | _,[]=>[]
 | i,d::ds=>.tuple [.int (i:Nat),d]::za1 (i+1) ds
theorem zaK:∀ {ds:List D} {n i:Nat} {d:D},(za1 n ds)[i]?=some d->∃ x,ds[i]?=some x/\d=.tuple [.int ((n+i:Nat):Int),x]
 | [],n,i,d,h=>by simp [za1]at h
 | x::ds,n,0,d,h=>by cases h; exact⟨x,rfl,rfl⟩
 | x::ds,n,i+1,d,h=>by
  obtain⟨y,ey,ed⟩:=zaK (ds:=ds) (n:=n+1) (i:=i) h;exact⟨y,ey,by rw [ed]; congr 3; omega⟩
theorem zak:∀ (ds:List D) (n:Nat),(za1 n ds).length=ds.length
 | [],_=>rfl
 | _::ds,n=>congrArg (·+1) (zak ds (n+1))
def ziq(ma:MA):MI:=fun ρ=>(ma ρ).bind fun p=>(zao p.2 p.1).bind fun us=>match us with
 | [.d (.tuple ds)]=>some (za1 0 ds,p.2)
 | _=>none
theorem zkq{ta:TA}{ma:MA}(h:VAs K ta ma):VI K (zrB K ta) (ziq ma):=by
 intro ρ σ H ds ρ' R r e q;obtain⟨⟨as,ρ1⟩,e1,e⟩:=zd e;obtain⟨us,eu,e⟩:=zd e;refine h ρ σ H as ρ1 _ r e1 fun vs H1 g1 s1=>?_;have rp:=s1.rpl r g1 eu;dsimp only at e;split at e
 ·rename_i xs
  cases e;cases rp with
  | cons h1 t =>
   cases t;obtain⟨b,ys,rfl,h1,h2⟩:=DF.tup_inv h1;refine⟨b,rfl,⟨ys,(TpK.sq h1)⟩,q _ _ g1 fun H2 k i=>⟨fun d ed=>?_,fun ei=>?_⟩⟩
   ·obtain⟨x,ex,rfl⟩:=zaK ed
    obtain⟨v,ev,dv⟩:=(h2.kp k).get ex;refine⟨⟨ys,v,(TpK.kp k h1).sq,ev⟩,fun x H' y=>?_⟩;obtain⟨T,nT,rfl,y⟩:=y;cases y ys v ((TpK.kp k h1).sq) ev;have sm:=zC nT (.tup [.int i,v]);refine⟨sm,.tup (.inl zr) (.cons ?_ (.cons (dv.kp sm.kp) .nil))⟩;rw [Nat.zero_add];exact .int _
   ·exact⟨ys,(TpK.kp k h1).sq,by rw [zak]at ei; rw [h2.len]; exact ei.symm⟩
 ·cases e
abbrev MG:=D->En->Option En
def zxa(pn:List Nat)(mg:MG):Prop:=∀ d ρ ρ',mg d ρ=some ρ'->ρ'.length=ρ.length/\∀ i∈pn,ρ'[i]?=ρ[i]?
def zvL(pn:List Nat)(mg:List D->En->Option En):Prop:=∀ ds ρ ρ',mg ds ρ=some ρ'->ρ'.length=ρ.length/\∀ i∈pn,ρ'[i]?=ρ[i]?
structure VGt (K:qc) (pn:List Nat) (g:TG) (mg:MG):Prop where
 run:∀ (σ₀:St) (A:Addr->Prop) (H₀ H₁:Hp) (ρ:En) (σ:St) (H:Hp) (v:V) (d:D) (ρ':En) (Q:St->Hp->Prop),Sn K pn σ₀ A H₀ H₁ ρ σ H->DF K H v d->mg d ρ=some ρ'->(∀ σ',Sn K pn σ₀ A H₀ H₁ ρ' σ' H->Q σ' H)->g v σ H Q
 ok:zxa pn mg
structure VGs (K:qc) (pn:List Nat) (g:TGs) (mg:List D->En->Option En):Prop where
 run:∀ (σ₀:St) (A:Addr->Prop) (H₀ H₁:Hp) (ρ:En) (σ:St) (H:Hp) (vs:List V) (ds:List D) (ρ':En) (Q:St->Hp->Prop),Sn K pn σ₀ A H₀ H₁ ρ σ H->DFs K H vs ds->mg ds ρ=some ρ'->(∀ σ',Sn K pn σ₀ A H₀ H₁ ρ' σ' H->Q σ' H)->g vs σ H Q
 ok:zvL pn mg
def zx(i:Nat):MG:=fun d ρ=>some (ρ.set i (some (.d d)))
theorem zw{i:Nat}(hi:i∉pn:=by decide):VGt K pn (zbr i) (zx i) where
 run:=by
  intro σ₀ A H₀ H₁ ρ σ H v d ρ' Q s h e q;cases e;exact q _ (s.set hi (u:=.d d) h fun o=>by cases o)
 ok:=fun d ρ ρ' e=>by
  cases e;exact⟨List.length_set,fun j hj=>qC (by rintro rfl; exact hi hj)⟩
def zaV:List D->En->Option En:=fun ds ρ=>match ds with | []=>some ρ | _=>none
def zH(g:MG)(gs:List D->En->Option En):List D->En->Option En:=fun ds ρ=>match ds with
 | d::ds=>(g d ρ).bind fun ρ1=>gs ds ρ1
 | []=>none
theorem zav:VGs K pn zp0 zaV where
 run:=by
  intro σ₀ A H₀ H₁ ρ σ H vs ds ρ' Q s h e q;cases h with
  | nil=>cases e; exact⟨rfl,q σ s⟩
  | cons=>cases e
 ok:=fun ds ρ ρ' e=>by
  cases ds with
  | nil=>cases e; exact⟨rfl,fun _ _=>rfl⟩
  | cons=>cases e
theorem zB{g:TG}{gs:TGs}{mg:MG}{mgs:List D->En->Option En}(h1:VGt K pn g mg)(h2:VGs K pn gs mgs):VGs K pn (zhX g gs) (zH mg mgs) where
 run:=by
  intro σ₀ A H₀ H₁ ρ σ H vs ds ρ' Q s h e q;cases h with
  | nil=>cases e
  | @cons v d vs ds hv t =>
   obtain⟨ρ1,e1,e⟩:=zd (show(mg d ρ).bind (fun ρ1=>mgs ds ρ1)=some ρ' from e);exact⟨v,vs,rfl,h1.run σ₀ A H₀ H₁ ρ σ H v d ρ1 _ s hv e1 fun σ1 s1=>h2.run σ₀ A H₀ H₁ ρ1 σ1 H vs ds ρ' Q s1 t e q⟩
 ok:=fun ds ρ ρ' e=>by
  cases ds with
  | nil=>cases e
  | cons d ds =>
   obtain⟨ρ1,e1,e⟩:=zd (show(mg d ρ).bind (fun ρ1=>mgs ds ρ1)=some ρ' from e);obtain⟨a1,a2⟩:=h1.ok d ρ ρ1 e1;obtain⟨b1,b2⟩:=h2.ok ds ρ1 ρ' e;exact⟨b1.trans a1,fun i hi=>(b2 i hi).trans (a2 i hi)⟩
def zaD(n:Nat)(gs:List D->En->Option En):MG:=fun d ρ=>match d with
 | .tuple ds=>if ds.length=n then gs ds ρ else none
 | _=>none
theorem zaw{n:Nat}{gs:TGs}{mgs:List D->En->Option En}(h:VGs K pn gs mgs):VGt K pn (zp2 K n gs) (zaD n mgs) where
 run:=by
  intro σ₀ A H₀ H₁ ρ σ H v d ρ' Q s hd e q;unfold zaD at e;split at e
  ·split at e
   ·rename_i ds hl
    obtain⟨a,xs,rfl,h1,h2⟩:=DF.tup_inv hd;exact⟨a,xs,rfl,(TpK.sq h1),by rw [h2.len]; exact hl,h.run σ₀ A H₀ H₁ ρ σ H xs ds ρ' Q s h2 e q⟩
   ·cases e
  ·cases e
 ok:=fun d ρ ρ' e=>by
  unfold zaD at e;split at e
  ·split at e
   ·exact h.ok _ _ _ e
   ·cases e
  ·cases e
def zbt(mg:MG)(mb:MS):List D->En->Option Fl
 | [],ρ=>some (.nx ρ)
 | d::ds,ρ=>(mg d ρ).bind fun ρ1=>(mb ρ1).bind fun f=>match f with
  | .nx ρ2=>zbt mg mb ds ρ2
  | .ct ρ2=>zbt mg mb ds ρ2
  | .bk ρ2=>some (.nx ρ2)
  | .rt u ρ2=>some (.rt u ρ2)
  | .ex x ρ2=>some (.ex x ρ2)
def zbq(mi:MI)(mg:MG)(mb:MS):MS:=fun ρ=>(mi ρ).bind fun p=>zbt mg mb p.1 p.2
theorem zay{wi:TI}{g:TG}{tb:TS}{mi:MI}{mg:MG}{mb:MS}(hi:VI K wi mi)(hg:VGt K pn g mg)(hb:VS K pn EX tb mb):VS K pn EX (ztj wi g tb) (zbq mi mg mb):=by
 intro σ₀ A H₀ H₁ ρ σ H f D s e k;obtain⟨⟨ds,ρ1⟩,e1,e⟩:=zd e;refine hi ρ σ H ds ρ1 _ s.rs e1 fun J H1 g1 run=>?_;have s1:=(s.go g1).at;have kp01:Kp H₁ H1:=(s.go g1).kp;refine⟨fun i m σ' H'=>m=ds.length - i/\i<=ds.length/\∃ ρ',Sn K pn σ₀ A H₀ H1 ρ' σ' H'/\zbt mg mb (ds.drop i) ρ'=some f,⟨ds.length,by simp,Nat.zero_le _,ρ1,s1,e⟩,?_⟩;rintro i m σ' H' ⟨rfl,hi',ρ',s',el⟩
 by_cases hlt:i < ds.length
 ·rw [List.drop_eq_getElem_cons hlt]at el
  obtain⟨ρ2,e2,el⟩:=zd (show(mg ds[i] ρ').bind _=some f from el);obtain⟨fb,eb,el⟩:=zd el;obtain⟨go,yl⟩:=(run H' s'.kp i).1 ds[i] (qm hlt);refine .inr ⟨go,fun σ3 H3=>∃ ρ3,Sn K pn σ₀ A H₀ H1 ρ3 σ3 H3/\zbt mg mb (ds.drop (i+1)) ρ3=some f,fun σ3 H3 ⟨ρ3,s3,e3⟩=>⟨ds.length - (i+1),by omega,rfl,hlt,ρ3,s3,e3⟩,fun x H2 y=>?_⟩;obtain⟨sm,dx⟩:=yl x H2 y;have s2:=s'.go (Go.grow s'.rs sm);refine hg.run σ₀ A H₀ H1 ρ' σ' H2 x ds[i] ρ2 _ s2 dx e2 fun σ3 s3=>?_;refine hb σ₀ A H₀ H1 ρ2 σ3 H2 fb _ s3 eb ?_;cases fb with
  | nx ρ4=>exact fun σ4 H4 s4=>⟨ρ4,s4,el⟩
  | ct ρ4=>exact fun σ4 H4 s4=>⟨ρ4,s4,el⟩
  | bk ρ4=>cases el; exact fun σ4 H4 s4=>k σ4 H4 (s4.re kp01)
  | rt u ρ4=>cases el; exact fun v σ4 H4 s4 p n=>k v σ4 H4 (s4.re kp01) p n
  | ex x ρ4=>cases el; exact fun a σ4 H4 s4 p n=>k a σ4 H4 (s4.re kp01) p n
 ·have ei:i=ds.length:=by omega
  subst ei;rw [List.drop_length]at el;cases el;exact .inl ⟨(run H' s'.kp _).2 rfl,k σ' H' (s'.re kp01)⟩
end
section
variable {K:qc} {pn:List Nat} {σ₀:St} {A:Addr->Prop} {H₀ H₁ H₂:Hp} {ρ ρ':En} {σ:St} {H H':Hp}
def cEn(nt:Nat)(js:List Nat)(ρ:En):En:=List.replicate nt none++js.map fun j=>ρ.getD j none
def reset(nt:Nat)(ρ:En):En:=List.replicate nt none++ρ.drop nt
def back:List Nat->List (Option U)->En->En
 | j::js,some u::us,ρ=>back js us (ρ.set j (some u))
 | _::js,none::us,ρ=>back js us ρ
 | _,_,ρ=>ρ
def lcM(nt:Nat)(mg:MG)(mt:MT)(me:ME):List D->En->List D->Option (List D×En)
 | [],ρ,ys=>some (ys,ρ)
 | d::ds,ρ,ys=>if ys.length < sizeLine then(mg d ρ).bind fun ρ1=>(mt ρ1).bind fun b=>if b.1=true then(me b.2).bind fun p=>(p.1.get p.2).bind fun u=>(match u with
   | .d y=>lcM nt mg mt me ds (reset nt p.2) (ys++[y])
   | _=>none)else lcM nt mg mt me ds (reset nt b.2) ys else none
def mLC(mi:MI)(nt:Nat)(js:List Nat)(mg:MG)(mt:MT)(me:ME):ME:=fun ρ=>(mi ρ).bind fun p=>(lcM nt mg mt me p.1 (cEn nt js p.2) []).bind fun q=>some (.u (.l q.1),back js (q.2.drop nt) p.2)
def zbG(nt n:Nat):List Nat:=(List.range n).map (nt+·)
theorem zbU{nt n i:Nat}:i∈zbG nt n↔nt<=i/\i < nt+n:=by
 unfold zbG;rw [List.mem_map];constructor
 ·rintro⟨a,ha,rfl⟩
  have:=List.mem_range.mp ha;omega
 ·intro h
  exact⟨i - nt,List.mem_range.mpr (by omega),by omega⟩
theorem zeq{nt:Nat}{js:List Nat}{i:Nat}{u:U}(h:(cEn nt js ρ)[i]?=some (some u)):∃ p j,i=nt+p/\js[p]?=some j/\ρ[j]?=some (some u):=by
 unfold cEn at h
 by_cases hi:i < nt
 ·rw [List.getElem?_append_left (by simpa using hi),List.getElem?_replicate,if_pos hi]at h
  cases h
 ·rw [List.getElem?_append_right (by simp; omega),List.length_replicate,List.getElem?_map]at h
  obtain⟨j,ej,e⟩:=qr.mp h;refine⟨i - nt,j,by omega,ej,?_⟩;rw [qB]at e;cases q:ρ[j]? with
  | none=>rw [q]at e; cases e
  | some o=>rw [q]at e; exact congrArg some e
theorem znu{nt:Nat}{js:List Nat}{p j:Nat}(h:js[p]?=some j):(c0 nt js σ)[nt+p]?=some (σ.getD j none):=by
 unfold c0;rw [List.getElem?_append_right (by simp),List.length_replicate,Nat.add_sub_cancel_left,List.getElem?_map,h];rfl
theorem zjt{nt:Nat}{js:List Nat}:(c0 nt js σ).length=nt+js.length:=by unfold c0; simp
theorem zdQ{nt:Nat}{js:List Nat}:(cEn nt js ρ).length=nt+js.length:=by unfold cEn; simp
def zer(ρ:En)(σ:St)(js:List Nat)(a:Addr):Prop:=∃ (p j:Nat) (u:U),js[p]?=some j/\ρ[j]?=some (some u)/\u.own=true/\σ[j]?=some (some (.ref a))
theorem zkr{nt:Nat}{js:List Nat}(r:Rs K ρ σ H)(nd:js.Nodup):Sn K (zbG nt js.length) (c0 nt js σ) (zer ρ σ js) H H (cEn nt js ρ) (c0 nt js σ) H:=by
 have sat:∀ {p j:Nat} {v:V},js[p]?=some j->σ[j]?=some (some v)->(c0 nt js σ)[nt+p]?=some (some v):=fun{p j v} hp hv=>by
  rw [znu hp,qB,hv];rfl
 refine⟨⟨by rw [zdQ,zjt],fun i u e=>?_,fun i k u w ei ek ou ow es=>?_⟩,fun _ _ h _=>h,fun i u a e o es=>?_,fun _ _=>rfl,fun _ h=>h,Kp.refl H⟩
 ·obtain⟨p,j,rfl,hj,hr⟩:=zeq e
  obtain⟨v,ev,q⟩:=r.rep j u hr;exact⟨v,sat hj ev,q⟩
 ·obtain⟨p,j,rfl,hj,hr⟩:=zeq ei
  obtain⟨p',j',rfl,hj',hr'⟩:=zeq ek;obtain⟨v,ev,_⟩:=r.rep j u hr;obtain⟨v',ev',_⟩:=r.rep j' w hr';rw [sat hj ev,sat hj' ev']at es;have:j=j':=r.apart j j' u w hr hr' ou ow (by rw [ev,ev']; exact es);subst this;have l1:=(qk.mp hj);have l2:=(qk.mp hj');obtain⟨h1,e1⟩:=l1;obtain⟨h2,e2⟩:=l2;have:=(List.getElem_inj nd).mp (e1.trans e2.symm);omega
 ·obtain⟨p,j,rfl,hj,hr⟩:=zeq e
  obtain⟨v,ev,_⟩:=r.rep j u hr;rw [sat hj ev]at es;cases es;exact .inl ⟨zbU.mpr ⟨by omega,by have:=(qk.mp hj).1; omega⟩,p,j,u,hj,hr,o,ev⟩
theorem Sn.reset{nt n:Nat}{σc:St}{ρ2:En}{σ2:St}(s:Sn K (zbG nt n) σc A H₀ H₁ ρ2 σ2 H)(l1:ρ2.length=nt+n)(l2:σc.length=nt+n):Sn K (zbG nt n) σc A H₀ H₁ (L2.reset nt ρ2) σc H:=by
 have bk:∀ (i:Nat) (u:U),(L2.reset nt ρ2)[i]?=some (some u)->nt<=i/\i < nt+n/\ρ2[i]?=some (some u):=fun i u e=>by
  unfold L2.reset at e
  by_cases hi:i < nt
  ·rw [List.getElem?_append_left (by simpa using hi),List.getElem?_replicate,if_pos hi]at e
   cases e
  ·rw [List.getElem?_append_right (by simp; omega),List.length_replicate,List.getElem?_drop,show nt+(i - nt)=i by omega]at e
   have:=(qk.mp e).1;exact⟨by omega,by omega,e⟩
 have pin:∀ i,nt<=i->i < nt+n->σc[i]?=σ2[i]?:=fun i h1 h2=>(s.pin i (zbU.mpr ⟨h1,h2⟩)).symm;have ll:(L2.reset nt ρ2).length=nt+n:=by unfold L2.reset; simp; omega
 refine⟨⟨by omega,fun i u e=>?_,fun i j u w ei ej ou ow es=>?_⟩,s.fr,fun i u a e o es=>?_,fun _ _=>rfl,s.dm,s.kp⟩
 ·obtain⟨h1,h2,e'⟩:=bk i u e
  rw [pin i h1 h2];exact s.rs.rep i u e'
 ·obtain⟨h1,h2,ei'⟩:=bk i u ei
  obtain⟨h3,h4,ej'⟩:=bk j w ej;rw [pin i h1 h2,pin j h3 h4]at es;exact s.rs.apart i j u w ei' ej' ou ow es
 ·obtain⟨h1,h2,e'⟩:=bk i u e
  rw [pin i h1 h2]at es;exact s.ow i u a e' o es
theorem zfe:∀ {js:List Nat} {us:List (Option U)} {ρ:En} {j:Nat} {w:U},(back js us ρ)[j]?=some (some w)->(∃ p:Nat,js[p]?=some j/\us[p]?=some (some w))\/(ρ[j]?=some (some w)/\∀ p:Nat,js[p]?=some j->∀ x,us[p]?≠some (some x))
 | [],us,ρ,j,w,e=>.inr ⟨by cases us<;>exact e,fun p z=>by simp at z⟩
 | k::js,[],ρ,j,w,e=>.inr ⟨e,fun p z x=>by simp⟩
 | k::js,none::us,ρ,j,w,e=>by
  rcases zfe (js:=js) (us:=us) (ρ:=ρ) (show(back js us ρ)[j]?=some (some w) from e)with ⟨p,h1,h2⟩ | ⟨h1,h2⟩
  ·exact .inl ⟨p+1,h1,h2⟩
  ·refine .inr ⟨h1,fun p z x=>?_⟩
   cases p with
   | zero=>intro q; cases q
   | succ p=>exact h2 p z x
 | k::js,some u::us,ρ,j,w,e=>by
  rcases zfe (js:=js) (us:=us) (ρ:=ρ.set k (some u)) (show(back js us (ρ.set k (some u)))[j]?=some (some w) from e)with ⟨p,h1,h2⟩ | ⟨h1,h2⟩
  ·exact .inl ⟨p+1,h1,h2⟩
  ·by_cases hk:k=j
   ·subst hk
    have hl:k < (ρ.set k (some u)).length:=(qk.mp h1).1;rw [List.length_set]at hl;rw [List.getElem?_set_self hl]at h1;exact .inl ⟨0,rfl,by cases h1; rfl⟩
   ·rw [qC hk]at h1
    refine .inr ⟨h1,fun p z x=>?_⟩;cases p with
    | zero=>cases(show some k=some j from z); exact absurd rfl hk
    | succ p=>exact h2 p z x
theorem zdR:∀ (js:List Nat) (us:List (Option U)) (ρ:En),(back js us ρ).length=ρ.length
 | [],us,ρ=>by cases us<;>rfl
 | _::js,[],ρ=>rfl
 | _::js,none::us,ρ=>zdR js us ρ
 | j::js,some u::us,ρ=>by show(back js us (ρ.set j (some u))).length=_; rw [zdR]; exact List.length_set
theorem zdf:∀ {js:List Nat} {us:List (Option U)} {ρ:En} {j:Nat} {w:U},ρ[j]?=some (some w)->∃ w',(back js us ρ)[j]?=some (some w')
 | [],us,ρ,j,w,e=>⟨w,by cases us<;>exact e⟩
 | _::js,[],ρ,j,w,e=>⟨w,e⟩
 | _::js,none::us,ρ,j,w,e=>zdf (js:=js) (us:=us) e
 | k::js,some u::us,ρ,j,w,e=>by
  by_cases hk:k=j
  ·subst hk
   exact zdf (js:=js) (us:=us) (w:=u) (List.getElem?_set_self (qk.mp e).1)
  ·exact zdf (js:=js) (us:=us) (w:=w) (by rw [qC hk]; exact e)
theorem Sn.comp_back{nt:Nat}{js:List Nat}{ρ2:En}(r:Rs K ρ σ H)(s:Sn K (zbG nt js.length) (c0 nt js σ) (zer ρ σ js) H H₁ ρ2 (c0 nt js σ) H')(l:ρ2.length=nt+js.length)(sh:Shr (cEn nt js ρ) ρ2) :
  Go K ρ σ H (back js (ρ2.drop nt) ρ) H':=by
 have usAt:∀ (p:Nat) (w:U),(ρ2.drop nt)[p]?=some (some w)->ρ2[nt+p]?=some (some w):=fun p w e=>by rw [List.getElem?_drop]at e; exact e
 have kp:Kp H H':=by
  refine⟨fun b xs h=>s.fr b _ h fun⟨p,j,u,hj,hr,ou,es⟩=>?_,fun b ob u h=>s.fr b _ h fun⟨p,j,u,hj,hr,ou,es⟩=>?_,fun b x h=>s.fr b _ h fun⟨p,j,u,hj,hr,ou,es⟩=>?_⟩
  all_goals
   obtain⟨c,q,m⟩:=r.ow ⟨j,u,hr,ou,es⟩;rw [h]at q; cases q; exact m
 have orig:∀ (p j:Nat) (w:U),js[p]?=some j->(ρ2.drop nt)[p]?=some (some w)->w.own=true->∃ x,ρ[j]?=some (some x)/\x.own=true:=fun p j w hj e o=>by
  obtain⟨x,ex,ox⟩:=sh.own (nt+p) w (usAt p w e) o;obtain⟨p',j',ep,hj',hr⟩:=zeq ex;have:p'=p:=by omega
  subst this;rw [hj]at hj';cases hj';exact⟨x,hr,ox⟩
 have own:∀ (j:Nat) (w:U),(back js (ρ2.drop nt) ρ)[j]?=some (some w)->w.own=true->∃ x,ρ[j]?=some (some x)/\x.own=true:=fun j w e o=>by
  rcases zfe e with ⟨p,hj,hu⟩ | ⟨h1,_⟩
  ·exact orig p j w hj hu o
  ·exact⟨w,h1,o⟩
 refine⟨⟨by rw [zdR]; exact r.len,fun j w e=>?_,fun i j u w ei ej ou ow es=>?_⟩,fun a o h n=>s.fr a o h fun⟨p,j,u,hj,hr,ou,es⟩=>n ⟨j,u,hr,ou,es⟩,⟨zdR _ _ _,own,fun j w e=>zdf e⟩,s.dm⟩
 ·rcases zfe e with ⟨p,hj,hu⟩ | ⟨h1,h2⟩
  ·obtain⟨v,ev,q⟩:=s.rs.rep (nt+p) w (usAt p w hu)
   rw [znu hj]at ev;refine⟨v,?_,q⟩;rw [qB]at ev;cases z:σ[j]? with
   | none=>rw [z]at ev; cases ev
   | some o=>rw [z]at ev; exact congrArg some (qx ev)
  ·obtain⟨v,ev,q⟩:=r.rep j w h1
   refine⟨v,ev,q.kp kp fun ow a c ea hc=>s.fr a c hc fun⟨p,j',u,hj,hr,ou,es⟩=>?_⟩;subst ea;have:j'=j:=r.apart j' j u w hr h1 ou ow (by rw [es,ev]);subst this;have e1:(cEn nt js ρ)[nt+p]?=some (some u):=by
    unfold cEn;rw [List.getElem?_append_right (by simp),List.length_replicate,Nat.add_sub_cancel_left,List.getElem?_map,hj];show some (ρ.getD j' none)=_;rw [qB,hr];rfl
   obtain⟨w',ew'⟩:=sh.live _ _ e1;exact h2 p hj w' (by rw [List.getElem?_drop]; exact ew')
 ·obtain⟨x,ex,ox⟩:=own i u ei ou
  obtain⟨y,ey,oy⟩:=own j w ej ow;exact r.apart i j x y ex ey ox oy es
theorem Shr.reset'{nt n:Nat}{ρc ρ1:En}(l:ρc.length=nt+n)(h0:∀ i,i < nt->ρc[i]?=some none)(l1:ρ1.length=nt+n)(own:∀ (i:Nat) (u:U),nt<=i->ρ1[i]?=some (some u)->u.own=true->∃ w,ρc[i]?=some (some w)/\w.own=true)(live:∀ (i:Nat) (u:U),nt<=i->ρc[i]?=some (some u)->∃ w,ρ1[i]?=some (some w)):Shr ρc (L2.reset nt ρ1):=by
 have at':∀ i,nt<=i->(L2.reset nt ρ1)[i]?=ρ1[i]?:=fun i hi=>by
  unfold L2.reset;rw [List.getElem?_append_right (by simp; omega),List.length_replicate,List.getElem?_drop,show nt+(i - nt)=i by omega]
 have lo:∀ i,i < nt->(L2.reset nt ρ1)[i]?=some none:=fun i hi=>by
  unfold L2.reset;rw [List.getElem?_append_left (by simpa using hi),List.getElem?_replicate,if_pos hi]
 refine⟨by unfold L2.reset; simp; omega,fun i u e o=>?_,fun i u e=>?_⟩
 ·by_cases hi:i < nt
  ·rw [lo i hi]at e; cases e
  ·rw [at' i (by omega)]at e
   exact own i u (by omega) e o
 ·by_cases hi:i < nt
  ·rw [h0 i hi]at e; cases e
  ·rw [at' i (by omega)]
   exact live i u (by omega) e
theorem zfM{nt:Nat}{ρ1:En}{i:Nat}(h:i < nt):(L2.reset nt ρ1)[i]?=some none:=by
 unfold L2.reset;rw [List.getElem?_append_left (by simpa using h),List.getElem?_replicate,if_pos h]
theorem zju{nt:Nat}{js:List Nat}{i:Nat}(h:i < nt):(cEn nt js ρ)[i]?=some none:=by
 unfold cEn;rw [List.getElem?_append_left (by simpa using h),List.getElem?_replicate,if_pos h]
def VIA(K:qc)(js:List Nat)(wi:TI)(mi:MI):Prop :=
 ∀ (ρ:En) (σ:St) (H:Hp) (ds:List D) (ρ':En) (R:It->Hp->Prop),Rs K ρ σ H->mi ρ=some (ds,ρ')->(∀ J H',Go K ρ σ H ρ' H'->(∀ H2,Kp H' H2->Fr' (zer ρ' σ js) H' H2->∀ i:Nat,(∀ d,ds[i]?=some d->J.go i H2/\∀ x H3,J.yld i H2 x H3->zba H2 H3/\DF K H3 x d)/\(i=ds.length->J.stop i H2))->R J H')->wi σ H R
theorem zrF{wi:TI}{nt:Nat}{js:List Nat}{g:TG}{tt:TT}{te:TE}{mi:MI}{mg:MG}{mt:MT}{me:ME}(hi:VIA K js wi mi)(hg:VGt K (zbG nt js.length) g mg)(ht:VT K tt mt)(he:VE K te me)(nd:js.Nodup:=by decide) :
  VE K (tLC wi nt js g tt te) (mLC mi nt js mg mt me):=by
 intro ρ σ H a ρ' Q r e q;obtain⟨⟨ds,ρ1⟩,e1,e⟩:=zd e;obtain⟨⟨zs,ρz⟩,e2,e⟩:=zd e;cases e;refine hi ρ σ H ds ρ1 _ r e1 fun J H1 g1 run=>?_;have s1:=zkr (nt:=nt) (js:=js) g1.rs nd;refine⟨fun i m ys H'=>m=ds.length - i/\i<=ds.length/\∃ ρc yd,Sn K (zbG nt js.length) (c0 nt js σ) (zer ρ1 σ js) H1 H1 ρc (c0 nt js σ) H'/\Shr (cEn nt js ρ1) ρc/\(∀ k,k < nt->ρc[k]?=some none)/\DFs K H' ys yd/\lcM nt mg mt me (ds.drop i) ρc yd=some (zs,ρz),
  ⟨ds.length,by simp,Nat.zero_le _,_,[],s1,Shr.refl _,fun k hk=>zju hk,.nil,e2⟩,?_⟩
 rintro i m ys H' ⟨rfl,hi',ρc,yd,s',sh,lo,dy,el⟩;have lc:ρc.length=nt+js.length:=by rw [sh.len,zdQ]
 by_cases hlt:i < ds.length
 ·rw [List.drop_eq_getElem_cons hlt]at el
  unfold lcM at el;split at el
  ·rename_i hz
   obtain⟨ρ2,e3,el⟩:=zd el;obtain⟨⟨b,ρ3⟩,e4,el⟩:=zd el;obtain⟨l2,p2⟩:=hg.ok _ _ _ e3;obtain⟨go,yl⟩:=(run H' s'.kp s'.fr i).1 ds[i] (qm hlt);refine .inr ⟨go,by rw [dy.len]; exact hz,fun ys' H2=>∃ ρc' yd',Sn K (zbG nt js.length) (c0 nt js σ) (zer ρ1 σ js) H1 H1 ρc' (c0 nt js σ) H2/\Shr (cEn nt js ρ1) ρc'/\(∀ k,k < nt->ρc'[k]?=some none)/\DFs K H2 ys' yd'/\lcM nt mg mt me (ds.drop (i+1)) ρc' yd'=some (zs,ρz),
    fun ys' H2 ⟨ρc',yd',z⟩=>⟨ds.length - (i+1),by omega,rfl,hlt,ρc',yd',z⟩,fun x H2 y=>?_⟩
   obtain⟨sm,dx⟩:=yl x H2 y;have s2:=s'.go (Go.grow s'.rs sm);refine hg.run _ _ _ _ ρc _ H2 x ds[i] ρ2 _ s2 dx e3 fun σ3 s3=>?_;have toEnd:∀ {ρ4:En} {H4:Hp},Go K ρ2 σ3 H2 ρ4 H4->Sn K (zbG nt js.length) (c0 nt js σ) (zer ρ1 σ js) H1 H1 (L2.reset nt ρ4) (c0 nt js σ) H4/\Shr (cEn nt js ρ1) (L2.reset nt ρ4):=fun{ρ4 H4} g4=>by
    have l4:ρ4.length=nt+js.length:=by rw [g4.shr.len,l2,lc]
    refine⟨(s3.go g4).reset l4 zjt,sh.trans (Shr.reset' lc lo l4 (fun k u hk ek ou=>?_) fun k u hk ek=>?_)⟩
    ·obtain⟨w,ew,ow⟩:=g4.shr.own k u ek ou
     have lk:k < nt+js.length:=by rw [<-l2.trans lc]; exact(qk.mp ew).1
     rw [p2 k (zbU.mpr ⟨hk,lk⟩)]at ew;exact⟨w,ew,ow⟩
    ·have lk:k < nt+js.length:=by rw [<-lc]; exact(qk.mp ek).1
     rw [<-p2 k (zbU.mpr ⟨hk,lk⟩)]at ek;exact g4.shr.live k u ek
   refine ht ρ2 σ3 H2 b ρ3 _ s3.rs e4 fun H3 g3=>?_;dsimp only at el;split at el
   ·rename_i hb
    rw [if_pos hb];obtain⟨⟨a4,ρ4⟩,e5,el⟩:=zd el;obtain⟨u,e6,el⟩:=zd el;refine he ρ3 σ3 H3 a4 ρ4 _ g3.rs e5 fun v H4 g4 k4=>?_;have pv:=k4.now g3.rs g4 e6;dsimp only at el;split at el
    ·rename_i yv
     obtain⟨sn,sr⟩:=toEnd (g3.trans g4);exact⟨_,_,sn,sr,fun k hk=>zfM hk,((dy.kp sm.kp).kp ((g3.trans g4).kp s3.rs)).snoc pv,el⟩
    ·cases el
   ·rename_i hb
    rw [if_neg hb];obtain⟨sn,sr⟩:=toEnd g3;exact⟨_,_,sn,sr,fun k hk=>zfM hk,(dy.kp sm.kp).kp (g3.kp s3.rs),el⟩
  ·cases el
 ·have ei:i=ds.length:=by omega
  subst ei;rw [List.drop_length]at el;cases el;refine .inl ⟨(run H' s'.kp s'.fr _).2 rfl,fun Da hD=>?_⟩;have gb:=Sn.comp_back g1.rs s' lc sh;have sm:=zC hD (.lst ys);exact q _ _ ((g1.trans gb).trans (Go.grow gb.rs sm)) ⟨⟨Da,ys,rfl,zr,dy.kp sm.kp⟩,fun _=>⟨Da,rfl,(g1.trans gb).dm _ hD⟩⟩
theorem zfN{wi:TI}{nt:Nat}{js:List Nat}{g:TG}{tt:TT}{te:TE}{mi:MI}{mg:MG}{mt:MT}{me:ME}(hi:VI K wi mi)(hg:VGt K (zbG nt js.length) g mg)(ht:VT K tt mt)(he:VE K te me)(nd:js.Nodup:=by decide) :
  VE K (tLC wi nt js g tt te) (mLC mi nt js mg mt me):=zrF (fun ρ σ H ds ρ' R r e q=>hi ρ σ H ds ρ' R r e fun J H' g run=>q J H' g fun H2 k _=>run H2 k) hg ht he nd
end
section
variable {EX:EXT} {K:qc} {pn:List Nat} {σ₀:St} {A:Addr->Prop} {H₀ H₁ H₂:Hp} {ρ ρ':En} {σ:St} {H H':Hp}
def zaL(pn:List Nat)(ρ:En):Nat->List U->Option (List U)
 | _,[]=>some []
 | i,u::us=>(if i∈pn then(ρ[i]?).join.bind fun o=>if o.own=true/\u.own=false then none else some o else if u.own=true then none else some u).bind fun o=>(zaL pn ρ (i+1) us).bind fun os=>some (o::os)
def za2(n:Nat)(pn:List Nat)(m:MS):FD:=fun us=>(m (sm us++List.replicate (n - us.length) none)).bind fun f=>match f with
 | .rt u ρ=>(zaL pn ρ 0 us).bind fun os=>some (u,os)
 | .nx ρ=>(zaL pn ρ 0 us).bind fun os=>some (.d .none,os)
 | _=>none
theorem zir:∀ {us os:List U} {i:Nat},zaL pn ρ i us=some os->os.length=us.length
 | [],os,i,e=>by cases e; rfl
 | u::us,os,i,e=>by
  obtain⟨o,e1,e⟩:=zd e;obtain⟨os',e2,e⟩:=zd e;cases e;simp [zir e2]
theorem zdS:∀ {us os:List U} {i p:Nat} {o:U},zaL pn ρ i us=some os->os[p]?=some o->∃ u,us[p]?=some u/\((i+p∈pn/\ρ[i+p]?=some (some o)/\(o.own=true->u.own=true))\/(i+p∉pn/\o=u/\u.own=false))
 | [],os,i,p,o,e,ep=>by cases e; simp at ep
 | u::us,os,i,p,o,e,ep=>by
  obtain⟨o1,e1,e⟩:=zd e;obtain⟨os',e2,e⟩:=zd e;cases e;cases p with
  | zero =>
   cases(show some o1=some o from ep);refine⟨u,rfl,?_⟩;rw [Nat.add_zero];split at e1
   ·rename_i hi
    obtain⟨o2,e3,e1⟩:=zd e1;split at e1
    ·cases e1
    ·rename_i hc
     cases e1;refine .inl ⟨hi,?_,fun oo=>?_⟩
     ·cases q:ρ[i]? with
      | none=>rw [q]at e3; cases e3
      | some x=>rw [q]at e3; cases x with
       | none=>cases e3
       | some y=>cases e3; rfl
     ·cases hu:u.own with
      | true=>rfl
      | false=>exact absurd ⟨oo,hu⟩ hc
   ·rename_i hi
    split at e1
    ·cases e1
    ·rename_i hc
     cases e1;exact .inr ⟨hi,rfl,by simpa using hc⟩
  | succ p =>
   obtain⟨u',eu,h⟩:=zdS (i:=i+1) (p:=p) e2 ep;refine⟨u',eu,?_⟩;rw [show i+(p+1)=i+1+p by omega];exact h
theorem zis:∀ {us os:List U} {i p:Nat} {u:U},zaL pn ρ i us=some os->us[p]?=some u->u.own=true->i+p∈pn
 | [],os,i,p,u,e,ep,_=>by simp at ep
 | u::us,os,i,p,u',e,ep,o=>by
  obtain⟨o1,e1,e⟩:=zd e;obtain⟨os',e2,e⟩:=zd e;cases p with
  | zero =>
   cases(show some u=some u' from ep);rw [Nat.add_zero];split at e1
   ·assumption
   ·first | cases e1 | (rw [if_pos o]at e1; cases e1)
  | succ p =>
   rw [show i+(p+1)=i+1+p by omega];exact zis (i:=i+1) (p:=p) e2 ep o
theorem zcV{N:List Str}{vs:List V}{i:Nat}(h:i < vs.length):(zbg N vs)[i]?=(smV vs)[i]?:=by
 unfold zbg smV;rw [List.getElem?_append_left (by simpa using h)]
theorem znv{N:List Str}{us os:List U}{vs:List V}{ρx:En}(r:Rs K (sm us) (smV vs) H)(hl:us.length<=N.length)(ho:zaL pn ρx 0 us=some os) :
  Sn K pn (zbg N vs) (Ow (sm us) (smV vs)) H H (sm us++List.replicate (N.length - us.length) none) (zbg N vs) H:=by
 have lv:us.length=vs.length:=by have:=r.len; unfold sm smV at this; simpa using this
 have inv:∀ (i:Nat) (u:U),(sm us++List.replicate (N.length - us.length) none)[i]?=some (some u)->i < us.length/\(sm us)[i]?=some (some u):=fun i u e=>by
  by_cases hi:i < us.length
  ·rw [List.getElem?_append_left (by unfold sm; simpa using hi)]at e
   exact⟨hi,e⟩
  ·rw [List.getElem?_append_right (by unfold sm; simp; omega),List.getElem?_replicate]at e
   split at e<;>cases e
 refine⟨⟨?_,fun i u e=>?_,fun i j u w ei ej ou ow es=>?_⟩,fun _ _ h _=>h,fun i u a e o es=>?_,fun _ _=>rfl,fun _ h=>h,Kp.refl H⟩
 ·unfold zbg sm; simp; omega
 ·obtain⟨hi,e'⟩:=inv i u e
  rw [zcV (by omega)];exact r.rep i u e'
 ·obtain⟨hi,ei'⟩:=inv i u ei
  obtain⟨hj,ej'⟩:=inv j w ej;rw [zcV (by omega),zcV (by omega)]at es;exact r.apart i j u w ei' ej' ou ow es
 ·obtain⟨hi,e'⟩:=inv i u e
  rw [zcV (by omega)]at es;have:=zis ho (zaU.mp e') o;rw [Nat.zero_add]at this;exact .inl ⟨this,i,u,e',o,es⟩
theorem znw{N:List Str}{us os:List U}{vs:List V}{σ':St}(r:Rs K (sm us) (smV vs) H)(s:Sn K pn (zbg N vs) (Ow (sm us) (smV vs)) H H ρ' σ' H')(ho:zaL pn ρ' 0 us=some os):Go K (sm us) (smV vs) H (sm os) H':=by
 have lv:us.length=vs.length:=by have:=r.len; unfold sm smV at this; simpa using this
 have lo:=zir ho;have bnd:∀ {p:Nat} {o:U},os[p]?=some o->p < vs.length:=fun{p o} e=>by have:=(qk.mp e).1; omega
 have pin:∀ {p:Nat} {o:U},os[p]?=some o->p∈pn->σ'[p]?=(smV vs)[p]?:=fun{p o} e hp=>by rw [s.pin p hp,zcV (bnd e)]
 refine⟨⟨by unfold sm smV; simp; omega,fun p o e=>?_,fun p q o o' ep eq oo oo' es=>?_⟩,s.fr,⟨by unfold sm; simp; omega,fun p o e oo=>?_,fun p u e=>?_⟩,s.dm⟩
 ·have e':=zaU.mp e
  obtain⟨u,eu,h⟩:=zdS ho e';rw [Nat.zero_add]at h;rcases h with ⟨hp,hr,_⟩ | ⟨_,rfl,ou⟩
  ·obtain⟨v,ev,q⟩:=s.rs.rep p o hr
   rw [pin e' hp]at ev;exact⟨v,ev,q⟩
  ·obtain⟨v,ev,q⟩:=r.rep p o (zaU.mpr eu)
   exact⟨v,ev,q.kp s.kp fun oo=>by rw [ou]at oo; cases oo⟩
 ·have ep':=zaU.mp ep
  have eq':=zaU.mp eq;obtain⟨u,eu,h⟩:=zdS ho ep';obtain⟨u',eu',h'⟩:=zdS ho eq';rw [Nat.zero_add]at h h';rcases h with ⟨hp,hr,_⟩ | ⟨_,rfl,ou⟩
  ·rcases h' with ⟨hq,hr',_⟩ | ⟨_,rfl,ou'⟩
   ·rw [<-pin ep' hp,<-pin eq' hq]at es
    exact s.rs.apart p q o o' hr hr' oo oo' es
   ·rw [ou']at oo'; cases oo'
  ·rw [ou]at oo; cases oo
 ·have e':=zaU.mp e
  obtain⟨u,eu,h⟩:=zdS ho e';rcases h with ⟨_,_,h⟩ | ⟨_,rfl,ou⟩
  ·exact⟨u,zaU.mpr eu,h oo⟩
  ·rw [ou]at oo; cases oo
 ·have e':=zaU.mp e
  have hp:p < os.length:=by have:=(qk.mp e').1; omega
  exact⟨os[p],zaU.mpr (qm hp)⟩
theorem Fun.okV{P:Program}{w:World}{mg:Str->Option Value}{base:Heap}{x qual:Str}{st:Stmt}{f:Addr}{fd:FuncData}{N ps:List Str}{k n nn:Nat}{m:MS}(F:Fun K x qual st f fd)(S:FnScope N ps (zJ st))(hps:ps.length=n)(hN:N.length=nn)(hnn:n<=nn)
  (hbody:∀ (cdv:Value) (A:Around) (outer:List Env) (s:Shared) (H:Hp) (E:XK),Room k (A.deeper (envOfC qual (zJ st) s.heap.objs.size f cdv)) ->
   ∃ t,Wr (PSs (zgn CX0 P w K mg base N qual (zJ st) f cdv A outer s H E).nox (zar st) t)/\VS K pn EX0 t m):FnOk P w K mg base CX0 (k+1) f fd ps (spV K n (za2 nn pn m)):=by
 refine F.okW S (fun vs H Q E h=>?_) (fun cdv A outer s H vs Q E hr h=>?_)
 ·obtain⟨us,r,outs,hl,rs,_⟩:=h
  have:=rs.len;unfold sm smV at this;simp at this;omega
 obtain⟨us,r,outs,hl,rs,ef,q⟩:=h;obtain⟨t,wt,vt⟩:=hbody cdv A outer s H E hr;refine⟨t,wt,?_⟩;obtain⟨fl,em,ef⟩:=zd ef;have go:∀ (ρ':En),zaL pn ρ' 0 us=some outs->Sn K pn (zbg N vs) (Ow (sm us) (smV vs)) H H (sm us++List.replicate (N.length - us.length) none) (zbg N vs) H:=fun ρ' ho=>znv rs (by omega) ho;subst hN;cases fl with
 | nx ρ' =>
  obtain⟨os,eo,ef⟩:=zd (show(zaL pn ρ' 0 us).bind _=_ from ef);cases ef;refine vt _ _ _ _ _ _ _ (.nx ρ') _ (go ρ' eo) em fun σ' H' s'=>?_;exact q _ _ (znw rs s' eo) .non Nw.data
 | rt u ρ' =>
  obtain⟨os,eo,ef⟩:=zd (show(zaL pn ρ' 0 us).bind _=_ from ef);cases ef;refine vt _ _ _ _ _ _ _ (.rt r ρ') _ (go ρ' eo) em fun v σ' H' s' p n'=>?_;exact q _ _ (znw rs s' eo) p n'
 | bk=>cases ef
 | ct=>cases ef
 | ex=>cases ef
end
section
variable {EX:EXT} {K:qc} {pn:List Nat} {ρ ρ':En} {σ:St} {H H':Hp}
def zit(i:Nat)(me:ME):ME:=fun ρ=>match ρ[i]? with
 | some (some (.l _))=>(me ρ).bind fun p=>(p.1.get p.2).bind fun u=>match u,p.2[i]? with
  | .d x,some (some (.l xs))=>if xs.length < sizeLine then some (.u (.d .none),p.2.set i (some (.l (xs++[x]))))else none
  | _,_=>none
 | _=>none
theorem znx{i:Nat}{te:TE}{me:ME}(h:VE K te me):VE K (tBM K "list" zg7 (zbF i) (zcs te zef)) (zit i me):=by
 intro ρ σ H a ρ' Q r e q;unfold zit at e;split at e
 ·rename_i xs0 e0
  obtain⟨⟨b,ρ1⟩,e1,e⟩:=zd e;obtain⟨u,eu,e⟩:=zd e;obtain⟨v0,ev0,p0⟩:=r.rep i _ e0;obtain⟨l,us0,rfl,hl0,_⟩:=p0;refine⟨_,ev0,.inl ⟨rfl,us0,SqL.of hl0⟩,?_⟩;refine h ρ σ H b ρ1 _ r e1 fun v H1 g1 k1=>?_;have pv:=k1.now r g1 eu;dsimp only at e;split at e
  ·rename_i x xs ex
   split at e
   ·rename_i hz
    cases e;obtain⟨w,ew,p1⟩:=g1.rs.rep i _ ex;obtain⟨l',us,rfl,hl,ds⟩:=p1;rw [ev0]at ew;cases ew;refine⟨l,us,v,rfl,rfl,hl,by rw [ds.len]; exact hz,q _ _ (g1.trans (Go.own (u':=.l (xs++[x])) g1.rs ex rfl ev0 ?_)) ⟨.non,Nw.data⟩⟩;have kp:=zbc hl trivial (.lst (us++[v]));exact⟨l,_,rfl,zr,(ds.kp kp).snoc (DF.kp kp pv)⟩
   ·cases e
  ·cases e
 ·cases e
theorem zaa{o:Option (Option U)}{u:U}(e:o.join=some u):o=some (some u):=by
 cases o with
 | none=>cases e
 | some x=>cases x with
  | none=>cases e
  | some y=>cases e; rfl
def zcn(i:Nat)(me mi:ME):MS:=fun ρ=>(ρ[i]?).join.bind fun _=>(me ρ).bind fun p=>(mi p.2).bind fun q=>(p.1.get q.2).bind fun u=>(q.1.get q.2).bind fun w=>match u,w,q.2[i]? with
 | .d x,.d (.int k),some (some (.l xs))=>(ixN xs.length k).bind fun j=>some (.nx (q.2.set i (some (.l (xs.set j x)))))
 | _,_,_=>none
theorem zdT{i:Nat}{te ti:TE}{me mi:ME}(h:VE K te me)(hi:VE K ti mi):VS K pn EX (zhY te (ztc (zbF i) ti zj9)) (zcn i me mi):=by
 intro σ₀ A H₀ H₁ ρ σ H f D s e k;replace e:=zd e;obtain⟨w0,e0,e⟩:=e;replace e:=zd e;obtain⟨⟨a,ρ1⟩,e1,e⟩:=e;replace e:=zd e;obtain⟨⟨b,ρ2⟩,e2,e⟩:=e;replace e:=zd e;obtain⟨u,eu,e⟩:=e;replace e:=zd e;obtain⟨w,ew,e⟩:=e;obtain⟨v0,ev0,_⟩:=s.rs.rep i w0 (zaa e0);refine h ρ σ H a ρ1 _ s.rs e1 fun v H1 g1 k1=>⟨v0,ev0,?_⟩;refine hi ρ1 σ H1 b ρ2 _ g1.rs e2 fun y H2 g2 k2=>?_;have pv:=k1.later s.rs g1 g2 eu;have py:=k2.now g1.rs g2 ew;dsimp only at e;split at e
 ·rename_i x n xs ex
  replace e:=zd e;obtain⟨j,ej,e⟩:=e;cases e;obtain⟨w',ew',p1⟩:=g2.rs.rep i _ ex;obtain⟨l,us,rfl,hl,ds⟩:=p1;rw [ev0]at ew';cases ew';refine⟨l,us,n,j,rfl,DF.int_inv py,hl,by rw [ds.len]; exact ej,k _ _ ((s.go (g1.trans g2)).go (Go.own (u':=.l (xs.set j x)) g2.rs ex rfl ev0 ?_))⟩;have kp:=zbc hl trivial (.lst (us.set j v));exact⟨l,_,rfl,zr,(ds.kp kp).set (DF.kp kp pv) j⟩
 ·cases e
def zho:List D->Option (List Key)
 | []=>some []
 | .int i::ds=>(zho ds).bind fun ks=>some (.inl i::ks)
 | .str x::ds=>(zho ds).bind fun ks=>some (.inr x::ks)
 | _::_=>none
def zaM:D->Option (List Key)
 | .tuple ds=>zho ds
 | _=>none
def ztZ:D->Option Key
 | .int i=>some (.inl i)
 | .str x=>some (.inr x)
 | _=>none
theorem zhp:∀ ks:List Key,zho (ks.map k1D)=some ks
 | []=>rfl
 | .inl i::ks=>by show(zho (ks.map k1D)).bind _=_; rw [zhp ks]; rfl
 | .inr x::ks=>by show(zho (ks.map k1D)).bind _=_; rw [zhp ks]; rfl
theorem zdU(ks:List Key):zaM (kTD ks)=some ks:=zhp ks
theorem zjv:∀ {ds:List D} {ks:List Key} {xs:List V},DFs K H xs ds->zho ds=some ks->xs=ks.map kV
 | [],ks,xs,h,e=>by cases e; cases h; rfl
 | d::ds,ks,xs,h,e=>by
  cases h with
  | cons h1 t =>
   cases d with
   | int i =>
    obtain⟨ks',e1,e⟩:=zd (show(zho ds).bind (fun ks=>some (Sum.inl i::ks))=some ks from e);cases e;rw [zjv t e1,DF.int_inv h1];rfl
   | str x =>
    obtain⟨ks',e1,e⟩:=zd (show(zho ds).bind (fun ks=>some (Sum.inr x::ks))=some ks from e);cases e;rw [zjv t e1,DF.str_inv h1];rfl
   | _=>cases e
theorem zdg{d:D}{ks:List Key}{v:V}(h:DF K H v d)(e:zaM d=some ks):∃ b,v=.ref b/\TpK K H b (ks.map kV):=by
 cases d with
 | tuple ds =>
  obtain⟨b,xs,rfl,h1,h2⟩:=DF.tup_inv h;exact⟨b,rfl,by rw [<-zjv h2 e]; exact h1⟩
 | _=>cases e
theorem zny{d:D}{k:Key}{v:V}(h:DF K H v d)(e:ztZ d=some k):v=kV k:=by
 cases d with
 | int i=>cases e; exact DF.int_inv h
 | str x=>cases e; exact DF.str_inv h
 | _=>cases e
theorem zff:∀ {ks:List Key},DFs K H (ks.map kV) (ks.map k1D)
 | []=>.nil
 | .inl i::ks=>.cons (.int i) zff
 | .inr x::ks=>.cons (.str x) zff
section
variable {κ:Type} [DecidableEq κ]
def zcI(kvs:List (κ×D))(k:κ):Option D:=(kvs.find? fun kv=>decide (kv.1=k)).map (·.2)
def zcJ(kvs:List (κ×D))(k:κ)(d:D):List (κ×D):=if(kvs.any fun kv=>decide (kv.1=k))=true then kvs.map (fun kv=>if kv.1=k then(kv.1,d)else kv)else kvs++[(k,d)]
theorem KVd.val{ws:List (κ×V)}{kvs:List (κ×D)}(h:KVd K H ws kvs)(k:κ):(∃ v d,zbu ws k=some v/\zcI kvs k=some d/\DF K H v d)\/(zbu ws k=none/\zcI kvs k=none):=by
 induction h with
 | nil=>exact .inr ⟨rfl,rfl⟩
 | @cons p q ps qs hq t ih =>
  unfold zbu zcI at ih ⊢;rw [List.find?_cons,List.find?_cons]
  by_cases hk:p.1=k
  ·have hk':q.1=k:=hq.1▸hk
   rw [decide_eq_true hk,decide_eq_true hk'];exact .inl ⟨_,_,rfl,rfl,hq.2⟩
  ·have hk':¬q.1=k:=fun z=>hk (hq.1.trans z)
   rw [decide_eq_false hk,decide_eq_false hk'];exact ih
theorem KVd.any{ws:List (κ×V)}{kvs:List (κ×D)}(h:KVd K H ws kvs)(k:κ):(ws.any fun kv=>decide (kv.1=k))=(kvs.any fun kv=>decide (kv.1=k)):=by
 induction h with
 | nil=>rfl
 | @cons p q ps qs hq t ih=>rw [List.any_cons,List.any_cons,ih,hq.1]
theorem KVd.repl{ws:List (κ×V)}{kvs:List (κ×D)}(h:KVd K H ws kvs)(k:κ){v:V}{d:D}(hd:DF K H v d):KVd K H (ws.map fun kv=>if kv.1=k then(kv.1,v)else kv) (kvs.map fun kv=>if kv.1=k then(kv.1,d)else kv):=by
 induction h with
 | nil=>exact .nil
 | @cons p q ps qs hq t ih =>
  refine .cons ?_ ih;dsimp only
  by_cases hk:p.1=k
  ·have hk':q.1=k:=hq.1▸hk
   rw [if_pos hk,if_pos hk'];exact⟨hq.1,hd⟩
  ·have hk':¬q.1=k:=fun z=>hk (hq.1.trans z)
   rw [if_neg hk,if_neg hk'];exact hq
theorem KVd.put{ws:List (κ×V)}{kvs:List (κ×D)}(h:KVd K H ws kvs)(k:κ){v:V}{d:D}(hd:DF K H v d):KVd K H (zcj ws k v) (zcJ kvs k d):=by
 unfold zcj zcJ;rw [h.any k];split
 ·exact h.repl k hd
 ·exact Paired.snoc h ⟨rfl,hd⟩
theorem KVd.len{ws:List (κ×V)}{kvs:List (κ×D)}(h:KVd K H ws kvs):ws.length=kvs.length:=Paired.length h
end
def zks(kvs:List (D×D))(k:List Key):Option D:=(kvs.find? fun kv=>decide (zaM kv.1=some k)).map (·.2)
theorem DFt.val{ws:List (List Key×V)}{kvs:List (D×D)}(h:DFt K H ws kvs)(k:List Key):(∃ v d,zbu ws k=some v/\zks kvs k=some d/\DF K H v d)\/(zbu ws k=none/\zks kvs k=none):=by
 induction ws generalizing kvs with
 | nil=>cases h; exact .inr ⟨rfl,rfl⟩
 | cons p ws ih =>
  cases h with
  | @cons k' v d _ ds hv t =>
   unfold zbu zks at ih ⊢;rw [List.find?_cons,List.find?_cons]
   by_cases hk:k'=k
   ·have hk':zaM (kTD k')=some k:=by rw [zdU,hk]
    rw [decide_eq_true hk,decide_eq_true hk'];exact .inl ⟨_,_,rfl,rfl,hv⟩
   ·have hk':¬zaM (kTD k')=some k:=by rw [zdU]; exact fun z=>hk (qx z)
    rw [decide_eq_false hk,decide_eq_false hk'];exact ih t
def zhq(u y:U):Option (Option D):=match u,y with
 | .t kvs,.d y=>(zaM y).map fun k=>zcI kvs k
 | .k kvs,.d y=>(ztZ y).map fun k=>zcI kvs k
 | .d (.dict kvs),.d y=>if noX kvs=true then(zaM y).map fun k=>zks kvs k else none
 | _,_=>none
theorem zkt{u y:U}{o:Option D}{x v:V}(hu:Rp K H x u)(hy:Rp K H v y)(e:zhq u y=some o):∃ a,x=.ref a/\((∃ w d,o=some d/\zjh K H a v (some w)/\DF K H w d)\/(o=none/\zjh K H a v none)):=by
 unfold zhq at e;split at e
 ·rename_i kvs y
  obtain⟨k,ek,rfl⟩:=qr.mp e;obtain⟨a,ws,rfl,h1,h2⟩:=hu;obtain⟨b,rfl,hb⟩:=zdg hy ek;refine⟨a,rfl,?_⟩;rcases h2.val k with ⟨w,d,e1,e2,p⟩ | ⟨e1,e2⟩
  ·exact .inl ⟨w,d,e2,.inr ⟨ws,k,b,.inl h1,rfl,hb,e1.symm⟩,p⟩
  ·exact .inr ⟨e2,.inr ⟨ws,k,b,.inl h1,rfl,hb,e1.symm⟩⟩
 ·rename_i kvs y
  obtain⟨k,ek,rfl⟩:=qr.mp e;obtain⟨a,ws,rfl,h1,h2⟩:=hu;cases zny hy ek;refine⟨a,rfl,?_⟩;rcases h2.val k with ⟨w,d,e1,e2,p⟩ | ⟨e1,e2⟩
  ·exact .inl ⟨w,d,e2,.inl ⟨ws,k,.inl h1,rfl,e1.symm⟩,p⟩
  ·exact .inr ⟨e2,.inl ⟨ws,k,.inl h1,rfl,e1.symm⟩⟩
 ·rename_i kvs y
  split at e
  rotate_left
  ·cases e
  rename_i nx;obtain⟨k,ek,rfl⟩:=qr.mp e;obtain⟨a,ob,ws,rfl,h1,h2⟩:=DF.dct_inv hu nx;obtain⟨b,rfl,hb⟩:=zdg hy ek;refine⟨a,rfl,?_⟩;rcases h2.val k with ⟨w,d,e1,e2,p⟩ | ⟨e1,e2⟩
  ·exact .inl ⟨w,d,e2,.inr ⟨ws,k,b,.inr ⟨ob,h1⟩,rfl,hb,e1.symm⟩,p⟩
  ·exact .inr ⟨e2,.inr ⟨ws,k,b,.inr ⟨ob,h1⟩,rfl,hb,e1.symm⟩⟩
 ·cases e
def zgE(md my:ME):ME:=fun ρ=>(md ρ).bind fun p=>(my p.2).bind fun q=>(p.1.get q.2).bind fun u=>(q.1.get q.2).bind fun y=>(zhq u y).bind fun o=>o.bind fun d=>some (.u (.d d),q.2)
theorem zjw{td ty:TE}{md my:ME}(hd:VE K td md)(hy:VE K ty my):VE K (zm7 K td ty) (zgE md my):=by
 intro ρ σ H a ρ' Q r e q;obtain⟨⟨a1,ρ1⟩,e1,e⟩:=zd e;obtain⟨⟨b1,ρ2⟩,e2,e⟩:=zd e;obtain⟨u,eu,e⟩:=zd e;obtain⟨y,ey,e⟩:=zd e;obtain⟨o,eo,e⟩:=zd e;obtain⟨d,ed,e⟩:=zd e;cases e;refine hd ρ σ H a1 ρ1 _ r e1 fun v1 H1 g1 k1=>hy ρ1 σ H1 b1 _ _ g1.rs e2 fun v2 H2 g2 k2=>?_;obtain⟨b,rfl,h⟩:=zkt (k1.later r g1 g2 eu) (k2.now g1.rs g2 ey) eo;rcases h with ⟨w,d',rfl,g,p⟩ | ⟨rfl,_⟩
 ·cases ed
  exact⟨b,w,rfl,g,q w H2 (g1.trans g2) ⟨p,Nw.data⟩⟩
 ·cases ed
def zl9(neg:Bool)(my md:ME):ME:=fun ρ=>(my ρ).bind fun q=>(md q.2).bind fun p=>(p.1.get p.2).bind fun u=>(q.1.get p.2).bind fun y=>(zhq u y).bind fun o=>some (.u (.d (.bool (if neg=true then !o.isSome else o.isSome))),p.2)
theorem znz{td ty:TE}{md my:ME}(hy:VE K ty my)(hd:VE K td md):VE K (ztC K ty td) (zl9 false my md):=by
 intro ρ σ H a ρ' Q r e q;obtain⟨⟨b1,ρ1⟩,e1,e⟩:=zd e;obtain⟨⟨a1,ρ2⟩,e2,e⟩:=zd e;obtain⟨u,eu,e⟩:=zd e;obtain⟨y,ey,e⟩:=zd e;obtain⟨o,eo,e⟩:=zd e;cases e;refine hy ρ σ H b1 ρ1 _ r e1 fun v1 H1 g1 k1=>hd ρ1 σ H1 a1 _ _ g1.rs e2 fun v2 H2 g2 k2=>?_;obtain⟨b,rfl,h⟩:=zkt (k2.now g1.rs g2 eu) (k1.later r g1 g2 ey) eo;rcases h with ⟨w,d',rfl,g,p⟩ | ⟨rfl,g⟩
 ·exact⟨b,_,rfl,g,q _ H2 (g1.trans g2) ⟨.bl _,Nw.data⟩⟩
 ·exact⟨b,_,rfl,g,q _ H2 (g1.trans g2) ⟨.bl _,Nw.data⟩⟩
def zhr:ME:=fun ρ=>some (.u (.t []),ρ)
theorem zqA:VE K zha zhr:=by
 intro ρ σ H a ρ' Q r e q;cases e;intro p hp;have sm:=zC hp (.dT []);exact q _ _ (Go.grow r sm) ⟨⟨p,[],rfl,zr,.nil⟩,fun _=>⟨p,rfl,hp⟩⟩
end
section
variable {K:qc} {pn:List Nat} {ρ ρ':En} {σ:St} {H H':Hp}
abbrev MO:=En->Option (Option Int×En)
def zqB(K:qc)(t:TO)(m:MO):Prop :=
 ∀ (ρ:En) (σ:St) (H:Hp) (o:Option Int) (ρ':En) (Q:Option Int->Hp->Prop),Rs K ρ σ H->m ρ=some (o,ρ')->(∀ H',Go K ρ σ H ρ' H'->Q o H')->t σ H Q
def zco:MO:=fun ρ=>some (none,ρ)
def zfO(me:ME):MO:=fun ρ=>(me ρ).bind fun p=>(p.1.get p.2).bind fun u=>match u with | .d (.int i)=>some (some i,p.2) | _=>none
theorem zfg:zqB K zg2 zco:=fun ρ σ H o ρ' Q r e q=>by cases e; exact q H (Go.refl r)
theorem zfh{te:TE}{me:ME}(h:VE K te me):zqB K (zm0 te) (zfO me):=by
 intro ρ σ H o ρ' Q r e q;replace e:=zd e;obtain⟨⟨a,ρ1⟩,e1,e⟩:=e;replace e:=zd e;obtain⟨u,eu,e⟩:=e;refine h ρ σ H a ρ1 _ r e1 fun v H1 g1 k1=>?_;have p:=k1.now r g1 eu;dsimp only at e;split at e
 ·rename_i i
  cases e;exact⟨i,DF.int_inv p,q _ g1⟩
 ·cases e
def zdA(xs:List D)(lo hi:Option Int):List D:=(xs.drop (HT.sIx xs.length 0 lo)).take (HT.sIx xs.length xs.length hi - HT.sIx xs.length 0 lo)
theorem DFs.cut{xs:List V}{ds:List D}(h:DFs K H xs ds)(lo hi:Option Int):DFs K H (zh0 xs lo hi) (zdA ds lo hi):=by
 unfold zh0 zdA;rw [h.len];exact(h.drop _).take _
def VSl(K:qc)(r:V->Option Int->Option Int->Hp->VK->Prop)(f:U->Option Int->Option Int->Option U):Prop :=
 ∀ (x:V) (a u:U) (lo hi:Option Int) (H:Hp) (Q:VK),Rp K H x a->f a lo hi=some u->(∀ v H',zba H H'->Rp K H' v u->Nw H v u->Q v H')->r x lo hi H Q
def mSl(f:U->Option Int->Option Int->Option U)(me:ME)(ml mh:MO):ME:=fun ρ=>(me ρ).bind fun p=>(ml p.2).bind fun l=>(mh l.2).bind fun h=>(p.1.get h.2).bind fun x=>(f x l.1 h.1).bind fun u=>some (.u u,h.2)
theorem zqC{r:V->Option Int->Option Int->Hp->VK->Prop}{f:U->Option Int->Option Int->Option U}{te:TE}{tl th:TO}{me:ME}{ml mh:MO}(hs:VSl K r f)(he:VE K te me)(hl:zqB K tl ml)(hh:zqB K th mh):VE K (tSl r te tl th) (mSl f me ml mh):=by
 intro ρ σ H a ρ' Q rs e q;obtain⟨⟨a1,ρ1⟩,e1,e⟩:=zd e;obtain⟨⟨lo,ρ2⟩,e2,e⟩:=zd e;obtain⟨⟨hi,ρ3⟩,e3,e⟩:=zd e;obtain⟨x,ex,e⟩:=zd e;obtain⟨u,eu,e⟩:=zd e;cases e;refine he ρ σ H a1 ρ1 _ rs e1 fun v1 H1 g1 k1=>hl ρ1 σ H1 lo ρ2 _ g1.rs e2 fun H2 g2=>hh ρ2 σ H2 hi _ _ g2.rs e3 fun H3 g3=>?_;refine hs _ x u lo hi H3 _ (k1.later rs g1 (g2.trans g3) ex) eu fun v H4 s p n=>?_;have g:=g1.trans (g2.trans g3);exact q v H4 (g.trans (Go.grow g.rs s)) ⟨p,n.mono g.dm⟩
def zhs(u:U)(lo hi:Option Int):Option U:=match u with
 | .l xs=>some (.l (zdA xs lo hi))
 | .d (.list xs)=>some (.l (zdA xs lo hi))
 | _=>none
theorem zfi:VSl K (ztA K) zhs:=by
 intro x a u lo hi H Q p e q;unfold zhs at e;split at e
 ·cases e
  obtain⟨b,us,rfl,h1,h2⟩:=p;refine⟨b,us,rfl,SqL.of h1,fun l hl=>?_⟩;have sm:=zC hl (.lst (zh0 us lo hi));exact q _ _ sm ⟨l,_,rfl,zr,(h2.cut lo hi).kp sm.kp⟩ fun _=>⟨l,rfl,hl⟩
 ·cases e
  obtain⟨b,us,rfl,h1,h2⟩:=DF.lst_inv p;refine⟨b,us,rfl,h1.sq,fun l hl=>?_⟩;have sm:=zC hl (.lst (zh0 us lo hi));exact q _ _ sm ⟨l,_,rfl,zr,(h2.cut lo hi).kp sm.kp⟩ fun _=>⟨l,rfl,hl⟩
 ·cases e
def zxm(u:U)(lo hi:Option Int):Option U:=match u with
 | .d (.tuple xs)=>some (.d (.tuple (zdA xs lo hi)))
 | _=>none
def znA:U->U->Option U
 | .d (.tuple xs),.d (.tuple ys)=>if xs≠[]/\xs.length+ys.length<=sizeLine then some (.d (.tuple (xs++ys)))else none
 | _,_=>none
theorem zqD:VO K (zm2 K) znA:=by
 intro x y a b u H Q ha hb e q;unfold znA at e;split at e
 ·split at e
  ·rename_i xs ys hc
   cases e;obtain⟨p,us,rfl,h1,h2⟩:=DF.tup_inv ha;obtain⟨p',us',rfl,h1',h2'⟩:=DF.tup_inv hb;refine⟨p,p',us,us',rfl,rfl,(TpK.sq h1),(TpK.sq h1'),?_,by rw [h2.len,h2'.len]; exact hc.2,fun z=>?_,fun _ r hr=>?_⟩
   ·rintro rfl
    cases h2;exact hc.1 rfl
   ·subst z
    cases h2';exact q _ _ (fun _ _ z=>z) (by rw [List.append_nil]; exact .tup h1 h2) Nw.data
   ·have s:=zC hr (.tup (us++us'))
    exact q _ _ s (.tup (.inl zr) ((h2.app h2').kp s.kp)) Nw.data
  ·cases e
 ·cases e
def zvM:List Int->Int->Int
 | [],d=>d
 | n::ns,_=>ns.foldl (fun a b=>if a < b then b else a) n
def zxk:List U->List U->Option U
 | [u],[.d (.int d)]=>u.items.bind fun xs=>(zeH xs).map fun ns=>.d (.int (zvM ns d))
 | _,_=>none
def pk:D->Option (List Int)
 | .tuple [.tuple ks,_]=>zeH ks
 | _=>none
def U.lst:U->Option (List D)
 | .l xs=>some xs
 | .d (.list xs)=>some xs
 | _=>none
end
section
variable {K:qc} {pn:List Nat} {ρ ρ':En} {σ:St} {H H':Hp}
def zvN(ma:MA):ME:=fun ρ=>(ma ρ).bind fun p=>(zao p.2 p.1).bind fun us=>match us with
 | [.d (.int j)]=>if(-(2^62)<=j/\j < 2^62)/\j.toNat<=sizeLine then some (.u (.l (zaY 0 j.toNat)),p.2)else none
 | _=>none
def zgr:MT:=fun ρ=>some (true,ρ)
theorem zdB:VT K ztF zgr:=fun ρ σ H b ρ' Q r e q=>by cases e; exact q H (Go.refl r)
def sV:D->Option V
 | .none=>some .non
 | .bool b=>some (.bl b)
 | .int i=>some (.int i)
 | .str x=>some (.str x)
 | _=>none
theorem zqE{x:D}{v w:V}(h:DF K H v x)(e:sV x=some w):v=w:=by
 cases h<;>cases e<;>rfl
def zcK(neg:Bool):U->U->Option U
 | .d x,.d y=>(sV x).bind fun v=>(sV y).bind fun w=>if zto v w=true then some (.d (.bool (if neg=true then !decide (v=w)else decide (v=w))))else none
 | _,_=>none
theorem zdC:VO K rEq (zcK false):=by
 intro x y a b u H Q ha hb e q;unfold zcK at e;split at e
 ·obtain⟨v,ev,e⟩:=zd e
  obtain⟨w,ew,e⟩:=zd e;split at e
  ·rename_i hs
   cases e;cases zqE ha ev;cases zqE hb ew;exact⟨hs,q _ _ (fun _ _ z=>z) (.bl _) Nw.data⟩
  ·cases e
 ·cases e
theorem zht:VO K rNe (zcK true):=by
 intro x y a b u H Q ha hb e q;unfold zcK at e;split at e
 ·obtain⟨v,ev,e⟩:=zd e
  obtain⟨w,ew,e⟩:=zd e;split at e
  ·rename_i hs
   cases e;cases zqE ha ev;cases zqE hb ew;exact⟨hs,q _ _ (fun _ _ z=>z) (.bl _) Nw.data⟩
  ·cases e
 ·cases e
def zeI:U->Bool
 | .d .none=>true
 | _=>false
def zdD(neg:Bool):U->U->Option U
 | a,.d .none=>some (.d (.bool (if neg=true then !zeI a else zeI a)))
 | _,_=>none
theorem zku{a:U}{v:V}(h:Rp K H v a):decide (v=.non)=zeI a:=by
 cases a with
 | d x=>cases(show DF K H v x from h)<;>simp [zeI]
 | l=>obtain⟨_,_,rfl,_⟩:=h; simp [zeI]
 | t=>obtain⟨_,_,rfl,_⟩:=h; simp [zeI]
 | k=>obtain⟨_,_,rfl,_⟩:=h; simp [zeI]
 | o=>obtain⟨_,_,_,_,_,rfl,_⟩:=h; simp [zeI]
theorem zhu:VO K (fun x y H Q=>y=.non/\Q (.bl (decide (x=.non))) H) (zdD false):=by
 intro x y a b u H Q ha hb e q;unfold zdD at e;split at e
 ·cases e
  refine⟨by cases hb; rfl,?_⟩;rw [zku ha];exact q _ _ (fun _ _ z=>z) (.bl _) Nw.data
 ·cases e
theorem zqF:VO K (fun x y H Q=>y=.non/\Q (.bl (!decide (x=.non))) H) (zdD true):=by
 intro x y a b u H Q ha hb e q;unfold zdD at e;split at e
 ·cases e
  refine⟨by cases hb; rfl,?_⟩;rw [zku ha];exact q _ _ (fun _ _ z=>z) (.bl _) Nw.data
 ·cases e
theorem zt0{F:FD}{a:Addr}{ns:List Int}{E:XK}(hO:zqm H)(hS:SqL K H a (ns.map V.int))(h:∃ outs,F [.d (.list (ns.map .int))]=some (.d (.bool true),outs)):spV K 1 F [.ref a] H (fun v _=>v=.bl true) E:=by
 obtain⟨outs,ho⟩:=h;have pl:PL K H a (ns.map V.int):=by
  rcases hS with (h | ⟨o,h⟩) | h
  ·rcases hO a with z | ⟨o,xs,z⟩
   ·rw [z]at h; cases h
   ·rw [z]at h; cases h
  ·exact .inl ⟨o,h⟩
  ·exact .inr h
 have dd:DFs K H (ns.map V.int) (ns.map PyData.int):=by
  clear ho hS pl
  induction ns with
  | nil=>exact .nil
  | cons n ns ih=>exact .cons (.int n) ih
 refine⟨[.d (.list (ns.map .int))],.d (.bool true),outs,rfl,⟨rfl,fun i u e=>?_,fun i j u w ei ej ou ow es=>?_⟩,ho,fun v H' g p n=>DF.bl_inv p⟩
 ·have e':=zaU.mp e
  cases i with
  | zero=>cases e'; exact⟨.ref a,rfl,DF.lst pl dd⟩
  | succ i=>simp at e'
 ·have e':=zaU.mp ei
  cases i with
  | zero=>cases e'; cases ou
  | succ i=>simp at e'
end
section
variable {ρ:En} {me ma mb mk mi md my mv:ME} {mA mK:MA} {mt mu:MT} {m1 m2:MS} {i j:Nat} {u:U} {x:D} {f:U->U->Option U}
theorem bd{α β:Type}{a:α}{f:α->Option β}:(some a).bind f=f a:=rfl
theorem zrG{u:U}:Ar.get ρ (.u u)=some u:=rfl
theorem znB:Ar.get ρ (.s i)=(ρ[i]?).join:=rfl
theorem zkv{u:U}:(some (some u)).join=some u:=rfl
theorem zt1:zk i ρ=(ρ[i]?).join.bind fun _=>some (.s i,ρ):=by
 unfold zk;cases ρ[i]? with
 | none=>rfl
 | some o=>cases o<;>rfl
theorem zxb:mC x ρ=some (.u (.d x),ρ):=rfl
theorem zvO:mOp f ma mb ρ=(ma ρ).bind fun p=>(mb p.2).bind fun q=>(p.1.get q.2).bind fun x=>(q.1.get q.2).bind fun y=>(f x y).bind fun u=>some (.u u,q.2):=rfl
theorem zvP{f:U->Option U}:mUn f ma ρ=(ma ρ).bind fun p=>(p.1.get p.2).bind fun x=>(f x).bind fun u=>some (.u u,p.2):=rfl
theorem zt2:zt ρ=some ([],ρ):=rfl
theorem zqG:zf me mA ρ=(me ρ).bind fun p=>(mA p.2).bind fun q=>some (p.1::q.1,q.2):=rfl
theorem ziu:zao ρ []=some []:=rfl
theorem zes{a:Ar}{as:List Ar}:zao ρ (a::as)=(a.get ρ).bind fun u=>(zao ρ as).bind fun us=>some (u::us):=rfl
theorem zgF:zcf []=some []:=rfl
theorem zfP{us:List U}:zcf (.d x::us)=(zcf us).bind fun xs=>some (x::xs):=rfl
theorem zt3:zag mA ρ=(mA ρ).bind fun p=>(zao p.2 p.1).bind fun us=>(zcf us).bind fun ds=>if ds.length<=sizeLine then some (.u (.d (.tuple ds)),p.2)else none:=rfl
theorem zt4:zbi mA ρ=(mA ρ).bind fun p=>(zao p.2 p.1).bind fun us=>(zcf us).bind fun ds=>if ds.length<=sizeLine then some (.u (.l ds),p.2)else none:=rfl
theorem zvQ{f:List U->Option U}:mCB f mA ρ=(mA ρ).bind fun p=>(zao p.2 p.1).bind fun us=>(f us).bind fun u=>some (.u u,p.2):=rfl
theorem zt5{f:FD}:z8 f mA ρ=(mA ρ).bind fun p=>if zcH p.2 p.1=true then(zao p.2 p.1).bind fun us=>(f us).bind fun o=>some (.u o.1,wb p.2 p.1 o.2)else none:=rfl
theorem ziv:zcH ρ []=true:=rfl
theorem zt6{as:List Ar}:zcH ρ (.s j::as)=((match ρ[j]? with | some (some u)=>!u.own || !(as.any fun a=>match a with | .s k=>decide (k=j) | _=>false) | _=>true) && zcH ρ as):=rfl
theorem zvR{as:List Ar}{o:U}{os:List U}:wb ρ (.s j::as) (o::os)=wb (ρ.set j (some o)) as os:=rfl
theorem zvS{as:List Ar}{o:U}{os:List U}:wb ρ (.u u::as) (o::os)=wb ρ as os:=rfl
theorem znC:wb ρ [] []=ρ:=rfl
def zfQ(m2:MS):Fl->Option Fl
 | .nx ρ'=>m2 ρ'
 | f=>some f
theorem bind_fn{α β:Type}{o:Option α}{f g:α->Option β}(h:∀ a,f a=g a):o.bind f=o.bind g:=by cases o with | none=>rfl | some a=>exact h a
theorem zt7:zM m1 m2 ρ=(m1 ρ).bind (zfQ m2):=bind_fn fun f=>by cases f<;>rfl
theorem zkw:zfQ m2 (.nx ρ)=m2 ρ:=rfl
theorem zkx:zfQ m2 (.rt u ρ)=some (.rt u ρ):=rfl
def U.dat:U->Option U
 | .d x=>some (.d x)
 | _=>none
theorem zrH:U.dat (.d x)=some (.d x):=rfl
theorem zrI:put (.s i,ρ)=(ρ[i]?).join.bind fun u=>u.dat.bind fun d=>some (d,ρ):=by
 unfold put;dsimp only;cases ρ[i]? with
 | none=>rfl
 | some o =>
  cases o with
  | none=>rfl
  | some u=>cases u<;>rfl
theorem zrJ:put (.u u,ρ)=some (u,ρ):=rfl
theorem zt8:zae i me ρ=(me ρ).bind fun p=>(put p).bind fun q=>some (.nx (q.2.set i (some q.1))):=rfl
theorem zt9:zau me ρ=(me ρ).bind fun p=>(put p).bind fun q=>some (.rt q.1 q.2):=rfl
theorem zqH{pn:List Nat}:zdP pn i ρ=if i∈pn then none else(ρ[i]?).join.bind fun u=>some (.rt u (ρ.set i none)):=by
 unfold zdP;split
 ·rfl
 ·cases ρ[i]? with
  | none=>rfl
  | some o=>cases o<;>rfl
theorem zqI:za0 ρ=some (.nx ρ):=rfl
theorem zqJ:zct me ρ=(me ρ).bind fun p=>some (.nx p.2):=rfl
theorem zua:zbR mt m1 m2 ρ=(mt ρ).bind fun p=>if p.1=true then m1 p.2 else m2 p.2:=rfl
theorem zvT:mIf mt ma mb ρ=(mt ρ).bind fun p=>if p.1=true then ma p.2 else mb p.2:=rfl
def U.bol:U->Option Bool
 | .d (.bool b)=>some b
 | _=>none
theorem zrK{b:Bool}:U.bol (.d (.bool b))=some b:=rfl
theorem zxc:mB me ρ=(me ρ).bind fun p=>(p.1.get p.2).bind fun u=>u.bol.bind fun b=>some (b,p.2):=by
 unfold mB;congr 1
 funext p
 congr 1
 funext u
 cases u with
 | d x=>cases x<;>rfl
 | l=>rfl
 | t=>rfl
 | k=>rfl
 | o=>rfl
theorem zub:zqx mt mu ρ=(mt ρ).bind fun p=>if p.1=true then mu p.2 else some (false,p.2):=rfl
theorem zvU:mOr mt mu ρ=(mt ρ).bind fun p=>if p.1=true then some (true,p.2)else mu p.2:=rfl
theorem zuc:zqy mt ρ=(mt ρ).bind fun p=>some (!p.1,p.2):=rfl
theorem zqK:zfJ ma mb ρ=(mB ma ρ).bind fun p=>if p.1=true then mb p.2 else some (.u (.d (.bool false)),p.2):=rfl
theorem zqL:zio ma ρ=(mB ma ρ).bind fun p=>some (.u (.d (.bool (!p.1))),p.2):=rfl
theorem zud:zqz ma ρ=(ma ρ).bind fun p=>(p.1.get p.2).bind fun u=>u.tru.bind fun b=>some (b,p.2):=rfl
theorem zue:zgr ρ=some (true,ρ):=rfl
def U.lo:U->Option (List D)
 | .l xs=>some xs
 | _=>none
theorem zvV{xs:List D}:U.lo (.l xs)=some xs:=rfl
def U.da:U->Option D
 | .d x=>some x
 | _=>none
theorem zvW:U.da (.d x)=some x:=rfl
def U.num:U->Option Int
 | .d (.int i)=>some i
 | _=>none
theorem zrL{n:Int}:U.num (.d (.int n))=some n:=rfl
theorem zuf:zit i me ρ=(ρ[i]?).join.bind fun w=>w.lo.bind fun _=>(me ρ).bind fun p=>(p.1.get p.2).bind fun u=>u.da.bind fun x=>(p.2[i]?).join.bind fun w=>w.lo.bind fun xs=>if xs.length < sizeLine then some (.u (.d .none),p.2.set i (some (.l (xs++[x]))))else none:=by
 unfold zit;cases ρ[i]? with
 | none=>rfl
 | some o =>
  cases o with
  | none=>rfl
  | some w =>
   cases w with
   | l xs0 =>
    show((me ρ).bind _)=((me ρ).bind _);congr 1
    funext p
    congr 1
    funext u
    cases u with
    | d x =>
     show(match U.d x,p.2[i]? with | .d x,some (some (.l xs))=>_ | _,_=>none)=((p.2[i]?).join.bind _);cases p.2[i]? with
     | none=>rfl
     | some o =>
      cases o with
      | none=>rfl
      | some w=>cases w<;>rfl
    | l=>rfl
    | t=>rfl
    | k=>rfl
    | o=>rfl
   | d=>rfl
   | t=>rfl
   | k=>rfl
   | o=>rfl
theorem znD:zcn i me mi ρ=(ρ[i]?).join.bind fun _=>(me ρ).bind fun p=>(mi p.2).bind fun q=>(p.1.get q.2).bind fun u=>(q.1.get q.2).bind fun w=>u.da.bind fun x=>w.num.bind fun k=>(q.2[i]?).join.bind fun z=>z.lo.bind fun xs=>(ixN xs.length k).bind fun j=>some (.nx (q.2.set i (some (.l (xs.set j x))))):=by
 unfold zcn;congr 1; funext _; congr 1; funext p; congr 1; funext q; congr 1; funext u; congr 1; funext w;cases u with
 | d x =>
  cases w with
  | d y =>
   cases y with
   | int k =>
    show(match U.d x,U.d (.int k),q.2[i]? with | .d x,.d (.int k),some (some (.l xs))=>_ | _,_,_=>none)=((q.2[i]?).join.bind _);cases q.2[i]? with
    | none=>rfl
    | some o =>
     cases o with
     | none=>rfl
     | some w=>cases w<;>rfl
   | _=>rfl
  | l=>rfl
  | t=>rfl
  | k=>rfl
  | o=>rfl
 | l=>rfl
 | t=>rfl
 | k=>rfl
 | o=>rfl
theorem zqM:zgE md my ρ=(md ρ).bind fun p=>(my p.2).bind fun q=>(p.1.get q.2).bind fun u=>(q.1.get q.2).bind fun y=>(zhq u y).bind fun o=>o.bind fun d=>some (.u (.d d),q.2):=rfl
theorem zug{neg:Bool}:zl9 neg my md ρ=(my ρ).bind fun q=>(md q.2).bind fun p=>(p.1.get p.2).bind fun u=>(q.1.get p.2).bind fun y=>(zhq u y).bind fun o=>some (.u (.d (.bool (if neg=true then !o.isSome else o.isSome))),p.2):=rfl
theorem znE:zhr ρ=some (.u (.t []),ρ):=rfl
def kFz(x:D):Ar×En->En
 | (.s i,ρ)=>ρ.set i (some (.d x))
 | (.u _,ρ)=>ρ
theorem zvX:mFz me ρ=(me ρ).bind fun p=>(p.1.get p.2).bind fun u=>u.fz.bind fun x=>some (.u (.d x),kFz x p):=by
 unfold mFz;congr 1; funext p; congr 1; funext u; congr 1; funext x;obtain⟨a,ρ1⟩:=p;cases a<;>rfl
theorem zrM:kFz x (.s i,ρ)=ρ.set i (some (.d x)):=rfl
theorem zrN:kFz x (.u u,ρ)=ρ:=rfl
theorem zvY:U.fz (.d x)=some x:=rfl
theorem zvZ{xs:List D}:U.fz (.l xs)=some (.list xs):=rfl
theorem zv0{kvs:List (List Key×D)}:U.fz (.t kvs)=some (.dict (kvs.map fun p=>(kTD p.1,p.2))):=rfl
theorem zv1{g:U->Option (List D)}:mIt g me ρ=(me ρ).bind fun p=>(p.1.get p.2).bind fun u=>(g u).bind fun ds=>some (ds,p.2):=rfl
theorem znF{xs:List D}:zdz (.d (.list xs))=some xs:=rfl
theorem znG{xs:List D}:zhn (.d (.tuple xs))=some xs:=rfl
def zqN:List U->Option (List D)
 | [.d (.int j)]=>if -(2^62)<=j/\j < 2^62 then some (zaY 0 j.toNat)else none
 | _=>none
theorem zuh{n:Int}:zqN [.d (.int n)]=if -(2^62)<=n/\n < 2^62 then some (zaY 0 n.toNat)else none:=rfl
theorem zqO:zcU mA ρ=(mA ρ).bind fun p=>(zao p.2 p.1).bind fun us=>(zqN us).bind fun ds=>some (ds,p.2):=bind_fn fun p=>bind_fn fun us=>match us with
 | []=>rfl
 | [.d (.int j)]=>by
  show(if _ then _ else _)=(if _ then _ else _:Option (List D)).bind _;split<;>rfl
 | [.d .none]=>rfl
 | [.d (.bool _)]=>rfl
 | [.d (.str _)]=>rfl
 | [.d (.list _)]=>rfl
 | [.d (.tuple _)]=>rfl
 | [.d (.dict _)]=>rfl
 | [.l _]=>rfl
 | [.t _]=>rfl
 | [.k _]=>rfl
 | [.o _ _]=>rfl
 | .d x::b::us=>by cases x<;>rfl
 | .l x::b::us=>rfl
 | .t x::b::us=>rfl
 | .k x::b::us=>rfl
 | .o x y::b::us=>rfl
theorem zui{mI:MI}{mg:MG}:zbq mI mg m1 ρ=(mI ρ).bind fun p=>zbt mg m1 p.1 p.2:=rfl
theorem zv2{mI:MI}{nt:Nat}{js:List Nat}{mg:MG}:mLC mI nt js mg mt me ρ=(mI ρ).bind fun p=>(lcM nt mg mt me p.1 (cEn nt js p.2) []).bind fun q=>some (.u (.l q.1),back js (q.2.drop nt) p.2):=rfl
theorem zv3{f:U->Option Int->Option Int->Option U}{ml mh:MO}:mSl f me ml mh ρ=(me ρ).bind fun p=>(ml p.2).bind fun l=>(mh l.2).bind fun h=>(p.1.get h.2).bind fun x=>(f x l.1 h.1).bind fun u=>some (.u u,h.2):=rfl
theorem zma:zco ρ=some (none,ρ):=rfl
theorem zqP:zfO me ρ=(me ρ).bind fun p=>(p.1.get p.2).bind fun u=>u.num.bind fun i=>some (some i,p.2):=bind_fn fun p=>bind_fn fun u=>by
 cases u with
 | d x=>cases x<;>rfl
 | l=>rfl
 | t=>rfl
 | k=>rfl
 | o=>rfl
theorem znH:zx i x ρ=some (ρ.set i (some (.d x))):=rfl
theorem zqQ{n:Nat}{gs:List D->En->Option En}{ds:List D}:zaD n gs (.tuple ds) ρ=if ds.length=n then gs ds ρ else none:=rfl
theorem znI{g:MG}{gs:List D->En->Option En}{ds:List D}:zH g gs (x::ds) ρ=(g x ρ).bind fun ρ1=>gs ds ρ1:=rfl
theorem zqR:zaV [] ρ=some ρ:=rfl
theorem zky{c:Int->Int->Prop}{g:Int->Int->D}{a b:Int}(h:c a b):fIC c g (.d (.int a)) (.d (.int b))=some (.d (g a b)):=by
 unfold fIC;dsimp only;rw [if_pos h]
theorem zrO{a b:Int}:zcd (.d (.int a)) (.d (.int b))=some (.d (.int (a+b))):=rfl
theorem zrP{a b:Int}:zhj (.d (.int a)) (.d (.int b))=some (.d (.int (a - b))):=rfl
theorem zrQ{a b:Int}(h:zlR a b):zce (.d (.int a)) (.d (.int b))=some (.d (.int (a * b))):=zky h
theorem zv4{a b:Int}(h:0 < b):zfF (.d (.int a)) (.d (.int b))=some (.d (.int (a % b))):=zky (c:=fun _ j=>0 < j) h
theorem zuj{a b:Int}(h:zig a b):zil (.d (.int a)) (.d (.int b))=some (.d (.int (a / b))):=zky h
theorem zv5{a b:Int}(h:zp5 a b):zqu (.d (.int a)) (.d (.int b))=some (.d (.int (a^b.toNat))):=zky h
theorem zv6{a b:Int}:fLt (.d (.int a)) (.d (.int b))=some (.d (.bool (decide (a < b)))):=rfl
theorem zv7{a b:Int}:fGt (.d (.int a)) (.d (.int b))=some (.d (.bool (decide (b < a)))):=rfl
theorem zv8{a b:Int}:fGe (.d (.int a)) (.d (.int b))=some (.d (.bool (decide (b<=a)))):=rfl
theorem zrR{a:Int}:zeY (.d (.int a))=some (.d (.int (-a))):=rfl
theorem znJ{b:Bool}:zkm (.d (.bool b))=some (.d (.int (if b then 1 else 0))):=rfl
theorem zv9{f:U->Option U}:f1 f [u]=f u:=rfl
theorem zrS{xs:List D}:zfH (.l xs)=some (.d (.int xs.length)):=rfl
theorem zrT{xs:List D}:zfH (.d (.list xs))=some (.d (.int xs.length)):=rfl
theorem zkz{xs:List D}:zen (.l xs)=some (.d (.tuple xs)):=rfl
theorem zrU{xs:List D}{k:Int}:zaS (.l xs) (.d (.int k))=(atI xs k).map .d:=rfl
theorem zrV{xs:List D}{k:Int}:zaS (.d (.list xs)) (.d (.int k))=(atI xs k).map .d:=rfl
theorem zrW{xs:List D}{k:Int}:zin (.d (.tuple xs)) (.d (.int k))=(atI xs k).map .d:=rfl
theorem zrX{xs:List D}{lo hi:Option Int}:zhs (.l xs) lo hi=some (.l (zdA xs lo hi)):=rfl
theorem zrY{xs:List D}{lo hi:Option Int}:zhs (.d (.list xs)) lo hi=some (.l (zdA xs lo hi)):=rfl
theorem zrZ{a b:Int}:zcK false (.d (.int a)) (.d (.int b))=some (.d (.bool (decide (a=b)))):=by
 show some (U.d (.bool (decide (V.int a=V.int b))))=_;congr 3;exact decide_eq_decide.mpr ⟨fun h=>by cases h; rfl,fun h=>by rw [h]⟩
theorem zr0{a b:Int}:zcK true (.d (.int a)) (.d (.int b))=some (.d (.bool (!decide (a=b)))):=by
 show some (U.d (.bool (!decide (V.int a=V.int b))))=_;congr 4;exact decide_eq_decide.mpr ⟨fun h=>by cases h; rfl,fun h=>by rw [h]⟩
def zqS(pn:List Nat)(us:List U):Fl->Option (U×List U)
 | .rt u ρ=>(zaL pn ρ 0 us).bind fun os=>some (u,os)
 | .nx ρ=>(zaL pn ρ 0 us).bind fun os=>some (.d .none,os)
 | _=>none
theorem zuk{n:Nat}{pn:List Nat}{us:List U}:za2 n pn m1 us=(m1 (sm us++List.replicate (n - us.length) none)).bind (zqS pn us):=by
 exact bind_fn fun f=>by cases f<;>rfl
theorem zkA{pn:List Nat}{us:List U}:zqS pn us (.rt u ρ)=(zaL pn ρ 0 us).bind fun os=>some (u,os):=rfl
theorem ziw{pn:List Nat}{n:Nat}:zaL pn ρ n []=some []:=rfl
theorem zgG{pn:List Nat}{n:Nat}{us:List U}:zaL pn ρ n (u::us)=(if n∈pn then(ρ[n]?).join.bind fun o=>if o.own=true/\u.own=false then none else some o else if u.own=true then none else some u).bind fun o=>(zaL pn ρ (n+1) us).bind fun os=>some (o::os):=rfl
theorem zr1:U.own (.d x)=false:=rfl
theorem zr2{xs:List D}:U.own (.l xs)=true:=rfl
theorem znK:sm []=[]:=rfl
theorem zkB{us:List U}:sm (u::us)=some u::sm us:=rfl
theorem zwa{α:Type}{a:α}{xs:List α}:atI (a::xs) 0=some a:=by
 unfold atI ixN;rw [if_pos (by decide),if_pos (by simp only [qu]; omega)];rfl
theorem zwb{α:Type}{a b:α}{xs:List α}:atI (a::b::xs) 1=some b:=by
 unfold atI ixN;rw [if_pos (by decide),if_pos (by simp only [qu]; omega)];rfl
theorem zqT{n:Nat}:ixN (n+1) 0=some 0:=by
 unfold ixN;rw [if_pos (by decide),if_pos (by omega)];rfl
theorem zwc{n:Nat}:ixN (n+1+1) 1=some 1:=by
 unfold ixN;rw [if_pos (by decide),if_pos (by omega)];rfl
theorem zwd{a b:Int}(h:b.natAbs < 18446744073709551616):zce (.d (.int a)) (.d (.int b))=some (.d (.int (a * b))):=zrQ (.inr ⟨by omega,by omega⟩)
theorem zwe{a b:Int}(h:a.natAbs < 18446744073709551616):zce (.d (.int a)) (.d (.int b))=some (.d (.int (a * b))):=zrQ (.inl ⟨by omega,by omega⟩)
theorem zwf{a b:Int}(h:0 < b):zfF (.d (.int a)) (.d (.int b))=some (.d (.int (a % b))):=zv4 h
theorem zwg{a b:Int}(h:0 < b)(h2:b<=340282366920938463463374607431768211456):zil (.d (.int a)) (.d (.int b))=some (.d (.int (a / b))):=zuj (zqn h (by omega))
theorem zwh{a b:Int}(h:0<=b)(h2:b<=1000000)(h3:a.natAbs < 18446744073709551616):zqu (.d (.int a)) (.d (.int b))=some (.d (.int (a^b.toNat))):=zv5 ⟨h,h2,by omega⟩
theorem zl:sizeLine=16777216:=rfl
theorem zkC{nt:Nat}:reset nt ρ=List.replicate nt none++ρ.drop nt:=rfl
theorem zr3{nt:Nat}{js:List Nat}:cEn nt js ρ=List.replicate nt none++js.map fun j=>ρ.getD j none:=rfl
def noS(j:Nat):List Ar->Bool
 | []=>true
 | .u _::as=>noS j as
 | .s k::as=>!decide (k=j) && noS j as
theorem zjx{j:Nat}:∀ {as:List Ar},noS j as=!(as.any fun a=>match a with | .s k=>decide (k=j) | _=>false)
 | []=>rfl
 | .u _::as=>by rw [List.any_cons]; exact zjx (as:=as)
 | .s k::as=>by
  unfold noS;rw [List.any_cons,zjx (as:=as),Bool.not_or]
def dAt:Option U->Bool
 | some u=>!u.own
 | none=>true
theorem zr4:dAt (some (.d x))=true:=rfl
theorem zkD:noS j []=true:=rfl
theorem zr5{k:Nat}{as:List Ar}:noS j (.s k::as)=(!decide (k=j) && noS j as):=rfl
theorem zkE{as:List Ar}:zcH ρ (.s j::as)=((noS j as || dAt (ρ[j]?).join) && zcH ρ as):=by
 rw [zt6,zjx];congr 1;cases ρ[j]? with
 | none=>simp [dAt]
 | some o =>
  cases o with
  | none=>simp [dAt]
  | some u=>simp [dAt,Bool.or_comm]
theorem znL{js:List Nat}{us:List (Option U)}:back (j::js) (some u::us) ρ=back js us (ρ.set j (some u)):=rfl
theorem znM{us:List (Option U)}:back [] us ρ=ρ:=by cases us<;>rfl
theorem zgH:∀ ks:List Int,zeH (ks.map PyData.int)=some ks
 | []=>rfl
 | k::ks=>by show(zeH (ks.map PyData.int)).bind _=_; rw [zgH ks]; rfl
theorem znN{ks:List Int}:ztS (.l (ks.map PyData.int))=some (.d (.int ks.sum)):=by
 show(some _).bind _=_;rw [bd,zgH];rfl
end
structure XT (K:qc) (tab:List (Str×List Str)) (fl:List Str):Prop where
 cl:∀ n ups C,tab.lookup n=some ups->XN K n C->XI K C/\∀ f∈fl,zal K C f
 is:∀ n ups C,tab.lookup n=some ups->XN K n C->∀ c C',(tab.lookup c).isSome=true->XN K c C'->PySem.W.kitOne K (.ref C) (.ref C')=some (decide (c=n) || ups.contains c)
 isT:∀ n ups C,tab.lookup n=some ups->XN K n C->PySem.W.kitOne K (.ref C) (.type "ValueError")=some (ups.contains ("ValueError":Str))
section
variable {K:qc} {tab:List (Str×List Str)} {fl:List Str} {f n:Str} {H:Hp}
end
section
variable {K:qc} {tab:List (Str×List Str)} {fl:List Str} {f n:Str} {H:Hp}
end
section
variable {X:Cx} {K:qc} {tab:List (Str×List Str)} {fl:List Str} {c n:Str}
end
section
variable {K:qc}
def flD:D->Option V
 | .none=>some .non
 | .bool b=>some (.bl b)
 | .int i=>some (.int i)
 | .str x=>some (.str x)
 | _=>none
theorem zkF{H:Hp}{v w:V}{d:D}(h:DF K H v d)(e:flD d=some w):v=w/\zdk w=true:=by
 cases d with
 | none=>cases e; cases h; exact⟨rfl,rfl⟩
 | bool b=>cases e; cases DF.bl_inv h; exact⟨rfl,rfl⟩
 | int i=>cases e; cases DF.int_inv h; exact⟨rfl,rfl⟩
 | str x=>cases e; cases DF.str_inv h; exact⟨rfl,rfl⟩
 | _=>cases e
theorem zkG{H:Hp}:∀ {us:List V} {ds:List D} {ws:List V},DFs K H us ds->ds.mapM flD=some ws->us=ws/\ws.all zdk=true
 | _,_,ws,.nil,e=>by cases e; exact⟨rfl,rfl⟩
 | _,_,ws,.cons h t,e=>by
  rw [List.mapM_cons]at e;obtain⟨y,e1,e⟩:=zd e;obtain⟨ys',e2,e⟩:=zd e;cases e;obtain⟨rfl,f1⟩:=zkF h e1;obtain⟨rfl,f2⟩:=zkG t e2;exact⟨rfl,by rw [List.all_cons,f1,f2]; rfl⟩
end
def zul(K:qc)(C:Addr):Bool:=match K.lookup C with
 | some ⟨.type "type",_,.cls cd,sl⟩=>(match cd.mro,sl.toList with
  | .ref C'::bm,[_,_,_,_,some (.builtin m),_]=>C'==C && m == "ValueError.__new__" && !cd.hasDel && cd.hasDict && PySem.W.tailIn K xUp bm
  | _,_=>false)
 | _=>false
def zqU(K:qc)(C:Addr):Bool:=zul K C && PySem.W.findIn K (.ref C) "__getattribute__"==some (some (.builtin "BaseException.__getattribute__")) && PySem.W.findIn K (.ref C) "__getattr__"==some none &&
 PySem.W.findIn K (.ref C) "__setattr__"==some (some (.builtin "object.__setattr__")) && PySem.W.findIn K (.ref C) "__class__"==some (some (.builtin "object.__class__")) &&
 PySem.W.specialIn K (.builtin "object.__class__") "__get__"==some (some (.builtin "getset_descriptor.__get__")) && PySem.W.takesIn K (.builtin "object.__class__")==some true && PySem.W.mroIn K C (.type "object")==some true
theorem zwi{K:qc}{C:Addr}(q:zul K C=true):∃ nm qn N bs bm sn sub ab col dd k0 k1 k2 k3 k5,K.lookup C=some (excClassObj nm qn C N bs bm true sn sub ab col dd k0 k1 k2 k3 k5 "ValueError.__new__")/\PySem.W.tailIn K xUp bm=true:=by
 unfold zul at q;split at q
 ·rename_i dd cd sl ho
  split at q
  ·rename_i C' bm k0 k1 k2 k3 m k5 hm hs
   simp only [Bool.and_eq_true,beq_iff_eq,Bool.not_eq_true']at q;obtain⟨⟨⟨⟨rfl,rfl⟩,hdel⟩,hdct⟩,ht⟩:=q;obtain⟨nm,bs,mro,ns,qn,hd,sn,sub,ab,col,del⟩:=cd;dsimp only at hm hdel hdct;subst hm hdel hdct;obtain⟨l⟩:=sl;dsimp only at hs;subst hs;exact⟨nm,qn,ns,bs,bm,sn,sub,ab,col,dd,k0,k1,k2,k3,k5,ho,ht⟩
  ·cases q
 ·cases q
theorem zwj{K:qc}{C:Addr}(q:zqU K C=true):XI K C:=by
 unfold zqU at q;simp only [Bool.and_eq_true,beq_iff_eq]at q;obtain⟨⟨⟨⟨⟨⟨⟨h1,h2⟩,h3⟩,h4⟩,h5⟩,h6⟩,h7⟩,h8⟩:=q;exact⟨⟨zwi h1,h2,h3,h4⟩,h5,h6,h7,h8⟩
def znO(K:qc)(n:Str):Option Addr:=match PySem.W.nsIn K mainGlobals n with
 | some (some (.ref C))=>some C
 | _=>none
theorem zkH{K:qc}{n:Str}{C:Addr}(h:XN K n C):znO K n=some C:=by
 unfold znO;rw [show PySem.W.nsIn K mainGlobals n=some (some (.ref C)) from h]
def zum(K:qc)(tab:List (Str×List Str))(fl:List Str):Bool:=tab.all fun p=>match znO K p.1 with
 | some C=>zqU K C && fl.all (fun f=>PySem.W.findIn K (.ref C) f==some none) && PySem.W.kitOne K (.ref C) (.type "ValueError")==some (p.2.contains ("ValueError":Str)) &&
   tab.all fun p'=>match znO K p'.1 with
    | some C'=>PySem.W.kitOne K (.ref C) (.ref C')==some (decide (p'.1=p.1) || p.2.contains p'.1)
    | none=>false
 | none=>false
theorem zdE{β:Type}:∀ {l:List (Str×β)} {n:Str} {b:β},l.lookup n=some b->(n,b)∈l
 | [],_,_,e=>by cases e
 | (m,c)::l,n,b,e=>by
  rw [List.lookup_cons]at e;cases q:(n==m)with
  | true =>
   rw [q]at e;cases e;rw [beq_iff_eq.mp q];exact qp
  | false =>
   rw [q]at e;exact qo _ (zdE e)
theorem zwk{K:qc}{tab:List (Str×List Str)}{fl:List Str}(h:zum K tab fl=true):XT K tab fl:=by
 unfold zum at h;have one:∀ n ups C,tab.lookup n=some ups->XN K n C->(zqU K C && fl.all (fun f=>PySem.W.findIn K (.ref C) f==some none) && PySem.W.kitOne K (.ref C) (.type "ValueError")==some (ups.contains ("ValueError":Str)) &&
   tab.all fun p'=>match znO K p'.1 with
    | some C'=>PySem.W.kitOne K (.ref C) (.ref C')==some (decide (p'.1=n) || ups.contains p'.1)
    | none=>false)=true:=fun n ups C hn xn=>by
  have z:=List.all_eq_true.mp h (n,ups) (zdE hn);dsimp only at z;rw [zkH xn]at z;exact z
 refine⟨fun n ups C hn xn=>?_,fun n ups C hn xn c C' hc xc=>?_,fun n ups C hn xn=>?_⟩
 ·have z:=one n ups C hn xn
  simp only [Bool.and_eq_true]at z;refine⟨zwj z.1.1.1,fun f hf=>?_⟩;exact beq_iff_eq.mp (List.all_eq_true.mp z.1.1.2 f hf)
 ·have z:=one n ups C hn xn
  simp only [Bool.and_eq_true]at z;obtain⟨ups',hu'⟩:=Option.isSome_iff_exists.mp hc;have y:=List.all_eq_true.mp z.2 (c,ups') (zdE hu');dsimp only at y;rw [zkH xc]at y;exact beq_iff_eq.mp y
 ·have z:=one n ups C hn xn
  simp only [Bool.and_eq_true]at z;exact beq_iff_eq.mp z.1.2
section
variable {X:Cx} {K:qc} {C:Addr} {x f:Str} {p pos:Pos} {e:Expr} {es:List Expr} {t:TA} {ta:TE}
end
abbrev RX(α:Type):=(α×En) ⊕ (D×En)
abbrev MXA:=En->Option (RX (List Ar))
section
variable {K:qc} {EX:EXT} {pn:List Nat} {ρ ρ':En} {σ σ₀:St} {H H' H₀ H₁:Hp} {A:Addr->Prop}
def mXR(n f:Str)(ma:MA):En->Option (D×En):=fun ρ=>(ma ρ).bind fun p=>(zao p.2 p.1).bind fun us=>(zcf us).bind fun ds=>match ds with
 | [x]=>some (.dict [(.none,.str n),(.str f,x)],p.2)
 | _=>none
def under(tab:List (Str×List Str))(c:Str):D->Bool
 | .dict ((.none,.str n)::_)=>match tab.lookup n with | some ups=>ups.contains c | none=>false
 | _=>false
end
abbrev FX:=List U->Option ((U×List U) ⊕ (D×List U))
def spX(K:qc)(n:Nat)(f:FX):Sp:=fun vs H Q E=>∃ us r,us.length=n/\Rs K (sm us) (smV vs) H/\f us=some r/\match r with
 | .inl o=>∀ v H',Go K (sm us) (smV vs) H (sm o.2) H'->Rp K H' v o.1->Nw H v o.1->Q v H'
 | .inr o=>∀ a H',Go K (sm us) (smV vs) H (sm o.2) H'->H a=none->zvK K H' a o.1->E (.ref a) none H'
structure CalX (P:Program) (w:World) (K:qc) (mg:Str->Option Value) (base:Heap) (x:Str) (k:Nat) (ps:List Str) (sp:Sp):Prop where
 ex:∃ (f:Addr) (fd:FuncData),FnOk P w K mg base (CXv P w K) k f fd ps sp/\zcN K fd ps []/\PySem.W.keepIn K (.ref f)=true/\mg x=some (.ref f)
section
variable {X:Cx} {EX:EXT} {k:Nat} {ps:List Str} {sp:Sp} {x:Str} {p pos:Pos} {e:Expr} {es:List Expr} {t:TA}
end
section
variable {K:qc} {EX:EXT} {pn:List Nat} {ρ ρ':En} {σ σ₀:St} {H H' H₀ H₁:Hp} {A:Addr->Prop}
end
section
variable {X:Cx} {K:qc} {C:Addr} {x f:Str} {p pos:Pos} {e:Expr} {es:List Expr} {t:TA} {te:TE} {EX:EXT}
end
def isT(t T:String):Bool:=t==T || (t == "bool" && T == "int")
section
variable {K:qc}
def zxd(x:D)(ds:List D):Option Bool:=(flD x).bind fun w=>(ds.mapM flD).bind fun ws=>some (inV w ws)
def fIn(neg:Bool)(a b:U):Option U:=match a with
 | .d x=>b.items.bind fun ds=>(zxd x ds).bind fun r=>some (.d (.bool (if neg=true then !r else r)))
 | _=>none
theorem zr6(neg:Bool):VO K (rIn K neg) (fIn neg):=by
 intro x y a b u H Q ha hb e q;cases a with
 | d d =>
  obtain⟨ds,e1,e⟩:=zd (show b.items.bind _=some u from e);obtain⟨r,e2,e⟩:=zd e;obtain⟨w,e3,e2⟩:=zd e2;obtain⟨ws,e4,e2⟩:=zd e2;cases e2;cases e;obtain⟨p,ys,rfl,sq,df⟩:=hb.items e1;obtain⟨rfl,f1⟩:=zkF ha e3;obtain⟨rfl,f2⟩:=zkG df e4;exact⟨p,_,rfl,sq,f1,f2,q _ _ (zba.refl H) (by cases neg<;>exact DF.bl _) Nw.data⟩
 | _=>cases e
end
section
variable {X:Cx} {K:qc}
end
section
variable {prog:Program} {w:World} {A:Around} {R:Result->Shared->Prop} {I:Addr} {fp wr:List Addr} {G:Array GenState->Array GenState->Prop} {ks:List Key} {P:Nat->Value->Prop} {St:Nat->Shared->Prop}
end
section
variable {prog:Program} {w:World} {A:Around} {E:Value->Shared->Prop} {s:Shared}
end
section
variable {X:Cx} {K:qc}
def znP(K:qc):R2:=fun x y H Q=>zm2 K x y H Q\/∃ a b,x=.ref a/\y=.ref b/\SqT K H a []/\(∃ ys,SqT K H b ys)/\Q y H
end
section
variable {X:Cx} {K:qc}
theorem zqV{prog:Program}{w:World}{A:Around}{E:Value->Shared->Prop}{s:Shared}{t b:Addr}{ws:List Value}{Q:Value->Shared->Prop}(ht:IsTup s.heap t #[])(hb:IsTup s.heap b ws.toArray)(h:Q (.ref b) s):wpAny (model prog w) A (binaryOp .Add (.ref t) (.ref b)) Q E s:=by
 obtain⟨⟨c1,d1,o1,s1⟩,h1,z1,n1,y1⟩:=id ht;obtain⟨⟨c2,d2,o2,s2⟩,h2,z2,n2,y2⟩:=id hb;cases(show c1=_ from z1);cases(show c2=_ from z2);cases(show o1=_ from y1);cases(show o2=_ from y2);have mt:=tuple_addW0 t b #[] ws.toArray n1 n2 d1 d2 s1 s2 rfl;exact concat_meets ⟨_,h1,rfl⟩ ⟨_,h2,rfl⟩ noFill_tuple_add seq_tuple_add PySem.F.slot_tuple_add PySem.F.entry_tuple_add (PySem.F.args_tuple_add_2 _ _) mt ⟨h1,h2,h⟩
theorem zfR{K:qc}(hK:X.K=K:=by rfl):OpR X (binaryOp .Add) (znP K):=by
 subst hK;intro pins s σ H x y v u Q I rx ry h;rcases h with h | ⟨a,b,rfl,rfl,ha,⟨ys,hb⟩,q⟩
 ·exact zqh pins s σ H x y v u Q I rx ry h
 ·cases rx
  cases ry;obtain⟨its,r1,p1,_⟩:=I.tuple ha;obtain⟨its2,r2,p2,_⟩:=I.tuple hb;cases r1;exact zqV p1 p2 ⟨.ref b,H,I,rfl,q⟩
def zet:U->U->Option U
 | .d (.tuple []),.d (.tuple ys)=>some (.d (.tuple ys))
 | a,b=>znA a b
theorem zfS:VO K (znP K) zet:=by
 intro x y a b u H Q ha hb e q;unfold zet at e;split at e
 ·cases e
  obtain⟨p,us,rfl,h1,h2⟩:=DF.tup_inv ha;obtain⟨p',us',rfl,h1',h2'⟩:=DF.tup_inv hb;cases h2;exact .inr ⟨p,p',rfl,rfl,(TpK.sq h1),⟨us',(TpK.sq h1')⟩,q _ _ (zba.refl H) hb Nw.data⟩
 ·exact .inl (zqD x y _ _ u H Q ha hb e q)
end
def GTi(K:qc)(g:Addr)(ns:List Int):Prop:=∃ (o:Obj) (its:Array Value) (n:Nat),K.lookup g=some o/\o.cls=.type "tuple"/\o.data=.seq its n/\its.size<=sizeLine/\zE (ns.map V.int) its.toList
section
variable {X:Cx} {K:qc}
end
theorem nr{α:Sort _}{a b:α}(h:a=b):a=b:=h
structure Ph {α:Type} (a:α):Type where
 n:Nat
def Wo{α:Type}(o:Option α)(Q:α->Prop):Prop:=∃ a,o=some a/\Q a
def Co{α β:Type}(f:α->Option β)(t:Ph f)(Q:β->Prop)(a:α):Prop:=Wo (f a) Q
section
variable {α β:Type} {a:α} {o:Option α} {f:α->Option β} {Q:α->Prop} {R:β->Prop}
theorem zV:Wo (some a) Q=Q a:=propext ⟨fun⟨_,e,h⟩=>(by cases e; exact h),fun h=>⟨a,rfl,h⟩⟩
theorem zp:Wo (o.bind f) R=Wo o (Co f ⟨0⟩ R):=propext (by
 cases o with
 | none=>exact⟨fun⟨_,e,_⟩=>(by cases e),fun⟨_,e,_⟩=>(by cases e)⟩
 | some a=>rw [zV]; exact Iff.rfl)
theorem zbL{t:Ph f}:Co f t R a=Wo (f a) R:=rfl
theorem zdV{c:Prop}[Decidable c]{x y:Option α}(h:c->Wo x Q)(h':¬c->Wo y Q):Wo (if c then x else y) Q:=by
 split
 ·exact h ‹_›
 ·exact h' ‹_›
end
section
variable {ρ:En} {me ma mb mc mk mi md my mv mo:ME} {mA mK:MA} {mt mu:MT} {mI:MI} {mg:MG} {m1 m2:MS} {i j n:Nat} {u:U} {x:D} {mx:MX} {mXA:MXA}
variable {QE:Ar×En->Prop} {QA:List Ar×En->Prop} {QT:Bool×En->Prop} {QS:Fl->Prop} {QI:List D×En->Prop} {QO:Option Int×En->Prop} {QG:En->Prop} {QX:RX Ar->Prop} {QXA:RX (List Ar)->Prop} {QR:D×En->Prop} {QF:U×List U->Prop} {QFX:(U×List U) ⊕ (D×List U)->Prop}
theorem zjy:Wo (zk i ρ) QE=Wo (ρ[i]?).join (Co (fun _=>some (.s i,ρ)) ⟨0⟩ QE):=by rw [zt1,zp]
theorem zun:Wo (mC x ρ) QE=QE (.u (.d x),ρ):=by rw [zxb,zV]
def zqW(f:U->U->Option U)(a:Ar)(q:Ar×En):Option (Ar×En):=(a.get q.2).bind fun x=>(q.1.get q.2).bind fun y=>(f x y).bind fun u=>some (.u u,q.2)
def kOp(f:U->U->Option U)(mb:ME)(p:Ar×En):Option (Ar×En):=(mb p.2).bind (zqW f p.1)
theorem zr7{f:U->U->Option U}:Wo (mOp f ma mb ρ) QE=Wo (ma ρ) (Co (kOp f mb) ⟨0⟩ QE):=by rw [zvO,zp]; rfl
theorem znQ{f:U->U->Option U}{p:Ar×En}:Wo (kOp f mb p) QE=Wo (mb p.2) (Co (zqW f p.1) ⟨0⟩ QE):=by unfold kOp; rw [zp]
theorem zwl{f:U->Option U}:Wo (mUn f ma ρ) QE=Wo (ma ρ) (Co (fun p=>(p.1.get p.2).bind fun x=>(f x).bind fun u=>some (.u u,p.2)) ⟨0⟩ QE):=by rw [zvP,zp]
theorem zjz:Wo (zt ρ) QA=QA ([],ρ):=by rw [zt2,zV]
theorem zqX:Wo (zf me mA ρ) QA=Wo (me ρ) (Co (fun p=>(mA p.2).bind fun q=>some (p.1::q.1,q.2)) ⟨0⟩ QA):=by rw [zqG,zp]
theorem znR:Wo (zag mA ρ) QE=Wo (mA ρ) (Co (fun p=>(zao p.2 p.1).bind fun us=>(zcf us).bind fun ds=>if ds.length<=sizeLine then some (.u (.d (.tuple ds)),p.2)else none) ⟨0⟩ QE):=by rw [zt3,zp]
theorem znS:Wo (zbi mA ρ) QE=Wo (mA ρ) (Co (fun p=>(zao p.2 p.1).bind fun us=>(zcf us).bind fun ds=>if ds.length<=sizeLine then some (.u (.l ds),p.2)else none) ⟨0⟩ QE):=by rw [zt4,zp]
theorem zwm{f:List U->Option U}:Wo (mCB f mA ρ) QE=Wo (mA ρ) (Co (fun p=>(zao p.2 p.1).bind fun us=>(f us).bind fun u=>some (.u u,p.2)) ⟨0⟩ QE):=by rw [zvQ,zp]
theorem zuo{f:FD}:Wo (z8 f mA ρ) QE=Wo (mA ρ) (Co (fun p=>if zcH p.2 p.1=true then(zao p.2 p.1).bind fun us=>(f us).bind fun o=>some (.u o.1,wb p.2 p.1 o.2)else none) ⟨0⟩ QE):=by rw [zt5,zp]
theorem znT:Wo (zM m1 m2 ρ) QS=Wo (m1 ρ) (Co (zfQ m2) ⟨0⟩ QS):=by rw [zt7,zp]
theorem zup:Wo (zae i me ρ) QS=Wo (me ρ) (Co (fun p=>(put p).bind fun q=>some (.nx (q.2.set i (some q.1)))) ⟨0⟩ QS):=by rw [zt8,zp]
theorem znU:Wo (zau me ρ) QS=Wo (me ρ) (Co (fun p=>(put p).bind fun q=>some (.rt q.1 q.2)) ⟨0⟩ QS):=by rw [zt9,zp]
theorem zkI{pn:List Nat}:Wo (zdP pn i ρ) QS=Wo (if i∈pn then none else(ρ[i]?).join.bind fun u=>some (.rt u (ρ.set i none))) QS:=by rw [zqH]
theorem zhv:Wo (za0 ρ) QS=QS (.nx ρ):=by rw [zqI,zV]
theorem zqY:Wo (zct me ρ) QS=Wo (me ρ) (Co (fun p=>some (.nx p.2)) ⟨0⟩ QS):=by rw [zqJ,zp]
theorem zuq:Wo (zbR mt m1 m2 ρ) QS=Wo (mt ρ) (Co (fun p=>if p.1=true then m1 p.2 else m2 p.2) ⟨0⟩ QS):=by rw [zua,zp]
theorem znV:Wo (mIf mt ma mb ρ) QE=Wo (mt ρ) (Co (fun p=>if p.1=true then ma p.2 else mb p.2) ⟨0⟩ QE):=by rw [zvT,zp]
theorem zxe:Wo (mB me ρ) QT=Wo (me ρ) (Co (fun p=>(p.1.get p.2).bind fun u=>u.bol.bind fun b=>some (b,p.2)) ⟨0⟩ QT):=by rw [zxc,zp]
theorem znW:Wo (zqx mt mu ρ) QT=Wo (mt ρ) (Co (fun p=>if p.1=true then mu p.2 else some (false,p.2)) ⟨0⟩ QT):=by rw [zub,zp]
theorem zr8:Wo (mOr mt mu ρ) QT=Wo (mt ρ) (Co (fun p=>if p.1=true then some (true,p.2)else mu p.2) ⟨0⟩ QT):=by rw [zvU,zp]
theorem znX:Wo (zqy mt ρ) QT=Wo (mt ρ) (Co (fun p=>some (!p.1,p.2)) ⟨0⟩ QT):=by rw [zuc,zp]
theorem zkJ:Wo (zfJ ma mb ρ) QE=Wo (mB ma ρ) (Co (fun p=>if p.1=true then mb p.2 else some (.u (.d (.bool false)),p.2)) ⟨0⟩ QE):=by rw [zqK,zp]
theorem zkK:Wo (zio ma ρ) QE=Wo (mB ma ρ) (Co (fun p=>some (.u (.d (.bool (!p.1))),p.2)) ⟨0⟩ QE):=by rw [zqL,zp]
theorem znY:Wo (zqz ma ρ) QT=Wo (ma ρ) (Co (fun p=>(p.1.get p.2).bind fun u=>u.tru.bind fun b=>some (b,p.2)) ⟨0⟩ QT):=by rw [zud,zp]
theorem znZ:Wo (zgr ρ) QT=QT (true,ρ):=by rw [zue,zV]
theorem zn0:Wo (zit i me ρ) QE=Wo (ρ[i]?).join (Co (fun w=>w.lo.bind fun _=>(me ρ).bind fun p=>(p.1.get p.2).bind fun u=>u.da.bind fun x=>(p.2[i]?).join.bind fun w=>w.lo.bind fun xs=>if xs.length < sizeLine then some (.u (.d .none),p.2.set i (some (.l (xs++[x]))))else none) ⟨0⟩ QE):=by rw [zuf,zp]
theorem zix:Wo (zcn i me mi ρ) QS=Wo (ρ[i]?).join (Co (fun _=>(me ρ).bind fun p=>(mi p.2).bind fun q=>(p.1.get q.2).bind fun u=>(q.1.get q.2).bind fun w=>u.da.bind fun x=>w.num.bind fun k=>(q.2[i]?).join.bind fun z=>z.lo.bind fun xs=>(ixN xs.length k).bind fun j=>some (.nx (q.2.set i (some (.l (xs.set j x)))))) ⟨0⟩ QS):=by rw [znD,zp]
theorem zkL:Wo (zgE md my ρ) QE=Wo (md ρ) (Co (fun p=>(my p.2).bind fun q=>(p.1.get q.2).bind fun u=>(q.1.get q.2).bind fun y=>(zhq u y).bind fun o=>o.bind fun d=>some (.u (.d d),q.2)) ⟨0⟩ QE):=by rw [zqM,zp]
theorem zn1{neg:Bool}:Wo (zl9 neg my md ρ) QE=Wo (my ρ) (Co (fun q=>(md q.2).bind fun p=>(p.1.get p.2).bind fun u=>(q.1.get p.2).bind fun y=>(zhq u y).bind fun o=>some (.u (.d (.bool (if neg=true then !o.isSome else o.isSome))),p.2)) ⟨0⟩ QE):=by rw [zug,zp]
theorem ziy:Wo (zhr ρ) QE=QE (.u (.t []),ρ):=by rw [znE,zV]
theorem zr9:Wo (mFz me ρ) QE=Wo (me ρ) (Co (fun p=>(p.1.get p.2).bind fun u=>u.fz.bind fun x=>some (.u (.d x),kFz x p)) ⟨0⟩ QE):=by rw [zvX,zp]
theorem zsa{g:U->Option (List D)}:Wo (mIt g me ρ) QI=Wo (me ρ) (Co (fun p=>(p.1.get p.2).bind fun u=>(g u).bind fun ds=>some (ds,p.2)) ⟨0⟩ QI):=by rw [zv1,zp]
theorem zsb{n:Int}(h:-4611686018427387904<=n)(h2:n < 4611686018427387904):zqN [.d (.int n)]=some (zaY 0 n.toNat):=by rw [zuh,if_pos ⟨by omega,by omega⟩]
theorem zkM:Wo (zcU mA ρ) QI=Wo (mA ρ) (Co (fun p=>(zao p.2 p.1).bind fun us=>(zqN us).bind fun ds=>some (ds,p.2)) ⟨0⟩ QI):=by rw [zqO,zp]
def zxn:List U->Option (List D)
 | [.d (.int i),.d (.int j)]=>if -(2^62)<=i/\i < 2^62/\-(2^62)<=j/\j < 2^62 then some (zaY i (j - i).toNat)else none
 | _=>none
def zn2:List U->Option (List D)
 | [.d (.tuple ds)]=>some (za1 0 ds)
 | _=>none
theorem zkN{ds:List D}:zn2 [.d (.tuple ds)]=some (za1 0 ds):=rfl
theorem zqZ:ziq mA ρ=(mA ρ).bind fun p=>(zao p.2 p.1).bind fun us=>(zn2 us).bind fun ds=>some (ds,p.2):=bind_fn fun p=>bind_fn fun us=>by
 match us with
 | []=>rfl
 | [.d x]=>cases x<;>rfl
 | [.l _]=>rfl
 | [.t _]=>rfl
 | [.k _]=>rfl
 | [.o _ _]=>rfl
 | .d x::b::us=>cases x<;>rfl
 | .l x::b::us=>rfl
 | .t x::b::us=>rfl
 | .k x::b::us=>rfl
 | .o x y::b::us=>rfl
theorem zkO:Wo (ziq mA ρ) QI=Wo (mA ρ) (Co (fun p=>(zao p.2 p.1).bind fun us=>(zn2 us).bind fun ds=>some (ds,p.2)) ⟨0⟩ QI):=by rw [zqZ,zp]
theorem zn3:Wo (zbq mI mg m1 ρ) QS=Wo (mI ρ) (Co (fun p=>zbt mg m1 p.1 p.2) ⟨0⟩ QS):=by rw [zui,zp]
theorem zn4{nt:Nat}{js:List Nat}:Wo (mLC mI nt js mg mt me ρ) QE=Wo (mI ρ) (Co (fun p=>(lcM nt mg mt me p.1 (cEn nt js p.2) []).bind fun q=>some (.u (.l q.1),back js (q.2.drop nt) p.2)) ⟨0⟩ QE):=by rw [zv2,zp]
theorem zsc{f:U->Option Int->Option Int->Option U}{ml mh:MO}:Wo (mSl f me ml mh ρ) QE=Wo (me ρ) (Co (fun p=>(ml p.2).bind fun l=>(mh l.2).bind fun h=>(p.1.get h.2).bind fun x=>(f x l.1 h.1).bind fun u=>some (.u u,h.2)) ⟨0⟩ QE):=by rw [zv3,zp]
theorem zgI:Wo (zco ρ) QO=QO (none,ρ):=by rw [zma,zV]
theorem zkP:Wo (zfO me ρ) QO=Wo (me ρ) (Co (fun p=>(p.1.get p.2).bind fun u=>u.num.bind fun i=>some (some i,p.2)) ⟨0⟩ QO):=by rw [zqP,zp]
theorem ziz:Wo (zx i x ρ) QG=QG (ρ.set i (some (.d x))):=by rw [znH,zV]
theorem zkQ{gs:List D->En->Option En}{ds:List D}:Wo (zaD n gs (.tuple ds) ρ) QG=Wo (if ds.length=n then gs ds ρ else none) QG:=by rw [zqQ]
theorem ziA{g:MG}{gs:List D->En->Option En}{ds:List D}:Wo (zH g gs (x::ds) ρ) QG=Wo (g x ρ) (Co (fun ρ1=>gs ds ρ1) ⟨0⟩ QG):=by rw [znI,zp]
theorem zkR:Wo (zaV [] ρ) QG=QG ρ:=by rw [zqR,zV]
def x1:List D->Option D
 | [x]=>some x
 | _=>none
theorem zn5{pn:List Nat}{us:List U}:Wo (za2 n pn m1 us) QF=Wo (m1 (sm us++List.replicate (n - us.length) none)) (Co (zqS pn us) ⟨0⟩ QF):=by rw [zuk,zp]
def zfT(Q:Fl->Prop)(P:En->Prop):Fl->Prop
 | .nx ρ=>P ρ
 | .ct ρ=>P ρ
 | .bk ρ=>Q (.nx ρ)
 | .rt u ρ=>Q (.rt u ρ)
 | .ex x ρ=>Q (.ex x ρ)
theorem ziB{Q:Fl->Prop}{P:En->Prop}:zfT Q P (.nx ρ)=P ρ:=rfl
theorem ziC{Q:Fl->Prop}{P:En->Prop}:zfT Q P (.rt u ρ)=Q (.rt u ρ):=rfl
theorem zdh{Q:Fl->Prop}(P:Nat->En->Prop){ds:List D}(h0:P 0 ρ)(st:∀ i d ρ,ds[i]?=some d->P i ρ->Wo (mg d ρ) (Co m1 ⟨0⟩ (zfT Q (P (i+1)))))(hQ:∀ ρ,P ds.length ρ->Q (.nx ρ)):Wo (zbt mg m1 ds ρ) Q:=by
 have main:∀ (es:List D) (n:Nat) (ρ:En),n+es.length=ds.length->(∀ i,es[i]?=ds[n+i]?)->P n ρ->Wo (zbt mg m1 es ρ) Q:=by
  intro es
  induction es with
  | nil =>
   intro n ρ hn _ hp;show Wo (some _) Q;rw [zV];rw [List.length_nil,Nat.add_zero]at hn;exact hQ ρ (hn▸hp)
  | cons d es ih =>
   intro n ρ hn he hp;have e0:=he 0;rw [List.getElem?_cons_zero,Nat.add_zero]at e0;obtain⟨ρ1,e1,f,e2,k⟩:=st n d ρ e0.symm hp;have nxt:∀ ρ2,P (n+1) ρ2->Wo (zbt mg m1 es ρ2) Q:=fun ρ2 z=>ih (n+1) ρ2 (by rw [qu]at hn; omega) (fun i=>by
    have:=he (i+1);rw [List.getElem?_cons_succ]at this;rw [this,show n+(i+1)=n+1+i by omega]) z
   unfold zbt;rw [zp];refine⟨ρ1,e1,?_⟩;rw [zbL,zp];refine⟨f,e2,?_⟩;rw [zbL];cases f with
   | nx ρ2=>exact nxt ρ2 k
   | ct ρ2=>exact nxt ρ2 k
   | bk ρ2=>exact⟨_,rfl,k⟩
   | rt u ρ2=>exact⟨_,rfl,k⟩
   | ex x ρ2=>exact⟨_,rfl,k⟩
 exact main ds 0 ρ (by omega) (fun i=>by rw [Nat.zero_add]) h0
theorem zan{α:Type}{g:α->D}{Q:Fl->Prop}(P:List α->List α->En->Prop){as:List α}(h0:P [] as ρ)(st:∀ bs a cs ρ,as=bs++a::cs->P bs (a::cs) ρ->Wo (mg (g a) ρ) (Co m1 ⟨0⟩ (zfT Q (P (bs++[a]) cs))))(hQ:∀ ρ,P as [] ρ->Q (.nx ρ)):Wo (zbt mg m1 (as.map g) ρ) Q:=by
 have main:∀ (cs bs:List α) (ρ:En),as=bs++cs->P bs cs ρ->Wo (zbt mg m1 (cs.map g) ρ) Q:=by
  intro cs
  induction cs with
  | nil =>
   intro bs ρ e hp;rw [List.append_nil]at e;subst e;exact⟨_,rfl,hQ ρ hp⟩
  | cons a cs ih =>
   intro bs ρ e hp;obtain⟨ρ1,e1,f,e2,k⟩:=st bs a cs ρ e hp;have nxt:∀ ρ2,P (bs++[a]) cs ρ2->Wo (zbt mg m1 (cs.map g) ρ2) Q:=fun ρ2 z=>ih (bs++[a]) ρ2 (by rw [e,List.append_assoc]; rfl) z;rw [List.map_cons];unfold zbt;rw [zp];refine⟨ρ1,e1,?_⟩;rw [zbL,zp];refine⟨f,e2,?_⟩;rw [zbL];cases f with
   | nx ρ2=>exact nxt ρ2 k
   | ct ρ2=>exact nxt ρ2 k
   | bk ρ2=>exact⟨_,rfl,k⟩
   | rt u ρ2=>exact⟨_,rfl,k⟩
   | ex x ρ2=>exact⟨_,rfl,k⟩
 exact main as [] ρ rfl h0
def kLC(nt:Nat)(me:ME)(ys:List D)(P:En->List D->Prop)(p:Bool×En):Prop:=if p.1=true then Wo (me p.2) (Co (fun q=>(q.1.get q.2).bind fun u=>u.da.bind fun y=>some (reset nt q.2,ys++[y])) ⟨0⟩ fun z=>P z.1 z.2)else P (reset nt p.2) ys
theorem zsd{nt:Nat}{ys:List D}{P:En->List D->Prop}:kLC nt me ys P (true,ρ)=Wo (me ρ) (Co (fun q=>(q.1.get q.2).bind fun u=>u.da.bind fun y=>some (reset nt q.2,ys++[y])) ⟨0⟩ fun z=>P z.1 z.2):=rfl
theorem zse{nt:Nat}{ys:List D}{P:En->List D->Prop}:kLC nt me ys P (false,ρ)=P (reset nt ρ) ys:=rfl
theorem zn6{nt:Nat}{Q:List D×En->Prop}(P:Nat->En->List D->Prop){ds:List D}(hz:ds.length<=sizeLine)(hP:∀ i ρ ys,P i ρ ys->ys.length<=i)(h0:P 0 ρ [])(st:∀ i d ρ ys,ds[i]?=some d->P i ρ ys->Wo (mg d ρ) (Co mt ⟨0⟩ (kLC nt me ys (P (i+1)))))(hQ:∀ ρ ys,P ds.length ρ ys->Q (ys,ρ)):Wo (lcM nt mg mt me ds ρ []) Q:=by
 have main:∀ (es:List D) (n:Nat) (ρ:En) (ys:List D),n+es.length=ds.length->(∀ i,es[i]?=ds[n+i]?)->P n ρ ys->Wo (lcM nt mg mt me es ρ ys) Q:=by
  intro es
  induction es with
  | nil =>
   intro n ρ ys hn _ hp;rw [List.length_nil,Nat.add_zero]at hn;exact⟨_,rfl,hQ ρ ys (hn▸hp)⟩
  | cons d es ih =>
   intro n ρ ys hn he hp;have e0:=he 0;rw [List.getElem?_cons_zero,Nat.add_zero]at e0;obtain⟨ρ1,e1,⟨b,ρ2⟩,e2,k⟩:=st n d ρ ys e0.symm hp;have hl:=hP _ _ _ hp;rw [qu]at hn;have nxt:∀ ρ2 ys2,P (n+1) ρ2 ys2->Wo (lcM nt mg mt me es ρ2 ys2) Q:=fun ρ2 ys2 z=>ih (n+1) ρ2 ys2 (by omega) (fun i=>by
    have:=he (i+1);rw [List.getElem?_cons_succ]at this;rw [this,show n+(i+1)=n+1+i by omega]) z
   unfold lcM;rw [if_pos (by omega),zp];refine⟨ρ1,e1,?_⟩;rw [zbL,zp];refine⟨_,e2,?_⟩;rw [zbL];cases b with
   | false=>rw [if_neg qf]; exact nxt _ _ k
   | true =>
    rw [if_pos rfl,zp];obtain⟨q,e3,k⟩:=k;refine⟨q,e3,?_⟩;rw [zbL,zp]at k ⊢;obtain⟨u,e4,k⟩:=k;refine⟨u,e4,?_⟩;rw [zbL,zp]at k;obtain⟨y,e5,z,e6,k⟩:=k;cases u with
    | d y'=>cases e5; cases e6; exact nxt _ _ k
    | l=>cases e5
    | t=>cases e5
    | k=>cases e5
    | o=>cases e5
 exact main ds 0 ρ [] (by omega) (fun i=>by rw [Nat.zero_add]) h0
end
theorem zmb:sizeLine=16777216:=Eq.trans zl (Eq.symm (Eq.symm (Nat.add_zero _)))
theorem zn7{α:Type}{n:Nat}{dc:Decidable (n < 16777216)}{a b:Option α}(h:n < 16777216):(if n < 16777216 then a else b)=a:=if_pos h
theorem zsf{lo:Int}{n i:Nat}{d:D}(h:(zaY lo n)[i]?=some d):i < n/\d=.int (lo+(i:Nat)):=zgD h
theorem zjA{lo:Int}{n:Nat}:(zaY lo n).length=n:=by
 unfold zaY;rw [List.length_map,List.length_range]
theorem zgJ{ρ:En}{mg:MG}{m1:MS}{n:Nat}{Q:Fl->Prop}(P:Nat->En->Prop)(h0:P 0 ρ)(st:∀ i ρ,i < n->P i ρ->Wo (mg (.int (0+(i:Nat))) ρ) (Co m1 ⟨0⟩ (zfT Q (P (i+1)))))(hQ:∀ ρ,P n ρ->Q (.nx ρ)):Wo (zbt mg m1 (zaY 0 n) ρ) Q :=
 zdh P h0 (fun i d ρ hd hp=>by
  obtain⟨hi,rfl⟩:=zsf hd;exact st i ρ hi hp) fun ρ hp=>hQ ρ (by rw [zjA]at hp; exact hp)
theorem zkS{ρ:En}{mg:MG}{mt:MT}{me:ME}{nt n:Nat}{Q:List D×En->Prop}(P:Nat->En->List D->Prop)(hz:n<=sizeLine)(h0:P 0 ρ [])(hP:∀ i ρ ys,P i ρ ys->ys.length<=i)(st:∀ i ρ ys,i < n->P i ρ ys->Wo (mg (.int (0+(i:Nat))) ρ) (Co mt ⟨0⟩ (kLC nt me ys (P (i+1)))))(hQ:∀ ρ ys,P n ρ ys->Q (ys,ρ)):Wo (lcM nt mg mt me (zaY 0 n) ρ []) Q :=
 zn6 P (by rw [zjA]; exact hz) hP h0 (fun i d ρ ys hd hp=>by
  obtain⟨hi,rfl⟩:=zsf hd;exact st i ρ ys hi hp) fun ρ ys hp=>hQ ρ ys (by rw [zjA]at hp; exact hp)
theorem zxf{xs:List D}{k:Int}(h:0<=k):zdA xs none (some k)=xs.take k.toNat:=by
 have e:k=((k.toNat:Nat):Int):=by omega
 unfold zdA;rw [e,HT.sIx_nat,HT.sIx_none,List.drop_zero,Nat.sub_zero];rw [show((k.toNat:Nat):Int).toNat=k.toNat by omega];rw [Nat.min_def];split
 ·rfl
 ·rw [List.take_of_length_le (qe _),List.take_of_length_le (by omega)]
theorem zfU{xs:List D}{k:Int}(h:0<=k):zdA xs (some k) none=xs.drop k.toNat:=by
 have e:k=((k.toNat:Nat):Int):=by omega
 unfold zdA;rw [e,HT.sIx_nat,HT.sIx_none];rw [show((k.toNat:Nat):Int).toNat=k.toNat by omega];rw [Nat.min_def];split
 ·rw [List.take_of_length_le (by rw [List.length_drop]; omega)]
 ·rw [List.drop_of_length_le (by omega),List.drop_of_length_le (by omega),List.take_nil]
structure Nic (k M:Nat) (d:D):Prop where
 lay:d.canLay0=true
 dep:d.depth<=k
 shw:d.showable=true
 len:d.shown.length<=M
theorem zq0{n:Nat}{i:Int}(h:i.natAbs < 10^n)(h0:0 < n:=by decide)(h1:n<=470:=by decide):Nic 0 (n+1) (.int i):=by
 refine⟨rfl,by simp [PyData.depth],?_,?_⟩
 ·show decide (i.natAbs.log2 < 1920)=true
  refine decide_eq_true ?_
  by_cases z:i.natAbs=0
  ·rw [z]; decide
  ·have e1:10^n<=16^n:=Nat.pow_le_pow_left (by decide) n
   have e2:16^n=2^(4 * n):=by rw [Nat.pow_mul]
   have e3:i.natAbs < 2^(4 * n):=by rw [<-e2]; exact qi h e1
   exact qi ((Nat.log2_lt z).mpr e3) (by omega)
 ·show(PySem.Str.ofString (toString i)).length<=n+1
  rw [PySem.ofString_length];exact PySem.int_text_length_le10 h0 h
theorem zhw{k M:Nat}:∀ {ds:List D},(∀ d∈ds,Nic k M d)->PyData.canLayAll0 ds=true/\PyData.depthAll ds<=k/\PyData.showableAll ds=true/\((PyData.shownAll ds).map (·.length)).sum+2 * ds.length<=ds.length * (M+2)
 | [],_=>⟨rfl,by simp [PyData.depthAll],rfl,by simp [PyData.shownAll]⟩
 | d::ds,h=>by
  obtain⟨a0,a1,a2,a3⟩:=zhw (ds:=ds) fun x hx=>h x (qo _ hx);obtain⟨b0,b1,b2,b3⟩:=h d qp;refine⟨?_,?_,?_,?_⟩
  ·show(d.canLay0 && PyData.canLayAll0 ds)=true
   rw [a0,b0];rfl
  ·simp only [PyData.depthAll]
   omega
  ·show(d.showable && PyData.showableAll ds)=true
   rw [a2,b2];rfl
  ·show((d.shown::PyData.shownAll ds).map (·.length)).sum+_<=_
   rw [List.map_cons,List.sum_cons,qu,Nat.add_mul,Nat.one_mul];omega
theorem zwX{n k M:Nat}{ds:List D}(h:∀ d∈ds,Nic k M d)(hn:ds.length<=n):Nic (k+1) (n * (M+2)+3) (.tuple ds):=by
 obtain⟨a0,a1,a2,a3⟩:=zhw h;refine⟨a0,?_,a2,?_⟩
 ·simp only [PyData.depth]
  omega
 ·have:=tupleText_len_le (PyData.shownAll ds)
  have e:=PyData.shownAll_length ds;have m:ds.length * (M+2)<=n * (M+2):=Nat.mul_le_mul_right _ hn;show(tupleText (PyData.shownAll ds)).length<=_;omega
theorem ziD{n k M:Nat}{ds:List D}(h:∀ d∈ds,Nic k M d)(hn:ds.length<=n):Nic (k+1) (n * (M+2)+3) (.list ds):=by
 obtain⟨a0,a1,a2,a3⟩:=zhw h;refine⟨a0,?_,a2,?_⟩
 ·simp only [PyData.depth]
  omega
 ·have:=listText_len_le (PyData.shownAll ds)
  have e:=PyData.shownAll_length ds;have m:ds.length * (M+2)<=n * (M+2):=Nat.mul_le_mul_right _ hn;show(listText (PyData.shownAll ds)).length<=_;omega
theorem Nic.shaped{k M:Nat}{d:D}(h:Nic k M d)(hk:k<=64):SeqAt.shaped d=true:=by
 unfold SeqAt.shaped;rw [h.lay,Bool.true_and];exact decide_eq_true (qy h.dep hk)
theorem Nic.eqL{k M k' M':Nat}{xs ys:List D}{neg:Bool}(ha:Nic k M (.list xs))(hb:Nic k' M' (.list ys))(hk:k<=64)(hk':k'<=64):zim neg (.l xs) (.l ys)=some (.d (.bool (if neg=true then !PyData.eqv (.list xs) (.list ys)else PyData.eqv (.list xs) (.list ys)))):=by
 have ea:U.py (.l xs)=some (.list xs):=rfl;have eb:U.py (.l ys)=some (.list ys):=rfl;unfold zim;rw [ea,bd,eb,bd,if_pos ⟨ha.shaped hk,hb.shaped hk'⟩]
section
variable {X:Cx} {K:qc}
end
section
variable {X:Cx} {pos:Pos}
end
section
variable {K:qc}
def zxo:U->Option U
 | .d (.int i)=>if i.natAbs.log2 < 1920 then some (.d (.str (toString i)))else none
 | .d (.str z)=>if z.length<=sizeLine then some (.d (.str z))else none
 | _=>none
abbrev MJ:=En->Str->Option (Str×En)
def U.sr:U->Option Str
 | .d (.str z)=>some z
 | _=>none
end
section
variable {ρ:En} {me:ME} {mj:MJ} {QE:Ar×En->Prop} {QJ:Str×En->Prop} {acc z y:Str} {i:Int}
end
end L2
namespace L2
open PySem PySem.Spec PyProof.Rows PySem.NumText
abbrev ts(n:Int):Str:=PySem.Str.ofString (toString n)
end L2
namespace L2
open PySem PySem.Spec PyProof.Rows
section
variable {X:Cx} {o e f:Expr} {apos cpos:Pos} {td ty tx:TE} {k:Nat}
end
section
variable {K:qc}
def ziE:U->Bool
 | .t _=>true
 | .k _=>true
 | .d (.dict kvs)=>noX kvs
 | _=>false
theorem zn8{H:Hp}{x:V}{u:U}(h:Rp K H x u)(e:ziE u=true):∃ a,x=.ref a/\IsD H a:=by
 unfold ziE at e;split at e
 ·obtain⟨a,ws,rfl,h1,_⟩:=h
  exact⟨a,rfl,.inr ⟨_,.inl h1⟩⟩
 ·obtain⟨a,ws,rfl,h1,_⟩:=h
  exact⟨a,rfl,.inl ⟨_,.inl h1⟩⟩
 ·obtain⟨a,ob,ws,rfl,h1,_⟩:=DF.dct_inv h e
  exact⟨a,rfl,.inr ⟨_,.inr ⟨ob,h1⟩⟩⟩
 ·cases e
end
theorem zn9:Manifest.canonical (String.map (fun c=>if(c.isAlphanum || c=='_' || c=='.')=true then c else '_') "dict_itemiterator.__iter__") ++ "" = "dict_keyiterator.__iter__":=by decide +kernel
theorem zoa:entryFor table "dict_itemiterator.__iter__"=some Builtin.«dict_keyiterator.__iter__»:=entryFor_alias (by kernel_rfl) (by kernel_rfl) zn9 (by kernel_rfl)
section
variable {prog:Program} {w:World} {A:Around} {E:Value->Shared->Prop} {s:Shared} {it d:Addr} {i ep:Nat} {es:Array DictEntry} {ok ov:Value}
theorem za3{T:Value}{vs:Array Value}{j:Nat}{x:Value}{Q:Unit->Shared->Prop}(e:s.heap.get? it=some { cls:=T,data:=.fields vs })(hj:j < vs.size)
  (q:∀ h':Heap,h'.get? it=some { cls:=T,data:=.fields (vs.setIfInBounds j x) }->h'.objs.size=s.heap.objs.size->(∀ b o,b≠it->s.heap.get? b=some o->h'.get? b=some o)->Q () { s with heap:=h' }):wpAny (model prog w) A (setField (.ref it) j x) Q E s:=by
 refine wpAny_setField e rfl hj (q _ ?_ ?_ fun b o hb z=>?_)
 ·exact Heap.get?_update_self _ e (Obj.isFreed_of_fields (Obj.data_mapFields rfl _))
 ·exact Heap.size_update ..
 ·exact((Heap.SameBut.update ..).2 b hb).trans z
theorem zmc{Q:Option Value->Shared->Prop}(k:IsItemIter s.heap it d i es.size ep ok ov)(r:zgq s.heap d es ep){x:DictEntry}(hx:es[i]?=some x)
  (q:∀ h':Heap,IsItemIterOut h' it d (i+1) es.size ep x.key x.val s.heap.objs.size->h'.get? s.heap.objs.size=some { cls:=.type "tuple",data:=.seq #[x.key,x.val] }->(∀ b o,b≠it->s.heap.get? b=some o->h'.get? b=some o)->Q (some (.ref s.heap.objs.size)) { s with heap:=h' }):wpAny (model prog w) A (pyNext (.ref it)) Q E s:=by
 have kT:s.TypeIs (.ref it) "dict_itemiterator":=⟨_,k,rfl⟩;obtain⟨o,e,_,dat⟩:=r;have nit:s.heap.objs.size≠it:=Ne.symm (qj (qh k));unfold pyNext;refine qa (wpAny_attempt (wpAny_callSpecial?_slot (name:=Str.ofString "__next__") kT F.slot_dict_itemiterator_next
  (wpAny_call_entry F.slot_dict_itemiterator_next kT F.entry_dict_itemiterator_next ?_ (F.args_dict_itemiterator_next_1 _))))
 refine qa (qb (qa (qa ?_)));refine qa (wpAny_typeNameOfWhole_itemiter kT (qb (qa (wpAny_fieldsOf k rfl ?_))));simp only [show Builtin.Dict_items.ownsTuple "dict_itemiterator"=true by decide,if_true];show wpAny _ _ (if(Value.ref d==Value.none)=true then _ else _) _ _ s;rw [if_neg (show ¬((Value.ref d==Value.none)=true) from qf)];refine qa (qb (qa (wpAny_dictEntries e dat ?_)));rw [if_neg (by simp)];refine qa (qb (qa (wpAny_dictEpoch e dat ?_)));rw [if_neg (by simp)];refine qb ?_;simp only [show ¬((i:Int) < 0) from by omega,if_false,Int.toNat_natCast,hx];refine qa (qa (wpAny_typeNameOfWhole_itemiter kT (qb (qa (wpAny_isOneOf_itemiter kT ?_)))));show wpAny _ _ (setField (.ref it) 3 (rawInt ((i:Int)+1)) >>= _) _ _ s;refine qa (za3 k (by simp) fun h1 k1 z1 f1=>?_);refine qa (wpAny_holding ?_);have kT1:Shared.TypeIs { s with heap:=h1 } (.ref it) "dict_itemiterator":=⟨_,k1,rfl⟩;refine qa (wpAny_isOneOf_itemiter kT1 ?_);show wpAny _ _ (Builtin.Dict_items.isOneOf (.ref it) _ >>= _) _ _ _;refine qa (wpAny_isOneOf_itemiter kT1 ?_);show wpAny _ _ (Builtin.Dict_items.pairFromOwner (.ref it) 6 x.key x.val) _ _ _;unfold Builtin.Dict_items.pairFromOwner;simp only [newTuple];refine qa (qA ?_ (by show(2:Nat)<=sizeLine; decide));have k2:(h1.push { cls:=.type "tuple",data:=.seq #[x.key,x.val] }).get? it=_:=qd _ k1;have t2:(h1.push { cls:=.type "tuple",data:=.seq #[x.key,x.val] }).get? h1.objs.size=_:=qg _ rfl;have f2:∀ b o,b≠it->s.heap.get? b=some o->(h1.push { cls:=.type "tuple",data:=.seq #[x.key,x.val] }).get? b=some o:=fun b o hb z=>qd _ (f1 b o hb z);rw [z1]at t2;show wpAny _ _ _ _ _ { s with heap:=h1.push { cls:=.type "tuple",data:=.seq #[x.key,x.val] } };generalize h1.push { cls:=.type "tuple",data:=.seq #[x.key,x.val] }=h2 at k2 t2 f2 ⊢;rw [z1];unfold Builtin.Dict_items.ownedTupleIsFree;refine qa (qa (wpAny_field k2 rfl (x:=.none) rfl (qb ?_)));show wpAny _ _ (if true=true then _ else _) _ _ _;rw [if_pos rfl];show wpAny _ _ (field (.ref it) 6 >>= _) _ _ _;refine qa (wpAny_field k2 rfl (x:=ok) rfl ?_);refine qa (wpAny_field k2 rfl (x:=ov) rfl ?_);refine qa (za3 k2 (by simp) fun h3 k3 z3 f3=>?_);refine qa (za3 k3 (by simp) fun h4 k4 z4 f4=>?_);refine qa (za3 k4 (by simp) fun h5 k5 z5 f5=>?_);refine qa (za3 k5 (by simp) fun h6 k6 z6 f6=>?_);refine qa (wpAny_letGo (qb (qb ⟨_,rfl,qb (q _ ?_ ?_ fun b o hb z=>?_)⟩)))
 ·show h6.get? it=_
  rw [k6];rfl
 ·exact f6 _ _ nit (f5 _ _ nit (f4 _ _ nit (f3 _ _ nit t2)))
 ·exact f6 b o hb (f5 b o hb (f4 b o hb (f3 b o hb (f2 b o hb z))))
theorem zob{Q:Option Value->Shared->Prop}(hh:A.handled=none)(k:IsItemIter s.heap it d i es.size ep ok ov)(r:zgq s.heap d es ep)(hx:es.size<=i)
  (q:∀ h':Heap,Heap.ExtBut it s.heap h'->Q none { s with heap:=h' }):wpAny (model prog w) A (pyNext (.ref it)) Q E s:=by
 have kT:s.TypeIs (.ref it) "dict_itemiterator":=⟨_,k,rfl⟩;obtain⟨o,e,_,dat⟩:=r;unfold pyNext;refine qa (wpAny_attempt (wpAny_callSpecial?_slot (name:=Str.ofString "__next__") kT F.slot_dict_itemiterator_next
  (wpAny_call_entry F.slot_dict_itemiterator_next kT F.entry_dict_itemiterator_next ?_ (F.args_dict_itemiterator_next_1 _))))
 refine qa (qb (qa (qa ?_)));refine qa (wpAny_typeNameOfWhole_itemiter kT (qb (qa (wpAny_fieldsOf k rfl ?_))));simp only [show Builtin.Dict_items.ownsTuple "dict_itemiterator"=true by decide,if_true];show wpAny _ _ (if(Value.ref d==Value.none)=true then _ else _) _ _ s;rw [if_neg (show ¬((Value.ref d==Value.none)=true) from qf)];refine qa (qb (qa (wpAny_dictEntries e dat ?_)));rw [if_neg (by simp)];refine qa (qb (qa (wpAny_dictEpoch e dat ?_)));rw [if_neg (by simp)];refine qb ?_;simp only [show ¬((i:Int) < 0) from by omega,if_false,Int.toNat_natCast,Array.getElem?_eq_none hx];refine qa (qa (wpAny_typeNameOfWhole_itemiter kT (qb ?_)));show wpAny _ _ (setField (.ref it) 2 .none >>= _) _ _ s;refine qa (wpAny_setField k rfl (by simp) ?_);show wpAny _ _ (newExc (.type "StopIteration") [] >>= _) _ _ _;refine qa ?_;simp only [newExc,newTuple];refine qa (qA ?_ (by show(0:Nat)<=sizeLine; exact Nat.zero_le _));refine qa (m:=firstArgMember _ _) (wpAny_of_eq (a:=Value.none) (by first | rfl | (simp only [firstArgMember]; rfl)) ?_);refine qA ?_ (by first | trivial | size_fits);simp only [raiseNew];refine qa (wpAny_handled ?_);rw [show A.in1.handled=none from hh];refine qa (qb (wpAny_throw ?_));refine qa (wpAny_isInstance (T := "StopIteration") (b:=true) ⟨_,qg _ rfl,rfl⟩ isSubtype_stop ?_);exact qb (q _ (((Heap.SameBut.update ..).extBut.push _).push _))
theorem zgK{Q:Value->Shared->Prop}(hd:(d==sysModules)=false)(r:zgq s.heap d es ep)
  (q:Q (.ref s.heap.objs.size) { s with heap:=s.heap.push { cls:=.type "dict_items",data:=.fields #[.ref d] } }):wpAny (model prog w) A (call (.builtin "dict.items") [.ref d]) Q E s:=by
 have hT:=r.typeIs;obtain⟨o,e,_,dat⟩:=r;refine wpAny_call_entry F.slot_dict_items hT F.entry_dict_items ?_ (F.args_dict_items_1 _);unfold Builtin.«dict.items» Builtin.Dict.noArgs;refine qa (qa (wpAny_notOrdered_dict hT ?_));refine qa (qb ?_);refine qa (qb (qb ?_));unfold Builtin.Dict.showsAll;rw [hd,if_neg qf];refine qa (qb ?_);unfold newFields;exact qa (qA (qb ⟨_,rfl,q⟩))
theorem zgL{v:Addr}{Q:Value->Shared->Prop}(hv:s.heap.IsItemsView v d)(r:zgq s.heap d es ep)
  (q:∀ h':Heap,IsItemIter h' s.heap.objs.size d 0 es.size ep .none .none->(∀ b o,s.heap.get? b=some o->h'.get? b=some o)->Q (.ref s.heap.objs.size) { s with heap:=h' }):wpAny (model prog w) A (pyIter (.ref v)) Q E s:=by
 obtain⟨o,e,_,dat⟩:=r;obtain⟨o2,e2,c2,d2⟩:=id hv;have hT:=hv.typeIs (s:=s);refine wpAny_pyIter_slot hT F.slot_dict_items_iter (wpAny_call_entry F.slot_dict_items_iter hT F.entry_dict_items_iter ?_ (F.args_dict_items_iter_1 _));unfold Builtin.«dict_items.__iter__»;refine qa (qb ?_);unfold Builtin.Dict_items.dictOf;refine qa (qa (wpAny_field e2 d2 (x:=.ref d) rfl (qb ?_)));unfold Builtin.Dict_items.newIterator;refine qa (qa (wpAny_dictEntries e dat (qa (wpAny_dictEpoch e dat ?_))));unfold newFields;refine qA (qb ⟨_,rfl, "dict_itemiterator",_,⟨_,qg _ rfl,rfl⟩,F.slot_dict_itemiterator_next.lookup,?_⟩) (by rw [show Builtin.Dict_items.ownsTuple "dict_itemiterator"=true by decide,if_pos rfl]; show(8:Nat)<=sizeLine+2; decide);exact q _ (qg _ rfl) fun b o z=>qd _ z
end
theorem zfV{X:Cx}{pins:List (Addr×Obj)}{σ:St}{H:Hp}{s:Shared}{a:Addr}{o:Obj}{kvs:List (List Key×V)}(I:Inv X pins σ H s)(e:H a=some (.frz o (.dT kvs))) :
  (a==sysModules)=false/\∃ (es:Array DictEntry) (ep:Nat),s.heap.get? a=some o/\o.ExactDict/\o.data=.dict es ep/\es.size=kvs.length/\∀ (i:Nat) (k:List Key) (v:V),kvs[i]?=some (k,v)->∃ (b:Addr) (x:DictEntry),es[i]?=some x/\x.key=.ref b/\TpK X.K H b (k.map kV)/\zI v x.val:=by
 obtain⟨ea,z,y,xs,r,o',es,ep,h1,h2,h3,h4,h5⟩:=(show zP X.prog X.w X.K H s.heap a (.frz o (.dT kvs)) from I.hok a _ e);rw [ea]at h1;cases h1;refine⟨y,es,ep,ea,h2,h3,?_,fun i k v hi=>?_⟩
 ·have:=congrArg List.length h4
  rw [Array.length_toList,List.length_map,<-zdv r]at this;exact this
 ·obtain⟨q,hq,r1,r2,r3⟩:=zdu r i (k,v) hi
  refine⟨q.2.1,entryOfKey (tupleKind (zO X.prog X.w)) q,?_,rfl,r2,r3⟩;have:es.toList[i]?=some (entryOfKey (tupleKind (zO X.prog X.w)) q):=by rw [h4,List.getElem?_map,hq]; rfl
  simpa using this
def ItI(K:qc)(a:Addr)(o:Obj)(kvs:List (List Key×V)):It :=
 ⟨fun i H=>H a=some (.frz o (.dT kvs))/\i < kvs.length,fun i H x H'=>∃ T,H T=none/\x=.ref T/\∀ k v,kvs[i]?=some (k,v)->∃ b,TpK K H b (k.map kV)/\H'=upd H T (.tup [.ref b,v]),fun i H=>H a=some (.frz o (.dT kvs))/\kvs.length<=i⟩
theorem zjB{P:Program}{w:World}{K:qc}{elts:List Expr}{k:Nat}{pos:Pos}(a it:Addr)(o:Obj)(kvs:List (List Key×V))(ep:Nat)(hep:∃ es,o.data=.dict es ep):Turn P w K (.Tuple elts k pos) (ItI K a o kvs) [it] it (fun i h=>∃ ok ov,IsItemIter h it a i kvs.length ep ok ov) where
 mem:=by simp
 obj:=fun i h st b hb=>by
  have e:b=it:=by simpa using hb
  subst e;obtain⟨ok,ov,e⟩:=st;exact⟨_,e,fun v z=>by
   have z':Data.fields _=Data.cell v:=z;cases z'⟩
 keep:=fun i h h' st k=>by
  obtain⟨ok,ov,e⟩:=st;exact⟨ok,ov,k it (by simp) _ e⟩
 item:=by
  intro X hP hw hK hc i pins s σ H E I hf st hg;subst hP hw hK;obtain⟨e,hi⟩:=hg;obtain⟨ok,ov,st⟩:=st;obtain⟨hsm,es,ep',ea,xd,dat,hsz,ent⟩:=zfV I e;have eep:ep'=ep:=by
   obtain⟨es',z⟩:=hep;rw [dat]at z;injection z
  subst eep;obtain⟨b,x,ex,kx,hb,rv⟩:=ent i kvs[i].1 kvs[i].2 (qm hi);refine zmc (es:=es) (by rw [hsz]; exact st) ⟨o,ea,xd,dat⟩ ex fun h1 st1 isT kk=>?_;refine⟨_,rfl,wpAny_letOwnedTupleGo_items (s:={ s with heap:=h1 }) st1 fun h2 st2 sb=>?_⟩;have nit:s.heap.objs.size≠it:=Ne.symm (qj (qh st));have I2:Inv X pins σ H { s with heap:=h2 }:=I.turnedW (t':=s.toks) (wr:=[it]) (fun b o hb q=>(sb.2 b (by simpa using hb)).trans (kk b o (by simpa using hb) q)) hf;have fT:zaq X pins H s.heap.objs.size:=I.fpOk (qe _) (I.hok.fresh (qe _));rw [kx]at isT;have I3:Inv X pins σ (upd H s.heap.objs.size (.tup [.ref b,kvs[i].2])) { s with heap:=h2 }:=I2.track fT I.sz ⟨by show 2<=sizeLine; decide,[.ref b,x.val],.cons rfl (.cons rv .nil),_,(sb.2 _ nit).trans isT,rfl,⟨_,rfl⟩,.inl rfl⟩;refine⟨.ref s.heap.objs.size,_,I3,rfl,⟨_,I.hok.fresh (qe _),rfl,fun k v hkv=>⟨b,?_,?_⟩⟩,⟨_,_,by rw [<-hsz]; exact st2⟩,fun c hc=>?_⟩
  ·rw [qm hi]at hkv
   rw [qx hkv]at hb;exact hb
  ·rw [qm hi]at hkv
   rw [qx hkv]
  ·have e:c=it:=by simpa using hc
   subst e;rw [zq (Ne.symm nit)];exact(hf c hc).1
 done:=by
  intro X hP hw hK hc i pins s σ H E I hf st hg;subst hP hw hK;obtain⟨e,hi⟩:=hg;obtain⟨ok,ov,st⟩:=st;obtain⟨hsm,es,ep',ea,xd,dat,hsz,ent⟩:=zfV I e;have eep:ep'=ep:=by
   obtain⟨es',z⟩:=hep;rw [dat]at z;injection z
  subst eep;obtain⟨f0,f1,f2,f3,f4,f5⟩:=hf it (by simp);exact zob (es:=es) (I.ok.hd hc) (by rw [hsz]; exact st) ⟨o,ea,xd,dat⟩ (by omega) fun h' eb=>⟨rfl,I.turned (t':=s.toks) (fun b o hb e=>eb b o hb e) f0 f1 f3 f4 f5⟩
 self:=fun _ _ _ _ _ st h=>by
  obtain⟨ok,ov,st⟩:=st;exact wpAny_pyIter_slot ⟨_,st,rfl⟩ F.slot_dict_itemiterator_iter (wpAny_call_entry F.slot_dict_itemiterator_iter ⟨_,st,rfl⟩ zoa (qb ⟨_,rfl, "dict_itemiterator",_,⟨_,st,rfl⟩,F.slot_dict_itemiterator_next.lookup,h⟩) (F.args_dict_itemiterator_iter_1 _))
section
variable {X:Cx} {elts:List Expr} {kk:Nat} {tpos:Pos}
def zoc(K:qc)(td:TE):TI:=fun σ H R=>td σ H fun x H1=>∃ a o kvs,x=.ref a/\H1 a=some (.frz o (.dT kvs))/\R (ItI K a o kvs) H1
theorem zfj{d:Expr}{td:TE}{apos cpos:Pos}(hd:Wr (PE X d td))(hbase:attributeBase d "items" X.env (eval d X.env)=eval d X.env:=by rfl)(hline:(apos.endLine==cpos.line)=true:=by rfl):Wr (PI X (.Tuple elts kk tpos) (.Call (.Attribute d "items" apos) [] [] cpos) (zoc X.K td)):=by
 refine⟨?_⟩;intro pins s σ H R I h;refine wpAny_Call_method0_late hbase hline (thn (hd.run pins s σ H _ I h) fun v s1 hZ=>?_);obtain⟨x,H1,I1,r1,q1⟩:=hZ;obtain⟨a,o,kvs,rfl,e,q⟩:=q1;cases r1;obtain⟨hsm,es,ep,ea,xd,dat,hsz,_⟩:=zfV I1 e;have rw1:zgq s1.heap a es ep:=⟨o,ea,xd,dat⟩;refine⟨"dict", "dict.items",F.plainAttrs_dict,F.slot_dict_items,F.type_dict_items,rw1.typeIs,fun b hb=>?_,Calls.callWith_builtin rfl (PySem.evalArgs_none (zgK hsm rw1 ?_))⟩
 ·cases hb
  exact⟨o,ea,xd.2.1⟩
 have I2:Inv X pins σ H1 { s1 with heap:=s1.heap.push { cls:=.type "dict_items",data:=.fields #[.ref a] } }:=I1.kept (t':=s1.toks) fun b o z=>qd _ z;refine zgL (v:=s1.heap.objs.size) (s:={ s1 with heap:=s1.heap.push { cls:=.type "dict_items",data:=.fields #[.ref a] } }) ⟨_,qg _ rfl,rfl,rfl⟩ ⟨o,qd _ ea,xd,dat⟩ fun h' hit kk2=>?_;refine⟨_,_,_,_,H1,rfl,I2.kept (t':=s1.toks) kk2,zjB a _ o kvs ep ⟨es,dat⟩,⟨_,_,by rw [<-hsz]; exact hit⟩,fun b hb=>?_,q⟩;rw [qq.mp hb];exact I2.fpOk (qe _) (I2.hok.fresh (qe _))
end
def zdF:U->Option (List D)
 | .d (.dict kvs)=>if noX kvs=true then some (kvs.map fun p=>.tuple [p.1,p.2])else none
 | _=>none
theorem zkT{K:qc}{H:Hp}:∀ {ws:List (List Key×V)} {kvs:List (D×D)},DFt K H ws kvs->∀ {i:Nat} {p:D×D},kvs[i]?=some p->∃ k v,ws[i]?=some (k,v)/\p.1=kTD k/\DF K H v p.2
 | _,_,.nil,i,p,h=>by simp at h
 | _,_,.cons hv t,0,p,h=>by cases h; exact⟨_,_,rfl,rfl,hv⟩
 | _,_,.cons hv t,i+1,p,h=>zkT t (i:=i) h
theorem zkU{K:qc}{H:Hp}:∀ {ws:List (List Key×V)} {kvs:List (D×D)},DFt K H ws kvs->ws.length=kvs.length
 | _,_,.nil=>rfl
 | _,_,.cons hv t=>congrArg (·+1) (zkU t)
theorem zdW{K:qc}{te:TE}{me:ME}(h:VE K te me):VI K (zoc K te) (mIt zdF me):=by
 intro ρ σ H ds ρ' R r e q;obtain⟨⟨a,ρ1⟩,e1,e⟩:=zd e;obtain⟨u,eu,e⟩:=zd e;obtain⟨xs,ex,e⟩:=zd e;cases e;refine h ρ σ H a _ _ r e1 fun v H1 g1 k1=>?_;have p:=k1.now r g1 eu;unfold zdF at ex;split at ex
 ·split at ex
  rotate_left
  ·cases ex
  rename_i nx;cases ex;obtain⟨b,o,ws,rfl,h1,h2⟩:=DF.dct_inv p nx;refine⟨b,o,ws,rfl,h1,q _ _ g1 fun H2 k i=>?_⟩;have h1':=k.frz _ _ _ h1;refine⟨fun d ed=>?_,fun ei=>?_⟩
  ·rw [List.getElem?_map]at ed
   obtain⟨⟨kd,vd⟩,ew,rfl⟩:=qr.mp ed;obtain⟨ks,w,ew',rfl,dv⟩:=zkT h2 ew;refine⟨⟨h1',(qk.mp ew').1⟩,fun x H' y=>?_⟩;obtain⟨T,nT,rfl,y⟩:=y;obtain⟨kb,hkb,rfl⟩:=y ks w ew';have sm:=zC nT (.tup [.ref kb,w]);exact⟨sm,.tup (.inl zr) (.cons (DF.kp sm.kp (.tup hkb zff)) (.cons ((dv.kp k).kp sm.kp) .nil))⟩
  ·rw [List.length_map,<-zkU h2]at ei
   exact⟨h1',Nat.le_of_eq ei.symm⟩
 ·cases ex
abbrev zh1(h:Heap)(t1:Addr):Heap:=h.push { cls:=.type "tuple_iterator",data:=.fields #[.ref t1,.int 0 0] }
abbrev zh2(h:Heap)(t1 t2:Addr):Heap:=(zh1 h t1).push { cls:=.type "tuple_iterator",data:=.fields #[.ref t2,.int 0 0] }
abbrev zh3(h:Heap)(t1 t2:Addr):Heap:=(zh2 h t1 t2).push { cls:=.type "tuple",data:=.seq #[.ref h.objs.size,.ref (zh1 h t1).objs.size] }
abbrev zh4(h:Heap)(t1 t2:Addr):Heap:=(zh3 h t1 t2).push { cls:=.type "tuple",data:=.seq #[.none,.none] }
abbrev zh5(h:Heap)(t1 t2:Addr):Heap:=(zh4 h t1 t2).push { cls:=.type "zip",data:=.fields #[.none,.bool false,.bool false,.ref (zh2 h t1 t2).objs.size,.ref (zh3 h t1 t2).objs.size] }
theorem zod(t1 t2:Addr)(xs ys:Array Value) :
  Meets (Builtin.«zip.__new__» ⟨[.type "zip",.ref t1,.ref t2],[]⟩) (fun _ R s=>s.heap.IsTuple t1 xs/\s.heap.IsTuple t2 ys /\
   R (.ok (.ret (.ref (zh4 s.heap t1 t2).objs.size))) { s with heap:=zh5 s.heap t1 t2 }) :=
 .of_wp fun prog w A R s h=>by
  obtain⟨hp,g,d,tk,os⟩:=s;obtain⟨h1,h2,h⟩:=h;have h2':Heap.IsTuple (zh1 hp t1) t2 ys:=by
   obtain⟨o,e,r⟩:=h2;exact⟨o,qd _ e,r⟩
  have hsub:=sub_zip
  wp_walk using wpAny_pyIter_tuple h1,wpAny_pyIter_tuple h2'
  exact⟨_,rfl,h⟩
section
variable {prog:Program} {w:World} {A:Around} {E:Value->Shared->Prop} {s:Shared} {z TI TO i1 i2 t1 t2:Addr} {k:Nat} {xs ys:Array Value} {x y a b:Value}
theorem zmd{Q:Option Value->Shared->Prop}(ap:ZipApart z TI TO i1 i2 t1 t2)(hz:IsZip s.heap z TI TO .none)(hI:IsPair s.heap TI (.ref i1) (.ref i2))(hO:IsPair s.heap TO a b)
  (h1:s.heap.IsTupleIter i1 t1 k) (h2:s.heap.IsTupleIter i2 t2 k) (g1:s.heap.IsTuple t1 xs) (g2:s.heap.IsTuple t2 ys) (ex:xs[k]?=some x) (ey:ys[k]?=some y)
  (q:∀ h':Heap,IsZip h' z TI TO (rawInt s.heap.objs.size)->IsPair h' TO x y->h'.IsTupleIter i1 t1 (k+1)->h'.IsTupleIter i2 t2 (k+1)->IsPair h' s.heap.objs.size x y ->
   (∀ c o,c≠z->c≠TO->c≠i1->c≠i2->s.heap.get? c=some o->h'.get? c=some o)->Q (some (.ref s.heap.objs.size)) { s with heap:=h' }):wpAny (model prog w) A (pyNext (.ref z)) Q E s:=by
 have kT:s.TypeIs (.ref z) "zip":=⟨_,hz,rfl⟩;unfold pyNext;refine qa (wpAny_attempt (wpAny_callSpecial?_slot (name:=Str.ofString "__next__") kT F.slot_zip_next (wpAny_call_entry F.slot_zip_next kT F.entry_zip_next ?_ (F.args_zip_next_1 _))));unfold Builtin.«zip.__next__»;refine qa (qb ?_);refine qa (wpAny_field hz rfl (x:=.bool false) rfl ?_);refine qa (wpAny_field hz rfl (x:=.ref TI) rfl ?_);refine qa (wpAny_seqItems hI rfl ?_);show wpAny _ _ (Builtin.SmallTypes.ownedTupleIsFree (.ref z) >>= _) _ _ s;unfold Builtin.SmallTypes.ownedTupleIsFree;refine qa (qa (wpAny_field hz rfl (x:=.none) rfl (qb ?_)));show wpAny _ _ (if true=true then _ else _) _ _ _;rw [if_pos rfl];refine qa (wpAny_rule (qa (wpAny_field hz rfl (x:=.ref TO) rfl ?_)));refine qa (za3 hz (by simp) fun ha ka za fa=>?_);have hO1:IsPair ha TO a b:=fa _ _ ap.TOz hO;have h11:ha.IsTupleIter i1 t1 k:=by
  obtain⟨o,e,r⟩:=h1;exact⟨o,fa _ _ ap.i1z e,r⟩
 have g11:ha.IsTuple t1 xs:=by
  obtain⟨o,e,r⟩:=g1;exact⟨o,fa _ _ ap.l1z e,r⟩
 refine qa ?_;show wpAny _ _ (forIn [(Value.ref i1,0),(Value.ref i2,1)] (none,()) _) _ _ _;rw [List.forIn_cons];refine qa (qa (wpAny_onRaise ?_));show wpAny _ _ (Builtin.SmallTypes.nextOf (.ref i1) >>= _) _ _ _;refine qa (zcl (s:={ s with heap:=ha }) h11 g11 ex fun hb kb sb=>qb ?_);refine qa (wpAny_seqItems (s:={ s with heap:=hb }) (o:=_) ((sb.2 _ ap.TOi1).trans hO1) rfl ?_);refine qa (wpAny_updateSeq_pair (s:={ s with heap:=hb }) ((sb.2 _ ap.TOi1).trans hO1) fun hc kc sc=>?_);refine qa (wpAny_letGo (qb ?_));show wpAny _ _ (forIn [(Value.ref i2,1)] (none,()) _) _ _ _;rw [List.forIn_cons];have keepC:∀ c o,c≠z->c≠TO->c≠i1->s.heap.get? c=some o->hc.get? c=some o:=fun c o n1 n2 n3 e=>(sc.2 c n2).trans ((sb.2 c n3).trans (fa c o n1 e));have h22:hc.IsTupleIter i2 t2 k:=by
  obtain⟨o,e,r⟩:=h2;exact⟨o,keepC _ _ ap.i2z (Ne.symm ap.TOi2) (Ne.symm ap.i12) e,r⟩
 have g22:hc.IsTuple t2 ys:=by
  obtain⟨o,e,r⟩:=g2;exact⟨o,keepC _ _ ap.l2z ap.l2TO ap.l2i1 e,r⟩
 refine qa (qa (wpAny_onRaise ?_));show wpAny _ _ (Builtin.SmallTypes.nextOf (.ref i2) >>= _) _ _ _;refine qa (zcl (s:={ s with heap:=hc }) h22 g22 ey fun hd kd sd=>qb ?_);have hO3:IsPair hd TO x b:=(sd.2 _ ap.TOi2).trans kc;refine qa (wpAny_seqItems (s:={ s with heap:=hd }) hO3 rfl ?_);refine qa (wpAny_updateSeq_pair (s:={ s with heap:=hd }) hO3 fun he ke se=>?_);refine qa (wpAny_letGo (qb ?_));show wpAny _ _ (forIn ([]:List (Value×Nat)) (none,()) _) _ _ _;rw [List.forIn_nil];refine qb ?_;have hO4:IsPair he TO x y:=ke;show wpAny _ _ (seqItems? (.ref TO) >>= _) _ _ _;refine qa (wpAny_seqItems (s:={ s with heap:=he }) hO4 rfl ?_);simp only [newTuple];refine qa (qA ?_ (by show(2:Nat)<=sizeLine; decide));have sz:he.objs.size=s.heap.objs.size:=by rw [se.1,sd.1,sc.1,sb.1]; exact za
 show wpAny _ _ (Builtin.SmallTypes.ownedTupleHandOut (.ref z) (.ref he.objs.size) >>= _) _ _ { s with heap:=he.push { cls:=.type "tuple",data:=.seq #[x,y] } };have kz:(he.push { cls:=.type "tuple",data:=.seq #[x,y] }).get? z=some { cls:=.type "zip",data:=.fields #[.ellipsis,.bool false,.bool false,.ref TI,.ref TO] } :=
  qd _ ((se.2 _ (Ne.symm ap.TOz)).trans ((sd.2 _ (Ne.symm ap.i2z)).trans ((sc.2 _ (Ne.symm ap.TOz)).trans ((sb.2 _ (Ne.symm ap.i1z)).trans ka))))
 have kt:(he.push { cls:=.type "tuple",data:=.seq #[x,y] }).get? he.objs.size=some { cls:=.type "tuple",data:=.seq #[x,y] }:=qg _ rfl;have kO:(he.push { cls:=.type "tuple",data:=.seq #[x,y] }).get? TO=_:=qd _ hO4;have k1:Heap.IsTupleIter (he.push { cls:=.type "tuple",data:=.seq #[x,y] }) i1 t1 (k+1):=by
  obtain⟨o,e,r⟩:=kb;exact⟨o,qd _ ((se.2 _ (Ne.symm ap.TOi1)).trans ((sd.2 _ ap.i12).trans ((sc.2 _ (Ne.symm ap.TOi1)).trans e))),r⟩
 have k2:Heap.IsTupleIter (he.push { cls:=.type "tuple",data:=.seq #[x,y] }) i2 t2 (k+1):=by
  obtain⟨o,e,r⟩:=kd;exact⟨o,qd _ ((se.2 _ (Ne.symm ap.TOi2)).trans e),r⟩
 have kk:∀ c o,c≠z->c≠TO->c≠i1->c≠i2->s.heap.get? c=some o->(he.push { cls:=.type "tuple",data:=.seq #[x,y] }).get? c=some o:=fun c o n1 n2 n3 n4 e =>
  qd _ ((se.2 c n2).trans ((sd.2 c n4).trans (keepC c o n1 n2 n3 e)))
 have nz:he.objs.size≠z:=by
  rw [sz];exact Ne.symm (qj (qh hz))
 generalize he.push { cls:=.type "tuple",data:=.seq #[x,y] }=hf at kz kt kO k1 k2 kk ⊢;unfold Builtin.SmallTypes.ownedTupleHandOut;refine qa (qa (za3 (s:={ s with heap:=hf }) kz (by simp) fun hg kg zg fg=>?_));refine za3 (s:={ s with heap:=hg }) kg (by simp) fun hh kh zh fh=>?_;have up:∀ c o,c≠z->hf.get? c=some o->hh.get? c=some o:=fun c o n e=>fh c o n (fg c o n e);refine qb ⟨_,rfl,qb ?_⟩;rw [sz]at kt kh nz ⊢;refine q hh kh (up _ _ ap.TOz kO) ?_ ?_ (up _ _ nz kt) fun c o n1 n2 n3 n4 e=>up _ _ n1 (kk c o n1 n2 n3 n4 e)
 ·obtain⟨o,e,r⟩:=k1
  exact⟨o,up _ _ ap.i1z e,r⟩
 ·obtain⟨o,e,r⟩:=k2
  exact⟨o,up _ _ ap.i2z e,r⟩
theorem zoe{Q:Option Value->Shared->Prop}(hh:A.handled=none)(ap:ZipApart z TI TO i1 i2 t1 t2)(hz:IsZip s.heap z TI TO .none)(hI:IsPair s.heap TI (.ref i1) (.ref i2))(hO:IsPair s.heap TO a b)
  (h1:s.heap.IsTupleIter i1 t1 k) (h2:s.heap.IsTupleIter i2 t2 k) (g1:s.heap.IsTuple t1 xs) (g2:s.heap.IsTuple t2 ys) (en:xs[k]?=none)
  (q:∀ h':Heap,(∀ c o,c≠z->c≠TO->c≠i1->c≠i2->s.heap.get? c=some o->h'.get? c=some o)->Q none { s with heap:=h' }):wpAny (model prog w) A (pyNext (.ref z)) Q E s:=by
 have kT:s.TypeIs (.ref z) "zip":=⟨_,hz,rfl⟩;unfold pyNext;refine qa (wpAny_attempt (wpAny_callSpecial?_slot (name:=Str.ofString "__next__") kT F.slot_zip_next (wpAny_call_entry F.slot_zip_next kT F.entry_zip_next ?_ (F.args_zip_next_1 _))));unfold Builtin.«zip.__next__»;refine qa (qb ?_);refine qa (wpAny_field hz rfl (x:=.bool false) rfl ?_);refine qa (wpAny_field hz rfl (x:=.ref TI) rfl ?_);refine qa (wpAny_seqItems hI rfl ?_);show wpAny _ _ (Builtin.SmallTypes.ownedTupleIsFree (.ref z) >>= _) _ _ s;unfold Builtin.SmallTypes.ownedTupleIsFree;refine qa (qa (wpAny_field hz rfl (x:=.none) rfl (qb ?_)));show wpAny _ _ (if true=true then _ else _) _ _ _;rw [if_pos rfl];refine qa (wpAny_rule (qa (wpAny_field hz rfl (x:=.ref TO) rfl ?_)));refine qa (za3 hz (by simp) fun ha ka za fa=>?_);have h11:ha.IsTupleIter i1 t1 k:=by
  obtain⟨o,e,r⟩:=h1;exact⟨o,fa _ _ ap.i1z e,r⟩
 have g11:ha.IsTuple t1 xs:=by
  obtain⟨o,e,r⟩:=g1;exact⟨o,fa _ _ ap.l1z e,r⟩
 refine qa ?_;show wpAny _ _ (forIn [(Value.ref i1,0),(Value.ref i2,1)] (none,()) _) _ _ _;rw [List.forIn_cons];refine qa (qa (wpAny_onRaise ?_));show wpAny _ _ (Builtin.SmallTypes.nextOf (.ref i1) >>= _) _ _ _;refine qa (zel (s:={ s with heap:=ha }) hh h11 g11 en fun hb e sb hZ=>?_);obtain⟨oe,ge,ce⟩:=hZ;have kb:=sb z _ (Ne.symm ap.i1z) ka;refine za3 (s:={ s with heap:=hb }) kb (by simp) fun hc kc zc fc=>?_;have nez:e≠z:=fun h=>by
  rw [h]at ge;have z1:=qx (ge.symm.trans kb);rw [z1]at ce;have z2 : "zip" = "StopIteration":=Value.type.inj ce;exact absurd z2 (by decide)
 show wpAny _ _ (isInstance (.ref e) (.type "StopIteration") >>= _) _ _ _;refine qa (wpAny_isInstance (T := "StopIteration") (b:=true) ⟨oe,fc _ _ nez ge,ce⟩ isSubtype_stop ?_);exact qb (q hc fun c o n1 n2 n3 n4 e=>fc c o n1 (sb c o n3 (fa c o n1 e)))
end
def Itz(K:qc)(a b:Addr):It :=
 ⟨fun i H=>∃ xs ys x y,SqT K H a xs/\SqT K H b ys/\xs[i]?=some x/\ys[i]?=some y,fun i H x H'=>∃ T,H T=none/\x=.ref T/\∀ xs ys v u,SqT K H a xs->SqT K H b ys->xs[i]?=some v->ys[i]?=some u->H'=upd H T (.tup [v,u]),fun i H=>∃ xs ys,SqT K H a xs/\SqT K H b ys/\xs.length=i⟩
abbrev ZSt(z TI TO i1 i2 t1 t2:Addr)(i:Nat)(h:Heap):Prop:=IsZip h z TI TO .none/\IsPair h TI (.ref i1) (.ref i2)/\(∃ a b,IsPair h TO a b)/\h.IsTupleIter i1 t1 i/\h.IsTupleIter i2 t2 i
theorem zof{P:Program}{w:World}{K:qc}{elts:List Expr}{k:Nat}{pos:Pos}(z TI TO i1 i2 t1 t2:Addr)(ap:ZipApart z TI TO i1 i2 t1 t2) :
  Turn P w K (.Tuple elts k pos) (Itz K t1 t2) [z,TI,TO,i1,i2] z (ZSt z TI TO i1 i2 t1 t2) where
 mem:=by simp
 obj:=fun i h st c hc=>by
  obtain⟨hz,hI,⟨a,b,hO⟩,⟨o1,e1,_,d1⟩,⟨o2,e2,_,d2⟩⟩:=st;simp only [qv,List.not_mem_nil,or_false]at hc;rcases hc with rfl | rfl | rfl | rfl | rfl
  ·exact⟨_,hz,fun v q=>by
    have q':Data.fields _=Data.cell v:=q;cases q'⟩
  ·exact⟨_,hI,fun v q=>by
    have q':Data.seq _ _=Data.cell v:=q;cases q'⟩
  ·exact⟨_,hO,fun v q=>by
    have q':Data.seq _ _=Data.cell v:=q;cases q'⟩
  ·exact⟨o1,e1,fun v q=>by rw [d1]at q; cases q⟩
  ·exact⟨o2,e2,fun v q=>by rw [d2]at q; cases q⟩
 keep:=fun i h h' st kk=>by
  obtain⟨hz,hI,⟨a,b,hO⟩,⟨o1,e1,r1⟩,⟨o2,e2,r2⟩⟩:=st;exact⟨kk z (by simp) _ hz,kk TI (by simp) _ hI,⟨a,b,kk TO (by simp) _ hO⟩,⟨o1,kk i1 (by simp) _ e1,r1⟩,⟨o2,kk i2 (by simp) _ e2,r2⟩⟩
 item:=by
  intro X hP hw hK hc i pins s σ H E I hf st hg;subst hP hw hK;obtain⟨xs,ys,x,y,hq1,hq2,hx,hy⟩:=hg;obtain⟨hz,hI,⟨a,b,hO⟩,h1,h2⟩:=st;obtain⟨its1,rv1,ht1,_⟩:=I.tuple hq1;obtain⟨its2,rv2,ht2,_⟩:=I.tuple hq2;obtain⟨u1,eu1,r1⟩:=rv1.get hx;obtain⟨u2,eu2,r2⟩:=rv2.get hy;refine zmd ap hz hI hO h1 h2 ht1 ht2 (by simpa using eu1) (by simpa using eu2) fun h' z' O' k1 k2 isT kk=>?_;refine⟨_,rfl,wpAny_letOwnedTupleGo_zip (s:={ s with heap:=h' }) z' fun h2' z2 sb=>?_⟩;have nm:s.heap.objs.size∉[z,TI,TO,i1,i2]:=fun hm=>by
   have:s.heap.objs.size < s.heap.objs.size:=by
    simp only [qv,List.not_mem_nil,or_false]at hm;obtain⟨_,e1,_⟩:=h1;obtain⟨_,e2,_⟩:=h2;rcases hm with h | h | h | h | h
    ·exact qi (h▸qh hz) (qe _)
    ·exact qi (h▸qh hI) (qe _)
    ·exact qi (h▸qh hO) (qe _)
    ·exact qi (h▸qh e1) (qe _)
    ·exact qi (h▸qh e2) (qe _)
   exact Nat.lt_irrefl _ this
  have nz:s.heap.objs.size≠z:=fun h=>nm (by rw [h]; simp);have I2:Inv X pins σ H { s with heap:=h2' }:=I.turnedW (t':=s.toks) (wr:=[z,TI,TO,i1,i2]) (fun c o hc q=>by
   simp only [qv,List.not_mem_nil,or_false,not_or]at hc;exact(sb.2 c hc.1).trans (kk c o hc.1 hc.2.2.1 hc.2.2.2.1 hc.2.2.2.2 q)) hf
  have fT:zaq X pins H s.heap.objs.size:=I.fpOk (qe _) (I.hok.fresh (qe _));have I3:Inv X pins σ (upd H s.heap.objs.size (.tup [x,y])) { s with heap:=h2' }:=I2.track fT I.sz ⟨by show 2<=sizeLine; decide,[u1,u2],.cons r1 (.cons r2 .nil),_,(sb.2 _ nz).trans isT,rfl,⟨_,rfl⟩,.inl rfl⟩;refine⟨.ref s.heap.objs.size,_,I3,rfl,⟨_,I.hok.fresh (qe _),rfl,fun xs' ys' v u hq1' hq2' hv hu=>?_⟩,⟨z2,(sb.2 _ ap.TIz).trans (kk _ _ ap.TIz ap.TITO ap.TIi1 ap.TIi2 hI),⟨_,_,(sb.2 _ ap.TOz).trans O'⟩,?_,?_⟩,fun c hc=>?_⟩
  ·cases I.tuple_inj hq1 hq1'
   cases I.tuple_inj hq2 hq2';rw [hx]at hv;rw [hy]at hu;cases hv;cases hu;rfl
  ·obtain⟨o,e,r⟩:=k1
   exact⟨o,(sb.2 _ ap.i1z).trans e,r⟩
  ·obtain⟨o,e,r⟩:=k2
   exact⟨o,(sb.2 _ ap.i2z).trans e,r⟩
  ·have ne:c≠s.heap.objs.size:=fun h=>nm (h▸hc)
   rw [zq ne];exact(hf c hc).1
 done:=by
  intro X hP hw hK hc i pins s σ H E I hf st hg;subst hP hw hK;obtain⟨xs,ys,hq1,hq2,hl⟩:=hg;obtain⟨hz,hI,⟨a,b,hO⟩,h1,h2⟩:=st;obtain⟨its1,rv1,ht1,_⟩:=I.tuple hq1;obtain⟨its2,rv2,ht2,_⟩:=I.tuple hq2;refine zoe (I.ok.hd hc) ap hz hI hO h1 h2 ht1 ht2 (by
   have:=rv1.length;simp;omega) fun h' kk=>⟨rfl,I.turnedW (t':=s.toks) (wr:=[z,TI,TO,i1,i2]) (fun c o hc q=>by
   simp only [qv,List.not_mem_nil,or_false,not_or]at hc;exact kk c o hc.1 hc.2.2.1 hc.2.2.2.1 hc.2.2.2.2 q) hf⟩
 self:=fun _ _ _ _ _ st h=>wpAny_pyIter_zip st.1 h
section
variable {prog:Program} {w:World} {A:Around} {E:Value->Shared->Prop} {s:Shared}
theorem zme{t1 t2:Addr}{xs ys:Array Value}{Q:Value->Shared->Prop}(h1:s.heap.IsTuple t1 xs)(h2:s.heap.IsTuple t2 ys)
  (h:∀ h':Heap,ZSt (s.heap.objs.size+4) (s.heap.objs.size+2) (s.heap.objs.size+3) s.heap.objs.size (s.heap.objs.size+1) t1 t2 0 h'->(∀ b o,s.heap.get? b=some o->h'.get? b=some o)->Q (.ref (s.heap.objs.size+4)) { s with heap:=h' }) :
  wpAny (model prog w) A (call (.type "zip") [.ref t1,.ref t2]) Q E s:=by
 refine callType_new F.called_zip (by decide) (F.typeCall_zip_2 _ _) (F.newCall_zip_2 _ _) (fun obj=>F.args_object_init_3 obj _ _) F.entry_zip_new (zod t1 t2 xs ys) ⟨h1,h2,?_⟩;have z1:(zh1 s.heap t1).objs.size=s.heap.objs.size+1:=Heap.size_push ..;have z2:(zh2 s.heap t1 t2).objs.size=s.heap.objs.size+2:=by rw [Heap.size_push,z1]
 have z3:(zh3 s.heap t1 t2).objs.size=s.heap.objs.size+3:=by rw [Heap.size_push,z2]
 have z4:(zh4 s.heap t1 t2).objs.size=s.heap.objs.size+4:=by rw [Heap.size_push,z3]
 show _/\_;rw [z4];have ez:(zh5 s.heap t1 t2).get? (s.heap.objs.size+4)=some { cls:=.type "zip",data:=.fields #[.none,.bool false,.bool false,.ref (s.heap.objs.size+2),.ref (s.heap.objs.size+3)] }:=by
  have:=qg (zh4 s.heap t1 t2) (o:={ cls:=.type "zip",data:=.fields #[.none,.bool false,.bool false,.ref (zh2 s.heap t1 t2).objs.size,.ref (zh3 s.heap t1 t2).objs.size] }) rfl;rw [z4,z2,z3]at this;rw [<-this];unfold zh5;rw [z2,z3]
 refine⟨⟨_,ez,rfl⟩,h _ ⟨ez,?_,⟨.none,.none,?_⟩,⟨{ cls:=.type "tuple_iterator",data:=.fields #[.ref t1,.int 0 0] },?_,rfl,rfl⟩,⟨{ cls:=.type "tuple_iterator",data:=.fields #[.ref t2,.int 0 0] },?_,rfl,rfl⟩⟩ fun b o x=>?_⟩
 ·have:=qg (zh2 s.heap t1 t2) (o:={ cls:=.type "tuple",data:=.seq #[.ref s.heap.objs.size,.ref (zh1 s.heap t1).objs.size] }) rfl
  rw [z2,z1]at this;refine qd _ (qd _ ?_);unfold zh3;rw [z1];exact this
 ·have:=qg (zh3 s.heap t1 t2) (o:={ cls:=.type "tuple",data:=.seq #[.none,.none] }) rfl
  rw [z3]at this;exact qd _ this
 ·exact qd _ (qd _ (qd _ (qd _ (qg _ rfl))))
 ·have:=qg (zh1 s.heap t1) (o:={ cls:=.type "tuple_iterator",data:=.fields #[.ref t2,.int 0 0] }) rfl
  rw [z1]at this;exact qd _ (qd _ (qd _ this))
 ·exact qd _ (qd _ (qd _ (qd _ (qd _ x))))
end
section
variable {X:Cx} {elts:List Expr} {k:Nat} {tpos:Pos}
def zwn(K:qc)(ta:TA):TI:=fun σ H R=>ta σ H fun vs H1=>∃ a b,vs=[.ref a,.ref b]/\(∃ xs,SqT K H1 a xs)/\(∃ ys,SqT K H1 b ys)/\R (Itz K a b) H1
theorem zur{a b:Expr}{ta:TA}{p pos:Pos}{K:qc}(ha:Wr (PA X [a,b] ta))(hK:X.K=K:=by rfl)(hg:Gl X "zip":=by exact rfl)(hm:X.mg "zip"=none:=by exact zeE ‹Bl _ _› (by decide))(hs:zK a=true:=by rfl)(hs2:[b].all zK=true:=by rfl) :
  Wr (PI X (.Tuple elts k tpos) (.Call (.Name "zip" p) [a,b] [] pos) (zwn K ta)):=by
 subst hK;refine⟨?_⟩;intro pins s σ H R I h;refine Call_ (zcL I hg hm boot_zip (PyProof.Rows.callWith_type1 (thn (ha.run pos pins s σ H _ I h) fun us s1 hZ=>?_) (zbj hs) (zaZ hs2)));obtain⟨vs,H1,I1,r1,q1⟩:=hZ;obtain⟨t1,t2,e,⟨xs,hq1⟩,⟨ys,hq2⟩,q⟩:=q1;subst e;obtain⟨u1,u2,rfl,ru1,ru2⟩:=zj6 r1;cases ru1;cases ru2;obtain⟨its1,rv1,ht1,hz1⟩:=I1.tuple hq1;obtain⟨its2,rv2,ht2,hz2⟩:=I1.tuple hq2;have tl1:t1 < s1.heap.objs.size:=by
  obtain⟨o,e,_⟩:=ht1;exact qh e
 have tl2:t2 < s1.heap.objs.size:=by
  obtain⟨o,e,_⟩:=ht2;exact qh e
 have lt_ne:∀ {x y:Nat},x < y->x≠y:=fun h=>qj h;refine zme (show s1.heap.IsTuple t1 its1.toArray from ht1) (show s1.heap.IsTuple t2 its2.toArray from ht2) fun h' hst kk=>?_;have I2:Inv X pins σ H1 { s1 with heap:=h' }:=I1.kept (t':=s1.toks) kk;refine wpAny_pyIter_zip hst.1 ?_;have f:∀ j:Nat,zaq X pins H1 (s1.heap.objs.size+j):=fun j=>I1.fpOk (Nat.le_add_right _ _) (I1.hok.fresh (Nat.le_add_right _ _));have ap:ZipApart (s1.heap.objs.size+4) (s1.heap.objs.size+2) (s1.heap.objs.size+3) s1.heap.objs.size (s1.heap.objs.size+1) t1 t2:=by
  generalize s1.heap.objs.size=n at tl1 tl2;constructor<;>(simp only [Addr]at *; omega)
 refine⟨_,_,_,_,H1,rfl,I2,zof _ _ _ _ _ t1 t2 ap,hst,fun c hc=>?_,q⟩;simp only [qv,List.not_mem_nil,or_false]at hc;rcases hc with rfl | rfl | rfl | rfl | rfl
 ·exact f 4
 ·exact f 2
 ·exact f 3
 ·exact f 0
 ·exact f 1
end
def zeZ:List D->List D->List D
 | x::xs,y::ys=>.tuple [x,y]::zeZ xs ys
 | _,_=>[]
theorem zdX:∀ {xs ys:List D} {i:Nat} {d:D},(zeZ xs ys)[i]?=some d->∃ x y,xs[i]?=some x/\ys[i]?=some y/\d=.tuple [x,y]
 | [],ys,i,d,h=>by simp [zeZ]at h
 | x::xs,[],i,d,h=>by simp [zeZ]at h
 | x::xs,y::ys,0,d,h=>by cases h; exact⟨x,y,rfl,rfl,rfl⟩
 | x::xs,y::ys,i+1,d,h=>zdX (xs:=xs) (ys:=ys) (i:=i) h
theorem zcW:∀ (xs ys:List D),xs.length=ys.length->(zeZ xs ys).length=xs.length
 | [],[],_=>rfl
 | [],y::ys,h=>by cases h
 | x::xs,[],h=>by cases h
 | x::xs,y::ys,h=>congrArg (·+1) (zcW xs ys (Nat.succ.inj h))
def zog:List U->Option (List D)
 | [.d (.tuple xs),.d (.tuple ys)]=>if xs.length=ys.length then some (zeZ xs ys)else none
 | _=>none
def zus(ma:MA):MI:=fun ρ=>(ma ρ).bind fun p=>(zao p.2 p.1).bind fun us=>(zog us).bind fun ds=>some (ds,p.2)
theorem zut{K:qc}{ta:TA}{ma:MA}(h:VAs K ta ma):VI K (zwn K ta) (zus ma):=by
 intro ρ σ H ds ρ' R r e q;obtain⟨⟨as,ρ1⟩,e1,e⟩:=zd e;obtain⟨us,eu,e⟩:=zd e;obtain⟨zs,ez,e⟩:=zd e;cases e;refine h ρ σ H as ρ1 _ r e1 fun vs H1 g1 s1=>?_;have rp:=s1.rpl r g1 eu;unfold zog at ez;split at ez
 ·split at ez
  rotate_left
  ·cases ez
  rename_i xs ys hl;cases ez;cases rp with
  | cons p1 t =>
   cases t with
   | cons p2 t =>
    cases t;obtain⟨a,vx,rfl,h1,d1⟩:=DF.tup_inv p1;obtain⟨b,vy,rfl,h2,d2⟩:=DF.tup_inv p2;refine⟨a,b,rfl,⟨vx,(TpK.sq h1)⟩,⟨vy,(TpK.sq h2)⟩,q _ _ g1 fun H2 kk i=>⟨fun d ed=>?_,fun ei=>?_⟩⟩
    ·obtain⟨x,y,ex,ey,rfl⟩:=zdX ed
     obtain⟨v,ev,dv⟩:=(d1.kp kk).get ex;obtain⟨w,ew,dw⟩:=(d2.kp kk).get ey;refine⟨⟨vx,vy,v,w,(TpK.kp kk h1).sq,(TpK.kp kk h2).sq,ev,ew⟩,fun z H' y=>?_⟩;obtain⟨T,nT,rfl,y⟩:=y;cases y vx vy v w ((TpK.kp kk h1).sq) ((TpK.kp kk h2).sq) ev ew;have sm:=zC nT (.tup [v,w]);exact⟨sm,.tup (.inl zr) (.cons (dv.kp sm.kp) (.cons (dw.kp sm.kp) .nil))⟩
    ·exact⟨vx,vy,(TpK.kp kk h1).sq,(TpK.kp kk h2).sq,by rw [zcW _ _ hl]at ei; rw [d1.len]; exact ei.symm⟩
 ·cases ez
section
variable {prog:Program} {w:World} {A:Around} {E:Value->Shared->Prop} {s:Shared}
end
def hK:Key->Int
 | .inl i=>hashInt i
 | .inr _=>0
def hT(ks:List Key):Int:=reduceHash (Builtin.Tuple.tupleHashOf (ks.map hK))
section
variable {X:Cx} {pins:List (Addr×Obj)} {σ:St} {H:Hp} {s:Shared} {a:Addr} {kvs:List (List Key×V)} {A:Around} {E:Value->Shared->Prop}
end
def zoh:List (D×D)->Option (List (List Key×D))
 | []=>some []
 | (k,d)::r=>(zaM k).bind fun k=>(zoh r).bind fun r=>some ((k,d)::r)
section
variable {K:qc} {H:Hp}
theorem ziF:∀ {kvs:List (D×D)} {ws:List (List Key×V)} {r:List (List Key×D)},DFt K H ws kvs->zoh kvs=some r->KVd K H ws r
 | [],ws,r,h,e=>by cases h; cases e; exact .nil
 | (k,d)::kvs,ws,r,h,e=>by
  obtain⟨k',ek,e⟩:=zd (show(zaM k).bind _=some r from e);obtain⟨r',er,e⟩:=zd e;cases e;cases h with
  | @cons k2 v _ vs ds hv t =>
   rw [zdU]at ek;cases ek;exact .cons ⟨rfl,hv⟩ (ziF t er)
end
section
variable {X:Cx}
end
section
variable {K:qc}
end
section
variable {ρ:En} {me ma mb mc mk mi md my mv mx mo:ME} {mA mK:MA} {mt mu:MT} {mI:MI} {mg:MG} {m1 m2:MS} {i j n:Nat} {u:U} {x:D}
variable {QE:Ar×En->Prop} {QI:List D×En->Prop}
theorem zoi:Wo (zus mA ρ) QI=Wo (mA ρ) (Co (fun p=>(zao p.2 p.1).bind fun us=>(zog us).bind fun ds=>some (ds,p.2)) ⟨0⟩ QI):=by
 show Wo (Option.bind _ _) QI=_;rw [zp]
theorem zkV{kvs:List (List Key×D)}:ziE (.t kvs)=true:=rfl
theorem zfW{α:Type}{g:α->D}{nt:Nat}{b:α->Bool}{e:α->D}{as:List α}{Q:List D×En->Prop}(hz:as.length<=sizeLine)
  (st:∀ a∈as,∀ ys,Wo (mg (g a) ρ) (Co mt ⟨0⟩ (kLC nt me ys fun ρ' zs=>ρ'=ρ/\zs=if b a=true then ys++[e a]else ys))) (q:Q ((as.filter b).map e,ρ)):Wo (lcM nt mg mt me (as.map g) ρ []) Q:=by
 refine zn6 (fun i ρ' ys=>ρ'=ρ/\ys=((as.take i).filter b).map e) (by rw [List.length_map]; exact hz) (fun i ρ' ys h=>?_) ⟨rfl,rfl⟩ (fun i d ρ' ys hd h=>?_) fun ρ' ys h=>?_
 ·rw [h.2,List.length_map]
  exact qy (List.length_filter_le _ _) (by rw [List.length_take]; exact Nat.min_le_left _ _)
 ·obtain⟨rfl,rfl⟩:=h
  rw [List.getElem?_map]at hd;obtain⟨a,ha,rfl⟩:=qr.mp hd;have:=st a (List.mem_of_getElem? ha) (((as.take i).filter b).map e);have en:((as.take (i+1)).filter b).map e=if b a=true then((as.take i).filter b).map e++[e a]else((as.take i).filter b).map e:=by
   rw [List.take_succ,ha,List.filter_append,List.map_append];show _++(([a]:List α).filter b).map e=_;rw [List.filter_cons];split<;>simp
  rw [en];exact this
 ·obtain⟨rfl,rfl⟩:=h
  rw [List.length_map,List.take_of_length_le (qe _)];exact q
end
section
variable {X:Cx} {tg:Expr}
end
end L2
namespace L2
open PySem
section
variable {M N B C:Nat} {r s:Rat}
end
abbrev Pq(α:Type):=List (List Int×α)
section
variable {α β:Type}
def look(p:Pq α)(k:List Int):Option α:=(p.find? fun t=>decide (t.1=k)).map (·.2)
def zby(p:Pq α)(k:List Int)(x:α):Pq α:=if(p.any fun t=>decide (t.1=k))=true then p.map (fun t=>if t.1=k then(t.1,x)else t)else p++[(k,x)]
theorem zgM{p:Pq α}{k:List Int}:look p k=none↔(p.any fun t=>decide (t.1=k))=false:=by
 induction p with
 | nil=>simp [look]
 | cons t p ih =>
  unfold look at ih ⊢;rw [List.find?_cons,List.any_cons]
  by_cases h:t.1=k
  ·simp [h]
  ·rw [decide_eq_false h,Bool.false_or]
   exact ih
theorem ziG{p:Pq α}{k:List Int}:(look p k).isSome=(p.any fun t=>decide (t.1=k)):=by
 cases h:look p k with
 | none=>rw [zgM.mp h]; rfl
 | some x =>
  cases z:(p.any fun t=>decide (t.1=k))with
  | true=>rfl
  | false=>rw [zgM.mpr z]at h; cases h
theorem zoj(p:Pq α)(k:List Int)(x:α):(zby p k x).map (·.1)=if(p.any fun t=>decide (t.1=k))=true then p.map (·.1)else p.map (·.1)++[k]:=by
 unfold zby;split
 ·rw [List.map_map]
  refine List.map_congr_left fun t _=>?_;show(if t.1=k then(t.1,x)else t).1=t.1;split<;>rfl
 ·rw [List.map_append]
  rfl
theorem zkW{p:Pq α}{k:List Int}{x:α}{t:List Int×α}(h:t∈zby p k x):(t∈p/\t.1≠k)\/t=(k,x):=by
 unfold zby at h;split at h
 ·obtain⟨u,hu,rfl⟩:=List.mem_map.mp h
  by_cases c:u.1=k
  ·rw [if_pos c]; exact .inr (by rw [c])
  ·rw [if_neg c]; exact .inl ⟨hu,c⟩
 ·rename_i hn
  rcases List.mem_append.mp h with z | z
  ·exact .inl ⟨z,fun e=>hn (List.any_eq_true.mpr ⟨t,z,decide_eq_true e⟩)⟩
  ·exact .inr (qq.mp z)
theorem zdY(p:Pq α)(k:List Int)(x:α):(zby p k x).length<=p.length+1:=by
 unfold zby;split
 ·rw [List.length_map]; omega
 ·rw [qt]; exact qe _
end
section
variable {α:Type} [Add α] [Zero α]
end
theorem zbk{α:Type}{p:Pq α}{k:List Int}{x:α}(h:look p k=some x):(k,x)∈p:=by
 unfold look at h;obtain⟨t,ht,rfl⟩:=qr.mp h;have h1:=List.mem_of_find?_eq_some ht;have h2:t.1=k:=by simpa using List.find?_some ht
 rw [<-h2];exact h1
def ltP{α:Type}(a b:List Int×α):Prop:=znl a.1 b.1=true
def ins{α:Type}(x:List Int×α):Pq α->Pq α
 | []=>[x]
 | y::l=>if znl x.1 y.1=true then x::y::l else y::ins x l
theorem lt_ne{α:Type}{a b:List Int×α}(h:ltP a b):a.1≠b.1:=fun e=>by
 unfold ltP at h;rw [e,zki]at h;cases h
def nz(p:Pq Rat):Pq Rat:=p.filter fun t=>decide (t.2≠0)
def iv(m:Nat)(r:Rat):Int:=r.num * ((m:Int) / (r.den:Int))
def pwD(ks:List Int):D:=.tuple (ks.map PyData.int)
abbrev kL(ks:List Int):List Key:=ks.map Sum.inl
section
variable {α:Type} {c:α->D}
def kvG(c:α->D)(p:Pq α):List (List Key×D):=p.map fun t=>(kL t.1,c t.2)
def dcG(c:α->D)(p:Pq α):List (D×D):=p.map fun t=>(pwD t.1,c t.2)
def tmG(c:α->D)(p:Pq α):List D:=p.map fun t=>.tuple [pwD t.1,c t.2]
theorem zfX{a b:List Int}:kL a=kL b↔a=b:=zqs
theorem zjC(k:List Int):kTD (kL k)=pwD k:=by
 unfold kTD pwD kL;rw [List.map_map];rfl
theorem zdZ(k:List Int):zaM (pwD k)=some (kL k):=by rw [<-zjC,zdU]
theorem zok(p:Pq α):(kvG c p).map (fun p=>(kTD p.1,p.2))=dcG c p:=by
 unfold kvG dcG;rw [List.map_map];refine List.map_congr_left fun t _=>?_;show(kTD (kL t.1),c t.2)=_;rw [zjC]
theorem zuu(p:Pq α):noX (dcG c p)=true:=by
 cases p with
 | nil=>rfl
 | cons t p=>rfl
theorem zkX(p:Pq α)(k:List Int):zcI (kvG c p) (kL k)=(look p k).map c:=by
 unfold zcI kvG look
 induction p with
 | nil=>rfl
 | cons t p ih =>
  rw [List.map_cons,List.find?_cons,List.find?_cons]
  by_cases h:t.1=k
  ·rw [decide_eq_true h,decide_eq_true (zfX.mpr h)]; rfl
  ·rw [decide_eq_false h,decide_eq_false (fun z=>h (zfX.mp z))]; exact ih
theorem zkY{p:Pq α}{k:List Int}:zhq (.t (kvG c p)) (.d (pwD k))=some ((look p k).map c):=by
 show(zaM (pwD k)).map _=_;rw [zdZ,Option.map_some,zkX]
theorem ziH{k:List Int}:zaM (pwD k)=some (kL k):=zdZ k
theorem zol(p:Pq α)(k:List Int)(x:α):zcJ (kvG c p) (kL k) (c x)=kvG c (zby p k x):=by
 have any:((kvG c p).any fun kv=>decide (kv.1=kL k))=(p.any fun t=>decide (t.1=k)):=by
  unfold kvG;rw [List.any_map];congr 1
  funext t
  exact decide_eq_decide.mpr zfX
 unfold zcJ zby;rw [any];split
 ·unfold kvG
  rw [List.map_map,List.map_map];refine List.map_congr_left fun t _=>?_;show(if kL t.1=kL k then _ else _)=(fun t:List Int×α=>(kL t.1,c t.2)) (if t.1=k then(t.1,x)else t)
  by_cases h:t.1=k
  ·rw [if_pos (zfX.mpr h),if_pos h]
  ·rw [if_neg (fun z=>h (zfX.mp z)),if_neg h]
 ·unfold kvG
  rw [List.map_append];rfl
theorem zjD(p:Pq α):(kvG c p).length=p.length:=List.length_map ..
theorem zgN{p:Pq α}:zdF (.d (.dict (dcG c p)))=some (tmG c p):=by
 show(if noX (dcG c p)=true then _ else _)=_;rw [if_pos (zuu p)];unfold dcG tmG;rw [List.map_map];rfl
end
theorem zd0{α β:Type}{f:α->D}{g:β->D}:∀ (as:List α) (bs:List β),zeZ (as.map f) (bs.map g)=(as.zip bs).map fun t=>.tuple [f t.1,g t.2]
 | [],bs=>by cases bs<;>rfl
 | a::as,[]=>rfl
 | a::as,b::bs=>by rw [List.map_cons,List.map_cons,List.zip_cons_cons,List.map_cons,<-zd0 as bs]; rfl
theorem zhx{α:Type}{f:α->D}{as:List α}{ks:List Int}(h:as.length=ks.length):zog [.d (.tuple (as.map f)),.d (pwD ks)]=some ((as.zip ks).map fun t=>.tuple [f t.1,.int t.2]):=by
 show(if _ then _ else _)=_;rw [if_pos (by rw [List.length_map,List.length_map]; exact h),zd0]
theorem zfY{as ks:List Int}(h:as.length=ks.length):zog [.d (pwD as),.d (pwD ks)]=some ((as.zip ks).map fun t=>.tuple [.int t.1,.int t.2]):=zhx (f:=PyData.int) h
theorem zfZ{α:Type}{g:α->D}{nt:Nat}{e:α->D}{as:List α}{mg:MG}{mt:MT}{me:ME}{ρ:En}{Q:List D×En->Prop}(hz:as.length<=16777216)
  (st:∀ a∈as,∀ ys,Wo (mg (g a) ρ) (Co mt ⟨0⟩ (kLC nt me ys fun ρ' zs=>ρ'=ρ/\zs=ys++[e a]))) (q:Q (as.map e,ρ)):Wo (lcM nt mg mt me (as.map g) ρ []) Q:=by
 refine zfW (b:=fun _=>true) (e:=e) (by rw [zmb]; exact hz) (fun a ha ys=>?_) ?_
 ·simp only [if_true]
  exact st a ha ys
 ·rw [show as.filter (fun _=>true)=as from List.filter_eq_self.mpr fun _ _=>rfl]
  exact q
def mon:List (Rat×Int)->Rat
 | []=>1
 | t::l=>t.1^t.2.toNat * mon l
def mono(pt:List Rat)(e:List Int):Rat:=mon (pt.zip e)
end L2
namespace L2
open PySem PySem.Spec PyProof.Rows
open PySem.AutoSeq1 (wpAny_loadPart')
theorem zjE(t:Addr)(items:Array Value)(n:Nat)(dd:Option Addr)(sl:Array (Option Value))(u:Tok) :
  Meets (Builtin.«tuple.__mul__» ⟨[.ref t,.int 1 u],[]⟩) (fun _ R s=>s.heap.get? t=some { cls:=.type "tuple",dict:=dd,data:=.seq items n,slots:=sl }/\R (.ok (.ret (.ref t))) s) :=
 .of_wp fun prog w A R s h=>by
  obtain⟨hp,g,d,tk,os⟩:=s;obtain⟨hl,h⟩:=h
  wp_walk using wpAny_loadPart' hl
  exact⟨_,rfl,h⟩
theorem zjF(t:Addr)(items:Array Value)(n:Nat)(dd:Option Addr)(sl:Array (Option Value))(x:Int)(u:Tok)(hf:(decide (x < -2^63) || decide (x>=2^63))=false)(h1:(items.isEmpty || x==1)=false)(h0:(decide (x<=0) || items.isEmpty)=true) :
  Meets (Builtin.«tuple.__mul__» ⟨[.ref t,.int x u],[]⟩) (fun _ R s=>s.heap.get? t=some { cls:=.type "tuple",dict:=dd,data:=.seq items n,slots:=sl } /\
   R (.ok (.ret (.ref s.heap.objs.size))) { s with heap:=s.heap.push { cls:=.type "tuple",data:=.seq #[] } }) :=
 .of_wp fun prog w A R s h=>by
  obtain⟨hp,g,d,tk,os⟩:=s;obtain⟨hl,h⟩:=h
  wp_walk using wpAny_loadPart' hl
  refine wpAny_ite_false (by rw [hf]; rfl) ?_
  wp_walk using wpAny_loadPart' hl
  exact⟨_,rfl,h⟩
theorem zjG(t:Addr)(items:Array Value)(n:Nat)(dd:Option Addr)(sl:Array (Option Value))(x:Int)(u:Tok)(hf:(decide (x < -2^63) || decide (x>=2^63))=false)(h1:(items.isEmpty || x==1)=false)(h0:(decide (x<=0) || items.isEmpty)=false)
  (hm:¬((items.size:Int) * x > (2^63 - 1) / 8)) (ht:Builtin.Tuple.tupleTooMany ((items.size:Int) * x)=false) (hz:(List.foldl (fun x1 x2=>x1++x2) #[] (List.replicate x.toNat items)).size<=sizeLine) :
  Meets (Builtin.«tuple.__mul__» ⟨[.ref t,.int x u],[]⟩) (fun _ R s=>s.heap.get? t=some { cls:=.type "tuple",dict:=dd,data:=.seq items n,slots:=sl } /\
   R (.ok (.ret (.ref s.heap.objs.size))) { s with heap:=s.heap.push { cls:=.type "tuple",data:=.seq (List.foldl (fun x1 x2=>x1++x2) #[] (List.replicate x.toNat items)) } }) :=
 .of_wp fun prog w A R s h=>by
  obtain⟨hp,g,d,tk,os⟩:=s;obtain⟨hl,h⟩:=h
  wp_walk using wpAny_loadPart' hl
  refine wpAny_ite_false (by rw [hf]; rfl) ?_
  wp_walk using wpAny_loadPart' hl
  refine wpAny_ite_false (decide_eq_false hm) ?_
  wp_walk using wpAny_loadPart' hl
  exact⟨_,rfl,h⟩
theorem zeu:fillsNumberSlot (.type "tuple") "mul"=pure false :=
 PySem.fillsNumberSlot_seq (id := "tuple.__mul__") (r:=some (.builtin "tuple.__rmul__")) F.slot_tuple_mul.lookup (by decide +kernel) F.slot_tuple_rmul.lookup (by decide +kernel)
theorem zhy:seqRepeat? (.type "tuple")=pure (some (.builtin "tuple.__mul__")):=by
 unfold seqRepeat?;rw [PySem.seqSlot_of (T := "tuple") (name := "__mul__") (id := "tuple.__mul__") F.slot_tuple_mul.lookup (by decide +kernel),PySem.seqSlot_of (T := "tuple") (name := "__rmul__") (id := "tuple.__rmul__") F.slot_tuple_rmul.lookup (by decide +kernel)];rfl
theorem zf0(a:Int)(t:Tok)(l:Addr)(items:Array Value)(n:Nat)(dd:Option Addr)(sl:Array (Option Value)) :
  Meets (Builtin.«int.__rmul__» ⟨[.int a t,.ref l],[]⟩) (fun _ R s=>s.heap.get? l=some { cls:=.type "tuple",dict:=dd,data:=.seq items n,slots:=sl }/\R (.ok (.ret Value.notImplemented)) s) :=
 .of_wp fun prog w A R s h=>by obtain⟨hp,g,d,tk,os⟩:=s; obtain⟨hl,h⟩:=h; wp_walk; exact⟨_,rfl,h⟩
section
variable {X:Cx}
def zsg(K:qc):R2:=fun x y H Q=>∃ l k xs,x=.ref l/\y=.int k/\SqT K H l xs/\xs≠[]/\k < 1000000/\-1000000 < k/\xs.length * k.toNat<=1000000 /\
 ((k=1/\Q x H)\/(k≠1/\∀ p,H p=none->Q (.ref p) (upd H p (.tup (List.replicate k.toNat xs).flatten))))
theorem zq1(K:qc)(hK:X.K=K:=by rfl):OpR X (binaryOp .Mult) (zsg K):=by
 subst hK;intro pins s σ H x y v u Q I rx ry h;obtain⟨l,k,xs,rfl,rfl,hq,hne,hk,hk0,hz,q⟩:=h;cases rx;obtain⟨t,rfl⟩:=ry;obtain⟨its,rv,ht,hzz⟩:=I.tuple hq;obtain⟨⟨c,dct,dt,sl⟩,hl,hc,n,hd⟩:=ht;replace hc:c=.type "tuple":=hc;replace hd:dt=.seq its.toArray n:=hd;subst hc hd;have lv:=rv.length;have ine:its.toArray.isEmpty=false:=by
  cases its with
  | nil=>cases rv; exact absurd rfl hne
  | cons a r=>rfl
 have hf:(decide (k < -2^63) || decide (k>=2^63))=false:=by
  rw [Bool.or_eq_false_iff];exact⟨decide_eq_false (by omega),decide_eq_false (by omega)⟩
 have f0:List.foldl (fun x1 x2=>x1++x2) #[] (List.replicate k.toNat its.toArray)=(List.replicate k.toNat its).flatten.toArray:=by
  have:=zeg its k.toNat [];rw [List.nil_append]at this;exact this
 have ln:(List.replicate k.toNat xs).flatten.length<=sizeLine:=by
  rw [zg8,Nat.mul_comm];have:sizeLine=16777216:=zmb;omega
 refine wpAny_binaryOp_repeat_ref (T := "tuple") (U := "int") (by decide) ⟨_,hl,rfl⟩ (fun s'=>typeIs_int s' k t) zeu F.fills_int_mul F.slot_int_rmul zhy F.slot_int_index.lookup
  (call_meets F.slot_int_rmul (typeIs_int s k t) F.entry_int_rmul (F.args_int_rmul_2 _ _) (zf0 k t l its.toArray n dct sl) ⟨hl,rfl,⟨_,hl,rfl⟩,?_⟩)
 rcases q with ⟨rfl,q⟩ | ⟨k1,q⟩
 ·exact call_meets F.slot_tuple_mul ⟨_,hl,rfl⟩ F.entry_tuple_mul (F.args_tuple_mul_2 _ _) (zjE l its.toArray n dct sl t) ⟨hl,.ref l,H,I,rfl,q⟩
 ·have h1:(its.toArray.isEmpty || k==1)=false:=by rw [ine,Bool.false_or]; simpa using k1
  by_cases k0:k<=0
  ·refine call_meets F.slot_tuple_mul ⟨_,hl,rfl⟩ F.entry_tuple_mul (F.args_tuple_mul_2 _ _) (zjF l its.toArray n dct sl k t hf h1 (by rw [decide_eq_true k0]; rfl)) ⟨hl,.ref _,_,I.laid (t':=s.toks) (o:=.tup []) (fun _ _ q=>qd _ q) (qe _) ⟨Nat.zero_le _,[],.nil,_,qg _ rfl,rfl,⟨_,rfl⟩,.inl rfl⟩,rfl,?_⟩
   have:=q _ I.fresh;rw [show k.toNat=0 by omega]at this;exact this
  ·have m63:(its.toArray.size:Int) * k<=1000000:=by
    have e1:(its.toArray.size:Int)=(xs.length:Int):=by rw [List.size_toArray,lv]
    have e2:k=(k.toNat:Int):=by omega
    rw [e1,e2,<-Int.natCast_mul];omega
   refine call_meets F.slot_tuple_mul ⟨_,hl,rfl⟩ F.entry_tuple_mul (F.args_tuple_mul_2 _ _) (zjG l its.toArray n dct sl k t hf h1 (by rw [decide_eq_false k0,ine]; rfl) (by omega) (decide_eq_false (by rw [show((sizeLine:Nat):Int)=16777216 by rw [zmb]; rfl]; omega)) ?_) ⟨hl,.ref _,_,I.laid (t':=s.toks) (o:=.tup (List.replicate k.toNat xs).flatten) (fun _ _ q=>qd _ q) (qe _) ⟨ln,(List.replicate k.toNat its).flatten,rv.rep k.toNat,_,qg _ rfl,rfl,⟨0,?_⟩,.inl rfl⟩,rfl,q _ I.fresh⟩
   ·rw [f0,List.size_toArray,zg8,Nat.mul_comm]
    have:sizeLine=16777216:=zmb;rw [<-lv];omega
   ·show Data.seq (List.foldl (fun x1 x2=>x1++x2) #[] (List.replicate k.toNat its.toArray)) _=_
    rw [f0]
end
noncomputable def zkZ:U->U->Option U
 | .d (.tuple xs),.d (.int k)=>if xs≠[]/\k < 1000000/\-1000000 < k/\xs.length * k.toNat<=1000000 then some (.d (.tuple (List.replicate k.toNat xs).flatten))else none
 | _,_=>none
theorem zhz{K:qc}{H:Hp}{vs:List V}{ds:List D}(h:DFs K H vs ds):∀ n:Nat,DFs K H (List.replicate n vs).flatten (List.replicate n ds).flatten
 | 0=>.nil
 | n+1=>by
  rw [List.replicate_succ,List.replicate_succ,List.flatten_cons,List.flatten_cons];exact h.app (zhz h n)
theorem zq2{K:qc}:VO K (zsg K) zkZ:=by
 intro x y a b u H Q ha hb e q;unfold zkZ at e;split at e
 ·split at e
  rotate_left
  ·cases e
  rename_i xs k hc;cases e;obtain⟨l,vs,rfl,h1,h2⟩:=DF.tup_inv ha;cases DF.int_inv hb;have ln:=h2.len;refine⟨l,k,vs,rfl,rfl,(TpK.sq h1),fun z=>hc.1 (List.eq_nil_of_length_eq_zero (by rw [<-ln,z]; rfl)),hc.2.1,hc.2.2.1,by rw [ln]; exact hc.2.2.2,?_⟩
  by_cases k1:k=1
  ·subst k1
   refine .inl ⟨rfl,q _ _ (fun _ _ z=>z) ?_ Nw.data⟩;have e:(List.replicate (1:Int).toNat xs).flatten=xs:=by simp
   rw [e];exact DF.tup h1 h2
  ·refine .inr ⟨k1,fun p hp=>?_⟩
   have sm:=zC hp (.tup (List.replicate k.toNat vs).flatten);exact q _ _ sm (.tup (.inl zr) ((zhz h2 _).kp sm.kp)) Nw.data
 ·cases e
theorem zk0{xs:List D}{k:Int}(h:0 < xs.length)(h2:k < 1000)(h3:-1000 < k)(h4:xs.length < 1000):zkZ (.d (.tuple xs)) (.d (.int k))=some (.d (.tuple (List.replicate k.toNat xs).flatten)):=by
 show(if _ then _ else _)=_;rw [if_pos ⟨fun z=>by rw [z]at h; exact Nat.lt_irrefl _ h,by omega,by omega,qy (Nat.mul_le_mul (Nat.le_of_lt h4) (show k.toNat<=1000 by omega)) (by decide)⟩]
end L2
namespace L2
open PySem PySem.Spec PyProof.Rows
def zjH(K:qc)(tk tv:TE):TE:=fun σ H Q=>∀ p,H p=none->tk σ (upd H p (.dT [])) fun x H1=>tv σ H1 fun y H2=>H2 p=some (.dT [])/\∃ k b,x=.ref b/\TpK K H2 b (k.map kV)/\Q (.ref p) (upd H2 p (.dT [(k,y)]))
theorem zom{X:Cx}{pos:Pos}{k v:Expr}{tk tv:TE}(hu:X.A.units+1 < cLine)(hk:PE X k tk)(hv:PE X v tv):PE X (.Dict [some k] [v] pos) (zjH X.K tk tv):=by
 intro pins s σ H Q I q;have hn:=I.hok.fresh (qe s.heap.objs.size);have I1:=I.laid (a:=s.heap.objs.size) (o:=.dT []) (h':=s.heap.push { cls:=.type "dict",data:=.dict #[] }) (t':=s.toks) (fun _ _ q=>qd _ q) (qe _) (zfw s.heap I.big);refine wpAny_Dict_any rfl rfl (by simp) (by show 1<=15; decide) (pairTrees_cons_walk (thn (hk pins _ σ _ _ I1 (q _ hn)) fun u s1 ⟨x,H1,I1,rx,q1⟩=>thn (hv pins s1 σ H1 _ I1 q1) fun w2 s2 ⟨y,H2,I2,ry,e,ks,b,ex,eb,q2⟩=>pairTrees_nil_walk ?_));subst ex;cases rx;unfold storeAll;rw [List.forIn_cons];obtain⟨z,hd,xs,rel,dd⟩:=zm6 I2.kIn I2.hok e;cases rel;refine qa (qa (wpAny_dictSet_heap (hsz:=Nat.zero_le _) (show X.A.units < cLine from Nat.lt_of_succ_lt hu) (zei I2.kIn I2.hok eb) dd fun h' dd' hs=>qb ?_));dsimp only;rw [List.forIn_nil];refine qb ?_;obtain⟨q',es,ep,hq,h2,h3,h4,_,h5⟩:=dd';refine⟨.ref s.heap.objs.size,_,ze7 (ob:=.dT [(ks,y)]) I2 (by rw [e]; exact True.intro) hs ⟨q',hq⟩ ⟨by show 1<=sizeLine; decide,hd,_,(KT.put (kvs:=[]) .nil ks eb ry).keeps fun c ys ec=>?_,q',es,ep,hq,h2,h3,h4,h5⟩,rfl,q2⟩;rw [zq (zfp ec e (fun z=>nomatch z))];exact ec
theorem zq3{X:Cx}{pos:Pos}{k v:Expr}{tk tv:TE}{n:Nat}(hr:Room n X.A)(hk:Wr (PE X k tk))(hv:Wr (PE X v tv)):Wr (PE X (.Dict [some k] [v] pos) (zjH X.K tk tv)):=⟨zom (zib hr) hk.run hv.run⟩
section
variable {K:qc} {ρ ρ1 ρ':En} {σ:St} {H H':Hp}
theorem Rs.free{p:Addr}{c o:HO}(r:Rs K ρ σ H)(hc:H p=some c)(m:Mo c)(n:¬Ow ρ σ p):Rs K ρ σ (upd H p o):=by
 have kp:=zbc hc m o;refine⟨r.len,fun i u e=>?_,r.apart⟩;obtain⟨v,ev,q⟩:=r.rep i u e;refine⟨v,ev,q.kp kp fun ou a c' ea ha=>?_⟩;have ne:a≠p:=by
  rintro rfl;exact n ⟨i,u,e,ou,by rw [ev,ea]⟩
 rw [zq ne];exact ha
theorem Go.free{p:Addr}{c o:HO}(g:Go K ρ σ H ρ' H')(hp:H p=none)(hc:H' p=some c)(m:Mo c)(n:¬Ow ρ' σ p):Go K ρ σ H ρ' (upd H' p o):=by
 refine⟨g.rs.free hc m n,fun a ob ha hn=>?_,g.shr,fun a ha=>?_⟩
 ·have ne:a≠p:=by
   rintro rfl;rw [hp]at ha;cases ha
  rw [zq ne];exact g.fr a ob ha hn
 ·by_cases e:a=p
  ·subst e
   exact hp
  ·rw [zq e]at ha
   exact g.dm a ha
def zjI(mk mv:ME):ME:=fun ρ=>(mk ρ).bind fun p=>(mv p.2).bind fun q=>(p.1.get q.2).bind fun k=>(q.1.get q.2).bind fun v=>k.da.bind fun k=>v.da.bind fun v=>(zaM k).bind fun k=>some (.u (.t [(k,v)]),q.2)
theorem zbl{w:U}{x:D}(h:w.da=some x):w=.d x:=by
 cases w<;>first | (cases h; rfl) | cases h
theorem zq4{tk tv:TE}{mk mv:ME}(hk:VE K tk mk)(hv:VE K tv mv):VE K (zjH K tk tv) (zjI mk mv):=by
 intro ρ σ H a ρ' Q r e q;obtain⟨⟨a1,ρ1⟩,e1,e⟩:=zd e;obtain⟨⟨b1,ρ2⟩,e2,e⟩:=zd e;obtain⟨uk,ek,e⟩:=zd e;obtain⟨uv,ev,e⟩:=zd e;obtain⟨dk,edk,e⟩:=zd e;obtain⟨dv,edv,e⟩:=zd e;obtain⟨ks,eks,e⟩:=zd e;cases e;cases zbl edk;cases zbl edv;intro p hp;have sm:=zC hp (.dT []);have g0:=Go.grow r sm;have n0:¬Ow ρ σ p:=fun z=>by
  obtain⟨c,hc,_⟩:=r.ow z;rw [hp]at hc;cases hc
 refine hk ρ σ (upd H p (.dT [])) a1 ρ1 _ g0.rs e1 fun x H1 g1 k1=>hv ρ1 σ H1 b1 _ _ g1.rs e2 fun y H2 g2 k2=>?_;have n1:¬Ow ρ1 σ p:=fun z=>n0 (g1.shr.ow z);have n2:¬Ow ρ2 σ p:=fun z=>n1 (g2.shr.ow z);have hp2:H2 p=some (.dT []):=g2.fr p _ (g1.fr p _ zr n0) n1;have pk:=k1.later g0.rs g1 g2 ek;have pv:=k2.now g1.rs g2 ev;obtain⟨b,rfl,hb⟩:=zdg pk eks;have kp:=zbc hp2 trivial (.dT [(ks,y)]);refine⟨hp2,ks,b,rfl,hb,q _ _ (((g0.trans g1).trans g2).free hp hp2 trivial n2) ⟨⟨p,[(ks,y)],rfl,zr,.cons ⟨rfl,DF.kp kp pv⟩ .nil⟩,fun _=>⟨p,rfl,hp⟩⟩⟩
theorem DFs.rev{vs:List V}{ds:List D}(h:DFs K H vs ds):DFs K H vs.reverse ds.reverse:=by
 induction vs generalizing ds with
 | nil=>cases h; exact .nil
 | cons v vs ih =>
  cases h with
  | cons a t=>rw [List.reverse_cons,List.reverse_cons]; exact(ih t).snoc a
end
def zwo(K:qc)(a:Addr):It :=
 ⟨fun i H=>∃ xs x,SqL K H a xs/\xs[i]?=some x,fun i H x H'=>∃ T,H T=none/\x=.ref T/\∀ xs v,SqL K H a xs->xs[i]?=some v->H'=upd H T (.tup [.int i,v]),fun i H=>∃ xs,SqL K H a xs/\xs.length=i⟩
theorem zjJ{P:Program}{w:World}{K:qc}{elts:List Expr}{k:Nat}{pos:Pos}(e it t:Addr)(hei:e≠it)(hte:t≠e)(hti:t≠it) :
  Turn P w K (.Tuple elts k pos) (zwo K t) [e,it] e (fun i h=>(∃ old,IsEnum h e it i old)/\h.IsListIter it t i) where
 mem:=by simp
 obj:=fun i h st b hb=>by
  obtain⟨⟨old,he⟩,⟨o,ho,_,hd⟩⟩:=st;rcases qv.mp hb with z | z
  ·subst z
   exact⟨_,he,fun v q=>by
    have q':Data.fields _=Data.cell v:=q;cases q'⟩
  ·rw [qq.mp z]
   exact⟨o,ho,fun v q=>by rw [hd]at q; cases q⟩
 keep:=fun i h h' st kk=>by
  obtain⟨⟨old,he⟩,⟨o,ho,hc,hd⟩⟩:=st;exact⟨⟨old,kk e (by simp) _ he⟩,⟨o,kk it (by simp) _ ho,hc,hd⟩⟩
 item:=by
  intro X hP hw hK hc i pins s σ H E I hf st hg;subst hP hw hK;obtain⟨xs,x,hq,hx⟩:=hg;obtain⟨its,rv,ht,hz⟩:=I.list hq;have hi:i < its.toArray.size:=by
   rw [List.size_toArray,<-rv.length];exact(qk.mp hx).1
  have W:=WalksT.enumerate (prog:=X.prog) (w:=X.w) (A:=X.A) (I.ok.hd hc) e it t hei hte hti its.toArray;refine W.item i s _ _ hi ⟨st.1,st.2,ht.isList⟩ fun T vals h1 tk hP hT isT mid kk=>?_;refine⟨_,rfl,W.go elts k pos i T { s with heap:=h1,toks:=tk } _ _ mid fun h2 st2 kk2=>?_⟩;obtain⟨tt,u,hu,rfl⟩:=hP;have apart:=W.apart _ _ _ mid;have I2:Inv X pins σ H { s with heap:=h2,toks:=tk }:=I.turnedW (wr:=[e,it]) (fun b o hb q=>kk2 b o hb (kk b o hb q)) hf;have fT:zaq X pins H T:=I.fpOk hT (I.hok.fresh hT);have ru:zI x u:=by
   obtain⟨u',eu,r⟩:=rv.get hx;have:u'=u:=by
    have z:its[i]?=some u:=by simpa using hu
    rw [eu]at z;exact qx z
   rw [<-this];exact r
  obtain⟨oT,g1,g2,nT,g3⟩:=isT;have I3:Inv X pins σ (upd H T (.tup [.int i,x])) { s with heap:=h2,toks:=tk }:=I2.track fT (qy I.sz hT) ⟨by show 2<=sizeLine; decide,[.int i tt,u],.cons ⟨tt,rfl⟩ (.cons ru .nil),oT,kk2 T oT apart g1,g2,⟨nT,g3⟩,.inr ⟨_,_,_,rfl⟩⟩;refine⟨.ref T,_,I3,rfl,⟨T,I.hok.fresh hT,rfl,fun xs' v hq' hv=>?_⟩,⟨?_,st2.2.1⟩,fun b hb=>?_⟩
  ·have:=I.list_inj hq hq'
   subst this;rw [hx]at hv;cases hv;rfl
  ·exact st2.1
  ·have ne:b≠T:=fun z=>apart (by rw [<-z]; exact hb)
   rw [zq ne];exact(hf b hb).1
 done:=by
  intro X hP hw hK hc i pins s σ H E I hf st hg;subst hP hw hK;obtain⟨xs,hq,hl⟩:=hg;obtain⟨its,rv,ht,hz⟩:=I.list hq;have hi:i=its.toArray.size:=by
   rw [List.size_toArray,<-rv.length];exact hl.symm
  have W:=WalksT.enumerate (prog:=X.prog) (w:=X.w) (A:=X.A) (I.ok.hd hc) e it t hei hte hti its.toArray;refine W.done s _ _ ?_ fun h1 tk kk=>⟨rfl,I.turnedW (wr:=[e,it]) kk hf⟩;rw [<-hi];exact⟨st.1,st.2,ht.isList⟩
 self:=fun _ _ _ _ _ st h=>by
  obtain⟨⟨old,he⟩,_⟩:=st;exact wpAny_pyIter_enum he h
section
variable {X:Cx} {elts:List Expr} {k:Nat} {tpos:Pos}
def zon(K:qc)(ta:TA):TI:=fun σ H R=>ta σ H fun vs H1=>∃ a,vs=[.ref a]/\(∃ xs,SqL K H1 a xs)/\R (zwo K a) H1
theorem zf1{a:Expr}{ta:TA}{p pos:Pos}{K:qc}(ha:Wr (PA X [a] ta))(hK:X.K=K:=by rfl)(hg:Gl X "enumerate":=by exact rfl)(hm:X.mg "enumerate"=none:=by exact zeE ‹Bl _ _› (by decide))(hs:zK a=true:=by rfl) :
  Wr (PI X (.Tuple elts k tpos) (.Call (.Name "enumerate" p) [a] [] pos) (zon K ta)):=by
 subst hK;refine⟨?_⟩;intro pins s σ H R I h;refine Call_ (zcL I hg hm boot_enumerate (PyProof.Rows.callWith_type1 (thn (ha.run pos pins s σ H _ I h) fun us s1 hZ=>?_) (zbj hs) rfl));obtain⟨vs,H1,I1,r1,q1⟩:=hZ;obtain⟨t,e,⟨xs,hq⟩,q⟩:=q1;subst e;obtain⟨u,rfl,ru⟩:=zeB r1;cases ru;obtain⟨its,rv,ht,hz⟩:=I1.list hq;have tl:t < s1.heap.objs.size:=by
  obtain⟨o,n,e,_⟩:=ht;exact qh e
 refine call_enumerate_list ht.isList fun h' he hit _ kk=>?_;have I2:Inv X pins σ H1 { s1 with heap:=h' }:=I1.kept (t':=s1.toks) kk;refine wpAny_pyIter_enum he ?_;refine⟨s1.heap.objs.size+1,[s1.heap.objs.size+1,s1.heap.objs.size],_,_,H1,rfl,I2,zjJ (s1.heap.objs.size+1) s1.heap.objs.size t (Nat.succ_ne_self _) (qj (Nat.lt_succ_of_lt tl)) (qj tl),⟨⟨_,he⟩,hit⟩,fun b hb=>?_,q⟩;rcases qv.mp hb with z | z
 ·subst z
  exact I1.fpOk (Nat.le_succ _) (I1.hok.fresh (Nat.le_succ _))
 ·rw [qq.mp z]
  exact I1.fpOk (qe _) (I1.hok.fresh (qe _))
end
def zhA:List U->Option (List D)
 | [.d (.list ds)]=>some (za1 0 ds)
 | _=>none
def zf2(ma:MA):MI:=fun ρ=>(ma ρ).bind fun p=>(zao p.2 p.1).bind fun us=>(zhA us).bind fun ds=>some (ds,p.2)
theorem zf3{K:qc}{ta:TA}{ma:MA}(h:VAs K ta ma):VI K (zon K ta) (zf2 ma):=by
 intro ρ σ H ds ρ' R r e q;obtain⟨⟨as,ρ1⟩,e1,e⟩:=zd e;obtain⟨us,eu,e⟩:=zd e;obtain⟨zs,ez,e⟩:=zd e;cases e;refine h ρ σ H as ρ1 _ r e1 fun vs H1 g1 s1=>?_;have rp:=s1.rpl r g1 eu;unfold zhA at ez;split at ez
 ·rename_i xs
  cases ez;cases rp with
  | cons h1 t =>
   cases t;obtain⟨b,ys,rfl,h1,h2⟩:=DF.lst_inv h1;refine⟨b,rfl,⟨ys,h1.sq⟩,q _ _ g1 fun H2 k i=>⟨fun d ed=>?_,fun ei=>?_⟩⟩
   ·obtain⟨x,ex,rfl⟩:=zaK ed
    obtain⟨v,ev,dv⟩:=(h2.kp k).get ex;refine⟨⟨ys,v,(h1.kp k).sq,ev⟩,fun x H' y=>?_⟩;obtain⟨T,nT,rfl,y⟩:=y;cases y ys v (h1.kp k).sq ev;have sm:=zC nT (.tup [.int i,v]);refine⟨sm,.tup (.inl zr) (.cons ?_ (.cons (dv.kp sm.kp) .nil))⟩;rw [Nat.zero_add];exact .int _
   ·exact⟨ys,(h1.kp k).sq,by rw [zak]at ei; rw [h2.len]; exact ei.symm⟩
 ·cases ez
section
variable {ρ:En} {mk mv:ME} {mA:MA} {i:Nat} {f:List D->List D} {QE:Ar×En->Prop} {QI:List D×En->Prop}
theorem ziI:Wo (zjI mk mv ρ) QE=Wo (mk ρ) (Co (fun p=>(mv p.2).bind fun q=>(p.1.get q.2).bind fun k=>(q.1.get q.2).bind fun v=>k.da.bind fun k=>v.da.bind fun v=>(zaM k).bind fun k=>some (.u (.t [(k,v)]),q.2)) ⟨0⟩ QE):=by
 show Wo (Option.bind _ _) QE=_;rw [zp]
theorem ziJ:Wo (zf2 mA ρ) QI=Wo (mA ρ) (Co (fun p=>(zao p.2 p.1).bind fun us=>(zhA us).bind fun ds=>some (ds,p.2)) ⟨0⟩ QI):=by
 show Wo (Option.bind _ _) QI=_;rw [zp]
theorem zoo{ds:List D}:zhA [.d (.list ds)]=some (za1 0 ds):=rfl
end
end L2
namespace L2
open PySem
def ch:Nat->Nat->Nat
 | _,0=>1
 | 0,_+1=>0
 | n+1,k+1=>ch n k+ch n (k+1)
end L2
namespace L2
open PySem PySem.Spec PyProof.Rows
open PySem.AutoSeq1 (wpAny_loadPart')
open MeetsSeq MeetsSeq2 MeetsSeq3 SeqRoads2
end L2
namespace L2
open PySem PySem.Spec PyProof.Rows
section
variable {prog:Program} {w:World} {A:Around} {E:Value->Shared->Prop} {s:Shared} {l b:Addr} {items items2:Array Value} {xs ys:List Int} {Q:Value->Shared->Prop}
end
section
variable {X:Cx} {k:Nat}
end
section
variable {K:qc}
end
section
variable {X:Cx} {a b c d:Expr} {pos:Pos} {ta tb tc td:TE}
end
section
variable {K:qc}
end
section
variable {f f' f'':U->U->Option U} {ma mb mc md:ME} {ρ:En} {QE:Ar×En->Prop}
end
end L2
namespace HT
open PySem PySem.Spec PyProof.Rows
section
variable {prog:Program} {w:World} {A:Around} {E:Value->Shared->Prop} {s:Shared}
theorem zev{sl:Addr}{t:Tok}{n:Nat}{Q:Int×Int×Nat->Shared->Prop}(hs:s.heap.IsSliceOf sl .none .none (.int (-1) t))
  (h:Q ((n:Int) - 1,-1,n) s):wpAny (model prog w) A (Builtin.Slice.sliceApplied (.ref sl) (pure (n:Int))) Q E s:=by
 obtain⟨os,hos,hcs,hds⟩:=id hs;unfold Builtin.Slice.sliceApplied Builtin.Slice.sliceFields;refine wpAny_bind (wpAny_bind (wpAny_field hos hds (x:=.none) rfl (wpAny_bind (wpAny_field hos hds (x:=.none) rfl (wpAny_bind (wpAny_field hos hds (x:=.int (-1) t) rfl (wpAny_pure ?_)))))));refine wpAny_bind (slicePart_int ?_);show wpAny _ _ (if((-1:Int)==0)=true then _ else _) _ _ s;rw [if_neg (by decide)];refine wpAny_bind (slicePart_none (wpAny_bind (slicePart_none (wpAny_bind (wpAny_pure ?_)))));show wpAny _ _ (pure ((n:Int) - 1,(-1:Int),Builtin.Slice.slicePlaces ((n:Int) - 1) (-1) (-1))) _ _ s;have e:Builtin.Slice.slicePlaces ((n:Int) - 1) (-1) (-1)=n:=by
  unfold Builtin.Slice.slicePlaces;rw [if_neg (by decide),show(- -1:Int)=1 by decide,Int.ediv_one];split<;>omega
 rw [e];exact wpAny_pure h
theorem zop(xs:List Value):((List.range xs.length).filterMap fun(m:Nat)=>xs.toArray[((xs.length:Int) - 1+(m:Int) * -1).toNat]?)=xs.reverse:=by
 have e:∀ m∈List.range xs.length,(fun(m:Nat)=>xs.toArray[((xs.length:Int) - 1+(m:Int) * -1).toNat]?) m=xs.reverse[m]?:=by
  intro m hm;have hm':=List.mem_range.mp hm;show xs.toArray[((xs.length:Int) - 1+(m:Int) * -1).toNat]?=_;rw [List.getElem?_reverse hm',List.getElem?_toArray];congr 1;omega
 have g:∀ ys:List Value,(List.range ys.length).filterMap (fun m=>ys[m]?)=ys:=by
  intro ys
  induction ys with
  | nil=>rfl
  | cons y ys ih=>rw [List.length_cons,List.range_succ_eq_map,List.filterMap_cons,List.filterMap_map]; exact congrArg (y::·) ih
 have cg:∀ {f g:Nat->Option Value} (l:List Nat),(∀ m∈l,f m=g m)->l.filterMap f=l.filterMap g:=by
  intro f g l h
  induction l with
  | nil=>rfl
  | cons a l ih=>rw [List.filterMap_cons,List.filterMap_cons,h a List.mem_cons_self,ih fun m hm=>h m (List.mem_cons_of_mem _ hm)]
 rw [cg _ e];have:=g xs.reverse;rw [List.length_reverse]at this;exact this
theorem getItem_tuple_rev{t sl:Addr}{xs:List Value}{k:Tok}{Q:Value->Shared->Prop}(ht:IsTup s.heap t xs.toArray)(hs:s.heap.IsSliceOf sl .none .none (.int (-1) k))
  (h:Q (.ref s.heap.objs.size) { s with heap:=s.heap.push { cls:=.type "tuple",data:=.seq xs.reverse.toArray } })
  (hsz:xs.length<=sizeLine):wpAny (model prog w) A (getItem (.ref t) (.ref sl)) Q E s:=by
 have htake:sizeOk (.seq xs.reverse.toArray):=by
  show xs.reverse.toArray.size<=sizeLine;rw [List.size_toArray,List.length_reverse];exact hsz
 obtain⟨os,hos,hcs,hds⟩:=id hs;have hTs:s.TypeIs (.ref sl) "slice":=⟨os,hos,hcs⟩;unfold getItem
 try with_reducible refine wpAny_holding ?_
 first | refine wpAny_bind (wpAny_pure ?_) | skip
 refine wpAny_bind (wpAny_sequenceKey ht.typeIs (by decide) ?_);refine wpAny_bind (wpAny_callSpecial?_slot (name:=Str.ofString "__getitem__") ht.typeIs PyProof.Rows.slot_tuple_getitem
  (wpAny_call_entry PyProof.Rows.slot_tuple_getitem ht.typeIs entry_tuple_getitem ?_ (args_tuple_getitem _ _)))
 show wpAny _ _ (Builtin.Tuple.tupleItemsOf (.ref t) >>= _) _ _ s;refine wpAny_bind (tupleItemsOf_ ht ?_);refine wpAny_bind (wpAny_typeOf hTs ?_);rw [if_pos (by decide)];refine wpAny_bind (zev hs ?_);have hl:xs.toArray.size=xs.length:=List.size_toArray;rw [hl];show wpAny _ _ (if(((xs.length:Int) - 1)==0 && (-1:Int)==1 && xs.length==xs.toArray.size)=true then _ else _) _ _ s;rw [if_neg (by simp),zop]
 first
  | exact wpAny_bind (m:=Builtin.Tuple.tupleExact _) (wpAny_newObj_type (wpAny_pure ⟨_,rfl,wpAny_pure h⟩) htake)
  | exact wpAny_bind (m:=Builtin.Tuple.tupleExact _) (wpAny_newObj_type (wpAny_bind (wpAny_pure (wpAny_pure ⟨_,rfl,wpAny_pure h⟩))) htake)
  | exact wpAny_bind (wpAny_bind (m:=Builtin.Tuple.tupleExact _) (wpAny_newObj_type (wpAny_pure (wpAny_pure ⟨_,rfl,wpAny_pure h⟩)) htake))
  | exact wpAny_bind (wpAny_bind (m:=Builtin.Tuple.tupleExact _) (wpAny_newObj_type (wpAny_pure ⟨_,rfl,wpAny_pure h⟩) htake))
end
end HT
namespace L2
open PySem PySem.Spec PyProof.Rows
def zoq(K:qc)(te ts:TE):TE:=fun σ H Q=>te σ H fun x H1=>ts σ H1 fun y H2=>y=.int (-1)/\∃ a xs,x=.ref a/\SqT K H2 a xs/\∀ p,H2 p=none->Q (.ref p) (upd H2 p (.tup xs.reverse))
section
variable {X:Cx} {e st:Expr} {te ts:TE} {pos p2:Pos}
theorem zq5(he:PE X e te)(hs:PE X st ts):PE X (.Subscript e (.Slice none none (some st) p2) pos) (zoq X.K te ts):=by
 intro pins s σ H Q I h;refine Subscript_ (thn (he pins s σ H _ I h) fun v s1 hZ=>?_);obtain⟨x,H1,I1,r1,q1⟩:=hZ;refine wpAny_Slice ?_;rw [evalPart_none];refine qb (qb ?_);rw [evalPart_some];refine thn (hs pins s1 σ H1 _ I1 q1) fun vs s3 hZ=>?_;obtain⟨y,H3,I3,r3,ey,a,xs,ex,hx,q⟩:=hZ;subst ey ex;obtain⟨t,rfl⟩:=r3;cases r1;have I4:Inv X pins σ H3 { s3 with heap:=s3.heap.push { cls:=.type "slice",data:=.fields #[.none,.none,.int (-1) t] } }:=I3.kept (t':=s3.toks) fun b ob q=>qd _ q;obtain⟨its,r,ht,hz⟩:=I4.tuple (id hx);have hg:=HT.getItem_tuple_rev (prog:=X.prog) (w:=X.w) (A:=X.A) (E:=X.xe) (Q:=EP X pins σ Q) ht (Heap.IsSliceOf.new ..) ⟨.ref _,_,I4.laid (t':=s3.toks) (o:=.tup xs.reverse) (fun b ob q=>qd _ q) (qe _) ⟨by rw [List.length_reverse]; exact hz,_,r.reverse,zb6.new _ _⟩,rfl,q _ (I4.hok.fresh (qe _))⟩ (by rw [<-r.length]; exact hz);show wpAny (model X.prog X.w) X.A (subscriptTail e (.Slice none none (some st) p2) (.ref a) (.ref s3.heap.objs.size)) (EP X pins σ Q) X.xe { s3 with heap:=s3.heap.push { cls:=.type "slice",data:=.fields #[.none,.none,.int (-1) t] } };exact tail_any (ops:=[.ref a,.ref s3.heap.objs.size]) ht.typeIs PyProof.Rows.slot_tuple_getitem.lookup hg (by with_unfolding_all rfl)
theorem zuv(he:Wr (PE X e te))(hs:Wr (PE X st ts)):Wr (PE X (.Subscript e (.Slice none none (some st) p2) pos) (zoq X.K te ts)):=⟨zq5 he.run hs.run⟩
end
section
variable {K:qc}
def zk1:U->U->Option U
 | .d (.tuple xs),.d (.int (-1))=>some (.d (.tuple xs.reverse))
 | _,_=>none
def zor(me ms:ME):ME:=fun ρ=>(me ρ).bind fun p=>(ms p.2).bind fun q=>(p.1.get q.2).bind fun x=>(q.1.get q.2).bind fun y=>(zk1 x y).bind fun u=>some (.u u,q.2)
theorem zuw{te ts:TE}{me ms:ME}(he:VE K te me)(hs:VE K ts ms):VE K (zoq K te ts) (zor me ms):=by
 intro ρ σ H a ρ' Q rs e q;obtain⟨⟨a1,ρ1⟩,e1,e⟩:=zd e;obtain⟨⟨b1,ρ2⟩,e2,e⟩:=zd e;obtain⟨x,ex,e⟩:=zd e;obtain⟨y,ey,e⟩:=zd e;obtain⟨u,eu,e⟩:=zd e;cases e;refine he ρ σ H a1 ρ1 _ rs e1 fun v1 H1 g1 k1=>hs ρ1 σ H1 b1 _ _ g1.rs e2 fun v2 H2 g2 k2=>?_;have p1:=k1.later rs g1 g2 ex;have p2:=k2.now g1.rs g2 ey;unfold zk1 at eu;split at eu
 ·cases eu
  obtain⟨b,us,rfl,h1,h2⟩:=DF.tup_inv p1;refine⟨DF.int_inv p2,b,us,rfl,h1.sq,fun p hp=>?_⟩;have sm:=zC hp (.tup us.reverse);exact q _ _ ((g1.trans g2).trans (Go.grow g2.rs sm)) ⟨.tup (.inl zr) (h2.rev.kp sm.kp),Nw.data⟩
 ·cases eu
theorem zk2{me ms:ME}{ρ:En}{QE:Ar×En->Prop}:Wo (zor me ms ρ) QE=Wo (me ρ) (Co (fun p=>(ms p.2).bind fun q=>(p.1.get q.2).bind fun x=>(q.1.get q.2).bind fun y=>(zk1 x y).bind fun u=>some (.u u,q.2)) ⟨0⟩ QE):=by
 show Wo (Option.bind _ _) QE=_;rw [zp]
theorem zk3{xs:List D}:zk1 (.d (.tuple xs)) (.d (.int (-1)))=some (.d (.tuple xs.reverse)):=rfl
end
section
variable {K:qc}
end
section
variable {K:qc}
end
end L2
namespace L2
open PySem PySem.Calls PySem.Spec PyProof.Rows
section
variable {prog:Program} {w:World} {A:Around} {E:Value->Shared->Prop} {s:Shared}
end
section
variable {K:qc}
end
end L2
namespace L2
open PySem PySem.Spec PyProof.Rows
section
variable {X:Cx} {CX:CXT} {k:Nat} {f C:Addr} {fd:FuncData} {ps:List Str} {sp:Sp} {dvs:List V} {ds:List Value} {E:XK} {x m:Str} {p pos apos:Pos} {e o:Expr} {es:List Expr} {ta:TE} {t:TA}
end
section
variable {X:Cx} {k:Nat} {ps:List Str} {sp:Sp} {x:Str} {p pos:Pos} {e:Expr} {es:List Expr} {t:TA}
end
section
variable {K:qc} {pn:List Nat}
end
section
variable {prog:Program} {w:World} {A:Around} {E:Value->Shared->Prop} {s:Shared}
end
section
variable {X:Cx} {elts:List Expr} {k:Nat} {tpos:Pos}
end
section
variable {K:qc}
end
end L2
namespace L2
open PySem
section
variable {mA:MA} {ρ:En} {QI:List D×En->Prop}
end
end L2
namespace L2
open PySem PySem.Spec PyProof.Rows
section
variable {K:qc} {pn:List Nat} {EX:EXT}
end
section
variable {mg:MG} {mb:MS} {ρ:En} {Q:Fl->Prop} {i:Nat}
end
theorem zmf{X:Cx}{pins:List (Addr×Obj)}{σ:St}{H:Hp}{s:Shared}{a b:Addr}{v:V}{r:Value}{A:Around}{E:Value->Shared->Prop}{kvs:List (List Key×V)}{k:List Key}{Q:Unit->Shared->Prop}(hu:A.units+1 < cLine)(I:Inv X pins σ H s)
  (e:H a=some (.dT kvs)) (eb:TpK X.K H b (k.map kV)) (l:kvs.length < sizeLine) (rv:zI v r) (h:∀ s',Inv X pins σ (upd H a (.dT (zcj kvs k v))) s'->Q () s'):wpAny (model X.prog X.w) A (dictSet a (.ref b) r) Q E s:=by
 obtain⟨z,hd,xs,rel,dd⟩:=zm6 I.kIn I.hok e;have hz:xs.length<=sizeLine:=by rw [<-Paired.length rel]; exact z
 have hl:(zcj kvs k v).length<=sizeLine:=by have:=zcO kvs k v; omega
 refine wpAny_dictSet_heap (hsz:=hz) (show A.units < cLine from Nat.lt_of_succ_lt hu) (zei I.kIn I.hok eb) dd fun h' dd' hs=>h _ ?_;obtain⟨q,es,ep,hq,h2,h3,h4,_,h5⟩:=dd';refine ze7 I (by rw [e]; exact True.intro) hs ⟨q,hq⟩ ⟨hl,hd,_,(rel.put k eb rv).keeps fun c ys ec=>?_,q,es,ep,hq,h2,h3,h4,h5⟩;rw [zq (zfp ec e (fun z=>nomatch z))];exact ec
section
variable {X:Cx} {pins:List (Addr×Obj)} {σ:St} {H:Hp} {s:Shared} {scope:Scope} {cl:List (Str×Addr)} {xs:List Str} {js:List Nat} {nt:Nat} {ts:List Str} {fp:List Addr}
end
section
variable {K:qc} {ρ ρ' ρ1:En} {σ:St} {H H' H1:Hp}
theorem Sn.free{pn:List Nat}{σ₀:St}{A:Addr->Prop}{H₀ H₁:Hp}{D:Addr}{c o:HO}(s:Sn K pn σ₀ A H₀ H₁ ρ σ H)(hc:H D=some c)(m:Mo c)(n:¬Ow ρ σ D)(hA:A D):Sn K pn σ₀ A H₀ H₁ ρ σ (upd H D o):=by
 refine⟨s.rs.free hc m n,fun a ob h nA=>?_,s.ow,s.pin,fun a h=>?_,s.kp.trans (zbc hc m o)⟩
 ·have ne:a≠D:=by rintro rfl; exact nA hA
  rw [zq ne];exact s.fr a ob h nA
 ·by_cases e:a=D
  ·subst e; rw [zr]at h; cases h
  ·rw [zq e]at h; exact s.dm a h
theorem zsh{nt:Nat}{js:List Nat}{D:Addr}{A:Addr->Prop}{ρx:En}{σx:St}{Hx:Hp}(r:Rs K ρ1 σ H1)(hD:H1 D=none)(s:Sn K (zbG nt js.length) (c0 nt js σ) A (upd H1 D (.dT [])) H1 ρx σx Hx)
  (own:∀ (i:Nat) (u:U),nt<=i->ρx[i]?=some (some u)->u.own=true->∃ w,(cEn nt js ρ1)[i]?=some (some w)/\w.own=true):¬Ow ρx σx D:=by
 rintro⟨i,u,e,ou,es⟩;rcases s.ow i u D e ou es with ⟨hi,_⟩ | z
 ·have hi':=zbU.mp hi
  obtain⟨w,ew,ow⟩:=own i u hi'.1 e ou;obtain⟨p,j,rfl,hj,hr⟩:=zeq ew;rw [s.pin _ hi,znu hj]at es;have e2:σ[j]?=some (some (.ref D)):=by
   rw [qB]at es;cases q:σ[j]? with
   | none=>rw [q]at es; cases es
   | some o=>rw [q]at es; exact congrArg some (qx es)
  obtain⟨c,hc,_⟩:=r.ow ⟨j,w,hr,ow,e2⟩;rw [hD]at hc;cases hc
 ·rw [zr]at z; cases z
def dcM(nt:Nat)(mg:MG)(mt:MT)(mk mv:ME):List D->En->List (List Key×D)->Option (List (List Key×D)×En)
 | [],ρ,ys=>some (ys,ρ)
 | d::ds,ρ,ys=>if ys.length < sizeLine then(mg d ρ).bind fun ρ1=>(mt ρ1).bind fun b=>if b.1=true then(mk b.2).bind fun p=>(mv p.2).bind fun q=>(p.1.get q.2).bind fun uk=>(q.1.get q.2).bind fun uv=>uk.da.bind fun dk=>uv.da.bind fun dv=>(zaM dk).bind fun k =>
   dcM nt mg mt mk mv ds (reset nt q.2) (zcJ ys k dv)else dcM nt mg mt mk mv ds (reset nt b.2) ys else none
end
section
variable {prog:Program} {w:World} {A:Around} {E:Value->Shared->Prop} {s:Shared} {it d:Addr} {i ep:Nat} {es:Array DictEntry}
end
section
variable {X:Cx} {tg:Expr}
end
section
variable {X:Cx} {pins:List (Addr×Obj)} {σ:St} {H:Hp} {s:Shared} {a C dx:Addr} {fs:List (Str×V)} {f:Str} {v:V} {A:Around} {E:Value->Shared->Prop}
end
section
variable {X:Cx} {o e value:Expr} {f:Str} {pos pos' tpos:Pos} {ta tv:TE}
end
section
variable {X:Cx} {C:Addr} {fl:List Str} {k:Nat} {x:Str} {p pos:Pos} {e:Expr} {es:List Expr} {t:TA}
end
section
variable {K:qc} {n:Str} {C:Addr} {fl:List Str} {f:Str}
end
section
variable {X:Cx} {K:qc}
theorem ziK{H:Hp}:∀ (ns:List Int),DFs K H (ns.map V.int) (ns.map PyData.int)
 | []=>.nil
 | n::ns=>.cons (.int n) (ziK ns)
theorem zf4{g:Addr}{ns:List Int}(gt:GTi K g ns)(hn:ns≠[]:=by decide):VE K (tC (.ref g)) (mC (.tuple (ns.map PyData.int))):=by
 intro ρ σ H a ρ' Q rs e q;cases e;obtain⟨o,i,n,z1,z2,z3,z4,z5⟩:=gt;refine q _ _ (Go.refl rs) ⟨DF.tup (.inr ⟨o,i,n,z1,z2,z3,z4,z5,?_⟩) (ziK ns),Nw.data⟩;cases ns with
 | nil=>exact absurd rfl hn
 | cons a r=>exact⟨a,_,rfl⟩
end
section
variable {α β:Type} {c:β->D} {mI:MI} {mg:MG} {mt:MT} {mk mv me ma:ME} {mA:MA} {ρ:En} {QE:Ar×En->Prop} {QT:Bool×En->Prop} {nt:Nat} {js:List Nat}
def zxg(nt:Nat)(mk mv:ME)(ys:List (List Key×D))(P:En->List (List Key×D)->Prop)(p:Bool×En):Prop :=
 if p.1=true then Wo (mk p.2) (Co (fun p=>(mv p.2).bind fun q=>(p.1.get q.2).bind fun uk=>(q.1.get q.2).bind fun uv=>uk.da.bind fun dk=>uv.da.bind fun dv=>(zaM dk).bind fun k=>some (reset nt q.2,zcJ ys k dv)) ⟨0⟩ fun z=>P z.1 z.2)else P (reset nt p.2) ys
def dcP(l:Pq β):Pq β:=l.foldl (fun ys t=>zby ys t.1 t.2) []
theorem zos{g:α->D}{b:α->Bool}{k:α->List Int}{v:α->β}{as:List α}{Q:List (List Key×D)×En->Prop}(hz:as.length<=16777216)
  (st:∀ a∈as,∀ ys:Pq β,Wo (mg (g a) ρ) (Co mt ⟨0⟩ (zxg nt mk mv (kvG c ys) fun ρ' zs=>ρ'=ρ/\zs=kvG c (if b a=true then zby ys (k a) (v a)else ys))))
  (q:Q (kvG c (dcP ((as.filter b).map fun a=>(k a,v a))),ρ)):Wo (dcM nt mg mt mk mv (as.map g) ρ []) Q:=by
 have main:∀ (es:List α) (acc:Pq β),(∀ a∈es,a∈as)->acc.length+es.length<=16777216->Q (kvG c (((es.filter b).map fun a=>(k a,v a)).foldl (fun ys t=>zby ys t.1 t.2) acc),ρ)->Wo (dcM nt mg mt mk mv (es.map g) ρ (kvG c acc)) Q:=by
  intro es
  induction es with
  | nil=>intro acc _ _ q; exact⟨_,rfl,q⟩
  | cons a es ih =>
   intro acc hm hl q;rw [qu]at hl;obtain⟨ρ1,e1,⟨bb,ρ2⟩,e2,kk⟩:=st a (hm a qp) acc;rw [List.map_cons];unfold dcM;rw [if_pos (by rw [zjD]; show _ < 16777216; omega),zp];refine⟨ρ1,e1,?_⟩;rw [zbL,zp];refine⟨_,e2,?_⟩;rw [zbL];rw [List.filter_cons]at q;have pl:=zdY acc (k a) (v a);cases bb with
   | false =>
    obtain⟨e3,e4⟩:=kk;rw [if_neg qf,e3,e4]
    by_cases hb:b a=true
    ·rw [if_pos hb]
     rw [if_pos hb]at q;exact ih _ (fun x hx=>hm x (qo _ hx)) (by omega) q
    ·rw [if_neg hb]
     rw [if_neg hb]at q;exact ih _ (fun x hx=>hm x (qo _ hx)) (by omega) q
   | true =>
    rw [if_pos rfl,zp];obtain⟨p,e3,kk⟩:=kk;refine⟨p,e3,?_⟩;rw [zbL];obtain⟨z,e4,e5,e6⟩:=kk;obtain⟨q1,f1,e4⟩:=zd e4;obtain⟨uk,f2,e4⟩:=zd e4;obtain⟨uv,f3,e4⟩:=zd e4;obtain⟨dk,f4,e4⟩:=zd e4;obtain⟨dv,f5,e4⟩:=zd e4;obtain⟨kk,f6,e4⟩:=zd e4;cases e4;rw [f1,bd,f2,bd,f3,bd,f4,bd,f5,bd,f6,bd];dsimp only at e5 e6;rw [e5,e6]
    by_cases hb:b a=true
    ·rw [if_pos hb]
     rw [if_pos hb]at q;exact ih _ (fun x hx=>hm x (qo _ hx)) (by omega) q
    ·rw [if_neg hb]
     rw [if_neg hb]at q;exact ih _ (fun x hx=>hm x (qo _ hx)) (by omega) q
 exact main as [] (fun _ h=>h) (by simpa using hz) q
end
section
variable {X:Cx} {pos pos' apos cpos:Pos} {o i v e f tg:Expr} {td ty tv tx:TE} {k n:Nat} (K:qc) (hK:X.K=K)
include hK
end
section
variable {prog:Program} {w:World} {A:Around} {E:Value->Shared->Prop} {s:Shared}
end
section
variable {prog:Program} {w:World} {A:Around} {E:Value->Shared->Prop} {s:Shared}
end
section
variable {prog:Program} {w:World} {A:Around} {E:Value->Shared->Prop} {h:Heap} {g:Array GenState} {d:Drawn} {t:Nat} {os:OsState} {a:Addr} {items:Array Value} {n:Nat} {sl:Array (Option Value)}
end
section
variable {X:Cx} {pins:List (Addr×Obj)} {σ:St} {H:Hp} {A:Around} {D it a:Addr} {xs:List V} {kvs:List (List Key×V)} {R:Result->Shared->Prop}
end
section
variable {X:Cx}
end
section
variable {K:qc} {H:Hp}
end
end L2
namespace L2
open PySem PySem.Calls PySem.Spec PyProof.Rows
section
variable {prog:Program} {w:World} {A:Around} {E:Value->Shared->Prop} {s:Shared}
end
section
variable {K:qc}
def dOf:U->Option (List (List Key×D))
 | .t kvs=>some kvs
 | .d (.dict ds)=>if noX ds=true then zoh ds else none
 | _=>none
theorem zux{H:Hp}{v:V}{u:U}{kvs:List (List Key×D)}(h:Rp K H v u)(e:dOf u=some kvs):∃ a ws,v=.ref a/\Rd H a (.dT ws)/\KVd K H ws kvs:=by
 unfold dOf at e;split at e
 ·cases e
  obtain⟨a,ws,rfl,h1,h2⟩:=h;exact⟨a,ws,rfl,.inl h1,h2⟩
 ·split at e
  ·rename_i nx
   obtain⟨a,o,ws,rfl,h1,h2⟩:=DF.dct_inv h nx;exact⟨a,ws,rfl,.inr ⟨o,h1⟩,ziF h2 e⟩
  ·cases e
 ·cases e
end
end L2
namespace L2
open PySem PySem.Spec PyProof.Rows
section
variable {X:Cx}
end
section
variable {K:qc}
def zgs:U->U->Option U
 | .l xs,.d (.int k)=>if -1000000 < k/\k < 1000000/\xs.length * k.toNat<=sizeLine then some (.l (List.replicate k.toNat xs).flatten)else none
 | _,_=>none
theorem zhB:VO K zvu zgs:=by
 intro x y a b u H Q ha hb e q;unfold zgs at e;split at e
 ·split at e
  ·rename_i xs k hz
   cases e;obtain⟨p,us,rfl,h1,h2⟩:=ha;cases DF.int_inv hb;refine⟨p,k,us,rfl,rfl,h1,by omega,by omega,by rw [h2.len]; exact hz.2.2,fun r hr=>?_⟩;have s:=zC hr (.lst (List.replicate k.toNat us).flatten);exact q _ _ s ⟨r,_,rfl,zr,(zhz h2 _).kp s.kp⟩ fun _=>⟨r,rfl,hr⟩
  ·cases e
 ·cases e
end
def zuy(K:qc)(a b:Addr):It :=
 ⟨fun i H=>∃ xs ys x y,SqL K H a xs/\SqL K H b ys/\xs[i]?=some x/\ys[i]?=some y,fun i H x H'=>∃ T,H T=none/\x=.ref T/\∀ xs ys v u,SqL K H a xs->SqL K H b ys->xs[i]?=some v->ys[i]?=some u->H'=upd H T (.tup [v,u]),fun i H=>∃ xs ys,SqL K H a xs/\SqL K H b ys/\xs.length=i⟩
abbrev zuz(z TI TO i1 i2 t1 t2:Addr)(i:Nat)(h:Heap):Prop:=IsZip h z TI TO .none/\IsPair h TI (.ref i1) (.ref i2)/\(∃ a b,IsPair h TO a b)/\h.IsListIter i1 t1 i/\h.IsListIter i2 t2 i
theorem zgO{P:Program}{w:World}{K:qc}{elts:List Expr}{k:Nat}{pos:Pos}(z TI TO i1 i2 t1 t2:Addr)(ap:ZipApart z TI TO i1 i2 t1 t2) :
  Turn P w K (.Tuple elts k pos) (zuy K t1 t2) [z,TI,TO,i1,i2] z (zuz z TI TO i1 i2 t1 t2) where
 mem:=by simp
 obj:=fun i h st c hc=>by
  obtain⟨hz,hI,⟨a,b,hO⟩,⟨o1,e1,_,d1⟩,⟨o2,e2,_,d2⟩⟩:=st;simp only [qv,List.not_mem_nil,or_false]at hc;rcases hc with rfl | rfl | rfl | rfl | rfl
  ·exact⟨_,hz,fun v q=>by
    have q':Data.fields _=Data.cell v:=q;cases q'⟩
  ·exact⟨_,hI,fun v q=>by
    have q':Data.seq _ _=Data.cell v:=q;cases q'⟩
  ·exact⟨_,hO,fun v q=>by
    have q':Data.seq _ _=Data.cell v:=q;cases q'⟩
  ·exact⟨o1,e1,fun v q=>by rw [d1]at q; cases q⟩
  ·exact⟨o2,e2,fun v q=>by rw [d2]at q; cases q⟩
 keep:=fun i h h' st kk=>by
  obtain⟨hz,hI,⟨a,b,hO⟩,⟨o1,e1,r1⟩,⟨o2,e2,r2⟩⟩:=st;exact⟨kk z (by simp) _ hz,kk TI (by simp) _ hI,⟨a,b,kk TO (by simp) _ hO⟩,⟨o1,kk i1 (by simp) _ e1,r1⟩,⟨o2,kk i2 (by simp) _ e2,r2⟩⟩
 item:=by
  intro X hP hw hK hc i pins s σ H E I hf st hg;subst hP hw hK;obtain⟨xs,ys,x,y,hq1,hq2,hx,hy⟩:=hg;obtain⟨hz,hI,⟨a,b,hO⟩,h1,h2⟩:=st;obtain⟨its1,rv1,ht1,_⟩:=I.list hq1;obtain⟨its2,rv2,ht2,_⟩:=I.list hq2;obtain⟨u1,eu1,r1⟩:=rv1.get hx;obtain⟨u2,eu2,r2⟩:=rv2.get hy;refine wpAny_pyNext_zip_item ap hz hI hO h1 h2 ht1.isList ht2.isList (by simpa using eu1) (by simpa using eu2) fun h' z' O' k1 k2 isT _ kk=>?_;refine⟨_,rfl,wpAny_letOwnedTupleGo_zip (s:={ s with heap:=h' }) z' fun h2' z2 sb=>?_⟩;have nm:s.heap.objs.size∉[z,TI,TO,i1,i2]:=fun hm=>by
   have:s.heap.objs.size < s.heap.objs.size:=by
    simp only [qv,List.not_mem_nil,or_false]at hm;obtain⟨_,e1,_⟩:=h1;obtain⟨_,e2,_⟩:=h2;rcases hm with h | h | h | h | h
    ·exact qi (h▸qh hz) (qe _)
    ·exact qi (h▸qh hI) (qe _)
    ·exact qi (h▸qh hO) (qe _)
    ·exact qi (h▸qh e1) (qe _)
    ·exact qi (h▸qh e2) (qe _)
   exact Nat.lt_irrefl _ this
  have nz:s.heap.objs.size≠z:=fun h=>nm (by rw [h]; simp);have I2:Inv X pins σ H { s with heap:=h2' }:=I.turnedW (t':=s.toks) (wr:=[z,TI,TO,i1,i2]) (fun c o hc q=>by
   simp only [qv,List.not_mem_nil,or_false,not_or]at hc;exact(sb.2 c hc.1).trans (kk c o hc.1 hc.2.2.1 hc.2.2.2.1 hc.2.2.2.2 q)) hf
  have fT:zaq X pins H s.heap.objs.size:=I.fpOk (qe _) (I.hok.fresh (qe _));have I3:Inv X pins σ (upd H s.heap.objs.size (.tup [x,y])) { s with heap:=h2' }:=I2.track fT I.sz ⟨by show 2<=sizeLine; decide,[u1,u2],.cons r1 (.cons r2 .nil),_,(sb.2 _ nz).trans isT,rfl,⟨_,rfl⟩,.inl rfl⟩;refine⟨.ref s.heap.objs.size,_,I3,rfl,⟨_,I.hok.fresh (qe _),rfl,fun xs' ys' v u hq1' hq2' hv hu=>?_⟩,⟨z2,(sb.2 _ ap.TIz).trans (kk _ _ ap.TIz ap.TITO ap.TIi1 ap.TIi2 hI),⟨_,_,(sb.2 _ ap.TOz).trans O'⟩,?_,?_⟩,fun c hc=>?_⟩
  ·cases I.list_inj hq1 hq1'
   cases I.list_inj hq2 hq2';rw [hx]at hv;rw [hy]at hu;cases hv;cases hu;rfl
  ·obtain⟨o,e,r⟩:=k1
   exact⟨o,(sb.2 _ ap.i1z).trans e,r⟩
  ·obtain⟨o,e,r⟩:=k2
   exact⟨o,(sb.2 _ ap.i2z).trans e,r⟩
  ·have ne:c≠s.heap.objs.size:=fun h=>nm (h▸hc)
   rw [zq ne];exact(hf c hc).1
 done:=by
  intro X hP hw hK hc i pins s σ H E I hf st hg;subst hP hw hK;obtain⟨xs,ys,hq1,hq2,hl⟩:=hg;obtain⟨hz,hI,⟨a,b,hO⟩,h1,h2⟩:=st;obtain⟨its1,rv1,ht1,_⟩:=I.list hq1;obtain⟨its2,rv2,ht2,_⟩:=I.list hq2;refine wpAny_pyNext_zip_end (I.ok.hd hc) ap hz hI hO h1 h2 ht1.isList ht2.isList (.inl<|by
   have:=rv1.length;simp;omega) fun h' kk=>⟨rfl,I.turnedW (t':=s.toks) (wr:=[z,TI,TO,i1,i2]) (fun c o hc q=>by
   simp only [qv,List.not_mem_nil,or_false,not_or]at hc;exact kk c o hc.1 hc.2.2.1 hc.2.2.2.1 hc.2.2.2.2 q) hf⟩
 self:=fun _ _ _ _ _ st h=>wpAny_pyIter_zip st.1 h
section
variable {X:Cx} {elts:List Expr} {k:Nat} {tpos:Pos}
def zsi(K:qc)(ta:TA):TI:=fun σ H R=>ta σ H fun vs H1=>∃ a b,vs=[.ref a,.ref b]/\(∃ xs,SqL K H1 a xs)/\(∃ ys,SqL K H1 b ys)/\R (zuy K a b) H1
theorem zk4{a b:Expr}{ta:TA}{p pos:Pos}{K:qc}(ha:Wr (PA X [a,b] ta))(hK:X.K=K:=by rfl)(hg:Gl X "zip":=by exact rfl)(hm:X.mg "zip"=none:=by exact zeE ‹Bl _ _› (by decide))(hs:zK a=true:=by rfl)(hs2:[b].all zK=true:=by rfl) :
  Wr (PI X (.Tuple elts k tpos) (.Call (.Name "zip" p) [a,b] [] pos) (zsi K ta)):=by
 subst hK;refine⟨?_⟩;intro pins s σ H R I h;refine Call_ (zcL I hg hm boot_zip (PyProof.Rows.callWith_type1 (thn (ha.run pos pins s σ H _ I h) fun us s1 hZ=>?_) (zbj hs) (zaZ hs2)));obtain⟨vs,H1,I1,r1,q1⟩:=hZ;obtain⟨t1,t2,e,⟨xs,hq1⟩,⟨ys,hq2⟩,q⟩:=q1;subst e;obtain⟨u1,u2,rfl,ru1,ru2⟩:=zj6 r1;cases ru1;cases ru2;obtain⟨its1,rv1,ht1,hz1⟩:=I1.list hq1;obtain⟨its2,rv2,ht2,hz2⟩:=I1.list hq2;have tl1:t1 < s1.heap.objs.size:=by
  exact ht1.lt
 have tl2:t2 < s1.heap.objs.size:=by
  exact ht2.lt
 have lt_ne:∀ {x y:Nat},x < y->x≠y:=fun h=>qj h;refine call_zip_2 ht1.isList ht2.isList fun h' c1 c2 c3 c4 c5 _ kk=>?_;have hst:zuz (s1.heap.objs.size+4) (s1.heap.objs.size+2) (s1.heap.objs.size+3) s1.heap.objs.size (s1.heap.objs.size+1) t1 t2 0 h':=⟨c1,c2,⟨_,_,c3⟩,c4,c5⟩;have I2:Inv X pins σ H1 { s1 with heap:=h' }:=I1.kept (t':=s1.toks) kk;refine wpAny_pyIter_zip hst.1 ?_;have f:∀ j:Nat,zaq X pins H1 (s1.heap.objs.size+j):=fun j=>I1.fpOk (Nat.le_add_right _ _) (I1.hok.fresh (Nat.le_add_right _ _));have ap:ZipApart (s1.heap.objs.size+4) (s1.heap.objs.size+2) (s1.heap.objs.size+3) s1.heap.objs.size (s1.heap.objs.size+1) t1 t2:=by
  generalize s1.heap.objs.size=n at tl1 tl2;constructor<;>(simp only [Addr]at *; omega)
 refine⟨_,_,_,_,H1,rfl,I2,zgO _ _ _ _ _ t1 t2 ap,hst,fun c hc=>?_,q⟩;simp only [qv,List.not_mem_nil,or_false]at hc;rcases hc with rfl | rfl | rfl | rfl | rfl
 ·exact f 4
 ·exact f 2
 ·exact f 3
 ·exact f 0
 ·exact f 1
end
def zk5:List U->Option (List D)
 | [.d (.list xs),.d (.list ys)]=>if xs.length=ys.length then some (zeZ xs ys)else none
 | _=>none
def zk6(ma:MA):MI:=fun ρ=>(ma ρ).bind fun p=>(zao p.2 p.1).bind fun us=>(zk5 us).bind fun ds=>some (ds,p.2)
theorem zk7{K:qc}{ta:TA}{ma:MA}(h:VAs K ta ma):VI K (zsi K ta) (zk6 ma):=by
 intro ρ σ H ds ρ' R r e q;obtain⟨⟨as,ρ1⟩,e1,e⟩:=zd e;obtain⟨us,eu,e⟩:=zd e;obtain⟨zs,ez,e⟩:=zd e;cases e;refine h ρ σ H as ρ1 _ r e1 fun vs H1 g1 s1=>?_;have rp:=s1.rpl r g1 eu;unfold zk5 at ez;split at ez
 ·split at ez
  rotate_left
  ·cases ez
  rename_i xs ys hl;cases ez;cases rp with
  | cons p1 t =>
   cases t with
   | cons p2 t =>
    cases t;obtain⟨a,vx,rfl,h1,d1⟩:=DF.lst_inv p1;obtain⟨b,vy,rfl,h2,d2⟩:=DF.lst_inv p2;refine⟨a,b,rfl,⟨vx,(PL.sq h1)⟩,⟨vy,(PL.sq h2)⟩,q _ _ g1 fun H2 kk i=>⟨fun d ed=>?_,fun ei=>?_⟩⟩
    ·obtain⟨x,y,ex,ey,rfl⟩:=zdX ed
     obtain⟨v,ev,dv⟩:=(d1.kp kk).get ex;obtain⟨w,ew,dw⟩:=(d2.kp kk).get ey;refine⟨⟨vx,vy,v,w,(PL.kp kk h1).sq,(PL.kp kk h2).sq,ev,ew⟩,fun z H' y=>?_⟩;obtain⟨T,nT,rfl,y⟩:=y;cases y vx vy v w ((PL.kp kk h1).sq) ((PL.kp kk h2).sq) ev ew;have sm:=zC nT (.tup [v,w]);exact⟨sm,.tup (.inl zr) (.cons (dv.kp sm.kp) (.cons (dw.kp sm.kp) .nil))⟩
    ·exact⟨vx,vy,(PL.kp kk h1).sq,(PL.kp kk h2).sq,by rw [zcW _ _ hl]at ei; rw [d1.len]; exact ei.symm⟩
 ·cases ez
section
variable {X:Cx} {K:qc}
end
section
variable {prog:Program} {w:World} {A:Around} {E:Value->Shared->Prop} {s:Shared} {d:Addr} {ep:Nat} {es:Array DictEntry}
end
section
variable {X:Cx}
end
section
variable {K:qc}
end
theorem zuA{α:Type}:∀ {us:List α},us.length=1->∃ a,us=[a]
 | [a],_=>⟨a,rfl⟩
theorem zuB{α:Type}:∀ {us:List α},us.length=2->∃ a b,us=[a,b]
 | [a,b],_=>⟨a,b,rfl⟩
theorem zuC{α:Type}:∀ {us:List α},us.length=3->∃ a b c,us=[a,b,c]
 | [a,b,c],_=>⟨a,b,c,rfl⟩
theorem zwp{α:Type}:∀ {us:List α},us.length=4->∃ a b c d,us=[a,b,c,d]
 | [a,b,c,d],_=>⟨a,b,c,d,rfl⟩
theorem zwq{α:Type}:∀ {us:List α},us.length=5->∃ a b c d e,us=[a,b,c,d,e]
 | [a,b,c,d,e],_=>⟨a,b,c,d,e,rfl⟩
structure Zs where
 P:Program
 w:World
 K:qc
 mg:Str->Option Value
 base:Heap
def FnK(K:qc)(x:Str)(st:Stmt):Prop:=∃ (f:Addr) (fd:FuncData),Fun K x x st f fd/\PySem.W.nsIn K mainGlobals x=some (some (.ref f))
theorem fnK{K:qc}{x:Str}{st:Stmt}{f:Addr}{oc:Value}{od an:Option Addr}{osl:Array (Option Value)}{kV doc pm cdv ct:Value}(a:PySem.W.nsIn K mainGlobals x=some (some (.ref f)))(l:K.lookup f=some ⟨oc,od,.func (PySem.W.fnOf x x (zbw st) (zar st) (zJ st) .none kV doc pm an cdv ct),osl⟩)
  (c:PySem.W.codeIn K cdv x=true) (k:PySem.W.keepIn K (.ref f)=true):FnK K x st:=⟨f,_,zji l c k,a⟩
def FnZ(Z:Zs)(x:Str)(st:Stmt):Prop:=∃ (f:Addr) (fd:FuncData),Fun Z.K x x st f fd/\Z.mg x=some (.ref f)
theorem FnK.z{P:Program}{w:World}{K:qc}{h base:Heap}{mg:Str->Option Value}{x:Str}{st:Stmt}(a:FnK K x st)(X:K.In h)(G:h.Ns mainGlobals mg):FnZ ⟨P,w,K,mg,base⟩ x st:=by
 obtain⟨f,fd,F,g⟩:=a;exact⟨f,fd,F,PySem.W.mg_of X G g⟩
abbrev Zs.C(Z:Zs)(x:Str)(k:Nat)(ps:List Str)(n:Nat)(F:FD):Prop:=Cal Z.P Z.w Z.K Z.mg Z.base x k ps (spV Z.K n F)
abbrev Zs.X(Z:Zs)(x:Str)(k:Nat)(ps:List Str)(n:Nat)(F:FX):Prop:=CalX Z.P Z.w Z.K Z.mg Z.base x k ps (spX Z.K n F)
section
variable {Z:Zs} {x:Str} {st:Stmt} {ps:List Str} {k n nn:Nat} {pn:List Nat} {m:MS} {f:Addr} {fd:FuncData}
abbrev zot(Z:Zs)(x:Str)(st:Stmt)(k:Nat)(pn:List Nat)(m:MS)(N:List Str)(f:Addr):Prop:=∀ {cdv:Value} {A:Around} {outer:List Env} {s:Shared} {H:Hp} {E:XK},N.Nodup->Room k (A.deeper (envOfC x (zJ st) s.heap.objs.size f cdv)) ->
 ∃ t,VS Z.K pn EX0 t m/\Wr (PSs (zgn CX0 Z.P Z.w Z.K Z.mg Z.base N x (zJ st) f cdv A outer s H E).nox (zar st) t)
theorem okZ(F:Fun Z.K x x st f fd)(N:List Str)(hbody:zot Z x st k pn m N f)(S:FnScope N ps (zJ st):=by exact⟨rfl,rfl,rfl,by decide +kernel,rfl,by decide +kernel,by decide +kernel⟩)(hps:ps.length=n:=by rfl)(hN:N.length=nn:=by rfl)(hnn:n<=nn:=by decide) :
  FnOk Z.P Z.w Z.K Z.mg Z.base CX0 (k+1) f fd ps (spV Z.K n (za2 nn pn m)):=F.okV S hps hN hnn fun cdv A outer s H E hr=>let ⟨t,a,b⟩:=hbody S.nd hr; ⟨t,b,a⟩
theorem zbS(A:FnZ Z x st)(N:List Str)(hbody:∀ {f},zot Z x st k pn m N f)(S:FnScope N ps (zJ st):=by exact⟨rfl,rfl,rfl,by decide +kernel,rfl,by decide +kernel,by decide +kernel⟩)(hps:ps.length=n:=by rfl)(hN:N.length=nn:=by rfl)(hnn:n<=nn:=by decide)
  (hb:∀ (kV doc pm:Value) (an:Option Addr) (cdv ct:Value) (us:List Value),us.length=ps.length->bindArgs (PySem.W.fnOf x x (zbw st) (zar st) (zJ st) .none kV doc pm an cdv ct) ⟨us,[]⟩=pure (ps.zip us):=by
   intro _ _ _ _ _ _ us hl
   first
   | (obtain⟨_,rfl⟩:=zuA hl; rfl)
   | (obtain⟨_,_,rfl⟩:=zuB hl; rfl)
   | (obtain⟨_,_,_,rfl⟩:=zuC hl; rfl)
   | (obtain⟨_,_,_,_,rfl⟩:=zwp hl; rfl)
   | (obtain⟨_,_,_,_,_,rfl⟩:=zwq hl; rfl)
   | (cases(List.eq_nil_of_length_eq_zero hl); rfl)):Z.C x (k+1) ps n (za2 nn pn m) :=
 let ⟨f,fd,F,g⟩:=A; ⟨⟨f,fd,okZ F N hbody S hps hN hnn,F.binds hb,F.kp,g⟩⟩
end
theorem ziL{ρ:En}{i:Nat}{u:U}(h:(ρ[i]?).join=some u):ρ[i]?=some (some u):=by
 cases e:ρ[i]? with
 | none=>rw [e]at h; cases h
 | some o =>
  rw [e]at h;cases h;rfl
section
variable {K:qc} {ρ:En} {σ:St} {H:Hp} {js:List Nat} {i:Nat} {a:Addr}
theorem zou{u:U}(r:Rs K ρ σ H)(hi:i∉js)(e:ρ[i]?=some (some u))(o:u.own=true)(es:σ[i]?=some (some (.ref a))):¬zer ρ σ js a:=by
 rintro⟨p,j,w,hp,ej,ow,ej'⟩;cases r.apart i j u w e ej o ow (by rw [es,ej']);exact hi (List.mem_of_getElem? hp)
end
end L2
namespace L2
open PySem
section
variable {α β:Type} {a:α} {f:α->Option β} {R:β->Prop} {t:Ph f}
theorem zsj:Wo (some a) (Co f t R)=Wo (f a) R:=zV
theorem zsk{x:Fl}{Q:Fl->Prop}{P:En->Prop}:Wo (some x) (zfT Q P)=zfT Q P x:=zV
end
end L2
namespace L2
open PySem PySem.Spec PyProof.Rows
section
variable {prog:Program} {w:World} {A:Around} {E:Value->Shared->Prop} {h:Heap} {g:Array GenState} {d:Drawn} {t:Nat} {os:OsState} {a:Addr} {items:Array Value} {n:Nat} {sl:Array (Option Value)}
end
section
variable {X:Cx} {pins:List (Addr×Obj)} {σ:St} {H:Hp} {A:Around} {D it a:Addr} {xs:List V} {kvs:List (List Key×V)} {R:Result->Shared->Prop}
end
section
variable {X:Cx}
end
end L2
namespace L2
open PySem PySem.Spec
def Tt(b:Bool):Prop:=b=true
theorem zsl{b:Bool}(h:b=true):Tt b:=h
def bnd(ρ:En)(i:Nat):Bool:=((ρ[i]?).join).isSome
def gt(ρ:En)(i:Nat):U:=((ρ[i]?).join).getD (.d .none)
theorem zwr{ρ:En}{i:Nat}:gt ρ i=((ρ[i]?).join).getD (.d .none):=rfl
theorem zws{u v:U}:(some u:Option U).getD v=u:=rfl
theorem zk8{ρ:En}{i:Nat}(h:bnd ρ i=true):(ρ[i]?).join=some (gt ρ i):=by
 unfold bnd at h;unfold gt;cases e:(ρ[i]?).join with
 | none=>rw [e]at h; cases h
 | some u=>rfl
def arB(ρ:En):Ar->Bool
 | .s i=>bnd ρ i
 | .u _=>true
def ag(ρ:En):Ar->U
 | .s i=>gt ρ i
 | .u x=>x
theorem zwt{ρ:En}{i:Nat}:ag ρ (.s i)=gt ρ i:=rfl
theorem zwu{ρ:En}{x:U}:ag ρ (.u x)=x:=rfl
theorem zfk{ρ:En}{a:Ar}(h:arB ρ a=true):a.get ρ=some (ag ρ a):=by
 cases a with
 | s i=>exact zk8 h
 | u x=>rfl
def gs(ρ:En)(as:List Ar):List U:=as.map (ag ρ)
theorem zwv{ρ:En}:gs ρ []=[]:=rfl
theorem zww{ρ:En}{a:Ar}{as:List Ar}:gs ρ (a::as)=ag ρ a::gs ρ as:=rfl
theorem zjK{ρ:En}:∀ {as:List Ar},as.all (arB ρ)=true->zao ρ as=some (gs ρ as)
 | [],_=>rfl
 | a::as,h=>by
  rw [List.all_cons,Bool.and_eq_true_iff]at h;rw [zes,zfk h.1,bd,zjK h.2];rfl
def Sta{α:Type}(m:En->Option α)(ρ:En):Option α:=m ρ
def Cu(ρ:En)(t:Ph ρ)(Q:Ar×En->Prop)(u:U):Prop:=Q (.u u,ρ)
def Cw(ρ:En)(as:List Ar)(t:Ph ρ)(Q:Ar×En->Prop)(o:U×List U):Prop:=Q (.u o.1,wb ρ as o.2)
def kUn(f:U->Option U)(p:Ar×En):Option (Ar×En):=(p.1.get p.2).bind fun x=>(f x).bind fun u=>some (.u u,p.2)
def zsm(mA:MA)(p:Ar×En):Option (List Ar×En):=(mA p.2).bind fun q=>some (p.1::q.1,q.2)
def zov(a:Ar)(q:List Ar×En):Option (List Ar×En):=some (a::q.1,q.2)
def kCB(f:List U->Option U)(p:List Ar×En):Option (Ar×En):=(zao p.2 p.1).bind fun us=>(f us).bind fun u=>some (.u u,p.2)
def zq6(f:FD)(p:List Ar×En):Option (Ar×En):=if zcH p.2 p.1=true then(zao p.2 p.1).bind fun us=>(f us).bind fun o=>some (.u o.1,wb p.2 p.1 o.2)else none
def zuD(i:Nat)(p:Ar×En):Option Fl:=(put p).bind fun q=>some (.nx (q.2.set i (some q.1)))
def kB(p:Ar×En):Option (Bool×En):=(p.1.get p.2).bind fun u=>u.bol.bind fun b=>some (b,p.2)
def kIf(m1 m2:MS)(p:Bool×En):Option Fl:=if p.1=true then m1 p.2 else m2 p.2
def zow(p:Ar×En):Option Fl:=some (.nx p.2)
section
variable {α β γ:Type} {ρ:En} {ma mb me:ME} {mA:MA} {mt:MT} {m1 m2:MS} {i j:Nat} {u x y:U} {d:D} {a b:Ar} {as:List Ar} {f:U->Option U} {f2:U->U->Option U} {fl:List U->Option U} {F:FD}
variable {QE:Ar×En->Prop} {QA:List Ar×En->Prop} {QT:Bool×En->Prop} {QS:Fl->Prop}
theorem zsn{m:En->Option α}{Q:α->Prop}:Wo (Sta m ρ) Q=Wo (m ρ) Q:=rfl
theorem zso{g:Ar×En->Option β}{t:Ph ρ}{t2:Ph g}{R:β->Prop}:Cu ρ t (Co g t2 R) u=Wo (g (.u u,ρ)) R:=rfl
theorem zox{g:Ar×En->Option β}{t:Ph g}{R:β->Prop}(h:Tt (bnd ρ i)):Wo (zk i ρ) (Co g t R)=Wo (g (.s i,ρ)) R:=by
 rw [zjy,zk8 h,zV,zbL,zV];rfl
theorem zwx{g:Ar×En->Option β}{t:Ph g}{R:β->Prop}:Wo (mC d ρ) (Co g t R)=Wo (g (.u (.d d),ρ)) R:=zun
theorem zk9(h:Tt (arB ρ a && arB ρ b)):Wo (zqW f2 a (b,ρ)) QE=Wo (f2 (ag ρ a) (ag ρ b)) (Cu ρ ⟨0⟩ QE):=by
 obtain⟨h1,h2⟩:=Bool.and_eq_true_iff.mp h;unfold zqW;rw [zfk h1,bd,zfk h2,bd,zp];exact congrArg (Wo _) (funext fun _=>zV)
theorem zsp:Wo (mUn f ma ρ) QE=Wo (ma ρ) (Co (kUn f) ⟨0⟩ QE):=zwl
theorem zoy(h:Tt (arB ρ a)):Wo (kUn f (a,ρ)) QE=Wo (f (ag ρ a)) (Cu ρ ⟨0⟩ QE):=by
 unfold kUn;rw [zfk h,bd,zp];exact congrArg (Wo _) (funext fun _=>zV)
theorem zla:Wo (zf me mA ρ) QA=Wo (me ρ) (Co (zsm mA) ⟨0⟩ QA):=zqX
theorem ziM:Wo (zsm mA (a,ρ)) QA=Wo (mA ρ) (Co (zov a) ⟨0⟩ QA):=zp
theorem zgP{g:List Ar×En->Option β}{t:Ph g}{R:β->Prop}:Wo (zov a (as,ρ)) (Co g t R)=Wo (g (a::as,ρ)) R:=zV
theorem zoz{g:List Ar×En->Option β}{t:Ph g}{R:β->Prop}:Wo (zt ρ) (Co g t R)=Wo (g ([],ρ)) R:=zjz
theorem zsq:Wo (mCB fl mA ρ) QE=Wo (mA ρ) (Co (kCB fl) ⟨0⟩ QE):=zwm
theorem zoA(h:Tt (as.all (arB ρ))):Wo (kCB fl (as,ρ)) QE=Wo (fl (gs ρ as)) (Cu ρ ⟨0⟩ QE):=by
 unfold kCB;rw [zjK h,bd,zp];exact congrArg (Wo _) (funext fun _=>zV)
theorem zoB:Wo (z8 F mA ρ) QE=Wo (mA ρ) (Co (zq6 F) ⟨0⟩ QE):=zuo
theorem zlb(h:Tt (zcH ρ as && as.all (arB ρ))):Wo (zq6 F (as,ρ)) QE=Wo (F (gs ρ as)) (Cw ρ as ⟨0⟩ QE):=by
 obtain⟨h1,h2⟩:=Bool.and_eq_true_iff.mp h;unfold zq6;rw [if_pos h1,zjK h2,bd,zp];exact congrArg (Wo _) (funext fun _=>zV)
theorem zsr{us:List U}{g:Ar×En->Option β}{t:Ph ρ}{t2:Ph g}{R:β->Prop}:Cw ρ as t (Co g t2 R) (u,us)=Wo (g (.u u,wb ρ as us)) R:=rfl
theorem zoC:Wo (zae i me ρ) QS=Wo (me ρ) (Co (zuD i) ⟨0⟩ QS):=zup
theorem zlc{t:Ph (zfQ m2)}:Wo (zuD i (.u u,ρ)) (Co (zfQ m2) t QS)=Wo (Sta m2 (ρ.set i (some u))) QS:=zV
theorem zwy:Wo (mB me ρ) QT=Wo (me ρ) (Co kB ⟨0⟩ QT):=zxe
theorem zss{c:Bool}{g:Bool×En->Option β}{t:Ph g}{R:β->Prop}:Wo (kB (.u (.d (.bool c)),ρ)) (Co g t R)=Wo (g (c,ρ)) R:=zV
theorem zoD:Wo (zbR mt m1 m2 ρ) QS=Wo (mt ρ) (Co (kIf m1 m2) ⟨0⟩ QS):=zuq
theorem zoE:Wo (kIf m1 m2 (true,ρ)) QS=Wo (m1 ρ) QS:=rfl
theorem zoF:Wo (kIf m1 m2 (false,ρ)) QS=Wo (m2 ρ) QS:=rfl
theorem zld:Wo (zct me ρ) QS=Wo (me ρ) (Co zow ⟨0⟩ QS):=zqY
theorem ziN{t:Ph (zfQ m2)}:Wo (zow (a,ρ)) (Co (zfQ m2) t QS)=Wo (Sta m2 ρ) QS:=zV
theorem zle{t:Ph (zfQ m2)}:Wo (za0 ρ) (Co (zfQ m2) t QS)=Wo (Sta m2 ρ) QS:=zhv
theorem zlf{p:List Ar×En}:zq6 F p=if zcH p.2 p.1=true then(zao p.2 p.1).bind fun us=>(F us).bind fun o=>some (.u o.1,wb p.2 p.1 o.2)else none:=rfl
theorem zlg{p:Ar×En}:zuD i p=(put p).bind fun q=>some (.nx (q.2.set i (some q.1))):=rfl
theorem zst{p:Ar×En}:kB p=(p.1.get p.2).bind fun u=>u.bol.bind fun b=>some (b,p.2):=rfl
theorem zoG{p:Bool×En}:kIf m1 m2 p=if p.1=true then m1 p.2 else m2 p.2:=rfl
theorem ziO{p:Ar×En}:zow p=some (.nx p.2):=rfl
end
end L2
namespace L2
open PySem PySem.Spec PyProof.Rows
section
variable {K:Type} [DecidableEq K] {prog:Program} {w:World} {knd:HeapKind prog w K} {A:Around} {E:Value->Shared->Prop} {s:Shared}
end
section
variable {X:Cx} {pins:List (Addr×Obj)} {σ:St} {H:Hp} {s:Shared} {a b:Addr} {A:Around} {E:Value->Shared->Prop}
end
section
variable {EX:EXT} {K:qc} {pn:List Nat} {H:Hp}
end
section
variable {ρ:En} {my:ME} {i:Nat} {QS:Fl->Prop}
end
section
variable {P:Program} {w:World} {K:qc} {H:Hp} {h:Heap} {a:Addr}
theorem TpK.obj{vs:List V}(kin:K.In h)(ok:HOk P w K H h)(e:TpK K H a vs):∃ o items n,h.get? a=some o/\o.cls=.type "tuple"/\o.data=.seq items n/\zE vs items.toList:=by
 rcases e with e | ⟨o,its,n,hk,hc,hs,_,r,_⟩
 case inr=>exact⟨o,its,n,kin a o hk,hc,hs,r⟩
 obtain⟨_,its,r,o,h1,h2,⟨n,h3⟩,_⟩:=(show zP P w K H h a (.tup vs) from ok a _ e);exact⟨o,its.toArray,n,h1,h2,h3,by simpa using r⟩
theorem zwz:∀ {ks:List Key} {us:List Value},zE (ks.map kV) us->ItsAre (ikK P w) h ks us
 | [],_,r=>by rw [List.map_nil]at r; cases r; exact .nil
 | k::ks,_,r=>by
  rw [List.map_cons]at r;cases r with
  | cons h t=>exact .cons (zh8 h) (zwz t)
theorem N0.is{ks:List Key}(kin:K.In h)(ok:HOk P w K H h)(e:N0 K H ks a):zbQ (ikK P w) h ks a:=by
 obtain⟨o,its,n,h1,h2,h3,r⟩:=TpK.obj kin ok e;exact⟨o,its,n,h1,h2,h3,zwz r⟩
theorem zwA{J:Type}[DecidableEq J]{I:IK P w J}{R:List J->Addr->Prop}(hR:∀ ks b,R ks b->zbQ I h ks b):∀ {xs:List (Key ⊕ List J)} {vs:List V} {us:List Value},Paired (NI R) xs vs->zE vs us->ItsAre (ikT I) h xs us
 | [],_,_,p,r=>by cases p; cases r; exact .nil
 | x::xs,_,_,p,r=>by
  cases p with
  | @cons _ v _ vs' hx t =>
   cases r with
   | cons rv rt =>
    refine .cons ?_ (zwA hR t rt);cases x with
    | inl k=>cases(show v=kV k from hx); exact zh8 rv
    | inr ks =>
     obtain⟨b,rfl,hb⟩:=(show ∃ b,v=.ref b/\R ks b from hx);cases rv;exact⟨b,rfl,hR ks b hb⟩
theorem Nst.is{J:Type}[DecidableEq J]{I:IK P w J}{R:List J->Addr->Prop}{xs:List (Key ⊕ List J)}(kin:K.In h)(ok:HOk P w K H h)(hR:∀ ks b,R ks b->zbQ I h ks b)(e:Nst K H R xs a):zbQ (ikT I) h xs a:=by
 obtain⟨vs,e1,e2⟩:=e;obtain⟨o,its,n,h1,h2,h3,r⟩:=TpK.obj kin ok e1;exact⟨o,its,n,h1,h2,h3,zwA hR e2 r⟩
theorem N3.is{xs:List K3}(kin:K.In h)(ok:HOk P w K H h)(e:N3 K H xs a):(zhU P w).is h xs a :=
 Nst.is kin ok (fun _ _ e=>Nst.is kin ok (fun _ _ e=>Nst.is kin ok (fun _ _ e=>N0.is kin ok e) e) e) e
end
abbrev KX(K:qc)(H:Hp):List (List K3×V)->List (List K3×Addr×Value)->Prop:=Paired fun p q=>p.1=q.1/\N3 K H p.1 q.2.1/\zI p.2 q.2.2
section
variable {K:qc} {H H':Hp} {kvs:List (List K3×V)} {xs:List (List K3×Addr×Value)}
theorem KX.val(r:KX K H kvs xs)(k:List K3):zcD (zbu kvs k) ((atKey xs k).map (·.2)):=by
 induction r with
 | nil=>exact True.intro
 | @cons p q ps qs h t ih =>
  obtain⟨h1,_,h2⟩:=h
  by_cases e:p.1=k
  ·have e':q.1=k:=h1.symm.trans e
   have b:atKey (q::qs) k=some q.2:=by simp [atKey,List.find?_cons,e']
   rw [zdJ e,b]; exact h2
  ·have e':¬q.1=k:=fun z=>e (h1.trans z)
   have b:atKey (q::qs) k=atKey qs k:=by simp [atKey,List.find?_cons,e']
   rw [zdK e,b]; exact ih
theorem KX.repl(r:KX K H kvs xs)(k:List K3){y:V}{u:Value}(ry:zI y u) :
  KX K H (kvs.map fun kv=>if kv.1=k then(kv.1,y)else kv) (xs.map (putAt k u)):=by
 induction r with
 | nil=>exact .nil
 | @cons p q ps qs h t ih =>
  rw [List.map_cons,List.map_cons];refine .cons ?_ ih;obtain⟨h1,h2,h3⟩:=h;unfold putAt
  by_cases e:p.1=k
  ·rw [if_pos e,if_pos (h1.symm.trans e)]; exact⟨h1,h2,ry⟩
  ·rw [if_neg e,if_neg (fun z=>e (h1.trans z))]; exact⟨h1,h2,h3⟩
theorem KX.put(r:KX K H kvs xs)(k:List K3){b:Addr}{y:V}{u:Value}(hb:N3 K H k b)(ry:zI y u):KX K H (zcj kvs k y) (storedH xs k b u):=by
 have e:(kvs.any fun kv=>decide (kv.1=k))=(atKey xs k).isSome:=by
  rw [zfv,(r.val k).isSome_eq,Option.isSome_map]
 unfold zcj storedH;rw [e]
 by_cases q:(atKey xs k).isSome=true
 ·rw [if_pos q,if_pos q]; exact r.repl k ry
 ·rw [if_neg q,if_neg q]; exact Paired.snoc r ⟨rfl,hb,ry⟩
theorem KX.keeps(r:KX K H kvs xs)(ht:∀ b ys,H b=some (.tup ys)->H' b=some (.tup ys)):KX K H' kvs xs:=Paired.mapP r fun _ _ z=>⟨z.1,z.2.1.keeps ht,z.2.2⟩
end
theorem zlh{P:Program}{w:World}{K:qc}{H:Hp}{h:Heap}{a:Addr}{kvs:List (List K3×V)}(kin:K.In h)(ok:HOk P w K H h)(e:H a=some (.dX kvs)):kvs.length<=sizeLine/\(a==sysModules)=false /\
  ∃ xs,KX K H kvs xs/\h.DictOfH (zhU P w) a xs:=by
 obtain⟨z,y,xs,r,o,es,ep,h1,h2,h3,h4,h5⟩:=(show zP P w K H h a (.dX kvs) from ok a _ e);refine⟨z,y,xs,r,o,es,ep,h1,h2,h3,h4,fun x hx=>?_,h5⟩;have all:∀ {l:List (List K3×V)} {m:List (List K3×Addr×Value)},KX K H l m->∀ x∈m,(zhU P w).is h x.1 x.2.1:=by
  intro l m q
  induction q with
  | nil=>intro x hx; exact nomatch hx
  | @cons p q ps qs hq t ih =>
   intro x hx;rcases qv.mp hx with e | hx
   ·subst e
    exact N3.is kin ok (by rw [<-hq.1]; exact hq.2.1)
   ·exact ih x hx
 exact all r x hx
theorem zjL{A:Around}{P:Program}{w:World}(hu:A.units+5 < cLine):(zhU P w).room A.in1:=by
 show A.units+1+(3+1) < cLine;omega
def DGX(K:qc)(H:Hp)(a:Addr)(y:V)(r:Option V):Prop:=∃ kvs k b,H a=some (.dX kvs)/\y=.ref b/\N3 K H k b/\r=zbu kvs k
def DPX(K:qc)(H:Hp)(a:Addr)(y v:V)(H':Hp):Prop:=∃ kvs k b,H a=some (.dX kvs)/\y=.ref b/\N3 K H k b/\kvs.length < sizeLine/\H'=upd H a (.dX (zcj kvs k v))
section
variable {X:Cx} {pins:List (Addr×Obj)} {σ:St} {H:Hp} {s:Shared} {a:Addr} {y v:V} {o:Option V} {u r:Value} {A:Around} {E:Value->Shared->Prop}
theorem zmg{Q:Value->Shared->Prop}(hu:A.units+5 < cLine)(I:Inv X pins σ H s)(g:DGX X.K H a y (some v))(ry:zI y u)(h:∀ w' s',Inv X pins σ H s'->zI v w'->Q w' s') :
  wpAny (model X.prog X.w) A (getItem (.ref a) u) Q E s:=by
 obtain⟨kvs,k,b,e,rfl,eb,l⟩:=g;cases(show u=Value.ref b from ry);obtain⟨z,hd,xs,rel,dd⟩:=zlh I.kIn I.hok e;obtain⟨w',hw,rw'⟩:=zcD.some_of (v:=v) (o:=(atKey xs k).map (·.2)) (by rw [l]; exact rel.val k);obtain⟨p,hp,hp2⟩:=qr.mp hw;refine wpAny_getItem_heap (zjL hu) (N3.is I.kIn I.hok eb) dd hp ?_;rw [hp2];exact h w' _ (I.tok _) rw'
theorem zq7{Q:Value->Shared->Prop}(hu:A.units+5 < cLine)(I:Inv X pins σ H s)(g:DGX X.K H a y o)(ry:zI y u)(h:∀ s',Inv X pins σ H s'->Q (.bool (!o.isSome)) s') :
  wpAny (model X.prog X.w) A (compareOp .NotIn u (.ref a)) Q E s:=by
 obtain⟨kvs,k,b,e,rfl,eb,l⟩:=g;cases(show u=Value.ref b from ry);obtain⟨z,hd,xs,rel,dd⟩:=zlh I.kIn I.hok e;refine wpAny_notIn_heap (zjL hu) (N3.is I.kIn I.hok eb) hd dd ?_;have q:=(rel.val k).isSome_eq;rw [Option.isSome_map]at q;rw [<-q,<-l];exact h _ (I.tok _)
theorem zmh{H':Hp}{Q:Unit->Shared->Prop}(hu:A.units+5 < cLine)(I:Inv X pins σ H s)(g:DPX X.K H a y v H')(ry:zI y u)(rv:zI v r)(h:∀ s',Inv X pins σ H' s'->Q () s') :
  wpAny (model X.prog X.w) A (setItem (.ref a) u r) Q E s:=by
 obtain⟨kvs,k,b,e,rfl,eb,l,rfl⟩:=g;cases(show u=Value.ref b from ry);obtain⟨z,hd,xs,rel,dd⟩:=zlh I.kIn I.hok e;have hz:xs.length<=sizeLine:=by rw [<-Paired.length rel]; exact z
 have hl:(zcj kvs k v).length<=sizeLine:=by have:=zcO kvs k v; omega
 refine wpAny_setItem_heap (hsz:=hz) (zjL hu) (N3.is I.kIn I.hok eb) dd fun h' dd' hs=>h _ ?_;obtain⟨q,es,ep,hq,h2,h3,h4,_,h5⟩:=dd';refine ze7 I (by rw [e]; exact True.intro) hs ⟨q,hq⟩ ⟨hl,hd,_,(rel.put k eb rv).keeps fun c ys ec=>?_,q,es,ep,hq,h2,h3,h4,h5⟩;rw [zq (zfp ec e (fun z=>nomatch z))];exact ec
end
structure Re (K:qc) (H H':Hp):Prop where
 hok:∀ (P:Program) (w:World) (h:Heap),HOk P w K H h->HOk P w K H' h
 non:∀ b,H b=none->H' b=none
 tup:∀ b xs,H b=some (.tup xs)->H' b=some (.tup xs)
 frz:∀ b o u,H b=some (.frz o u)->H' b=some (.frz o u)
 tbl:∀ b ps,H b=some (.tbl ps)->H' b=some (.tbl ps)
theorem Re.refl(K:qc)(H:Hp):Re K H H:=⟨fun _ _ _ h=>h,fun _ h=>h,fun _ _ h=>h,fun _ _ _ h=>h,fun _ _ h=>h⟩
theorem Inv.re{X:Cx}{pins:List (Addr×Obj)}{σ:St}{H H':Hp}{s:Shared}(I:Inv X pins σ H s)(r:Re X.K H H'):Inv X pins σ H' s :=
 I.un (h':=s.heap) (t':=s.toks) ⟨fun _ _ e _ _ _=>e,fun _ o e _ _ _=>⟨o.slots,e⟩,fun b _ _ e _=>r.non b e,fun _ o e _=>⟨o,e⟩,r.tup,r.frz,fun b ps e=>⟨#[],by rw [r.tbl b ps e]; simp⟩⟩ (r.hok _ _ _ I.hok)
def tRe(K:qc)(t:TE):TE:=fun σ H Q=>∃ H1,Re K H H1/\t σ H1 fun v H2=>∃ H3,Re K H2 H3/\Q v H3
theorem zuE{X:Cx}{e:Expr}{t:TE}(h:Wr (PE X e t)):Wr (PE X e (tRe X.K t)):=⟨fun pins s σ H Q I q=>by
 obtain⟨H1,r1,q⟩:=q;refine thn (h.run pins s σ H1 _ (I.re r1) q) fun u s1 z=>?_;obtain⟨v,H2,I2,rv,H3,r3,z⟩:=z;exact⟨v,H3,I2.re r3,rv,z⟩⟩
def zuF(ps:List (Addr×HO))(H:Hp):Hp:=fun b=>((ps.find? fun q=>decide (q.1=b)).map (·.2)).or (H b)
def opn(H:Hp)(a C dx:Addr)(vs:List (Str×V))(ps:List (Addr×HO)):Hp:=upd (zuF ps H) a (.ins C dx vs)
def zuG(a:Addr)(ps:List (Addr×HO))(H:Hp):Hp:=fun b=>if(ps.any fun q=>decide (q.1=b))=true then some (.own a)else H b
def sht(H:Hp)(a C dx:Addr)(vs:List (Str×V))(ps:List (Addr×HO)):Hp:=upd (zuG a ps H) a (chn C dx vs ps)
section
variable {K:qc} {H:Hp} {a C dx:Addr} {vs:List (Str×V)} {ps:List (Addr×HO)}
theorem zoH{P:Program}{w:World}{h:Heap}:∀ {ps:List (Addr×HO)},zP P w K H h a (chn C dx vs ps)->zP P w K H h a (.ins C dx vs)/\∀ q∈ps,H q.1=some (.own a)/\q.1≠a/\q.2.flat=true/\zP P w K H h q.1 q.2
 | [],x=>⟨x,fun q hq=>by cases hq⟩
 | (b,p)::ps,x=>by
  obtain⟨y,e,n,f,o⟩:=(show zP P w K H h a (.sub b p (chn C dx vs ps)) from x);obtain⟨z,t⟩:=zoH y;refine⟨z,fun q hq=>?_⟩;rcases qv.mp hq with rfl | hq
  ·exact⟨e,n,f,o⟩
  ·exact t q hq
theorem zoI{P:Program}{w:World}{h:Heap}:∀ {ps:List (Addr×HO)},zP P w K H h a (.ins C dx vs)->(∀ q∈ps,H q.1=some (.own a)/\q.1≠a/\q.2.flat=true/\zP P w K H h q.1 q.2)->zP P w K H h a (chn C dx vs ps)
 | [],x,_=>x
 | (b,p)::ps,x,t=>by
  obtain⟨e,n,f,o⟩:=t (b,p) qp;exact⟨zoI x fun q hq=>t q (qo _ hq),e,n,f,o⟩
theorem zq8{b:Addr}{p:HO}(nd:(ps.map (·.1)).Nodup)(h:(b,p)∈ps):(ps.find? fun q=>decide (q.1=b))=some (b,p):=by
 induction ps with
 | nil=>cases h
 | cons q ps ih =>
  rw [List.map_cons,List.nodup_cons]at nd;rcases qv.mp h with rfl | h
  ·rw [List.find?_cons_of_pos (by simp)]
  ·rw [List.find?_cons_of_neg (by
    have:q.1≠b:=fun e=>nd.1 (e▸List.mem_map.mpr ⟨(b,p),h,rfl⟩);simpa using this)]
   exact ih nd.2 h
theorem zdG{b:Addr}{p:HO}(nd:(ps.map (·.1)).Nodup)(h:(b,p)∈ps)(n:b≠a):opn H a C dx vs ps b=some p:=by
 unfold opn;rw [zq n];unfold zuF;rw [zq8 nd h];rfl
theorem zbz:opn H a C dx vs ps a=some (.ins C dx vs):=zr
theorem zbm{b:Addr}(h:b∉ps.map (·.1))(n:b≠a):opn H a C dx vs ps b=H b:=by
 unfold opn;rw [zq n];unfold zuF;rw [List.find?_eq_none.mpr fun q hq=>by
  have:q.1≠b:=fun e=>h (e▸List.mem_map.mpr ⟨q,hq,rfl⟩);simpa using this]
 rfl
theorem zew{b:Addr}(h:b∈ps.map (·.1))(n:b≠a):sht H a C dx vs ps b=some (.own a):=by
 unfold sht;rw [zq n];unfold zuG;obtain⟨q,hq,e⟩:=List.mem_map.mp h;rw [if_pos (List.any_eq_true.mpr ⟨q,hq,decide_eq_true e⟩)]
theorem zcX:sht H a C dx vs ps a=some (chn C dx vs ps):=zr
theorem zbM{b:Addr}(h:b∉ps.map (·.1))(n:b≠a):sht H a C dx vs ps b=H b:=by
 unfold sht;rw [zq n];unfold zuG;rw [if_neg fun z=>?_];obtain⟨q,hq,e⟩:=List.any_eq_true.mp z;exact h (List.mem_map.mpr ⟨q,hq,of_decide_eq_true e⟩)
theorem zmi(w:∀ q∈ps,H q.1=some (.own a))(b:Addr):b=a\/(∃ p,(b,p)∈ps)\/(b∉ps.map (·.1)/\b≠a):=by
 by_cases h1:b=a
 ·exact .inl h1
 ·by_cases h2:b∈ps.map (·.1)
  ·obtain⟨⟨c,p⟩,hq,e⟩:=List.mem_map.mp h2
   cases(show c=b from e);exact .inr (.inl ⟨p,hq⟩)
  ·exact .inr (.inr ⟨h2,h1⟩)
theorem zli(n:ps≠[]):(∀ x,chn C dx vs ps≠.own x)/\(∀ x,chn C dx vs ps≠.tup x)/\(∀ o u,chn C dx vs ps≠.frz o u)/\∀ x,chn C dx vs ps≠.tbl x:=by
 cases ps with
 | nil=>exact absurd rfl n
 | cons q r=>exact⟨(fun x z=>by cases z),(fun x z=>by cases z),(fun x y z=>by cases z),(fun x z=>by cases z)⟩
theorem zuH(e:H a=some (chn C dx vs ps))(n:ps≠[])(nd:(ps.map (·.1)).Nodup)(d:dx∉ps.map (·.1))(w:∀ q∈ps,H q.1=some (.own a)):Re K H (opn H a C dx vs ps):=by
 obtain⟨m1,m2,m3,m4⟩:=zli (C:=C) (dx:=dx) (vs:=vs) n;have pa:∀ q∈ps,q.1≠a:=fun q hq z=>by
  have:=w q hq;rw [z,e]at this;exact m1 _ (qx this)
 have keep:∀ b o,H b=some o->(∀ x,o≠.own x)->b≠a->opn H a C dx vs ps b=some o:=fun b o hb no nb=>by
  rw [zbm (fun z=>?_) nb]
  ·exact hb
  ·obtain⟨q,hq,eq⟩:=List.mem_map.mp z
   have:=w q hq;rw [eq,hb]at this;exact no _ (qx this)
 have ow:∀ b c,c≠a->H b=some (.own c)->opn H a C dx vs ps b=some (.own c):=fun b c nc hb=>by
  rw [zbm (fun z=>?_) (fun z=>?_)]
  ·exact hb
  ·obtain⟨q,hq,eq⟩:=List.mem_map.mp z
   have:=w q hq;rw [eq,hb]at this;cases this;exact nc rfl
  ·rw [z,e]at hb
   exact m1 _ (qx hb)
 have tp:∀ b xs,H b=some (.tup xs)->opn H a C dx vs ps b=some (.tup xs):=fun b xs hb=>keep b _ hb (fun x z=>by cases z) fun z=>by
  rw [z,e]at hb;exact m2 _ (qx hb)
 refine⟨fun P w' h ok b o hb=>?_,fun b hb=>?_,tp,fun b o u hb=>keep b _ hb (fun x z=>by cases z) fun z=>?_,fun b ps' hb=>keep b _ hb (fun x z=>by cases z) fun z=>?_⟩
 ·obtain⟨x,t⟩:=zoH (ok a _ e)
  rcases zmi w b with rfl | ⟨p,hp⟩ | ⟨h1,h2⟩
  ·rw [zbz]at hb
   cases hb;obtain⟨x1,x2,x3,x4,mA,⟨od,es,ep,x5,x6⟩,x7⟩:=(show zP P w' K H h b (.ins C dx vs) from x);refine⟨?_,x2,x3,x4,mA,⟨od,es,ep,x5,x6⟩,x7⟩;rw [zbm d x3];exact x1
  ·rw [zdG nd hp (pa _ hp)]at hb
   cases hb;obtain⟨_,_,f,y⟩:=t (b,o) hp;exact y.stayF f (fun _ z=>z) tp
  ·rw [zbm h1 h2]at hb
   exact(ok b o hb).stay (fun _ _ _ z=>z) (fun c hc=>ow c b h2 hc) tp
 ·rw [zbm (fun z=>?_) (fun z=>?_)]
  ·exact hb
  ·obtain⟨q,hq,eq⟩:=List.mem_map.mp z
   have:=w q hq;rw [eq,hb]at this;cases this
  ·rw [z,e]at hb
   cases hb
 ·rw [z,e]at hb
  exact m3 _ _ (qx hb)
 ·rw [z,e]at hb
  exact m4 _ (qx hb)
theorem zjM{P:Program}{w:World}{h:Heap}{b:Addr}{p:HO}(x:zP P w K H h b p)(f:p.flat=true):∃ o,h.get? b=some o:=by
 cases p with
 | lst xs=>obtain⟨_,_,_,_,e⟩:=x; exact⟨_,e⟩
 | dK kvs=>obtain⟨_,_,_,_,o,_,_,e,_⟩:=x; exact⟨o,e⟩
 | dT kvs=>obtain⟨_,_,_,_,o,_,_,e,_⟩:=x; exact⟨o,e⟩
 | dX kvs=>obtain⟨_,_,_,_,o,_,_,e,_⟩:=x; exact⟨o,e⟩
 | _=>cases f
theorem zhC(e:H a=some (.ins C dx vs))(pa:∀ q∈ps,q.1≠a)(w:∀ q∈ps,H q.1=some q.2/\q.2.flat=true):Re K H (sht H a C dx vs ps):=by
 have part:∀ b o,H b=some o->b∈ps.map (·.1)->o.flat=true:=fun b o hb hm=>by
  obtain⟨q,hq,eq⟩:=List.mem_map.mp hm;obtain⟨h1,h2⟩:=w q hq;rw [eq,hb]at h1;cases h1;exact h2
 have keep:∀ b o,H b=some o->o.flat=false->b≠a->sht H a C dx vs ps b=some o:=fun b o hb no nb=>by
  rw [zbM (fun z=>?_) nb]
  ·exact hb
  ·rw [part b o hb z]at no
   cases no
 have ow:∀ b c,H b=some (.own c)->sht H a C dx vs ps b=some (.own c):=fun b c hb=>keep b _ hb rfl fun z=>by
  rw [z,e]at hb;cases hb
 have tp:∀ b xs,H b=some (.tup xs)->sht H a C dx vs ps b=some (.tup xs):=fun b xs hb=>keep b _ hb rfl fun z=>by
  rw [z,e]at hb;cases hb
 refine⟨fun P w' h ok b o hb=>?_,fun b hb=>?_,tp,fun b o u hb=>keep b _ hb rfl fun z=>?_,fun b ps' hb=>keep b _ hb rfl fun z=>?_⟩
 ·by_cases h1:b=a
  ·subst h1
   rw [zcX]at hb;cases hb;refine zoI ?_ fun q hq=>?_
   ·exact(ok b _ e).stay (fun _ _ _ z=>z) (fun c hc=>ow c b hc) tp
   ·obtain⟨h2,h3⟩:=w q hq
    exact⟨zew (List.mem_map.mpr ⟨q,hq,rfl⟩) (pa q hq),pa q hq,h3,(ok _ _ h2).stayF h3 (fun _ z=>z) tp⟩
  ·by_cases h2:b∈ps.map (·.1)
   ·rw [zew h2 h1]at hb
    cases hb;obtain⟨q,hq,eq⟩:=List.mem_map.mp h2;obtain⟨h3,h4⟩:=w q hq;rw [<-eq];exact zjM (ok _ _ h3) h4
   ·rw [zbM h2 h1]at hb
    exact(ok b o hb).stay (fun _ _ _ z=>z) (fun c hc=>ow c b hc) tp
 ·rw [zbM (fun z=>?_) (fun z=>?_)]
  ·exact hb
  ·obtain⟨q,hq,eq⟩:=List.mem_map.mp z
   have:=(w q hq).1;rw [eq,hb]at this;cases this
  ·rw [z,e]at hb
   cases hb
 ·rw [z,e]at hb
  cases hb
 ·rw [z,e]at hb
  cases hb
end
def zwB(K:qc)(r:V->List V->Hp->VK->Prop):V->List V->Hp->VK->Prop:=fun x xs H Q=>∃ H1,Re K H H1/\r x xs H1 fun v H2=>∃ H3,Re K H2 H3/\Q v H3
theorem zsu{X:Cx}{id:String}{r:V->List V->Hp->VK->Prop}(h:MtM X id r):MtM X id (zwB X.K r):=fun pins s σ H x xs v us Q I rx rs q=>by
 obtain⟨H1,r1,q⟩:=q;refine thn (h pins s σ H1 x xs v us _ (I.re r1) rx rs q) fun u s1 z=>?_;obtain⟨y,H2,I2,ry,H3,r3,z⟩:=z;exact⟨y,H3,I2.re r3,ry,z⟩
def zwC(K:qc)(T:String)(r:V->List V->Hp->VK->Prop)(to:TE)(t:TA):TE:=fun σ H Q=>to σ H fun x H1=>(∃ H1',Re K H1 H1'/\tyV K T x H1')/\t σ H1 fun xs H2=>r x xs H2 Q
section
variable {X:Cx} {o e:Expr} {es:List Expr} {to:TE} {t:TA} {name:Str} {apos cpos:Pos} {T id:String} {r:V->List V->Hp->VK->Prop}
theorem zsv(pa:PlainAttrs T)(slot:Slot T name id)(hty:typeOf (.builtin id)=pure (.type "method_descriptor"))(hm:MtM X id r)(ho:Wr (PE X o to))(ha:Wr (PA X (e::es) t))
  (hbase:attributeBase o name X.env (eval o X.env)=eval o X.env:=by rfl)
  (hfew:((backTo cpos (starEach (e::es) X.env)).all (fun x=>!x.1) && (backToKw cpos (keywordEach [] X.env)).all (fun x=>x.1.isSome)
   && decide ((e::es).length+([]:List Keyword).length+(if([]:List Keyword).isEmpty then 0 else 1) < 30))=true:=by rfl)
  (hline:(apos.endLine==cpos.line)=true:=by rfl) (hs:zK e=true:=by rfl) (hpl:es.all zK=true:=by rfl) :
  Wr (PE X (.Call (.Attribute o name apos) (e::es) [] cpos) (zwC X.K T r to t)):=by
 refine⟨?_⟩;intro pins s σ H Q I h;refine wpAny_Call_method_late hbase hfew hline rfl (thn (ho.run pins s σ H _ I h) fun v s1 hZ=>?_);obtain⟨x,H1,I1,r1,⟨H1',re,ty⟩,q1⟩:=hZ;obtain⟨h1,h2⟩:=zm4 (I1.re re) r1 ty;refine⟨T,id,pa,slot,hty,h1,h2,?_⟩;have hA:=ha.run cpos pins s1 σ H1 _ I1 q1;have hs':=zbj (env:=X.env) (es:=es) hs;have hp':=zaZ (env:=X.env) (pos:=cpos) hpl;rw [hs']at hA ⊢;refine Calls.callWith_builtin (by show(false || (backTo cpos (starEach es X.env)).any (·.1))=false; rw [hp']<;>rfl) (Calls.evalArgs_plain ?_);exact thn hA fun us s2 ⟨vs,H2,I2,r2,q2⟩=>hm pins s2 σ H2 x vs v us Q I2 r1 r2 q2
end
def zeJ(K:qc)(ta:TE)(f:Str):TE:=tRe K (zvp K ta f)
def zd1:List (Str×PU)->Str->PU->List (Str×PU)
 | [],_,_=>[]
 | (n,x)::r,f,y=>if n=f then(n,y)::r else(n,x)::zd1 r f y
def setP(ps:List (Addr×HO))(b:Addr)(p:HO):List (Addr×HO):=ps.map fun q=>if q.1=b then(b,p)else q
section
variable {K:qc} {H H':Hp} {a C dx b:Addr} {vs:List (Str×V)} {ps:List (Addr×HO)} {fs:List (Str×PU)} {f:Str} {p:HO}
theorem zaT:(setP ps b p).map (·.1)=ps.map (·.1):=by
 unfold setP;rw [List.map_map];refine List.map_congr_left fun q _=>?_;show(if q.1=b then(b,p)else q).1=q.1;split
 ·rename_i e; exact e.symm
 ·rfl
theorem zq9(h:b∉ps.map (·.1)):setP ps b p=ps:=by
 unfold setP
 conv=>rhs; rw [<-List.map_id ps]
 refine List.map_congr_left fun q hq=>?_;rw [if_neg (show ¬q.1=b from fun e=>h (e▸List.mem_map.mpr ⟨q,hq,rfl⟩))];rfl
theorem zgQ{q:Addr×HO}(e:q.1=b)(h:b∉ps.map (·.1)):setP (q::ps) b p=(b,p)::ps:=by
 have:=zq9 (p:=p) h;unfold setP at this ⊢;rw [List.map_cons,if_pos e,this]
theorem zdi{q:Addr×HO}(e:q.1≠b):setP (q::ps) b p=q::setP ps b p:=by
 unfold setP;rw [List.map_cons,if_neg e]
theorem FO.list{xs:List D}(h:FO K H vs ps fs)(e:fs.lookup f=some (.l xs)):∃ b us,vs.lookup f=some (.ref b)/\(b,HO.lst us)∈ps/\DFs K H us xs:=by
 induction h with
 | nil=>cases e
 | @d n v x vs ps fs h t ih =>
  rw [List.lookup_cons]at e ⊢;split at e
  ·cases e
  ·rename_i q
   try rw [q]
   exact ih e
 | @l n b us xs' vs ps fs h t ih =>
  rw [List.lookup_cons]at e ⊢;split at e
  ·rename_i q
   try rw [q]
   cases e;exact⟨b,us,rfl,qp,h⟩
  ·rename_i q
   try rw [q]
   obtain⟨c,us',h1,h2,h3⟩:=ih e;exact⟨c,us',h1,qo _ h2,h3⟩
 | @t n b us xs' vs ps fs h t ih =>
  rw [List.lookup_cons]at e ⊢;split at e
  ·cases e
  ·rename_i q
   try rw [q]
   obtain⟨c,us',h1,h2,h3⟩:=ih e;exact⟨c,us',h1,qo _ h2,h3⟩
 | @x n b us xs' vs ps fs h t ih =>
  rw [List.lookup_cons]at e ⊢;split at e
  ·cases e
  ·rename_i q
   try rw [q]
   obtain⟨c,us',h1,h2,h3⟩:=ih e;exact⟨c,us',h1,qo _ h2,h3⟩
theorem FO.putL{ys:List D}{us:List V}(h:FO K H vs ps fs)(nd:(ps.map (·.1)).Nodup)(e:vs.lookup f=some (.ref b))(hb:b∈ps.map (·.1))(xs:List D)(ef:fs.lookup f=some (.l xs))(hy:DFs K H us ys):FO K H vs (setP ps b (.lst us)) (zd1 fs f (.l ys)):=by
 induction h with
 | nil=>cases ef
 | @d n v x vs ps fs h t ih =>
  rw [List.lookup_cons]at e ef;unfold zd1;split at ef
  ·cases ef
  ·rename_i q
   try rw [q]at e
   replace e:List.lookup f vs=some (V.ref b):=e;rw [if_neg (fun z=>by rw [z]at q; simp at q)];exact .d h (ih nd e hb ef)
 | @l n c us' xs' vs ps fs h t ih =>
  rw [List.map_cons,List.nodup_cons]at nd;rw [List.lookup_cons]at e ef;unfold zd1;split at ef
  ·rename_i q
   try rw [q]at e
   cases e;rw [if_pos (eq_of_beq q).symm,zgQ rfl nd.1];exact .l hy t
  ·rename_i q
   try rw [q]at e
   replace e:List.lookup f vs=some (V.ref b):=e;rw [if_neg (fun z=>by rw [z]at q; simp at q)];have hb':b∈ps.map (·.1):=by
    obtain⟨b',us2,h1,h2,_⟩:=t.list ef;rw [e]at h1;cases h1;exact List.mem_map.mpr ⟨_,h2,rfl⟩
   rw [zdi (q:=(c,HO.lst us')) (by intro z; have z:c=b:=z; exact nd.1 (by show c∈_; rw [z]; exact hb'))];exact .l h (ih nd.2 e hb' ef)
 | @t n c us' xs' vs ps fs h t ih =>
  rw [List.map_cons,List.nodup_cons]at nd;rw [List.lookup_cons]at e ef;unfold zd1;split at ef
  ·cases ef
  ·rename_i q
   try rw [q]at e
   replace e:List.lookup f vs=some (V.ref b):=e;rw [if_neg (fun z=>by rw [z]at q; simp at q)];have hb':b∈ps.map (·.1):=by
    obtain⟨b',us2,h1,h2,_⟩:=t.list ef;rw [e]at h1;cases h1;exact List.mem_map.mpr ⟨_,h2,rfl⟩
   rw [zdi (q:=(c,HO.dT us')) (by intro z; have z:c=b:=z; exact nd.1 (by show c∈_; rw [z]; exact hb'))];exact .t h (ih nd.2 e hb' ef)
 | @x n c us' xs' vs ps fs h t ih =>
  rw [List.map_cons,List.nodup_cons]at nd;rw [List.lookup_cons]at e ef;unfold zd1;split at ef
  ·cases ef
  ·rename_i q
   try rw [q]at e
   replace e:List.lookup f vs=some (V.ref b):=e;rw [if_neg (fun z=>by rw [z]at q; simp at q)];have hb':b∈ps.map (·.1):=by
    obtain⟨b',us2,h1,h2,_⟩:=t.list ef;rw [e]at h1;cases h1;exact List.mem_map.mpr ⟨_,h2,rfl⟩
   rw [zdi (q:=(c,HO.dX us')) (by intro z; have z:c=b:=z; exact nd.1 (by show c∈_; rw [z]; exact hb'))];exact .x h (ih nd.2 e hb' ef)
theorem zra(n:∀ q∈ps,q.1≠a)(w:∀ q∈ps,H q.1=some (.own a))(hb:b∈ps.map (·.1)):sht (upd (opn H a C dx vs ps) b p) a C dx vs (setP ps b p)=upd H a (chn C dx vs (setP ps b p)):=by
 funext c
 by_cases h1:c=a
 ·subst h1
  rw [zcX,zr]
 ·rw [zq h1]
  by_cases h2:c∈ps.map (·.1)
  ·rw [zew (by rw [zaT]; exact h2) h1]
   obtain⟨q,hq,e⟩:=List.mem_map.mp h2;rw [<-e,w q hq]
  ·rw [zbM (by rw [zaT]; exact h2) h1,zq (show c≠b from fun z=>h2 (by rw [z]; exact hb)),zbm h2 h1]
theorem zoJ(e:H a=some (chn C dx vs ps))(w:∀ q∈ps,H q.1=some (.own a)):sht (opn H a C dx vs ps) a C dx vs ps=H:=by
 funext c
 by_cases h1:c=a
 ·subst h1
  rw [zcX,e]
 ·by_cases h2:c∈ps.map (·.1)
  ·rw [zew h2 h1]
   obtain⟨q,hq,e⟩:=List.mem_map.mp h2;rw [<-e,w q hq]
  ·rw [zbM h2 h1,zbm h2 h1]
end
section
variable {K:qc} {H:Hp} {a C dx b:Addr} {vs:List (Str×V)} {ps:List (Addr×HO)} {fs:List (Str×PU)} {f:Str} {p:HO}
def VQ(K:qc)(t:TE)(m:ME):Prop :=
 ∀ (ρ:En) (σ:St) (H:Hp) (a:Ar) (ρ':En) (Q:VK),Rs K ρ σ H->m ρ=some (a,ρ')->ρ'=ρ/\((∀ v,zfD K ρ σ H H v a->Q v H)->t σ H Q)
theorem zjN{i:Nat}:VQ K (zbF i) (zk i):=by
 intro ρ σ H a ρ' Q r e;unfold zk at e;split at e
 ·rename_i u eu
  cases e;refine⟨rfl,fun q=>?_⟩;obtain⟨v,ev,p⟩:=r.rep i u eu;exact⟨v,ev,q v ⟨ev,u,eu⟩⟩
 ·cases e
theorem zxh{c:V}{x:D}(h:∀ H,DF K H c x):VQ K (tC c) (mC x):=by
 intro ρ σ H a ρ' Q r e;cases e;exact⟨rfl,fun q=>q _ ⟨h H,Nw.data⟩⟩
theorem FO.flat(h:FO K H vs ps fs):∀ q∈ps,q.2.flat=true:=by
 induction h with
 | nil=>exact fun q hq=>by cases hq
 | d _ _ ih=>exact ih
 | l _ _ ih =>
  intro q hq;rcases qv.mp hq with rfl | hq
  ·rfl
  ·exact ih q hq
 | t _ _ ih =>
  intro q hq;rcases qv.mp hq with rfl | hq
  ·rfl
  ·exact ih q hq
 | x _ _ ih =>
  intro q hq;rcases qv.mp hq with rfl | hq
  ·rfl
  ·exact ih q hq
structure Op (K:qc) (H:Hp) (a C dx:Addr) (vs:List (Str×V)) (ps:List (Addr×HO)):Prop where
 at_:H a=some (chn C dx vs ps)
 ne:ps≠[]
 nd:(ps.map (·.1)).Nodup
 dx_:dx∉ps.map (·.1)
 own:∀ q∈ps,H q.1=some (.own a)
 flat:∀ q∈ps,q.2.flat=true
theorem Op.pa(o:Op K H a C dx vs ps):∀ q∈ps,q.1≠a:=fun q hq z=>by
 have:=o.own q hq;rw [z,o.at_]at this;exact(zli (C:=C) (dx:=dx) (vs:=vs) o.ne).1 _ (qx this)
theorem Op.opn(o:Op K H a C dx vs ps):Re K H (opn H a C dx vs ps):=zuH o.at_ o.ne o.nd o.dx_ o.own
theorem Op.sht(o:Op K H a C dx vs ps):Re K (L2.opn H a C dx vs ps) H:=by
 have:=zhC (K:=K) (H:=L2.opn H a C dx vs ps) (a:=a) (C:=C) (dx:=dx) (vs:=vs) (ps:=ps) zbz o.pa fun q hq=>⟨zdG o.nd hq (o.pa q hq),o.flat q hq⟩;rw [zoJ o.at_ o.own]at this;exact this
theorem Op.put(o:Op K H a C dx vs ps){p0:HO}(hb:(b,p0)∈ps)(f:p.flat=true):Re K (upd (L2.opn H a C dx vs ps) b p) (upd H a (chn C dx vs (setP ps b p))):=by
 have ba:=o.pa _ hb;have hm:b∈ps.map (·.1):=List.mem_map.mpr ⟨_,hb,rfl⟩;have:=zhC (K:=K) (H:=upd (L2.opn H a C dx vs ps) b p) (a:=a) (C:=C) (dx:=dx) (vs:=vs) (ps:=setP ps b p) (by rw [zq (Ne.symm ba)]; exact zbz) (fun q hq=>?_) fun q hq=>?_
 ·rw [zra o.pa o.own hm]at this
  exact this
 ·have hk:q.1∈ps.map (·.1):=by rw [<-zaT (b:=b) (p:=p)]; exact List.mem_map.mpr ⟨q,hq,rfl⟩
  obtain⟨z,hz,ez⟩:=List.mem_map.mp hk;rw [<-ez];exact o.pa z hz
 ·obtain⟨z,hz,rfl⟩:=List.mem_map.mp hq
  by_cases c:z.1=b
  ·rw [if_pos c]
   exact⟨zr,f⟩
  ·rw [if_neg c,zq c]
   exact⟨zdG o.nd hz (o.pa z hz),o.flat z hz⟩
end
def U.fl(c f:Str):U->Option (List D)
 | .o c' fs=>if c'=c then(match fs.lookup f with | some (.l xs)=>some xs | _=>none)else none
 | _=>none
def U.setP(f:Str)(y:PU):U->U
 | .o c fs=>.o c (zd1 fs f y)
 | u=>u
theorem zuI{c f:Str}{w:U}{xs:List D}(h:w.fl c f=some xs):∃ fs,w=.o c fs/\fs.lookup f=some (.l xs):=by
 unfold U.fl at h;split at h
 ·rename_i c' fs
  split at h
  ·rename_i e
   subst e;split at h
   ·rename_i ys hy
    cases h;exact⟨fs,rfl,hy⟩
   ·cases h
  ·cases h
 ·cases h
def zlj(c:Str)(i:Nat)(f:Str)(me:ME):ME:=fun ρ=>(ρ[i]?).join.bind fun w=>(w.fl c f).bind fun xs=>(me ρ).bind fun p=>(p.1.get p.2).bind fun u=>u.da.bind fun x=>if xs.length < sizeLine then some (.u (.d .none),p.2.set i (some (w.setP f (.l (xs++[x])))))else none
section
variable {K:qc}
theorem zoK{c f:Str}{i:Nat}{te:TE}{me:ME}(hc:∀ C,XN K c C->Cls K C/\zal K C f)(hq:VQ K te me):VE K (zwC K "list" (zwB K zg7) (zeJ K (zbF i) f) (zcs te zef)) (zlj c i f me):=by
 intro ρ σ H a ρ' Q r e q;obtain⟨w,e0,e⟩:=zd e;obtain⟨xs,ex,e⟩:=zd e;obtain⟨⟨a1,ρ1⟩,e1,e⟩:=zd e;obtain⟨u,eu,e⟩:=zd e;obtain⟨x,ed,e⟩:=zd e;cases zbl ed;dsimp only at e;split at e
 ·rename_i hz
  cases e;obtain⟨fs,rfl,hf⟩:=zuI ex;have ei:=zaa e0;obtain⟨v0,ev0,R⟩:=r.rep i _ ei;obtain⟨l,C,dx,vs,ps,rfl,hl,ne,xn,nd,fo,hdx,own⟩:=R;obtain⟨b,us,h1,h2,h3⟩:=fo.list hf;have o:Op K H l C dx vs ps:=⟨hl,ne,nd,hdx,own,fo.flat⟩;have ba:=o.pa _ h2;have hb1:opn H l C dx vs ps b=some (.lst us):=zdG nd h2 ba;obtain⟨cl,na⟩:=hc C xn;refine⟨_,o.opn,_,ev0,l,C,dx,vs,_,rfl,zbz,cl,na,h1,H,o.sht,⟨_,o.opn,.inl ⟨rfl,us,SqL.of hb1⟩⟩,?_⟩;obtain⟨rfl,run⟩:=hq ρ σ H a1 ρ1 _ r e1;refine run fun v k1=>?_;have pv:DF K H v x:=k1.now r (Go.refl r) eu;refine⟨_,o.opn,b,us,v,rfl,rfl,hb1,by rw [h3.len]; exact hz,_,o.put (p:=.lst (us++[v])) h2 rfl,?_⟩;have kp:=zbc hl (Mo.chn ne) (chn C dx vs (setP ps b (.lst (us++[v]))));have hbm:b∈ps.map (·.1):=List.mem_map.mpr ⟨_,h2,rfl⟩;refine q _ _ (Go.own (u':=.o c (zd1 fs f (.l (xs++[x])))) r ei rfl ev0 ⟨l,C,dx,vs,setP ps b (.lst (us++[v])),rfl,zr,?_,xn,by rw [zaT]; exact nd,(fo.kp kp).putL nd h1 hbm xs hf ((h3.kp kp).snoc (DF.kp kp pv)),by rw [zaT]; exact hdx,fun z hz=>?_⟩) ⟨.non,Nw.data⟩
  ·intro z
   have:=congrArg List.length z;unfold setP at this;rw [List.length_map]at this;exact ne (List.length_eq_zero_iff.mp this)
  ·have hk:z.1∈ps.map (·.1):=by rw [<-zaT (b:=b) (p:=.lst (us++[v]))]; exact List.mem_map.mpr ⟨z,hz,rfl⟩
   obtain⟨y,hy,ey⟩:=List.mem_map.mp hk;rw [<-ey,zq (o.pa y hy)];exact own y hy
 ·cases e
end
def ReX(K:qc)(H:Hp)(a:Addr)(y:V)(o:Option V)(Q:Hp->Prop):Prop:=∃ H' H'',Re K H H'/\DGX K H' a y o/\Re K H' H''/\Q H''
def zsw(K:qc)(td ty:TE):TE:=fun σ H Q=>td σ H fun x H1=>ty σ H1 fun y H2=>∃ a v,x=.ref a/\ReX K H2 a y (some v) (Q v)
def zhD(K:qc)(ty td:TE):TE:=fun σ H Q=>ty σ H fun y H1=>td σ H1 fun x H2=>∃ a o,x=.ref a/\ReX K H2 a y o (Q (.bl (!o.isSome)))
def zsx(K:qc)(td ty tv:TE):TS:=fun D σ H=>tv σ H fun v H1=>td σ H1 fun x H2=>ty σ H2 fun y H3=>∃ a H3' H4 H5,x=.ref a/\Re K H3 H3'/\DPX K H3' a y v H4/\Re K H4 H5/\D.nx σ H5
section
variable {X:Cx} {o i e value:Expr} {pos pos' tpos:Pos} {td ty tv:TE} {k:Nat}
theorem hu5(hr:Room k X.A):X.A.units+5 < cLine:=by have:=hr.un; omega
theorem zoL{pins:List (Addr×Obj)}{σ:St}{H:Hp}{s:Shared}{a:Addr}{y:V}{o:Option V}(I:Inv X pins σ H s)(g:DGX X.K H a y o):s.TypeIs (.ref a) "dict":=by
 obtain⟨kvs,k,b,e,_⟩:=g;obtain⟨_,_,xs,_,dd⟩:=zlh I.kIn I.hok e;exact dd.typeIs
theorem zuJ(hr:Room k X.A)(ho:Wr (PE X o td))(hi:Wr (PE X i ty))(hs:zqk i:=by intro _ _; rfl):Wr (PE X (.Subscript o i pos) (zsw X.K td ty)):=by
 refine⟨?_⟩;intro pins s σ H Q I h;refine zkc PySem.F.slot_dict_getitem.lookup hs (thn (ho.run pins s σ H _ I h) fun u s1 hY=>?_);obtain⟨x,H1,I1,rx,q1⟩:=hY;refine thn (hi.run pins s1 σ H1 _ I1 q1) fun iv s2 hZ=>?_;obtain⟨y,H2,I2,ry,a,v,ex,H2',H3,re,g,re3,q2⟩:=hZ;subst ex;obtain rfl:u=Value.ref a:=rx;exact⟨zoL (I2.re re) g,zmg (hu5 hr) (I2.re re) g ry fun w' s3 I3 rw'=>⟨v,H3,I3.re re3,rw',q2⟩⟩
theorem zmj(hr:Room k X.A)(hi:PE X i ty)(ho:PE X o td):PC X .NotIn i o (zhD X.K ty td):=by
 intro pins s σ H Q I h;refine thn (hi pins s σ H _ I h) fun iv s1 hY=>?_;obtain⟨y,H1,I1,ry,q1⟩:=hY;refine thn (ho pins s1 σ H1 _ I1 q1) fun u s2 hZ=>?_;obtain⟨x,H2,I2,rx,a,ov,ex,H2',H3,re,g,re3,q2⟩:=hZ;subst ex;obtain rfl:u=Value.ref a:=rx;exact zq7 (hu5 hr) (I2.re re) g ry fun s3 I3=>⟨.bl (!ov.isSome),H3,I3.re re3,rfl,q2⟩
theorem zmk(hr:Room k X.A)(hi:Wr (PE X i ty))(ho:Wr (PE X o td))(h1:behindInMarks .NotIn o=false:=by rfl):Wr (PT X (.Compare i [.NotIn] [o] pos) (tB (zhD X.K ty td))):=⟨zmC (zmj hr hi.run ho.run) h1⟩
theorem zuK(hr:Room k X.A)(ho:Wr (PE X o td))(hi:Wr (PE X i ty))(hv:Wr (PE X value tv))(hs:swapsWith value (some (.Subscript o i pos')) pos.line X.env=pure false:=by rfl) :
  Wr (PS X (.Assign [.Subscript o i pos'] value pos) (zsx X.K td ty tv)):=by
 refine⟨?_⟩;intro pins s σ H D I h;refine wpAny_Assign_Subscript (thn (hv.run pins s σ H _ I h) fun r s1 hV=>?_) hs;obtain⟨v,H1,I1,rv,q1⟩:=hV;refine thn (ho.run pins s1 σ H1 _ I1 q1) fun u s2 hY=>?_;obtain⟨x,H2,I2,rx,q2⟩:=hY;refine thn (hi.run pins s2 σ H2 _ I2 q2) fun iv s3 hZ=>?_;obtain⟨y,H3,I3,ry,a,H3',H4,H5,ex,re,g,re5,q3⟩:=hZ;subst ex;obtain rfl:u=Value.ref a:=rx;exact zmh (hu5 hr) (I3.re re) g ry rv fun s4 I4=>⟨σ,H5,I4.re re5,q3⟩
end
def itO{J:Type}(f:D->Option (List J))(d:D):Option (Key ⊕ List J):=match ztZ d with
 | some k=>some (.inl k)
 | none=>(f d).map .inr
def lsO{J:Type}(f:D->Option (List J)):D->Option (List (Key ⊕ List J))
 | .tuple ds=>ds.mapM (itO f)
 | _=>none
def nkO:D->Option (List K3):=lsO (lsO (lsO zaM))
section
variable {K:qc} {H:Hp}
theorem zoM{J:Type}{f:D->Option (List J)}{R:List J->Addr->Prop}(hf:∀ v d ks,DF K H v d->f d=some ks->∃ b,v=.ref b/\R ks b){v:V}{d:D}{xs:List (Key ⊕ List J)}(h:DF K H v d)(e:lsO f d=some xs):∃ b,v=.ref b/\Nst K H R xs b:=by
 unfold lsO at e;split at e
 ·rename_i ds
  obtain⟨b,us,rfl,h1,h2⟩:=DF.tup_inv h;refine⟨b,rfl,us,h1,?_⟩;clear h h1
  induction ds generalizing us xs with
  | nil=>cases h2; rw [List.mapM_nil]at e; cases e; exact .nil
  | cons d ds ih =>
   cases h2;rename_i w vs hd t;rw [List.mapM_cons]at e;obtain⟨x,ex,e⟩:=zd e;obtain⟨ys,ey,e⟩:=zd e;cases e;refine .cons ?_ (ih ey _ t);unfold itO at ex;split at ex
   ·rename_i k hk
    cases ex;exact zny hd hk
   ·obtain⟨ks,ek,e2⟩:=qr.mp ex
    cases e2;exact hf _ _ _ hd ek
 ·cases e
theorem zwD{v:V}{d:D}{xs:List K3}(h:DF K H v d)(e:nkO d=some xs):∃ b,v=.ref b/\N3 K H xs b :=
 zoM (fun _ _ _ h e=>zoM (fun _ _ _ h e=>zoM (fun _ _ _ h e=>zdg h e) h e) h e) h e
end
def PP(K:qc)(H:Hp):HO->PU->Prop
 | .lst us,.l xs=>DFs K H us xs
 | .dT us,.t xs=>KVd K H us xs
 | .dX us,.x xs=>KVd K H us xs
 | _,_=>False
def PU.part:PU->Bool
 | .d _=>false
 | _=>true
def U.fp(c f:Str):U->Option PU
 | .o c' fs=>if c'=c then fs.lookup f else none
 | _=>none
section
variable {K:qc} {H H':Hp} {a C dx b:Addr} {vs:List (Str×V)} {ps:List (Addr×HO)} {fs:List (Str×PU)} {f c:Str} {p:HO} {u:PU} {ρ:En} {σ:St} {i:Nat} {w:U}
theorem PP.flat(h:PP K H p u):p.flat=true:=by
 unfold PP at h;split at h
 ·rfl
 ·rfl
 ·rfl
 ·cases h
theorem FO.ind{M:List (Str×V)->List (Addr×HO)->List (Str×PU)->Prop}(h:FO K H vs ps fs)(h0:M [] [] [])(hd:∀ n v x vs ps fs,DF K H v x->FO K H vs ps fs->M vs ps fs->M ((n,v)::vs) ps ((n,.d x)::fs))(hp:∀ n b p u vs ps fs,PP K H p u->FO K H vs ps fs->M vs ps fs->M ((n,.ref b)::vs) ((b,p)::ps) ((n,u)::fs)):M vs ps fs:=by
 induction h with
 | nil=>exact h0
 | d h t ih=>exact hd _ _ _ _ _ _ h t ih
 | l h t ih=>exact hp _ _ (.lst _) (.l _) _ _ _ h t ih
 | t h t ih=>exact hp _ _ (.dT _) (.t _) _ _ _ h t ih
 | x h t ih=>exact hp _ _ (.dX _) (.x _) _ _ _ h t ih
theorem FO.pp{n:Str}(h:PP K H p u)(t:FO K H vs ps fs):FO K H ((n,.ref b)::vs) ((b,p)::ps) ((n,u)::fs):=by
 unfold PP at h;split at h
 ·exact .l h t
 ·exact .t h t
 ·exact .x h t
 ·cases h
theorem FO.part(h:FO K H vs ps fs):fs.lookup f=some u->u.part=true->∃ b p,vs.lookup f=some (.ref b)/\(b,p)∈ps/\PP K H p u:=by
 refine FO.ind (M:=fun vs ps fs=>fs.lookup f=some u->u.part=true->∃ b p,vs.lookup f=some (.ref b)/\(b,p)∈ps/\PP K H p u) h (fun e=>nomatch e) (fun n v x vs ps fs _ _ ih e o=>?_) fun n b p u' vs ps fs hp _ ih e o=>?_
 ·rw [List.lookup_cons]at e ⊢
  split at e
  ·cases e; cases o
  ·rename_i q
   try rw [q]
   exact ih e o
 ·rw [List.lookup_cons]at e ⊢
  split at e
  ·rename_i q
   try rw [q]
   cases e;exact⟨b,p,rfl,qp,hp⟩
  ·rename_i q
   try rw [q]
   obtain⟨b,p,h1,h2,h3⟩:=ih e o;exact⟨b,p,h1,qo _ h2,h3⟩
theorem FO.put{u':PU}{p':HO}(h:FO K H vs ps fs)(hy:PP K H p' u'):(ps.map (·.1)).Nodup->vs.lookup f=some (.ref b)->fs.lookup f=some u->u.part=true->FO K H vs (setP ps b p') (zd1 fs f u'):=by
 refine FO.ind (M:=fun vs ps fs=>(ps.map (·.1)).Nodup->vs.lookup f=some (.ref b)->fs.lookup f=some u->u.part=true->FO K H vs (setP ps b p') (zd1 fs f u')) h (fun _ e=>nomatch e) (fun n v x vs ps fs hx t ih nd e ef o=>?_) fun n c p u0 vs ps fs hp t ih nd e ef o=>?_
 ·rw [List.lookup_cons]at e ef
  unfold zd1;split at ef
  ·cases ef; cases o
  ·rename_i q
   try rw [q]at e
   rw [if_neg (fun z=>by rw [z]at q; simp at q)];exact .d hx (ih nd e ef o)
 ·rw [List.map_cons,List.nodup_cons]at nd
  rw [List.lookup_cons]at e ef;unfold zd1;split at ef
  ·rename_i q
   try rw [q]at e
   cases e;rw [if_pos (eq_of_beq q).symm,zgQ rfl nd.1];exact .pp hy t
  ·rename_i q
   try rw [q]at e
   replace e:List.lookup f vs=some (V.ref b):=e;rw [if_neg (fun z=>by rw [z]at q; simp at q)];have hb':b∈ps.map (·.1):=by
    obtain⟨b',us2,h1,h2,_⟩:=t.part ef o;rw [e]at h1;cases h1;exact List.mem_map.mpr ⟨_,h2,rfl⟩
   rw [zdi (q:=(c,p)) (by intro z; have z:c=b:=z; exact nd.1 (by show c∈_; rw [z]; exact hb'))];exact .pp hp (ih nd.2 e ef o)
theorem zuL(h:w.fp c f=some u):∃ fs,w=.o c fs/\fs.lookup f=some u:=by
 unfold U.fp at h;split at h
 ·rename_i c' fs
  split at h
  ·rename_i e
   subst e;exact⟨fs,rfl,h⟩
  ·cases h
 ·cases h
structure Pt (K:qc) (σ:St) (H:Hp) (c:Str) (i:Nat) (f:Str) (u:PU) (fs:List (Str×PU)) (a C dx:Addr) (vs:List (Str×V)) (ps:List (Addr×HO)) (b:Addr) (p:HO):Prop where
 st:σ[i]?=some (some (.ref a))
 op:Op K H a C dx vs ps
 xn:XN K c C
 vl:vs.lookup f=some (.ref b)
 mem:(b,p)∈ps
 pp:PP K H p u
 fo:FO K H vs ps fs
 fl:fs.lookup f=some u
theorem zsy(r:Rs K ρ σ H)(e:(ρ[i]?).join=some w)(ef:w.fp c f=some u)(o:u.part=true):∃ fs a C dx vs ps b p,w=.o c fs/\Pt K σ H c i f u fs a C dx vs ps b p:=by
 obtain⟨fs,rfl,hf⟩:=zuL ef;obtain⟨v0,ev0,R⟩:=r.rep i _ (zaa e);obtain⟨l,C,dx,vs,ps,rfl,hl,ne,xn,nd,fo,hdx,own⟩:=R;obtain⟨b,p,h1,h2,h3⟩:=fo.part hf o;exact⟨fs,l,C,dx,vs,ps,b,p,rfl,ev0,⟨hl,ne,nd,hdx,own,fo.flat⟩,xn,h1,h2,h3,fo,hf⟩
theorem Pt.at(t:Pt K σ H c i f u fs a C dx vs ps b p):opn H a C dx vs ps b=some p:=zdG t.op.nd t.mem (t.op.pa _ t.mem)
theorem Pt.fld{Q:VK}(t:Pt K σ H c i f u fs a C dx vs ps b p)(hc:∀ C,XN K c C->Cls K C/\zal K C f)(q:Q (.ref b) H):zeJ K (zbF i) f σ H Q :=
 ⟨_,t.op.opn,_,t.st,a,C,dx,vs,_,rfl,zbz,(hc C t.xn).1,(hc C t.xn).2,t.vl,H,t.op.sht,q⟩
theorem Pt.put{u':PU}{p':HO}(t:Pt K σ H c i f u fs a C dx vs ps b p)(r:Rs K ρ σ H)(ei:ρ[i]?=some (some (.o c fs)))(o:u.part=true)(h:∀ H',Kp H H'->PP K H' p' u'):Re K (upd (opn H a C dx vs ps) b p') (upd H a (chn C dx vs (setP ps b p')))/\Go K ρ σ H (ρ.set i (some (.o c (zd1 fs f u')))) (upd H a (chn C dx vs (setP ps b p'))):=by
 have kp:=zbc t.op.at_ (Mo.chn t.op.ne) (chn C dx vs (setP ps b p'));refine⟨t.op.put t.mem (h H (Kp.refl H)).flat,Go.own (u':=.o c (zd1 fs f u')) r ei rfl t.st ⟨a,C,dx,vs,setP ps b p',rfl,zr,fun z=>?_,t.xn,by rw [zaT]; exact t.op.nd,(t.fo.kp kp).put (h _ kp) t.op.nd t.vl t.fl o,by rw [zaT]; exact t.op.dx_,fun z hz=>?_⟩⟩
 ·have:=congrArg List.length z
  unfold setP at this;rw [List.length_map]at this;exact t.op.ne (List.length_eq_zero_iff.mp this)
 ·have hk:z.1∈ps.map (·.1):=by rw [<-zaT (b:=b) (p:=p')]; exact List.mem_map.mpr ⟨z,hz,rfl⟩
  obtain⟨y,hy,ey⟩:=List.mem_map.mp hk;rw [<-ey,zq (t.op.pa y hy)];exact t.op.own y hy
end
def PU.xs:PU->Option (List (List K3×D))
 | .x kvs=>some kvs
 | _=>none
theorem zuM{u:PU}{kvs:List (List K3×D)}(h:u.xs=some kvs):u=.x kvs:=by
 cases u<;>cases h;rfl
def fX(c:Str)(i:Nat)(f:Str)(ρ:En):Option (List (List K3×D)):=(ρ[i]?).join.bind fun w=>(w.fp c f).bind (·.xs)
def zhE(p:Ar×En):Option (List K3):=(p.1.get p.2).bind fun u=>u.da.bind nkO
def zoN(c:Str)(i:Nat)(f:Str)(mk:ME):ME:=fun ρ=>(fX c i f ρ).bind fun kvs=>(mk ρ).bind fun p=>(zhE p).bind fun k=>(zcI kvs k).bind fun y=>some (.u (.d y),p.2)
def zuN(neg:Bool)(mk:ME)(c:Str)(i:Nat)(f:Str):ME:=fun ρ=>(mk ρ).bind fun p=>(fX c i f p.2).bind fun kvs=>(zhE p).bind fun k=>some (.u (.d (.bool (if neg=true then !(zcI kvs k).isSome else(zcI kvs k).isSome))),p.2)
def zoO(c:Str)(i:Nat)(f:Str)(mk mv:ME):MS:=fun ρ=>(mv ρ).bind fun p=>(fX c i f p.2).bind fun kvs=>(mk p.2).bind fun q=>(zhE q).bind fun k=>(p.1.get q.2).bind fun x=>x.da.bind fun x=>(q.2[i]?).join.bind fun w=>if kvs.length < sizeLine then some (.nx (q.2.set i (some (w.setP f (.x (zcJ kvs k x))))))else none
section
variable {K:qc} {H:Hp} {f c:Str} {ρ:En} {σ:St} {i:Nat} {a C dx b:Addr} {vs:List (Str×V)} {ps:List (Addr×HO)} {fs:List (Str×PU)} {p:HO} {tk tv:TE} {mk mv:ME} {pn:List Nat} {EX:EXT}
theorem zoP{kvs:List (List K3×D)}(r:Rs K ρ σ H)(e:fX c i f ρ=some kvs):∃ fs a C dx vs ps b us,ρ[i]?=some (some (.o c fs))/\Pt K σ H c i f (.x kvs) fs a C dx vs ps b (.dX us)/\KVd K H us kvs:=by
 unfold fX at e;obtain⟨w,e0,e⟩:=zd e;obtain⟨u,eu,e⟩:=zd e;cases zuM e;obtain⟨fs,a,C,dx,vs,ps,b,p,rfl,t⟩:=zsy r e0 eu rfl;have h:=t.pp;unfold PP at h;split at h
 ·rename_i h'; cases h'
 ·rename_i h'; cases h'
 ·rename_i us xs h'
  cases h';exact⟨fs,a,C,dx,vs,ps,b,us,zaa e0,t,h⟩
 ·cases h
theorem zhF{a:Ar}{v:V}{H':Hp}{k:List K3}(h:∀ u,a.get ρ=some u->Rp K H v u)(e:zhE (a,ρ)=some k):∃ b,v=.ref b/\N3 K H k b:=by
 unfold zhE at e;obtain⟨u,eu,e⟩:=zd e;obtain⟨d,ed,e⟩:=zd e;cases zbl ed;exact zwD (h _ eu) e
theorem Pt.dgx{u:PU}{us:List (List K3×V)}{k:List K3}{kb:Addr}{Q:Hp->Prop}(t:Pt K σ H c i f u fs a C dx vs ps b (.dX us))(hk:N3 K H k kb)(q:Q H):ReX K H b (.ref kb) (zbu us k) Q :=
 ⟨_,H,t.op.opn,⟨us,k,kb,t.at,rfl,hk.keeps t.op.opn.tup,rfl⟩,t.op.sht,q⟩
theorem zuO(hc:∀ C,XN K c C->Cls K C/\zal K C f)(hq:VQ K tk mk):VE K (zsw K (zeJ K (zbF i) f) tk) (zoN c i f mk):=by
 intro ρ σ H a ρ' Q r e q;obtain⟨kvs,e0,e⟩:=zd e;obtain⟨⟨a1,ρ1⟩,e1,e⟩:=zd e;obtain⟨k,ek,e⟩:=zd e;obtain⟨y,ey,e⟩:=zd e;cases e;obtain⟨fs,l,C,dx,vs,ps,b,us,_,t,kv⟩:=zoP r e0;refine t.fld hc ?_;obtain⟨rfl,run⟩:=hq ρ σ H a1 ρ1 _ r e1;refine run fun v k1=>?_;obtain⟨kb,rfl,hk⟩:=zhF (H':=H) (fun u eu=>k1.now r (Go.refl r) eu) ek;rcases kv.val k with ⟨v,d,h1,h2,h3⟩ | ⟨_,h2⟩
 ·rw [ey]at h2
  cases h2;exact⟨b,v,rfl,h1▸t.dgx hk (q _ _ (Go.refl r) ⟨h3,Nw.data⟩)⟩
 ·rw [ey]at h2
  cases h2
theorem zoQ(hc:∀ C,XN K c C->Cls K C/\zal K C f)(hk:VE K tk mk):VE K (zhD K tk (zeJ K (zbF i) f)) (zuN true mk c i f):=by
 intro ρ σ H a ρ' Q r e q;obtain⟨⟨a1,ρ1⟩,e1,e⟩:=zd e;obtain⟨kvs,e0,e⟩:=zd e;obtain⟨k,ek,e⟩:=zd e;cases e;refine hk ρ σ H a1 ρ1 _ r e1 fun v H1 g1 k1=>?_;obtain⟨fs,l,C,dx,vs,ps,b,us,_,t,kv⟩:=zoP g1.rs e0;refine t.fld hc ?_;obtain⟨kb,rfl,hkb⟩:=zhF (H':=H) (fun u eu=>k1.now r g1 eu) ek;refine⟨b,zbu us k,rfl,t.dgx hkb (q _ _ g1 ⟨?_,Nw.data⟩)⟩;rcases kv.val k with ⟨v,d,h1,h2,h3⟩ | ⟨h1,h2⟩<;>rw [h1,h2]<;>exact .bl _
theorem zuP(hc:∀ C,XN K c C->Cls K C/\zal K C f)(hq:VQ K tk mk)(hv:VE K tv mv):VS K pn EX (zsx K (zeJ K (zbF i) f) tk tv) (zoO c i f mk mv):=by
 intro σ₀ A H₀ H₁ ρ σ H fl D s e k;replace e:=zd e;obtain⟨⟨a1,ρ1⟩,e1,e⟩:=e;replace e:=zd e;obtain⟨kvs,e0,e⟩:=e;replace e:=zd e;obtain⟨⟨a2,ρ2⟩,e2,e⟩:=e;replace e:=zd e;obtain⟨ky,ek,e⟩:=e;replace e:=zd e;obtain⟨u,eu,e⟩:=e;replace e:=zd e;obtain⟨x,ed,e⟩:=e;cases zbl ed;replace e:=zd e;obtain⟨w,ew,e⟩:=e;dsimp only at e ew eu;split at e
 ·rename_i hz
  cases e;refine hv ρ σ H a1 ρ1 _ s.rs e1 fun v H1 g1 k1=>?_;obtain⟨fs,l,C,dx,vs,ps,b,us,ei,t,kv⟩:=zoP g1.rs e0;refine t.fld hc ?_;obtain⟨rfl,run⟩:=hq ρ1 σ H1 a2 ρ2 _ g1.rs e2;refine run fun y k2=>?_;have pv:DF K H1 v x:=k1.now s.rs g1 eu;obtain⟨kb,rfl,hkb⟩:=zhF (H':=H) (fun u eu=>k2.now g1.rs (Go.refl g1.rs) eu) ek;rw [ei]at ew;cases ew;obtain⟨re,go⟩:=t.put (u':=.x (zcJ kvs ky x)) (p':=.dX (zcj us ky v)) g1.rs ei rfl fun H' kp=>(kv.kp kp).put ky (DF.kp kp pv);exact⟨b,_,_,_,rfl,t.op.opn,⟨us,ky,kb,t.at,rfl,hkb.keeps t.op.opn.tup,by rw [kv.len]; exact hz,rfl⟩,re,k _ _ (s.go (g1.trans go))⟩
 ·cases e
end
def zuQ(K:qc)(r:List V->Hp->VK->Prop):List V->Hp->VK->Prop:=fun xs H Q=>∃ H1,Re K H H1/\r xs H1 fun v H2=>∃ H3,Re K H2 H3/\Q v H3
section
variable {X:Cx}
theorem zlk{g:Value}{r:List V->Hp->VK->Prop}(h:zbK X g r):zbK X g (zuQ X.K r):=fun pins s σ H xs us Q I rs q=>by
 obtain⟨H1,r1,q⟩:=q;refine thn (h pins s σ H1 xs us _ (I.re r1) rs q) fun u s1 z=>?_;obtain⟨y,H2,I2,ry,H3,r3,z⟩:=z;exact⟨y,H3,I2.re r3,ry,z⟩
end
def PU.ls:PU->Option (List D)
 | .l xs=>some xs
 | _=>none
theorem zuR{u:PU}{xs:List D}(h:u.ls=some xs):u=.l xs:=by
 cases u<;>cases h;rfl
def fLs(c:Str)(i:Nat)(f:Str)(ρ:En):Option (List D):=(ρ[i]?).join.bind fun w=>(w.fp c f).bind (·.ls)
def ziP:D->Option Int
 | .int n=>some n
 | _=>none
theorem zf5{d:D}{n:Int}(h:ziP d=some n):d=.int n:=by
 cases d<;>cases h;rfl
def zoR(c:Str)(i:Nat)(f:Str):ME:=fun ρ=>(fLs c i f ρ).bind fun xs=>some (.u (.d (.int xs.length)),ρ)
section
variable {K:qc} {H:Hp} {f c:Str} {ρ:En} {σ:St} {i:Nat} {tk tv:TE} {mk mv:ME}
theorem zoS{xs:List D}(r:Rs K ρ σ H)(e:fLs c i f ρ=some xs):∃ fs a C dx vs ps b us,ρ[i]?=some (some (.o c fs))/\Pt K σ H c i f (.l xs) fs a C dx vs ps b (.lst us)/\DFs K H us xs:=by
 unfold fLs at e;obtain⟨w,e0,e⟩:=zd e;obtain⟨u,eu,e⟩:=zd e;cases zuR e;obtain⟨fs,a,C,dx,vs,ps,b,p,rfl,t⟩:=zsy r e0 eu rfl;have h:=t.pp;unfold PP at h;split at h
 ·rename_i us xs h'
  cases h';exact⟨fs,a,C,dx,vs,ps,b,us,zaa e0,t,h⟩
 ·rename_i h'; cases h'
 ·rename_i h'; cases h'
 ·cases h
theorem zuS(hc:∀ C,XN K c C->Cls K C/\zal K C f):VE K (tCB (zuQ K (ztL K)) (zcs (zeJ K (zbF i) f) zef)) (zoR c i f):=by
 intro ρ σ H a ρ' Q r e q;obtain⟨xs,e0,e⟩:=zd e;cases e;obtain⟨fs,l,C,dx,vs,ps,b,us,_,t,kv⟩:=zoS r e0;refine t.fld hc ?_;refine⟨_,t.op.opn,b,us,rfl,.inl (SqL.of t.at),H,t.op.sht,q _ _ (Go.refl r) ⟨?_,Nw.data⟩⟩;rw [kv.len];exact .int _
end
section
variable {K:qc} {c:Str} {C C':Addr}
theorem XN.one(h:XN K c C)(h':XN K c C'):C=C':=by
 have z:=(show PySem.W.nsIn K mainGlobals c=some (some (.ref C)) from h).symm.trans (show PySem.W.nsIn K mainGlobals c=some (some (.ref C')) from h');injection z with z;injection z with z;injection z
end
structure MCal (P:Program) (w:World) (K:qc) (mg:Str->Option Value) (base:Heap) (c:Str) (m:Str) (k:Nat) (ps:List Str) (sp:Sp):Prop where
 ex:∃ (C f:Addr) (fd:FuncData),XN K c C/\Cls K C/\FnOk P w K mg base CX0 k f fd ps sp/\zcN K fd ps []/\Meth K C m f
def zsz(K:qc)(c:Str)(m:Str)(sp:Sp)(ta:TE)(t:TA):TE:=fun σ H Q=>ta σ H fun x H1=>(∃ C a dx fs H',XN K c C/\x=.ref a/\Re K H1 H'/\H' a=some (.ins C dx fs)/\fs.lookup m=none)/\t σ H1 fun vs H2=>sp (x::vs) H2 Q E0
section
variable {X:Cx} {c m:Str} {C:Addr} {k:Nat} {ps:List Str} {sp:Sp} {o e:Expr} {es:List Expr} {ta:TE} {t:TA} {apos pos:Pos}
theorem zcY{pl:Sem Bool}(M:MCal X.prog X.w X.K X.mg X.base c m k ps sp)(he:Wr (PE X o ta))(ha:Wr (PA X (e::es) t))(hr:Room k X.A:=by exact Room.mono ‹Room _ _› (by decide))
  (hs:zK e=true:=by rfl) (hpl:es.all zK=true:=by rfl)
  (ht:eval (.Call (.Attribute o m apos) (e::es) [] pos) X.env=(do
   let ov <-eval o X.env
   standAt apos.atName
   let (f,first) <-holding [ov] (getMethod ov m pl)
   callWith pos f first (backTo pos (starEach (e::es) X.env)) (backToKw pos (keywordEach [] X.env))):=by rfl) :
  Wr (PE X (.Call (.Attribute o m apos) (e::es) [] pos) (zsz X.K c m sp ta t)):=by
 refine⟨?_⟩;obtain⟨C,f,fd,xn,cl,F,hb,hm⟩:=M.ex;intro pins s σ H Q I h;refine PySem.W.methodCall_KW (pl:=pl) (thn (he.run pins s σ H _ I h) fun u s1 hZ=>?_) ht;obtain⟨x,H1,I1,rx,⟨C',a,dx,fs,H',xn',ex,re,ea,l⟩,q⟩:=hZ;cases xn.one xn';subst ex;obtain rfl:u=Value.ref a:=rx;refine zjc (I1.re re) ea cl hm l ?_;refine PySem.W.callWith_K (first:=[.ref a]) (h₀:=X.base) I.ok.mod.kin hm.kp (thn (ha.run pos pins s1 σ H1 _ I1 q) fun us s2 ⟨vs,H2,I2,r,q2⟩=>⟨I2.kIn,?_⟩) (zbj hs) (zaZ hpl);exact zmW (us:=.ref a::us) (vs:=.ref a::vs) (dvs:=[]) (E:=E0) F hr hb .nil zna I2 (.cons rfl r) (by rw [List.append_nil]; exact q2)
end
def U.noF(c m:Str):U->Bool
 | .o c' fs=>decide (c'=c) && (fs.lookup m).isNone
 | _=>false
theorem zrb{c m:Str}{w:U}(h:w.noF c m=true):∃ fs,w=.o c fs/\fs.lookup m=none:=by
 unfold U.noF at h;split at h
 ·rename_i c' fs
  rw [Bool.and_eq_true,decide_eq_true_iff,Option.isNone_iff_eq_none]at h;obtain⟨rfl,h⟩:=h;exact⟨fs,rfl,h⟩
 ·cases h
def ze0(c:Str)(i:Nat)(m:Str)(F:FD)(ma:MA):ME:=fun ρ=>(ρ[i]?).join.bind fun w=>if w.noF c m=true then z8 F (zf (zk i) ma) ρ else none
section
variable {K:qc} {H:Hp} {vs:List (Str×V)} {ps:List (Addr×HO)} {fs:List (Str×PU)} {c m:Str} {C C':Addr} {i:Nat} {t:TA} {ma:MA}
theorem FO.non(h:FO K H vs ps fs):fs.lookup m=none->vs.lookup m=none:=by
 refine FO.ind (M:=fun vs ps fs=>fs.lookup m=none->vs.lookup m=none) h (fun _=>rfl) (fun n v x vs ps fs _ _ ih e=>?_) fun n b p u' vs ps fs _ _ ih e=>?_
 all_goals
  rw [List.lookup_cons]at e ⊢;split at e
  ·cases e
  ·rename_i q
   try rw [q]
   exact ih e
theorem zeK{F:FD}(n:Nat)(h:VAs K t ma)(hn:∀ ρ as ρ',zf (zk i) ma ρ=some (as,ρ')->as.length=n:=by repeat (first | exact zrE | refine znr ?_)):VE K (zsz K c m (spV K n F) (zbF i) t) (ze0 c i m F ma):=by
 intro ρ σ H a ρ' Q r e q;obtain⟨w,e0,e⟩:=zd e;split at e
 ·rename_i hw
  obtain⟨fs,rfl,hf⟩:=zrb hw;obtain⟨v0,ev0,R⟩:=r.rep i _ (zaa e0);obtain⟨l,C',dx,vs,ps,rfl,hl,ne,xn',nd,fo,hdx,own⟩:=R;have op:Op K H l C' dx vs ps:=⟨hl,ne,nd,hdx,own,fo.flat⟩;obtain⟨v,ev,z⟩:=zF n (ze zj h) hn ρ σ H a ρ' Q r e q;rw [ev0]at ev;cases ev;exact⟨_,ev0,⟨C',l,dx,vs,_,xn',rfl,op.opn,zbz,fo.non hf⟩,z⟩
 ·cases e
end
def zoT:TE:=fun _ H Q=>∀ p,H p=none->Q (.ref p) (upd H p (.dX []))
section
variable {K:qc} {H:Hp} {b:Addr}
theorem zrc(e:H b=some (.dT [])):Re K H (upd H b (.dX [])):=by
 have ne:∀ {c:Addr} {o:HO},H c=some o->o≠.dT []->c≠b:=fun hc n z=>by
  rw [z,e]at hc;exact n (qx hc).symm
 have keep:∀ {c:Addr} {o:HO},H c=some o->o≠.dT []->upd H b (.dX []) c=some o:=fun hc n=>by rw [zq (ne hc n)]; exact hc
 refine⟨fun P w h ok c o hc=>?_,fun c hc=>?_,fun c xs hc=>keep hc (fun z=>nomatch z),fun c o u hc=>keep hc (fun z=>nomatch z),fun c ps hc=>keep hc (fun z=>nomatch z)⟩
 ·have st:∀ {c:Addr} {o:HO},zP P w K H h c o->zP P w K (upd H b (.dX [])) h c o:=fun x=>x.stay (fun _ _ _ q=>q) (fun b q=>keep q (fun z=>nomatch z)) fun b ys q=>keep q (fun z=>nomatch z)
  by_cases z:c=b
  ·subst z
   rw [zr]at hc;cases hc;refine st ?_;obtain⟨h1,h2,xs,hx,o,es,ep,h3,h4,h5,h6,h7⟩:=(show zP P w K H h c (.dT []) from ok c _ e);cases hx;exact⟨h1,h2,[],.nil,o,es,ep,h3,h4,h5,h6,.nil⟩
  ·rw [zq z]at hc
   exact st (ok c o hc)
 ·rw [zq (fun z=>by rw [z,e]at hc; cases hc)]
  exact hc
theorem zll{X:Cx}{pos:Pos}:Wr (PE X (.Dict [] [] pos) zoT):=⟨fun pins s σ H Q I q=>(zuE zkh).run pins s σ H Q I ⟨H,Re.refl _ _,fun p hp=>⟨_,zrc zr,by rw [zpO]; exact q p hp⟩⟩⟩
end
def PU.new:PU->TE
 | .l _=>zqd zef
 | .t _=>zha
 | _=>zoT
def PU.ho:PU->HO
 | .l _=>.lst []
 | .t _=>.dT []
 | _=>.dX []
def PU.nil:PU->Bool
 | .l []=>true
 | .t []=>true
 | .x []=>true
 | _=>false
theorem zrd{p:PU}{σ:St}{H:Hp}{Q:VK}(h:∀ b,H b=none->Q (.ref b) (upd H b p.ho)):p.new σ H Q:=by
 cases p with
 | l xs=>exact⟨Nat.zero_le _,h⟩
 | _=>exact h
theorem zoU{K:qc}{H:Hp}{p:PU}(h:p.nil=true):PP K H p.ho p:=by
 unfold PU.nil at h;split at h
 ·exact DFs.nil
 ·exact Paired.nil
 ·exact Paired.nil
 ·cases h
def zoV(K:qc):List (Str×PU)->TS
 | []=>fun D σ H=>D.nx σ H
 | [(f,p)]=>zmV K (zbF 0) p.new f
 | (f,p)::r=>zpT (zmV K (zbF 0) p.new f) (zoV K r)
def nwN(a C dx:Addr):List (Str×PU)->List (Str×V)->Hp->(Hp->Prop)->Prop
 | [],_,H,Q=>Q H
 | (f,p)::r,vs,H,Q=>∀ b,H b=none->nwN a C dx r (vs++[(f,.ref b)]) (upd (upd H b p.ho) a (.ins C dx (vs++[(f,.ref b)]))) Q
def spN(C:Addr)(fl:List (Str×PU)):Sp:=fun vs H Q _=>∃ a dx,vs=[.ref a]/\H a=some (.ins C dx [])/\nwN a C dx fl [] H (Q .non)
theorem zre{C:Addr}{fl:List (Str×PU)}{vs:List V}{H:Hp}{Q:VK}{E:XK}(h:spN C fl vs H Q E):vs.length=1:=by
 obtain⟨a,dx,rfl,_⟩:=h;rfl
section
variable {K:qc} {a C dx:Addr}
theorem ziQ{f:Str}{y:V}:∀ {fs:List (Str×V)},f∉fs.map (·.1)->zcE f y fs=fs++[(f,y)]
 | [],_=>rfl
 | (g,v)::r,h=>by
  rw [List.map_cons,qv,not_or]at h;unfold zcE;rw [if_neg (fun z=>h.1 (by first | exact z | exact z.symm)),ziQ h.2];rfl
theorem ziR(c:Cls K C){N:List Str}{Q:Hp->Prop}{R:VK}:∀ {fl:List (Str×PU)} {vs:List (Str×V)} {H:Hp},fl≠[]->(∀ p∈fl,zal K C p.1)->(vs.map (·.1)++fl.map (·.1)).Nodup->vs.length+fl.length<=1000->H a=some (.ins C dx vs)->nwN a C dx fl vs H Q->zoV K fl { nx:=fun _ H'=>Q H',rt:=R } (zbg N [.ref a]) H
 | [],_,_,ne,_,_,_,_,_=>absurd rfl ne
 | (f,p)::r,vs,H,_,na,nd,hl,e,q=>by
  have hf:f∉vs.map (·.1):=fun z=>(List.nodup_append.mp nd).2.2 _ z _ qp rfl;rw [qu]at hl;have go:∀ {D:Ends},(∀ b,H b=none->D.nx (zbg N [.ref a]) (upd (upd H b p.ho) a (.ins C dx (vs++[(f,.ref b)]))))->zmV K (zbF 0) p.new f D (zbg N [.ref a]) H:=fun h=>by
   refine zrd fun b hb=>?_;refine⟨.ref a,rfl,a,C,dx,vs,rfl,?_,c,na _ qp,by omega,?_⟩
   ·rw [zq (fun z=>by rw [<-z,e]at hb; cases hb)]
    exact e
   ·rw [ziQ hf]
    exact h b hb
  cases r with
  | nil=>exact go q
  | cons x r =>
   refine go fun b hb=>?_;refine ziR c (fun z=>nomatch z) (fun p hp=>na p (qo _ hp)) ?_ ?_ zr (q b hb)
   ·rw [List.map_append,List.append_assoc]
    exact nd
   ·rw [qt]
    simp only [qu,List.length_nil]at hl ⊢;omega
end
structure NCal (P:Program) (w:World) (K:qc) (mg:Str->Option Value) (base:Heap) (n:Str) (fl:List (Str×PU)):Prop where
 fn:∃ (C f:Addr) (fd:FuncData) (ps:List Str),XN K n C/\mg n=some (.ref C)/\Mk K C f/\zcN K fd ps []/\FnOk P w K mg base CX0 1 f fd ps (spN C fl)
def zwE(K:qc)(c:Str)(fl:List (Str×PU)):TE:=fun σ H Q=>∀ C,XN K c C->tRe K (zry C (spN C fl) [] E0 zef) σ H Q
theorem zwF{X:Cx}{fl:List (Str×PU)}{x:Str}{p pos:Pos}(O:NCal X.prog X.w X.K X.mg X.base x fl)(hr:Room 2 X.A:=by exact Room.mono ‹Room _ _› (by decide))(hg:Gl X x:=by exact rfl)(hdb:(x==("__debug__":Str))=false:=by decide) :
  Wr (PE X (.Call (.Name x p) [] [] pos) (zwE X.K x fl)):=by
 obtain⟨C,f,fd,ps,xn,gm,M,hb,F⟩:=O.fn;exact⟨fun pins s σ H Q I h=>(zuE ⟨zmY (dvs:=[]) (E:=E0) M F hr hg gm hb .nil zna hdb⟩).run pins s σ H Q I (h C xn)⟩
structure NI' (K:qc) (H₀:Hp) (x C dx:Addr) (vs:List (Str×V)) (ps:List (Addr×HO)) (fs:List (Str×PU)) (H:Hp):Prop where
 at_:H x=some (.ins C dx vs)
 pa:∀ q∈ps,H q.1=some q.2/\q.2.flat=true
 nd:(ps.map (·.1)).Nodup
 fo:∀ H,FO K H vs ps fs
 dx_:H dx=some (.own x)
 sm:∀ b o,H₀ b=some o->b≠x->H b=some o
 nw:∀ q∈ps,H₀ q.1=none
 ln:ps.length=fs.length
section
variable {K:qc} {H H₀:Hp} {x C dx b:Addr} {vs:List (Str×V)} {ps:List (Addr×HO)} {fs fl:List (Str×PU)} {p:HO} {u:PU} {c:Str}
theorem FO.snoc{n:Str}(h:FO K H vs ps fs)(hp:PP K H p u):FO K H (vs++[(n,.ref b)]) (ps++[(b,p)]) (fs++[(n,u)]) :=
 FO.ind (M:=fun vs ps fs=>FO K H (vs++[(n,.ref b)]) (ps++[(b,p)]) (fs++[(n,u)])) h (FO.pp hp .nil) (fun _ _ _ _ _ _ h _ ih=>.d h ih) fun _ _ _ _ _ _ _ h _ ih=>.pp h ih
theorem NI'.step(i:NI' K H₀ x C dx vs ps fs H)(hx:H₀ x=none)(hb:H b=none)(hu:u.nil=true){f:Str}:NI' K H₀ x C dx (vs++[(f,.ref b)]) (ps++[(b,u.ho)]) (fs++[(f,u)]) (upd (upd H b u.ho) x (.ins C dx (vs++[(f,.ref b)]))):=by
 have bx:b≠x:=fun z=>by rw [z,i.at_]at hb; cases hb
 have nb:∀ {c:Addr} {o:HO},H c=some o->c≠b:=fun hc z=>by rw [z,hb]at hc; cases hc
 have b0:H₀ b=none:=by
  cases e:H₀ b with
  | none=>rfl
  | some o=>rw [i.sm b o e bx]at hb; cases hb
 refine⟨zr,fun q hq=>?_,?_,fun H=>(i.fo H).snoc (zoU hu),?_,fun c o hc n=>?_,fun q hq=>?_,by rw [qt,qt,i.ln]; rfl⟩
 ·rcases List.mem_append.mp hq with hq | hq
  ·obtain⟨h1,h2⟩:=i.pa q hq
   refine⟨?_,h2⟩;rw [zq (fun z=>by rw [z,i.at_]at h1; rw [<-qx h1]at h2; cases h2),zq (nb h1)];exact h1
  ·cases qq.mp hq
   refine⟨?_,(zoU (K:=K) (H:=H) hu).flat⟩;rw [zq bx];exact zr
 ·rw [List.map_append,List.nodup_append]
  refine⟨i.nd,by simp,fun c hc d hd z=>?_⟩;cases qq.mp hd;obtain⟨q,hq,eq⟩:=List.mem_map.mp hc;exact nb (i.pa q hq).1 (eq.trans z)
 ·rw [zq (fun z=>?_),zq (nb i.dx_)]
  ·exact i.dx_
  ·have:=i.dx_
   rw [z,i.at_]at this;cases this
 ·rw [zq n,zq (nb (i.sm c o hc n))]
  exact i.sm c o hc n
 ·rcases List.mem_append.mp hq with hq | hq
  ·exact i.nw q hq
  ·cases qq.mp hq
   exact b0
theorem zoW{Q:Hp->Prop}(hx:H₀ x=none):∀ {fl fs:List (Str×PU)} {vs:List (Str×V)} {ps:List (Addr×HO)} {H:Hp},NI' K H₀ x C dx vs ps fs H->(∀ p∈fl,p.2.nil=true)->(∀ vs ps H,NI' K H₀ x C dx vs ps (fs++fl) H->Q H)->nwN x C dx fl vs H Q
 | [],fs,vs,ps,H,i,_,q=>q vs ps H (by rw [List.append_nil]; exact i)
 | (f,u)::r,fs,vs,ps,H,i,hn,q=>fun b hb=>zoW hx (i.step hx hb (hn _ qp)) (fun p hp=>hn p (qo _ hp)) fun vs ps H j=>q vs ps H (by rw [List.append_assoc]at j; exact j)
def zuT(c:Str)(fl:List (Str×PU)):ME:=fun ρ=>some (.u (.o c fl),ρ)
theorem zwG(ne:fl≠[])(hn:∀ p∈fl,p.2.nil=true):VE K (zwE K c fl) (zuT c fl):=by
 intro ρ σ H a ρ' Q r e q;cases e;intro C xn;refine⟨H,Re.refl _ _,fun x dx hx hd nx=>⟨x,dx,rfl,zr,?_⟩⟩;refine zoW (K:=K) (H₀:=H) (fs:=[]) (ps:=[]) hx ⟨zr,fun q hq=>(nomatch hq),.nil,fun _=>.nil,?_,fun b o hb n=>?_,fun q hq=>(nomatch hq),rfl⟩ hn fun vs ps H2 i=>⟨rfl,?_⟩
 ·rw [zq nx]
  exact zr
 ·rw [zq n,zq (zab hb hd)]
  exact hb
 ·have px:∀ q∈ps,q.1≠x:=fun q hq z=>by
   obtain⟨h1,h2⟩:=i.pa q hq;rw [z,i.at_]at h1;rw [<-qx h1]at h2;cases h2
  have dm:dx∉ps.map (·.1):=fun z=>by
   obtain⟨q,hq,eq⟩:=List.mem_map.mp z;obtain⟨h1,h2⟩:=i.pa q hq;rw [eq,i.dx_]at h1;rw [<-qx h1]at h2;cases h2
  refine⟨_,zhC (ps:=ps) i.at_ px i.pa,?_⟩;have sm:zba H (sht H2 x C dx vs ps):=fun b o hb=>by
   have bx:=zab hb hx;rw [zbM (fun z=>?_) bx]
   ·exact i.sm b o hb bx
   ·obtain⟨q,hq,eq⟩:=List.mem_map.mp z
    have:=i.nw q hq;rw [eq,hb]at this;cases this
  refine q _ _ (Go.grow r sm) ⟨⟨x,C,dx,vs,ps,rfl,zcX,fun z=>?_,xn,i.nd,i.fo _,dm,fun q hq=>zew (List.mem_map.mpr ⟨q,hq,rfl⟩) (px q hq)⟩,fun _=>⟨x,rfl,hx⟩⟩;have l:=i.ln;rw [z]at l;exact ne (List.length_eq_zero_iff.mp l.symm)
end
section
variable {K:qc} {H:Hp} {a C dx b l:Addr} {vs:List (Str×V)} {ps:List (Addr×HO)}
theorem Op.new(o:Op K H a C dx vs ps)(hl:L2.opn H a C dx vs ps l=none)(t:HO):H l=none/\Re K (upd (L2.opn H a C dx vs ps) l t) (upd H l t):=by
 have la:l≠a:=fun z=>by rw [z,zbz]at hl; cases hl
 have lp:l∉ps.map (·.1):=fun z=>by
  obtain⟨q,hq,eq⟩:=List.mem_map.mp z;rw [<-eq,zdG o.nd hq (o.pa q hq)]at hl;cases hl
 have h0:H l=none:=by rw [zbm lp la]at hl; exact hl
 refine⟨h0,?_⟩;have ql:∀ q∈ps,q.1≠l:=fun q hq z=>lp (List.mem_map.mpr ⟨q,hq,z⟩);have:=zhC (K:=K) (H:=upd (L2.opn H a C dx vs ps) l t) (a:=a) (C:=C) (dx:=dx) (vs:=vs) (ps:=ps) (by rw [zq (Ne.symm la)]; exact zbz) o.pa fun q hq=>⟨by rw [zq (ql q hq)]; exact zdG o.nd hq (o.pa q hq),o.flat q hq⟩;have e:L2.sht (upd (L2.opn H a C dx vs ps) l t) a C dx vs ps=upd H l t:=by
  funext c
  by_cases h1:c=a
  ·subst h1
   rw [zcX,zq (Ne.symm la),o.at_]
  ·by_cases h2:c∈ps.map (·.1)
   ·rw [zew h2 h1]
    obtain⟨q,hq,e⟩:=List.mem_map.mp h2;rw [<-e,zq (ql q hq),o.own q hq]
   ·rw [zbM h2 h1]
    by_cases h3:c=l
    ·subst h3
     rw [zr,zr]
    ·rw [zq h3,zq h3,zbm h2 h1]
 rw [e]at this;exact this
end
def zoX(c:Str)(i:Nat)(f:Str):ME:=fun ρ=>(fLs c i f ρ).bind fun xs=>some (.u (.d (.tuple xs)),ρ)
section
variable {K:qc} {f c:Str} {i:Nat} {tk tv:TE} {mk mv:ME} {pn:List Nat} {EX:EXT}
theorem zuU(hc:∀ C,XN K c C->Cls K C/\zal K C f):VE K (tCB (zuQ K (zfC K)) (zcs (zeJ K (zbF i) f) zef)) (zoX c i f):=by
 intro ρ σ H a ρ' Q r e q;obtain⟨xs,e0,e⟩:=zd e;cases e;obtain⟨fs,l,C,dx,vs,ps,b,us,_,t,kv⟩:=zoS r e0;refine t.fld hc ?_;refine⟨_,t.op.opn,b,us,rfl,.inl ⟨SqL.of t.at,fun p hp=>?_⟩⟩;obtain⟨h0,re⟩:=t.op.new hp (.tup us);have sm:=zC h0 (.tup us);exact⟨_,re,q _ _ (Go.grow r sm) ⟨DF.tup (.inl zr) (kv.kp sm.kp),Nw.data⟩⟩
end
section
variable {ρ:En} {mk mv me:ME} {ma:MA} {c f m:Str} {i:Nat} {QE:Ar×En->Prop} {QS:Fl->Prop} {QT:Bool×En->Prop} {F:FD} {fl:List (Str×PU)}
theorem zoY:Wo (ze0 c i m F ma ρ) QE=Wo (ρ[i]?).join (Co (fun w=>if w.noF c m=true then z8 F (zf (zk i) ma) ρ else none) ⟨0⟩ QE):=by
 show Wo (Option.bind _ _) QE=_;rw [zp]
theorem zoZ:Wo (zuT c fl ρ) QE=QE (.u (.o c fl),ρ):=by
 show Wo (some _) QE=_;rw [zV]
theorem zsA{QX:List (List K3×D)->Prop}:Wo (fX c i f ρ) QX=Wo (ρ[i]?).join (Co (fun w=>(w.fp c f).bind (·.xs)) ⟨0⟩ QX):=by
 show Wo (Option.bind _ _) QX=_;rw [zp]
theorem zo0{QX:List D->Prop}:Wo (fLs c i f ρ) QX=Wo (ρ[i]?).join (Co (fun w=>(w.fp c f).bind (·.ls)) ⟨0⟩ QX):=by
 show Wo (Option.bind _ _) QX=_;rw [zp]
theorem zlm:Wo (zoN c i f mk ρ) QE=Wo (fX c i f ρ) (Co (fun kvs=>(mk ρ).bind fun p=>(zhE p).bind fun k=>(zcI kvs k).bind fun y=>some (.u (.d y),p.2)) ⟨0⟩ QE):=by
 show Wo (Option.bind _ _) QE=_;rw [zp]
theorem zo1{neg:Bool}:Wo (zuN neg mk c i f ρ) QE=Wo (mk ρ) (Co (fun p=>(fX c i f p.2).bind fun kvs=>(zhE p).bind fun k=>some (.u (.d (.bool (if neg=true then !(zcI kvs k).isSome else(zcI kvs k).isSome))),p.2)) ⟨0⟩ QE):=by
 show Wo (Option.bind _ _) QE=_;rw [zp]
theorem zln:Wo (zoO c i f mk mv ρ) QS=Wo (mv ρ) (Co (fun p=>(fX c i f p.2).bind fun kvs=>(mk p.2).bind fun q=>(zhE q).bind fun k=>(p.1.get q.2).bind fun x=>x.da.bind fun x=>(q.2[i]?).join.bind fun w=>if kvs.length < sizeLine then some (.nx (q.2.set i (some (w.setP f (.x (zcJ kvs k x))))))else none) ⟨0⟩ QS):=by
 show Wo (Option.bind _ _) QS=_;rw [zp]
theorem zlo:Wo (zoR c i f ρ) QE=Wo (fLs c i f ρ) (Co (fun xs=>some (.u (.d (.int xs.length)),ρ)) ⟨0⟩ QE):=by
 show Wo (Option.bind _ _) QE=_;rw [zp]
theorem zlp:Wo (zoX c i f ρ) QE=Wo (fLs c i f ρ) (Co (fun xs=>some (.u (.d (.tuple xs)),ρ)) ⟨0⟩ QE):=by
 show Wo (Option.bind _ _) QE=_;rw [zp]
theorem zlq:Wo (zlj c i f me ρ) QE=Wo (ρ[i]?).join (Co (fun w=>(w.fl c f).bind fun xs=>(me ρ).bind fun p=>(p.1.get p.2).bind fun u=>u.da.bind fun x=>if xs.length < sizeLine then some (.u (.d .none),p.2.set i (some (w.setP f (.l (xs++[x])))))else none) ⟨0⟩ QE):=by
 show Wo (Option.bind _ _) QE=_;rw [zp]
end
theorem zdH{X:Cx}{e:Expr}{f:Str}{pos:Pos}{ta:TE}(he:Wr (PE X e ta))(hb:attributeBase e f X.env (eval e X.env)=eval e X.env:=by rfl):Wr (PE X (.Attribute e f pos) (zeJ X.K ta f)):=zuE ⟨ztr he.run hb⟩
def OB(K:qc)(c:Str)(fl:List Str):Prop:=∀ C,XN K c C->Cls K C/\∀ f∈fl,zal K C f
theorem OB.of{K:qc}{c:Str}{C:Addr}{fl:List Str}(h:XN K c C)(k:Cls K C)(n:∀ f∈fl,zal K C f):OB K c fl:=fun C' h'=>by
 cases h.one h';exact⟨k,n⟩
theorem OB.at{K:qc}{c f:Str}{fl:List Str}(o:OB K c fl)(h:f∈fl:=by decide):∀ C,XN K c C->Cls K C/\zal K C f:=fun C x=>⟨(o C x).1,(o C x).2 f h⟩
def MtK(K:qc)(c x q:Str)(st:Stmt):Prop:=∃ (C f:Addr) (fd:FuncData),XN K c C/\Cls K C/\Fun K x q st f fd/\Meth K C x f
theorem mtK{K:qc}{c x q:Str}{st:Stmt}{C f:Addr}{oc:Value}{od an:Option Addr}{osl:Array (Option Value)}{kV doc pm cdv ct:Value}(a:PySem.W.nsIn K mainGlobals c=some (some (.ref C)))(pg:PySem.W.plainGet K C Str.empty=true)(hd:PySem.W.hasDictIn K C=true)(po:PySem.W.plainOver K C=true)(sa:PySem.W.findIn K (.ref C) "__setattr__"=some (some (.builtin "object.__setattr__")))
  (m:PySem.W.findIn K (.ref C) x=some (some (.ref f))) (fn:PySem.W.isFn K (.ref f)=true) (l:K.lookup f=some ⟨oc,od,.func (PySem.W.fnOf x q (zbw st) (zar st) (zJ st) .none kV doc pm an cdv ct),osl⟩) (cd:PySem.W.codeIn K cdv q=true) (k:PySem.W.keepIn K (.ref f)=true):MtK K c x q st :=
 ⟨C,f,_,a,⟨pg,hd,po,sa⟩,zji l cd k,⟨m,fn,k⟩⟩
abbrev Zs.M(Z:Zs)(c x:Str)(k:Nat)(ps:List Str)(n:Nat)(F:FD):Prop:=MCal Z.P Z.w Z.K Z.mg Z.base c x k ps (spV Z.K n F)
section
variable {Z:Zs} {c x q:Str} {st:Stmt} {ps:List Str} {k n nn:Nat} {pn:List Nat} {m:MS}
theorem zuV(A:MtK Z.K c x q st)(N:List Str)(hbody:∀ {f},zot Z q st k pn m N f)(S:FnScope N ps (zJ st):=by exact⟨rfl,rfl,rfl,by decide +kernel,rfl,by decide +kernel,by decide +kernel⟩)(hps:ps.length=n:=by rfl)(hN:N.length=nn:=by rfl)(hnn:n<=nn:=by decide)
  (hb:∀ (kV doc pm:Value) (an:Option Addr) (cdv ct:Value) (us:List Value),us.length=ps.length->bindArgs (PySem.W.fnOf x q (zbw st) (zar st) (zJ st) .none kV doc pm an cdv ct) ⟨us,[]⟩=pure (ps.zip us):=by
   intro _ _ _ _ _ _ us hl
   first
   | (obtain⟨_,rfl⟩:=zuA hl; rfl)
   | (obtain⟨_,_,rfl⟩:=zuB hl; rfl)
   | (obtain⟨_,_,_,rfl⟩:=zuC hl; rfl)
   | (obtain⟨_,_,_,_,rfl⟩:=zwp hl; rfl)):Z.M c x (k+1) ps n (za2 nn pn m) :=
 let ⟨C,f,fd,xn,cl,F,mt⟩:=A; ⟨⟨C,f,fd,xn,cl,F.okV S hps hN hnn fun cdv A outer s H E hr=>let ⟨t,a,b⟩:=hbody S.nd hr; ⟨t,b,a⟩,F.binds hb,mt⟩⟩
theorem zxi{fl:List (Str×PU)}{C f:Addr}{fd:FuncData}(xn:XN Z.K c C)(g:Z.mg c=some (.ref C))(M:Mk Z.K C f)(cl:Cls Z.K C)(na:∀ p∈fl,zal Z.K C p.1)(F:Fun Z.K "__init__" q st f fd)(ne:fl≠[])(nd:(fl.map (·.1)).Nodup)(hl:fl.length<=1000)
  (S:FnScope ["self"] ["self"] (zJ st))
  (hb:∀ (kV doc pm:Value) (an:Option Addr) (cdv ct:Value) (us:List Value),us.length=1->bindArgs (PySem.W.fnOf "__init__" q (zbw st) (zar st) (zJ st) .none kV doc pm an cdv ct) ⟨us,[]⟩=pure (([("self":Str)]:List Str).zip us))
  (hw:∀ {cdv:Value} {A:Around} {outer:List Env} {s:Shared} {H:Hp} {E:XK},([("self":Str)]:List Str).Nodup->Wr (PSs (zgn CX0 Z.P Z.w Z.K Z.mg Z.base ["self"] q (zJ st) f cdv A outer s H E).nox (zar st) (zoV Z.K fl))):NCal Z.P Z.w Z.K Z.mg Z.base c fl:=by
 refine⟨C,f,fd,["self"],xn,g,M,F.binds hb,F.okW (k:=0) S (fun vs H Q E h=>zre h) fun cdv A outer s H vs Q E hr h=>⟨_,hw S.nd,?_⟩⟩;obtain⟨a,dx,rfl,e,q⟩:=h;exact ziR cl ne na (by rw [List.map_nil,List.nil_append]; exact nd) (by rw [List.length_nil,Nat.zero_add]; exact hl) e q
end
section
variable {K:Type} [DecidableEq K] {prog:Program} {w:World} {knd:HeapKind prog w K} {A:Around} {E:Value->Shared->Prop} {s:Shared}
theorem zml{d a:Addr}{xs:List (K×Addr×Value)}{k:K}{v:Value}{Q:Value->Shared->Prop}(hu:knd.room A)(hkey:knd.is s.heap k a)(hm:s.heap.DictOfH knd d xs)
  (h1:∀ p,atKey xs k=some p->Q p.2 { s with toks:=s.toks+knd.draws k })
  (hQ:atKey xs k=none->∀ h',h'.DictOfH knd d (storedH xs k a v)->Heap.SameBut d s.heap h'->Q v { s with heap:=h',toks:=s.toks+knd.draws k })
  (hsz:xs.length<=sizeLine:=by size_fits) :
  wpAny (model prog w) A (dictSetDefault d (.ref a) v) Q E s:=by
 obtain⟨o,es,ep,ho,hc,hd,he,his,hn⟩:=hm;unfold dictSetDefault
 try with_reducible refine wpAny_holding ?_
 refine qa (knd.pyHash hu hkey ?_);refine qa (wpAny_dictFind_heap (s:={ s with toks:=s.toks+knd.draws k }) hu hkey ho hd he his hn ?_ ?_)
 ·intro hno
  have hnot:k∉xs.map (·.1):=not_mem_keys_of_get hno;refine qa (wpAny_rule (qa (wpAny_updateDictKeys (hz:=by have e:=size_of_entries he; omega) (s:={ s with toks:=s.toks+knd.draws k }) ho hd (qb (hQ (atKey_none_of_get hno) _ ⟨_,_,ep+1,Heap.get?_update_self _ ho (Obj.isFreed_of_dict (Obj.data_mapDictKeys hd _)),
   hc.mapDictKeys _,Obj.data_mapDictKeys hd _,?_,?_,?_⟩ (Heap.SameBut.update ..))))))
  ·rw [storedH_new (atKey_none_of_get hno)]
   simp [he,entryOfKey]
  ·rw [storedH_new (atKey_none_of_get hno)]
   intro x hx;rcases List.mem_append.mp hx with hx | hx
   ·exact knd.keeps (his x hx) ho hd (Heap.SameBut.update ..)
   ·simp only [qq]at hx
    subst hx;exact knd.keeps hkey ho hd (Heap.SameBut.update ..)
  ·rw [storedH_new (atKey_none_of_get hno)]
   rw [List.map_append,List.nodup_append];refine⟨hn,by simp,?_⟩;intro x hx y hy;simp only [List.map_cons,List.map_nil,qq]at hy;subst hy;exact fun e=>hnot (e▸hx)
 ·intro j p hj
  refine qa (wpAny_dictEntries (s:={ s with toks:=s.toks+knd.draws k }) ho hd ?_);rw [entry_at he j,hj];exact qa (wpAny_rule (qb (h1 p (atKey_of_get hn hj))))
end
def zsB(K:qc)(td ty tx:TE):TE:=fun σ H Q=>td σ H fun x H1=>∃ a,x=.ref a/\IsD H1 a/\ty σ H1 fun y H2=>tx σ H2 fun z H3 =>
 ∃ kvs k b,y=.ref b/\H3 a=some (.dT kvs)/\TpK K H3 b (k.map kV)/\kvs.length < sizeLine/\(∀ v,zbu kvs k=some v->Q v H3)/\(zbu kvs k=none->Q z (upd H3 a (.dT (zcj kvs k z))))
theorem zuW{X:Cx}{pins:List (Addr×Obj)}{σ:St}{H:Hp}{s:Shared}{a b:Addr}{v:V}{r:Value}{A:Around}{E:Value->Shared->Prop}{kvs:List (List Key×V)}{k:List Key}{Q:Value->Shared->Prop}(hu:A.units+1 < cLine)(I:Inv X pins σ H s)
  (e:H a=some (.dT kvs)) (eb:TpK X.K H b (k.map kV)) (l:kvs.length < sizeLine) (rv:zI v r) (h1:∀ x w' s',zbu kvs k=some x->Inv X pins σ H s'->zI x w'->Q w' s') (h2:zbu kvs k=none->∀ s',Inv X pins σ (upd H a (.dT (zcj kvs k v))) s'->Q r s') :
  wpAny (model X.prog X.w) A (call (.builtin "dict.setdefault") [.ref a,.ref b,r]) Q E s:=by
 obtain⟨z,hd,xs,rel,dd⟩:=zm6 I.kIn I.hok e;have hz:xs.length<=sizeLine:=by rw [<-Paired.length rel]; exact z
 have hl:(zcj kvs k v).length<=sizeLine:=by have:=zcO kvs k v; omega
 refine wpAny_call_entry PySem.F.slot_dict_setdefault dd.typeIs PySem.F.entry_dict_setdefault ?_ (PySem.F.args_dict_setdefault_3 _ _ _);unfold Builtin.«dict.setdefault»;refine qa ?_;unfold Builtin.Dict.keyAndDefault;refine qa (wpAny_notOrdered_dict dd.typeIs ?_);show wpAny _ _ (pure (a,Value.ref b,some r)) _ _ s;refine qb ?_;show wpAny _ _ (if(a==sysModules)=true then _ else(dictSetDefault a (.ref b) r >>= _)) _ _ s;rw [if_neg (by rw [hd]; exact qf)];have rv':=rel.val k;refine qa (zml (hsz:=hz) (tupleKind_room_in1 hu) (zei I.kIn I.hok eb) dd (fun p hp=>?_) fun hn h' dd' hs=>?_)
 ·rw [hp]at rv'
  cases ev:zbu kvs k with
  | none=>rw [ev]at rv'; exact rv'.elim
  | some x =>
   rw [ev]at rv';exact qb ⟨_,rfl,h1 x _ _ ev (I.tok _) rv'⟩
 ·rw [hn]at rv'
  have ev:zbu kvs k=none:=by
   cases ev:zbu kvs k with
   | none=>rfl
   | some x=>rw [ev]at rv'; exact rv'.elim
  refine qb ⟨_,rfl,h2 ev _ ?_⟩;obtain⟨q,es,ep,hq,h2,h3,h4,_,h5⟩:=dd';refine ze7 I (by rw [e]; exact True.intro) hs ⟨q,hq⟩ ⟨hl,hd,_,(rel.put k eb rv).keeps fun c ys ec=>?_,q,es,ep,hq,h2,h3,h4,h5⟩;rw [zq (zfp ec e (fun z=>nomatch z))];exact ec
theorem zuX{X:Cx}{o e f:Expr}{apos cpos:Pos}{td ty tx:TE}{n:Nat}(hr:Room n X.A)(ho:Wr (PE X o td))(he:Wr (PE X e ty))(hf:Wr (PE X f tx))(m:M2 X o "setdefault" apos e f cpos:=by exact⟨rfl,rfl,rfl,rfl⟩):Wr (PE X (.Call (.Attribute o "setdefault" apos) [e,f] [] cpos) (zsB X.K td ty tx)):=by
 refine⟨?_⟩;intro pins s σ H Q I h;refine wpAny_Call_method m.base m.few m.line PySem.F.plainAttrs_dict PySem.F.slot_dict_setdefault PySem.F.type_dict_setdefault (thn (ho.run pins s σ H _ I h) fun u s1 hZ=>?_);obtain⟨x,H1,I1,rx,a,ex,d,q1⟩:=hZ;subst ex;obtain rfl:u=Value.ref a:=rx;obtain⟨t1,t2,_⟩:=ztE I1 d;refine⟨t1,t2,?_⟩;rw [m.trees];refine Calls.callWith_builtin rfl (Calls.evalArgs_plain (Calls.spliced_cons (thn (he.run pins s1 σ H1 _ I1 q1) fun iv s2 ⟨y,H2,I2,ry,q2⟩ =>
  Calls.spliced_cons (thn (hf.run pins s2 σ H2 _ I2 q2) fun fv s3 hZ=>Calls.spliced_nil ?_))))
 obtain⟨z,H3,I3,rz,kvs,k,b,ey,e3,eb,hl,k1,k2⟩:=hZ;subst ey;obtain rfl:iv=Value.ref b:=ry;exact zuW (zib hr) I3 e3 eb hl rz (fun x w' s' ev I' rw'=>⟨_,_,I',rw',k1 x ev⟩) fun ev s' I'=>⟨_,_,I',rz,k2 ev⟩
def zlr(i:Nat)(my mx:ME):ME:=fun ρ=>(ρ[i]?).join.bind fun w0=>if ziE w0=true then(my ρ).bind fun p=>(mx p.2).bind fun q=>(p.1.get q.2).bind fun y=>y.da.bind fun y=>(q.1.get q.2).bind fun x=>x.da.bind fun x=>(zaM y).bind fun k=>(q.2[i]?).join.bind fun w=>match w with
 | .t kvs=>if kvs.length < sizeLine then some (match zcI kvs k with | some v=>(.u (.d v),q.2) | none=>(.u (.d x),q.2.set i (some (.t (zcJ kvs k x)))))else none
 | _=>none else none
theorem zuY{K:qc}{i:Nat}{ty tx:TE}{my mx:ME}(hy:VE K ty my)(hx:VE K tx mx):VE K (zsB K (zbF i) ty tx) (zlr i my mx):=by
 intro ρ σ H a ρ' Q r e q;replace e:=zd e;obtain⟨w0,e0,e⟩:=e;split at e
 rotate_left
 ·cases e
 rename_i hw0;replace e:=zd e;obtain⟨⟨a1,ρ1⟩,e1,e⟩:=e;replace e:=zd e;obtain⟨⟨b1,ρ2⟩,e2,e⟩:=e;replace e:=zd e;obtain⟨uy,euy,e⟩:=e;replace e:=zd e;obtain⟨y,ey,e⟩:=e;replace e:=zd e;obtain⟨ux,eux,e⟩:=e;replace e:=zd e;obtain⟨x,ex,e⟩:=e;replace e:=zd e;obtain⟨k,ek,e⟩:=e;replace e:=zd e;obtain⟨w,ew,e⟩:=e;cases zbl ey;cases zbl ex;dsimp only at euy eux ew e;obtain⟨v0,ev0,p0⟩:=r.rep i w0 (zaa e0);obtain⟨l,rfl,hl⟩:=zn8 p0 hw0;refine⟨_,ev0,l,rfl,hl,hy ρ σ H a1 ρ1 _ r e1 fun yv H1 g1 k1=>hx ρ1 σ H1 b1 ρ2 _ g1.rs e2 fun xv H2 g2 k2=>?_⟩;have py:=k1.later r g1 g2 euy;have px:=k2.now g1.rs g2 eux;split at e
 ·rename_i kvs
  split at e
  ·rename_i hz
   obtain⟨w',ew',p1⟩:=g2.rs.rep i _ (zaa ew);obtain⟨l',us,rfl,hl',ds⟩:=p1;rw [ev0]at ew';cases ew';obtain⟨kb,rfl,hkb⟩:=zdg py ek;refine⟨us,k,kb,rfl,hl',hkb,by rw [ds.len]; exact hz,fun v hv=>?_,fun hv=>?_⟩
   ·rcases ds.val k with ⟨v',d,h1,h2,h3⟩ | ⟨h1,_⟩
    ·rw [h1]at hv
     cases hv;rw [h2]at e;cases e;exact q _ _ (g1.trans g2) ⟨h3,Nw.data⟩
    ·rw [h1]at hv; cases hv
   ·rcases ds.val k with ⟨v',d,h1,h2,h3⟩ | ⟨_,h2⟩
    ·rw [h1]at hv; cases hv
    ·rw [h2]at e
     cases e;have kp:=zbc hl' trivial (.dT (zcj us k xv));exact q _ _ ((g1.trans g2).trans (Go.own (u':=.t (zcJ kvs k x)) g2.rs (zaa ew) rfl ev0 ⟨l,_,rfl,zr,(ds.kp kp).put k (DF.kp kp px)⟩)) ⟨DF.kp kp px,Nw.data⟩
  ·cases e
 ·cases e
section
variable {X:Cx}
def zo2(K:qc):R2:=fun x y H Q=>∃ p xs i v,x=.ref p/\y=.int i/\0<=i/\SqL K H p xs/\atI xs i=some v/\Q v H
theorem zo3:zvk X (zo2 X.K):=by
 intro pins s σ H x y v u Q I rx ry h;obtain⟨p,xs,i,z,rfl,rfl,h0,hq,he,q⟩:=h;cases rx;obtain⟨t,rfl⟩:=ry;obtain⟨its,r,pl,hz⟩:=I.list hq;obtain⟨j,h1,h2,h3,h4,h5⟩:=zg3 he;obtain⟨w,ew,rw'⟩:=r.get h2;have hl:=r.length;have hn:=zed;have hj:i.toNat=j:=by
  rw [seqIndex_of h0 h5]at h1;exact qx h1
 exact wpAny_getItem_list pl.isList h0 (by omega) (by rw [hj]; simpa using ew) ⟨z,H,I,rw',q⟩
theorem zuZ{o i e:Expr}{to ti te:TE}{tpos pos:Pos}(ho:Wr (PE X o to))(hi:Wr (PE X i ti))(he:Wr (PE X e te))(ha:∀ ov iv new,augStore i ov iv new=(do holding [new,ov,iv] (setItem ov iv new); release [new,ov,iv] []; pure .next):=by intros; rfl) :
  Wr (PS X (.AugAssign (.Subscript o i tpos) .Add e pos) (zmK to ti te (zo2 X.K) (ipI fun i j=>i+j) zj9)):=⟨zp3 ho.run hi.run zo3 he.run ztg zca ha⟩
end
def U.lsu:U->Option (List D)
 | .l xs=>some xs
 | _=>none
theorem zd2{w:U}{xs:List D}(h:w.lsu=some xs):w=.l xs:=by
 cases w with
 | l ys=>cases h; rfl
 | _=>cases h
def zu0(i:Nat)(mi me:ME):MS:=fun ρ=>(ρ[i]?).join.bind fun _=>(mi ρ).bind fun p=>(p.1.get p.2).bind fun y=>y.da.bind fun y=>(ziP y).bind fun n=>(p.2[i]?).join.bind fun w=>w.lsu.bind fun xs=>if 0<=n then(atI xs n).bind fun x=>(ziP x).bind fun a =>
 (me p.2).bind fun q=>(q.1.get q.2).bind fun z=>z.da.bind fun z=>(ziP z).bind fun b=>(q.2[i]?).join.bind fun w=>w.lsu.bind fun ys=>(ixN ys.length n).bind fun j=>some (.nx (q.2.set i (some (.l (ys.set j (.int (a+b)))))))else none
section
variable {EX:EXT} {K:qc} {pn:List Nat} {ρ ρ':En} {σ:St} {H H':Hp}
theorem zwH{i:Nat}{te ti:TE}{me mi:ME}(hi:VE K ti mi)(h:VE K te me):VS K pn EX (zmK (zbF i) ti te (zo2 K) (ipI fun i j=>i+j) zj9) (zu0 i mi me):=by
 intro σ₀ A H₀ H₁ ρ σ H f D s e k;replace e:=zd e;obtain⟨w0,e0,e⟩:=e;replace e:=zd e;obtain⟨⟨a1,ρ1⟩,e1,e⟩:=e;replace e:=zd e;obtain⟨uy,euy,e⟩:=e;replace e:=zd e;obtain⟨y,ey,e⟩:=e;replace e:=zd e;obtain⟨n,en,e⟩:=e;replace e:=zd e;obtain⟨w,ew,e⟩:=e;replace e:=zd e;obtain⟨xs,ex,e⟩:=e;split at e
 rotate_left
 ·cases e
 rename_i h0;replace e:=zd e;obtain⟨x,exx,e⟩:=e;replace e:=zd e;obtain⟨av,ea,e⟩:=e;replace e:=zd e;obtain⟨⟨b1,ρ2⟩,e2,e⟩:=e;replace e:=zd e;obtain⟨uz,euz,e⟩:=e;replace e:=zd e;obtain⟨z,ez,e⟩:=e;replace e:=zd e;obtain⟨bv,eb,e⟩:=e;replace e:=zd e;obtain⟨w2,ew2,e⟩:=e;replace e:=zd e;obtain⟨ys,ey2,e⟩:=e;replace e:=zd e;obtain⟨j,ej,e⟩:=e;cases e;cases zf5 en;cases zf5 ea;cases zf5 eb;cases zbl ey;cases zbl ez;cases zd2 ex;cases zd2 ey2;dsimp only at euy ew euz ew2 e2;obtain⟨v0,ev0,_⟩:=s.rs.rep i w0 (zaa e0);refine⟨v0,ev0,hi ρ σ H a1 ρ1 _ s.rs e1 fun yv H1 g1 k1=>?_⟩;have py:=k1.now s.rs g1 euy;obtain⟨w',ew',p1⟩:=g1.rs.rep i _ (zaa ew);obtain⟨l,us,rfl,hl,ds⟩:=p1;rw [ev0]at ew';cases ew';obtain⟨xv,exv,dx⟩:=ds.atI exx;refine⟨l,us,n,xv,rfl,DF.int_inv py,h0,SqL.of hl,exv,?_⟩;refine h ρ1 σ H1 b1 ρ2 _ g1.rs e2 fun zv H2 g2 k2=>?_;have pz:=k2.now g1.rs g2 euz;refine⟨av,bv,DF.int_inv dx,DF.int_inv pz,?_⟩;obtain⟨w',ew',p2⟩:=g2.rs.rep i _ (zaa ew2);obtain⟨l',us2,rfl,hl2,ds2⟩:=p2;rw [ev0]at ew';cases ew';refine⟨l,us2,n,j,rfl,DF.int_inv py,hl2,by rw [ds2.len]; exact ej,k _ _ ((s.go (g1.trans g2)).go (Go.own (u':=.l (ys.set j (.int (av+bv)))) g2.rs (zaa ew2) rfl ev0 ?_))⟩;have kp:=zbc hl2 trivial (.lst (us2.set j (.int (av+bv))));exact⟨l,_,rfl,zr,(ds2.kp kp).set (.int _) j⟩
def zu1(i:Nat)(me:ME):ME:=fun ρ=>(ρ[i]?).join.bind fun w=>w.lsu.bind fun _=>(me ρ).bind fun p=>(p.1.get p.2).bind fun u=>u.lsu.bind fun zs=>(p.2[i]?).join.bind fun w=>w.lsu.bind fun xs=>if xs.length+zs.length<=sizeLine then some (.u (.d .none),p.2.set i (some (.l (xs++zs))))else none
theorem zwI{i:Nat}{te:TE}{me:ME}(h:VE K te me):VE K (tBM K "list" zka (zbF i) (zcs te zef)) (zu1 i me):=by
 intro ρ σ H a ρ' Q r e q;replace e:=zd e;obtain⟨w0,e0,e⟩:=e;replace e:=zd e;obtain⟨xs0,ex0,e⟩:=e;replace e:=zd e;obtain⟨⟨b,ρ1⟩,e1,e⟩:=e;replace e:=zd e;obtain⟨u,eu,e⟩:=e;replace e:=zd e;obtain⟨zs,ez,e⟩:=e;replace e:=zd e;obtain⟨w,ew,e⟩:=e;replace e:=zd e;obtain⟨xs,ex,e⟩:=e;cases zd2 ex0;cases zd2 ez;cases zd2 ex;dsimp only at eu ew e;split at e
 ·rename_i hz
  cases e;obtain⟨v0,ev0,p0⟩:=r.rep i _ (zaa e0);obtain⟨l,us0,rfl,hl0,_⟩:=p0;refine⟨_,ev0,.inl ⟨rfl,us0,SqL.of hl0⟩,?_⟩;refine h ρ σ H b ρ1 _ r e1 fun v H1 g1 k1=>?_;obtain⟨l2,us2,rfl,hl2,ds2⟩:=k1.now r g1 eu;obtain⟨w,ew',p1⟩:=g1.rs.rep i _ (zaa ew);obtain⟨l',us,rfl,hl,ds⟩:=p1;rw [ev0]at ew';cases ew';refine⟨l,l2,us,us2,rfl,rfl,hl,hl2,by rw [ds.len,ds2.len]; exact hz,q _ _ (g1.trans (Go.own (u':=.l (xs++zs)) g1.rs (zaa ew) rfl ev0 ?_)) ⟨.non,Nw.data⟩⟩;have kp:=zbc hl trivial (.lst (us++us2));exact⟨l,_,rfl,zr,(ds.kp kp).app (ds2.kp kp)⟩
 ·cases e
end
abbrev ItO(d i n ep:Nat)(x0 x1 ok ov:Value):Obj:={ cls:=.type "dict_itemiterator",dict:=none,data:=.fields #[x0,x1,.ref d,.int i 0,.int n 0,.int ep 0,ok,ov],slots:=#[] }
def ziS(h:Heap)(it d:Addr)(i n ep:Nat):Prop:=∃ x0 x1 ok ov,(x0=Value.none\/∃ a:Addr,x0=rawInt a)/\h.get? it=some (ItO d i n ep x0 x1 ok ov)
section
variable {prog:Program} {w:World} {A:Around} {E:Value->Shared->Prop} {s:Shared} {it d:Addr} {i ep:Nat} {es:Array DictEntry}
theorem zmm{a:Addr}{Q:Option Obj->Shared->Prop}(h:Q (s.heap.get? a) s):wpAny (model prog w) A (loadIfAlive a) Q E s:=fun Γ p _=>by
 unfold loadIfAlive;rw [Sem.wp_loadIfAlive];exact(by simpa using h)
theorem zjO{Q:Option Value->Shared->Prop}(k0:ziS s.heap it d i es.size ep)(r:zgq s.heap d es ep){x:DictEntry}(hx:es[i]?=some x)
  (q:∀ h':Heap,ziS h' it d (i+1) es.size ep->h'.get? s.heap.objs.size=some { cls:=.type "tuple",data:=.seq #[x.key,x.val] }->(∀ b o,b≠it->s.heap.get? b=some o->h'.get? b=some o)->Q (some (.ref s.heap.objs.size)) { s with heap:=h' }):wpAny (model prog w) A (pyNext (.ref it)) Q E s:=by
 obtain⟨x0,x1,ok,ov,hx0,k⟩:=k0;have kT:s.TypeIs (.ref it) "dict_itemiterator":=⟨_,k,rfl⟩;obtain⟨o,e,_,dat⟩:=r;have nit:s.heap.objs.size≠it:=Ne.symm (qj (qh k));unfold pyNext;refine qa (wpAny_attempt (wpAny_callSpecial?_slot (name:=Str.ofString "__next__") kT F.slot_dict_itemiterator_next
  (wpAny_call_entry F.slot_dict_itemiterator_next kT F.entry_dict_itemiterator_next ?_ (F.args_dict_itemiterator_next_1 _))))
 refine qa (qb (qa (qa ?_)));refine qa (wpAny_typeNameOfWhole_itemiter kT (qb (qa (wpAny_fieldsOf k rfl ?_))));simp only [show Builtin.Dict_items.ownsTuple "dict_itemiterator"=true by decide,if_true];show wpAny _ _ (if(Value.ref d==Value.none)=true then _ else _) _ _ s;rw [if_neg (show ¬((Value.ref d==Value.none)=true) from qf)];refine qa (qb (qa (wpAny_dictEntries e dat ?_)));rw [if_neg (by simp)];refine qa (qb (qa (wpAny_dictEpoch e dat ?_)));rw [if_neg (by simp)];refine qb ?_;simp only [show ¬((i:Int) < 0) from by omega,if_false,Int.toNat_natCast,hx];refine qa (qa (wpAny_typeNameOfWhole_itemiter kT (qb (qa (wpAny_isOneOf_itemiter kT ?_)))));show wpAny _ _ (setField (.ref it) 3 (rawInt ((i:Int)+1)) >>= _) _ _ s;refine qa (za3 k (by simp) fun h1 k1 z1 f1=>?_);refine qa (wpAny_holding ?_);have kT1:Shared.TypeIs { s with heap:=h1 } (.ref it) "dict_itemiterator":=⟨_,k1,rfl⟩;refine qa (wpAny_isOneOf_itemiter kT1 ?_);show wpAny _ _ (Builtin.Dict_items.isOneOf (.ref it) _ >>= _) _ _ _;refine qa (wpAny_isOneOf_itemiter kT1 ?_);show wpAny _ _ (Builtin.Dict_items.pairFromOwner (.ref it) 6 x.key x.val) _ _ _;unfold Builtin.Dict_items.pairFromOwner;simp only [newTuple];refine qa (qA ?_ (by show(2:Nat)<=sizeLine; decide));have k2:(h1.push { cls:=.type "tuple",data:=.seq #[x.key,x.val] }).get? it=some (ItO d (i+1) es.size ep x0 x1 ok ov):=qd _ k1;have t2:(h1.push { cls:=.type "tuple",data:=.seq #[x.key,x.val] }).get? h1.objs.size=_:=qg _ rfl;have f2:∀ b o,b≠it->s.heap.get? b=some o->(h1.push { cls:=.type "tuple",data:=.seq #[x.key,x.val] }).get? b=some o:=fun b o hb z=>qd _ (f1 b o hb z);rw [z1]at t2;show wpAny _ _ _ _ _ { s with heap:=h1.push { cls:=.type "tuple",data:=.seq #[x.key,x.val] } };generalize h1.push { cls:=.type "tuple",data:=.seq #[x.key,x.val] }=h2 at k2 t2 f2 ⊢;rw [z1];have free:wpAny (model prog w) A.in1 (do
   let old:=[<-field (.ref it) 6,<-field (.ref it) (6+1)]
   setField (.ref it) 6 x.key; setField (.ref it) (6+1) x.val
   setField (.ref it) 0 (rawInt s.heap.objs.size); setField (.ref it) 1 (.bool false)
   letGo old [.ref s.heap.objs.size]
   pure (Value.ref s.heap.objs.size)) (fun v s'=>v=.ref s.heap.objs.size/\∃ h',s'={ s with heap:=h' }/\ziS h' it d (i+1) es.size ep/\h'.get? s.heap.objs.size=some { cls:=.type "tuple",data:=.seq #[x.key,x.val] }/\∀ b o,b≠it->s.heap.get? b=some o->h'.get? b=some o) (fun _ _=>False) { s with heap:=h2 }:=by
  refine qa (wpAny_field k2 rfl (x:=ok) rfl ?_);refine qa (wpAny_field k2 rfl (x:=ov) rfl ?_);refine qa (za3 k2 (by simp) fun h3 k3 z3 f3=>?_);refine qa (za3 k3 (by simp) fun h4 k4 z4 f4=>?_);refine qa (za3 k4 (by simp) fun h5 k5 z5 f5=>?_);refine qa (za3 k5 (by simp) fun h6 k6 z6 f6=>?_);refine qa (wpAny_letGo (qb ⟨rfl,h6,rfl,⟨rawInt s.heap.objs.size,.bool false,x.key,x.val,.inr ⟨_,rfl⟩,?_⟩,?_,fun b o hb z=>?_⟩))
  ·rw [k6]
   rfl
  ·exact f6 _ _ nit (f5 _ _ nit (f4 _ _ nit (f3 _ _ nit t2)))
  ·exact f6 b o hb (f5 b o hb (f4 b o hb (f3 b o hb (f2 b o hb z))))
 have fin:∀ {h':Heap},ziS h' it d (i+1) es.size ep->h'.get? s.heap.objs.size=some { cls:=.type "tuple",data:=.seq #[x.key,x.val] }->(∀ b o,b≠it->s.heap.get? b=some o->h'.get? b=some o)->Q (some (.ref s.heap.objs.size)) { s with heap:=h' }:=fun{h'} a b c=>q h' a b c;unfold Builtin.Dict_items.ownedTupleIsFree;rcases hx0 with rfl | ⟨a0,rfl⟩
 ·refine qa (qa (wpAny_field k2 rfl (x:=.none) rfl (qb ?_)))
  show wpAny _ _ (if true=true then _ else _) _ _ _;rw [if_pos rfl];refine wpAny_mono free (fun v s' hz=>?_) fun _ _ z=>z.elim;obtain⟨rfl,h',rfl,a,b,c⟩:=hz;exact qb ⟨_,rfl,qb (fin a b c)⟩
 ·refine qa (qa (wpAny_field k2 rfl (x:=rawInt a0) rfl ?_))
  show wpAny _ _ (loadIfAlive (a0:Int).toNat >>= _) _ _ _;refine qa (zmm ?_);dsimp only
  by_cases ha:(h2.get? (a0:Int).toNat).isNone=true
  ·rw [if_pos ha]
   refine qb ?_;show wpAny _ _ (if true=true then _ else _) _ _ _;rw [if_pos rfl];refine wpAny_mono free (fun v s' hz=>?_) fun _ _ z=>z.elim;obtain⟨rfl,h',rfl,a,b,c⟩:=hz;exact qb ⟨_,rfl,qb (fin a b c)⟩
  ·rw [if_neg ha]
   refine qa (wpAny_field k2 rfl (x:=x1) rfl ?_)
   by_cases hb:(x1 != Value.bool true)=true
   ·rw [if_pos hb]
    refine qa (za3 k2 (by simp) fun h3 k3 z3 f3=>qb ?_);show wpAny _ _ (if false=true then _ else _) _ _ _;rw [if_neg qf];refine qb (qb ⟨_,rfl,qb (fin ⟨rawInt a0,.bool true,ok,ov,.inr ⟨_,rfl⟩,?_⟩ (f3 _ _ nit t2) fun b o hb z=>f3 b o hb (f2 b o hb z))⟩);rw [k3];rfl
   ·rw [if_neg hb]
    refine qb ?_;show wpAny _ _ (if false=true then _ else _) _ _ _;rw [if_neg qf];exact qb (qb ⟨_,rfl,qb (fin ⟨rawInt a0,x1,ok,ov,.inr ⟨_,rfl⟩,k2⟩ t2 f2)⟩)
end
abbrev dc2(kx vx t1 i1 t2 i2:Expr)(scope:Scope)(pos:Pos):Expr:=.DictComp kx vx [⟨t1,i1,[],0⟩,⟨t2,i2,[],0⟩] scope pos
section
variable {prog:Program} {w:World} {A:Around} {R:Result->Shared->Prop} {s:Shared} {kx vx t1 i1 t2 i2:Expr} {scope:Scope} {pos:Pos} {it:Value} {D:Addr} {env:Env}
theorem zrf:compTurn (dc2 kx vx t1 i1 t2 i2 scope pos) 0 it (.ref D) env=(do
   standAt i1.pos
   match <-pyNext it with
   | none=>pure (.done .next)
   | some v =>
    letOwnedTupleGo t1 it v
    assign t1 env v
    let x <-eval i2 env
    standAt i2.pos
    let x <-foldedSetIterable i2 env x
    let _ <-runOwn (.compStart (dc2 kx vx t1 i1 t2 i2 scope pos) 1 (<-holding [x] (pyIter x)) (.ref D) env) env
    again (.compLoop (dc2 kx vx t1 i1 t2 i2 scope pos) 0 it (.ref D) env)):=by rfl
theorem zrg:compTurn (dc2 kx vx t1 i1 t2 i2 scope pos) 1 it (.ref D) env=(do
   standAt i2.pos
   match <-pyNext it with
   | none=>pure (.done .next)
   | some v =>
    letOwnedTupleGo t2 it v
    assign t2 env v
    (do
      let kv <-eval kx env
      let vv <-holding [kv] (eval vx env)
      standAt { kx.pos with endLine:=vx.pos.endLine,endCol:=vx.pos.endCol }
      holding [kv,vv] (dictSet D kv vv))
    again (.compLoop (dc2 kx vx t1 i1 t2 i2 scope pos) 1 it (.ref D) env)):=by rfl
theorem zo4(I:Nat->Shared->Prop)
  (turn:∀ n s,I n s->∀ E,wpAny (model prog w) A (pyNext it) (fun r s1=>match r with
   | none=>R (.ok .next) s1
   | some v=>wpAny (model prog w) A (letOwnedTupleGo t2 it v) (fun _ s2=>wpAny (model prog w) A (assign t2 env v) (fun _ s3 =>
     wpAny (model prog w) A (eval kx env) (fun k s5=>wpAny (model prog w) A (eval vx env) (fun v s6=>wpAny (model prog w) A (dictSet D k v) (fun _ s7=>∃ m,m < n/\I m s7) E s6) E s5) E s3) E s2) E s1) E s)
  (n:Nat) (h:I n s):codeAny (model prog w) A (.compLoop (dc2 kx vx t1 i1 t2 i2 scope pos) 1 it (.ref D) env) R s:=by
 refine codeAny_loop rfl I (fun n s hI=>?_) n h;show wpAny _ A ((compTurn _ 1 it (.ref D) env).onRaise (fun x=>do noteFrame x env; theTreesLotGoes x)) _ _ s;refine wpAny_noted ?_;rw [zrg];refine qa (wpAny_standAt (qa (wpAny_mono (turn n s hI _) (fun r s1 h1=>?_) fun _ _ z=>z)));cases r with
 | none=>exact qb h1
 | some v =>
  refine qa (wpAny_mono h1 (fun _ s2 h2=>?_) fun _ _ z=>z);refine qa (wpAny_mono h2 (fun _ s3 h3=>?_) fun _ _ z=>z);refine qa (qa (wpAny_mono h3 (fun x s5 h5=>?_) fun _ _ z=>z));refine qa (wpAny_holding (wpAny_mono h5 (fun y s6 h6=>?_) fun _ _ z=>z));exact qa (wpAny_standAt (wpAny_holding (wpAny_mono h6 (fun _ s7 h7=>qb ⟨rfl,h7⟩) fun _ _ z=>z)))
theorem zo5{acc:Value}
  (h0:codeAny (model prog w) A (.compLoop (dc2 kx vx t1 i1 t2 i2 scope pos) 1 it acc env) R s)
  (h:wpAny (model prog w) A (pyIter it) (fun it' s'=>codeAny (model prog w) A (.compLoop (dc2 kx vx t1 i1 t2 i2 scope pos) 1 it' acc env) R s')
   (notedBy (model prog w) A env fun x s'=>R (.error x) s') s) :
  codeAny (model prog w) A (.compStart (dc2 kx vx t1 i1 t2 i2 scope pos) 1 it acc env) R s:=by
 refine codeAny_of_tree ?_;show wpAny _ A ((compStart (dc2 kx vx t1 i1 t2 i2 scope pos) 1 it acc env).onRaise (fun x=>do noteFrame x env; standAt theWindowsPlace)) _ _ s;refine wpAny_notedAt ?_;unfold compStart;show wpAny _ A (ask >>= _) _ _ s;refine qa (wpAny_askSetting (wpAny_ite ?_));split
 ·first
   | exact qa (qb (qb (And.intro rfl h0)))
   | exact qb (And.intro rfl h0)
 ·first
   | exact qa (wpAny_rule (qa (wpAny_standAt (qa (wpAny_mono h (fun it' s' h'=>qb (And.intro rfl h')) fun _ _ x=>x)))))
   | (refine qa (wpAny_rule ?_); show wpAny _ _ (standAt i2.pos >>= _) _ _ s; exact qa (wpAny_standAt (qa (wpAny_mono h (fun it' s' h'=>qb (And.intro rfl h')) fun _ _ x=>x))))
theorem zo6(hs:∀ x,foldedSetIterable i2 env x=pure x)(I:Nat->Shared->Prop)
  (turn:∀ n s,I n s->∀ E,wpAny (model prog w) A (pyNext it) (fun r s1=>match r with
   | none=>R (.ok .next) s1
   | some v=>wpAny (model prog w) A (letOwnedTupleGo t1 it v) (fun _ s2=>wpAny (model prog w) A (assign t1 env v) (fun _ s3 =>
     wpAny (model prog w) A (eval i2 env) (fun x s4=>wpAny (model prog w) A (pyIter x) (fun it2 s5=>codeAny (model prog w) A (.compStart (dc2 kx vx t1 i1 t2 i2 scope pos) 1 it2 (.ref D) env) (fun r s6=>r=.ok .next/\∃ m,m < n/\I m s6) s5) E s4) E s3) E s2) E s1) E s)
  (n:Nat) (h:I n s):codeAny (model prog w) A (.compLoop (dc2 kx vx t1 i1 t2 i2 scope pos) 0 it (.ref D) env) R s:=by
 refine codeAny_loop rfl I (fun n s hI=>?_) n h;show wpAny _ A ((compTurn _ 0 it (.ref D) env).onRaise (fun x=>do noteFrame x env; theTreesLotGoes x)) _ _ s;refine wpAny_noted ?_;rw [zrf];refine qa (wpAny_standAt (qa (wpAny_mono (turn n s hI _) (fun r s1 h1=>?_) fun _ _ z=>z)));cases r with
 | none=>exact qb h1
 | some v =>
  refine qa (wpAny_mono h1 (fun _ s2 h2=>?_) fun _ _ z=>z);refine qa (wpAny_mono h2 (fun _ s3 h3=>?_) fun _ _ z=>z);refine qa (wpAny_mono h3 (fun x s4 h4=>?_) fun _ _ z=>z);refine qa (wpAny_standAt (qa (wpAny_of_eq (hs x) ?_)));refine qa (wpAny_holding (wpAny_mono h4 (fun it2 s5 h5=>?_) fun _ _ z=>z));refine qa (wpAny_runOwn (h:=none) ?_);refine codeAny_mono h5 fun r s6 h6=>?_;obtain⟨rfl,h6⟩:=h6;exact qb ⟨rfl,h6⟩
end
def pIV(v d:Addr):HO:=.ext fun h=>h.IsItemsView v d
theorem zmn:typeLookup (.type "dict_items") "__len__"=pure (some (.builtin "dict_items.__len__")):=by rw [typeLookup_type,builtinLookup_eq_fast]; kernel_rfl
section
variable {prog:Program} {w:World} {A:Around} {E:Value->Shared->Prop} {s:Shared} {it d v:Addr} {i ep:Nat} {es:Array DictEntry}
theorem zjP{Q:Bool->Shared->Prop}(hT:s.TypeIs (.ref v) "dict_items")(h:Q false s):wpAny (model prog w) A (Builtin.List.listLengthHint (.ref v)) Q E s:=by
 unfold Builtin.List.listLengthHint;refine qa (wpAny_specialOf hT zmn ?_);generalize hid:("dict_items.__len__":String)=id0
 wp_delta
 rw [show splitId id0=some ("dict_items", "__len__") from by subst hid; decide +kernel];subst hid;refine qa (wpAny_isInstance (T := "dict_items") (b:=true) hT (by rw [isSubtype_type]; kernel_rfl) ?_);refine wpAny_ite_split (fun hab=>absurd hab (by decide)) (fun _=>?_);refine wpAny_ite_split (fun _=>?_) (fun hab=>absurd (by decide +kernel) hab);exact qa (wpAny_typeOf hT (qb h))
theorem zmo{Q:Option Value->Shared->Prop}(hh:A.handled=none)(k0:ziS s.heap it d i es.size ep)(r:zgq s.heap d es ep)(hx:es.size<=i)
  (q:∀ h':Heap,Heap.ExtBut it s.heap h'->Q none { s with heap:=h' }):wpAny (model prog w) A (pyNext (.ref it)) Q E s:=by
 obtain⟨x0,x1,ok,ov,hx0,k⟩:=k0;have kT:s.TypeIs (.ref it) "dict_itemiterator":=⟨_,k,rfl⟩;obtain⟨o,e,_,dat⟩:=r;unfold pyNext;refine qa (wpAny_attempt (wpAny_callSpecial?_slot (name:=Str.ofString "__next__") kT F.slot_dict_itemiterator_next
  (wpAny_call_entry F.slot_dict_itemiterator_next kT F.entry_dict_itemiterator_next ?_ (F.args_dict_itemiterator_next_1 _))))
 refine qa (qb (qa (qa ?_)));refine qa (wpAny_typeNameOfWhole_itemiter kT (qb (qa (wpAny_fieldsOf k rfl ?_))));simp only [show Builtin.Dict_items.ownsTuple "dict_itemiterator"=true by decide,if_true];show wpAny _ _ (if(Value.ref d==Value.none)=true then _ else _) _ _ s;rw [if_neg (show ¬((Value.ref d==Value.none)=true) from qf)];refine qa (qb (qa (wpAny_dictEntries e dat ?_)));rw [if_neg (by simp)];refine qa (qb (qa (wpAny_dictEpoch e dat ?_)));rw [if_neg (by simp)];refine qb ?_;simp only [show ¬((i:Int) < 0) from by omega,if_false,Int.toNat_natCast,Array.getElem?_eq_none hx];refine qa (qa (wpAny_typeNameOfWhole_itemiter kT (qb ?_)));show wpAny _ _ (setField (.ref it) 2 .none >>= _) _ _ s;refine qa (wpAny_setField k rfl (by simp) ?_);show wpAny _ _ (newExc (.type "StopIteration") [] >>= _) _ _ _;refine qa ?_;simp only [newExc,newTuple];refine qa (qA ?_ (by show(0:Nat)<=sizeLine; exact Nat.zero_le _));refine qa (m:=firstArgMember _ _) (wpAny_of_eq (a:=Value.none) (by first | rfl | (simp only [firstArgMember]; rfl)) ?_);refine qA ?_ (by first | trivial | size_fits);simp only [raiseNew];refine qa (wpAny_handled ?_);rw [show A.in1.handled=none from hh];refine qa (qb (wpAny_throw ?_));refine qa (wpAny_isInstance (T := "StopIteration") (b:=true) ⟨_,qg _ rfl,rfl⟩ isSubtype_stop ?_);exact qb (q _ (((Heap.SameBut.update ..).extBut.push _).push _))
end
def PrP(K:qc)(H:Hp):List (List Key×V)->List V->Prop:=Paired fun p y=>∃ T b,y=V.ref T/\H T=some (.tup [.ref b,p.2])/\TpK K H b (p.1.map kV)
theorem PrP.same{K:qc}{H H':Hp}{kvs:List (List Key×V)}{ys:List V}(h:PrP K H kvs ys)(s:zba H H'):PrP K H' kvs ys :=
 Paired.mapP h fun _ _ ⟨T,b,e,h1,h2⟩=>⟨T,b,e,s _ _ h1,TpK.kp s.kp h2⟩
theorem zaq.same{X:Cx}{pins:List (Addr×Obj)}{H H':Hp}{b:Addr}(f:zaq X pins H b)(h:H' b=none):zaq X pins H' b:=⟨h,f.2⟩
theorem PrP.snoc{K:qc}{H:Hp}:∀ {kvs:List (List Key×V)} {ys:List V} {p:List Key×V} {y:V},PrP K H kvs ys->(∃ T b,y=V.ref T/\H T=some (.tup [.ref b,p.2])/\TpK K H b (p.1.map kV))->PrP K H (kvs++[p]) (ys++[y])
 | _,_,_,_,.nil,h=>.cons h .nil
 | _,_,_,_,.cons a t,h=>.cons a (PrP.snoc t h)
abbrev liO(acc:List Value)(c:Nat):Obj:={ cls:=.type "list",dict:=none,data:=.seq acc.toArray c,slots:=#[] }
section
variable {X:Cx} {pins:List (Addr×Obj)} {σ:St} {H0:Hp} {A:Around} {R:Result->Shared->Prop} {res:Value} {S it d:Addr} {kvs:List (List Key×V)} {es:Array DictEntry} {ep:Nat} {o:Obj}
theorem zjQ(hh:A.handled=none)(nS:S≠it)(dS:d≠S)(dI:d≠it)(hsz:es.size=kvs.length)(hz:kvs.length<=sizeLine)(xd:o.ExactDict)(dat:o.data=.dict es ep)
  (ent:∀ (i:Nat) (k:List Key) (v:V),kvs[i]?=some (k,v)->∃ (b:Addr) (x:DictEntry),es[i]?=some x/\x.key=.ref b/\TpK X.K H0 b (k.map kV)/\zI v x.val)
  (hR:∀ (s':Shared) (H':Hp) (acc:List Value) (ys:List V) (c:Nat),Inv X pins σ H' s'->zba H0 H'->zaq X pins H' S->s'.heap.get? S=some (liO acc c)->zE ys acc->PrP X.K H' kvs ys->R (.ok (.ret res)) s') :
  ∀ (k i:Nat) (s:Shared) (Hc:Hp) (acc:List Value) (ys:List V) (c:Nat),kvs.length - i=k->i<=kvs.length->Inv X pins σ Hc s->zba H0 Hc->zaq X pins Hc it->zaq X pins Hc S->ziS s.heap it d i es.size ep->s.heap.get? d=some o->s.heap.get? S=some (liO acc c)->zE ys acc->PrP X.K Hc (kvs.take i) ys ->
   codeAny (model X.prog X.w) A (.builtin "list.extend.loop" ⟨[.ref S,.ref it,res],[]⟩) R s:=by
 intro k
 induction k with
 | zero =>
  intro i s Hc acc ys c hk hi I sm f1 f2 st hd hS va pr;have ei:i=kvs.length:=by omega
  subst ei;refine codeAny_builtin F.entry_extend_loop ?_;rw [Around.under_plainId F.plain_extend_loop _];show wpAny _ A.in1 (pyNext (.ref it) >>= _) _ _ s;refine qa (zmo hh st ⟨o,hd,xd,dat⟩ (by omega) fun h' eb=>?_);obtain⟨g0,g1,g2,g3,g4,g5⟩:=f1;refine qb (hR { s with heap:=h' } Hc acc ys c (I.turned (t':=s.toks) (fun b o hb e=>eb b o hb e) g0 g1 g3 g4 g5) sm f2 (eb _ _ nS hS) va ?_);rw [List.take_length]at pr;exact pr
 | succ k ih =>
  intro i s Hc acc ys c hk hi I sm f1 f2 st hd hS va pr;have hlt:i < kvs.length:=by omega
  refine codeAny_builtin F.entry_extend_loop ?_;rw [Around.under_plainId F.plain_extend_loop _];show wpAny _ A.in1 (pyNext (.ref it) >>= _) _ _ s;obtain⟨b,x,ex,kx,hb,rv⟩:=ent i kvs[i].1 kvs[i].2 (qm hlt);refine qa (zjO st ⟨o,hd,xd,dat⟩ ex fun h1 st1 isT kk=>?_);have itl:it < s.heap.objs.size:=by
   obtain⟨_,_,_,_,_,e⟩:=st;exact qh e
  have Sl:S < s.heap.objs.size:=qh hS;have I1:Inv X pins σ Hc { s with heap:=h1 }:=I.turnedW (t':=s.toks) (wr:=[it]) (fun b o hb q=>kk b o (by simpa using hb) q) fun b hb=>by rw [qq.mp hb]; exact f1
  have fr:=I.hok.fresh (qe s.heap.objs.size);have fT:zaq X pins Hc s.heap.objs.size:=I.fpOk (qe _) fr;rw [kx]at isT;have I2:Inv X pins σ (upd Hc s.heap.objs.size (.tup [.ref b,kvs[i].2])) { s with heap:=h1 }:=I1.track fT I.sz ⟨by show 2<=sizeLine; decide,[.ref b,x.val],.cons rfl (.cons rv .nil),_,isT,rfl,⟨_,rfl⟩,.inl rfl⟩;have sm2:=zC fr (.tup [.ref b,kvs[i].2]);have hS1:h1.get? S=some (liO acc c):=kk _ _ nS hS;have f1':zaq X pins (upd Hc s.heap.objs.size (.tup [.ref b,kvs[i].2])) it:=f1.same (by rw [zq (qj itl)]; exact f1.1);have f2':zaq X pins (upd Hc s.heap.objs.size (.tup [.ref b,kvs[i].2])) S:=f2.same (by rw [zq (qj Sl)]; exact f2.1);have la:acc.length=i:=by
   have e1:=va.length;have e2:=Paired.length pr;rw [List.length_take]at e2;omega
  show wpAny _ A.in1 (updateSeq S (·.push (.ref s.heap.objs.size)) >>= _) _ _ { s with heap:=h1 };refine qa (wpAny_updateSeq (s:={ s with heap:=h1 }) hS1 rfl (qb ⟨plainId_quiet F.plain_extend_loop _,?_⟩) (by rw [List.size_toArray]; omega) (by show(acc.toArray.push _).size<=sizeLine+1; rw [Array.size_push,List.size_toArray]; omega));have hS2:=Heap.get?_update_self (Obj.mapSeq (·.push (Value.ref s.heap.objs.size))) hS1 rfl;have kk2:∀ b o,b≠S->h1.get? b=some o->(h1.update S (Obj.mapSeq (·.push (Value.ref s.heap.objs.size)))).get? b=some o:=fun b o hb e=>(Heap.get?_update_other _ _ (Ne.symm hb)).trans e;have I3:Inv X pins σ (upd Hc s.heap.objs.size (.tup [.ref b,kvs[i].2])) { s with heap:=h1.update S (Obj.mapSeq (·.push (Value.ref s.heap.objs.size))) }:=Inv.turnedW (s:={ s with heap:=h1 }) (t':=s.toks) (wr:=[S]) I2 (fun b o hb q=>kk2 b o (by simpa using hb) q) fun b hb=>by rw [qq.mp hb]; exact f2'
  refine ih (i+1) { s with heap:=h1.update S (Obj.mapSeq (·.push (Value.ref s.heap.objs.size))) } (upd Hc s.heap.objs.size (.tup [.ref b,kvs[i].2])) (acc++[.ref s.heap.objs.size]) (ys++[.ref s.heap.objs.size]) (c+1) (by omega) hlt I3 (fun c o h=>sm2 _ _ (sm _ _ h)) f1' f2' ?_ (kk2 _ _ dS (kk _ _ dI hd)) ?_ (va.append (.cons (show zI (.ref s.heap.objs.size) (.ref s.heap.objs.size) from rfl) .nil)) ?_
  ·obtain⟨y0,y1,y2,y3,y4,y5⟩:=st1
   exact⟨y0,y1,y2,y3,y4,kk2 _ _ (Ne.symm nS) y5⟩
  ·refine hS2.trans ?_
   simp [Obj.mapSeq]
  ·rw [List.take_succ,qm hlt]
   exact(PrP.same pr sm2).snoc ⟨_,b,rfl,zr,TpK.kp sm2.kp (TpK.kp sm.kp hb)⟩
end
section
variable {X:Cx} {K:qc}
def zwJ(K:qc)(td:TE):TE:=fun σ H Q=>td σ H fun x H1=>∃ a kvs,x=.ref a/\Rd H1 a (.dT kvs)/\∀ v,H1 v=none->Q (.ref v) (upd H1 v (pIV v a))
theorem zo7{pins:List (Addr×Obj)}{σ:St}{H:Hp}{s:Shared}{a:Addr}{kvs:List (List Key×V)}(I:Inv X pins σ H s)(e:Rd H a (.dT kvs)) :
  (a==sysModules)=false/\kvs.length<=sizeLine/\∃ (o:Obj) (es:Array DictEntry) (ep:Nat),s.heap.get? a=some o/\o.ExactDict/\o.data=.dict es ep/\es.size=kvs.length/\∀ (i:Nat) (k:List Key) (v:V),kvs[i]?=some (k,v)->∃ (b:Addr) (x:DictEntry),es[i]?=some x/\x.key=.ref b/\TpK X.K H b (k.map kV)/\zI v x.val:=by
 obtain⟨z,y,xs,r,o',es,ep,h1,h2,h3,h4,h5⟩:=(show zP X.prog X.w X.K H s.heap a (.dT kvs) from zm5 I.hok e);refine⟨y,z,o',es,ep,h1,h2,h3,?_,fun i k v hi=>?_⟩
 ·have:=congrArg List.length h4
  rw [Array.length_toList,List.length_map,<-zdv r]at this;exact this
 ·obtain⟨q,hq,r1,r2,r3⟩:=zdu r i (k,v) hi
  refine⟨q.2.1,entryOfKey (tupleKind (zO X.prog X.w)) q,?_,rfl,r2,r3⟩;have:es.toList[i]?=some (entryOfKey (tupleKind (zO X.prog X.w)) q):=by rw [h4,List.getElem?_map,hq]; rfl
  simpa using this
theorem zwK{d:Expr}{td:TE}{apos cpos:Pos}(hd:Wr (PE X d td))(hbase:attributeBase d "items" X.env (eval d X.env)=eval d X.env:=by rfl)(hline:(apos.endLine==cpos.line)=true:=by rfl):Wr (PE X (.Call (.Attribute d "items" apos) [] [] cpos) (zwJ X.K td)):=by
 refine⟨?_⟩;intro pins s σ H R I h;refine wpAny_Call_method0_late hbase hline (thn (hd.run pins s σ H _ I h) fun v s1 hZ=>?_);obtain⟨x,H1,I1,r1,q1⟩:=hZ;obtain⟨a,kvs,rfl,e,q⟩:=q1;cases r1;obtain⟨hsm,_,o,es,ep,ea,xd,dat,hsz,_⟩:=zo7 I1 e;have rw1:zgq s1.heap a es ep:=⟨o,ea,xd,dat⟩;refine⟨"dict", "dict.items",F.plainAttrs_dict,F.slot_dict_items,F.type_dict_items,rw1.typeIs,fun b hb=>?_,Calls.callWith_builtin rfl (PySem.evalArgs_none (zgK hsm rw1 ?_))⟩
 ·cases hb
  exact⟨o,ea,xd.2.1⟩
 have vw:(s1.heap.push { cls:=.type "dict_items",data:=.fields #[.ref a] }).IsItemsView s1.heap.objs.size a:=⟨_,qg _ rfl,rfl,rfl⟩;exact⟨.ref s1.heap.objs.size,_,I1.laid (t':=s1.toks) (o:=pIV s1.heap.objs.size a) (fun b o z=>qd _ z) (qe _) ⟨vw,⟨_,qg _ rfl⟩,fun h1 h2 x k=>let ⟨o,e1,e2⟩:=x; ⟨o,k o e1,e2⟩⟩,rfl,q _ (I1.hok.fresh (qe _))⟩
def zwL(K:qc):List V->Hp->VK->Prop:=fun xs H Q=>∃ v a kvs,xs=[.ref v]/\H v=some (pIV v a)/\Rd H a (.dT kvs)/\∀ H' ys l,zba H H'->H l=none->PrP K H' kvs ys->H' l=none->Q (.ref l) (upd H' l (.lst ys))
theorem zmp{K:qc}(hK:X.K=K:=by rfl)(hc:X.calm=true:=by rfl):zbK X (.type "list") (zwL K):=by
 subst hK;intro pins s σ H xs us Q I r h;obtain⟨v,a,kvs,rfl,hv,ha,q⟩:=h;obtain⟨u,rfl,ru⟩:=zeB r;cases ru;obtain⟨hsm,hz,o,es,ep,ea,xd,dat,hsz,ent⟩:=zo7 I ha;obtain⟨vw,⟨ov,hov⟩,_⟩:=I.hok v _ hv;have vl:v < s.heap.objs.size:=qh hov;have al:a < s.heap.objs.size:=qh ea;refine callType_codes (Q₁:=fun obj s₁=>obj=.ref s.heap.objs.size/\s₁={ s with heap:=s.heap.push { cls:=.type "list",data:=.seq #[] } }) F.called_list (F.typeCall_list_1 _) F.entry_list_init
  (code_list_new _ ⟨rfl,rfl⟩) fun obj s₁ h₁=>?_
 obtain⟨rfl,rfl⟩:=h₁;have hS:(s.heap.push { cls:=.type "list",data:=.seq #[] }).get? s.heap.objs.size=some { cls:=.type "list",data:=.seq #[] }:=qg _ rfl;refine⟨⟨_,hS,rfl⟩,F.args_list_init_2 _ _,?_⟩;show wpAny _ _ (do let old <-Builtin.List.listItems (.ref s.heap.objs.size); Builtin.List.listUpdate (.ref s.heap.objs.size) (fun _=>#[]); letGo old.toList.reverse; Builtin.List.listExtendWith (.ref s.heap.objs.size) (.ref v) .none) _ _ _;refine qa ?_;unfold Builtin.List.listItems;refine qa (wpAny_seqItems (s:={ s with heap:=s.heap.push { cls:=.type "list",data:=.seq #[] } }) hS rfl (qb ?_));show wpAny _ _ (updateSeq s.heap.objs.size (fun _=>#[]) >>= fun _=>letGo (#[]:Array Value).toList.reverse >>= fun _=>Builtin.List.listExtendWith (.ref s.heap.objs.size) (.ref v) .none) _ _ _;refine qa (wpAny_updateSeq (s:={ s with heap:=s.heap.push { cls:=.type "list",data:=.seq #[] } }) hS rfl ?_);have hS₂:=Heap.get?_update_self (Obj.mapSeq (fun _=>(#[]:Array Value))) hS rfl;have oth:∀ b o,s.heap.get? b=some o->((s.heap.push { cls:=.type "list",data:=.seq #[] }).update s.heap.objs.size (Obj.mapSeq (fun _=>(#[]:Array Value)))).get? b=some o :=
  fun b o e=>(Heap.get?_update_other _ _ (Ne.symm (qj (qh e)))).trans (qd _ e)
 have zz:((s.heap.push { cls:=.type "list",data:=.seq #[] }).update s.heap.objs.size (Obj.mapSeq (fun _=>(#[]:Array Value)))).objs.size=s.heap.objs.size+1:=by rw [Heap.size_update,Heap.size_push]
 refine qa (wpAny_letGo ?_);show wpAny _ _ _ _ _ { s with heap:=(s.heap.push { cls:=.type "list",data:=.seq #[] }).update s.heap.objs.size (Obj.mapSeq (fun _=>(#[]:Array Value))) };generalize (s.heap.push { cls:=.type "list",data:=.seq #[] }).update s.heap.objs.size (Obj.mapSeq (fun _=>(#[]:Array Value)))=h2 at hS₂ oth zz ⊢;have hS2:h2.get? s.heap.objs.size=some (liO [] _):=hS₂;have vT:Shared.TypeIs { s with heap:=h2 } (.ref v) "dict_items":=by
  obtain⟨ow,e1,e2,_⟩:=vw;exact⟨ow,oth _ _ e1,e2⟩
 unfold Builtin.List.listExtendWith;refine qa (wpAny_typeOf vT ?_);have n1:Builtin.List.listSameRef (.ref s.heap.objs.size) (.ref v)=false:=by simp [Builtin.List.listSameRef,Ne.symm (qj vl)]
 have n2:(Value.type "dict_items"==Value.type "list")=false:=by decide
 have n3:(Value.type "dict_items"==Value.type "tuple")=false:=by decide
 simp only [n1,n2,n3,Bool.or_false,Bool.false_eq_true,if_false];have vw2:h2.IsItemsView v a:=by
  obtain⟨ow,e1,e2,e3⟩:=vw;exact⟨ow,oth _ _ e1,e2,e3⟩
 refine qa (zgL (s:={ s with heap:=h2 }) vw2 ⟨o,oth _ _ ea,xd,dat⟩ fun h3 hit kk=>?_);have vT3:Shared.TypeIs { s with heap:=h3 } (.ref v) "dict_items":=by
  obtain⟨ow,e1,e2⟩:=vT;exact⟨ow,kk _ _ e1,e2⟩
 have I3:Inv X pins σ H { s with heap:=h3 }:=I.kept (t':=s.toks) fun b o z=>kk _ _ (oth _ _ z);have fr:=I.hok.fresh (qe s.heap.objs.size);have fS:zaq X pins H s.heap.objs.size:=I.fpOk (qe _) fr;have fI:zaq X pins H h2.objs.size:=I.fpOk (by show s.heap.objs.size<=h2.objs.size; omega) (I.hok.fresh (by show s.heap.objs.size<=h2.objs.size; omega));have nS:s.heap.objs.size≠h2.objs.size:=by omega
 have fin:∀ (h4:Heap) (c:Nat),ziS h4 h2.objs.size a 0 es.size ep->(∀ b o,s.heap.get? b=some o->h4.get? b=some o)->h4.get? s.heap.objs.size=some (liO [] c)->codeAny (model X.prog X.w) X.A.in1 (.builtin "list.extend.loop" ⟨[.ref s.heap.objs.size,.ref h2.objs.size,.none],[]⟩) (wants (fun r s₂=>r=Value.none/\EP X pins σ Q (Value.ref s.heap.objs.size) s₂) X.xe) { s with heap:=h4 }:=fun h4 c st4 k4 hS4=>by
  refine zjQ (A:=X.A.in1) (show X.A.in1.handled=none from I.ok.hd hc) nS (qj al) (qj (Nat.lt_trans al (by omega))) hsz hz xd dat ent (fun s' H' acc ys c' I' sm' fS' hS' va pr=>?_) kvs.length 0 { s with heap:=h4 } H [] [] c (by omega) (Nat.zero_le _) (I.kept (t':=s.toks) k4) (fun _ _ z=>z) fI fS st4 (k4 _ _ ea) hS4 .nil .nil;exact⟨rfl,.ref s.heap.objs.size,_,I'.track (o:=.lst ys) fS' I.sz ⟨by rw [<-Paired.length pr]; exact hz,acc,c',va,hS'⟩,rfl,q H' ys _ sm' fr pr fS'.1⟩
 have it0:ziS h3 h2.objs.size a 0 es.size ep:=⟨_,_,_,_,.inl rfl,hit⟩;refine qa (wpAny_holding (zjP vT3 ?_));have hS3:=kk _ _ hS2;refine wpAny_ite_split (fun _=>?_) (fun _=>qb ⟨plainId_quiet F.plain_extend_loop _,fin h3 _ it0 (fun b o z=>kk _ _ (oth _ _ z)) hS3⟩);refine qa (wpAny_rule ?_);refine qa ?_;show wpAny _ _ (updateSeq s.heap.objs.size (·.push .none) >>= fun _=>updateSeq s.heap.objs.size (·.pop)) _ _ _;refine qa (wpAny_updateSeq hS3 rfl ?_);have hS₄:=Heap.get?_update_self (Obj.mapSeq (·.push Value.none)) hS3 rfl;refine wpAny_updateSeq (hz:=by seq_fits) hS₄ rfl ?_;have hS₅:=Heap.get?_update_self (Obj.mapSeq (·.pop)) hS₄ rfl;refine qb ⟨plainId_quiet F.plain_extend_loop _,fin ((h3.update s.heap.objs.size (Obj.mapSeq fun x=>x.push Value.none)).update s.heap.objs.size (Obj.mapSeq fun x=>x.pop)) _ ?_ (fun b o e=>?_) hS₅⟩
 ·exact⟨_,_,_,_,.inl rfl,(Heap.get?_update_other _ _ nS).trans ((Heap.get?_update_other _ _ nS).trans hit)⟩
 ·have hb:s.heap.objs.size≠b:=Ne.symm (qj (qh e))
  exact(Heap.get?_update_other _ _ hb).trans ((Heap.get?_update_other _ _ hb).trans (kk _ _ (oth _ _ e)))
end
section
variable {K:qc}
def zo8(u:U):Option U:=(dOf u).map fun kvs=>.l (kvs.map fun p=>.tuple [kTD p.1,p.2])
theorem zls{H H':Hp}(kp:Kp H H'):∀ {ws:List (List Key×V)} {kvs:List (List Key×D)} {ys:List V},KVd K H ws kvs->PrP K H' ws ys->DFs K H' ys (kvs.map fun p=>.tuple [kTD p.1,p.2])
 | [],_,_,.nil,.nil=>.nil
 | _::_,_,_,.cons h t,.cons ⟨T,b,e,h1,h2⟩ u=>by
  subst e;rw [h.1]at h2;exact .cons (.tup (.inl h1) (.cons (.tup h2 zff) (.cons (DF.kp kp h.2) .nil))) (zls kp t u)
theorem zu2{te:TE}{me:ME}(h:VE K te me):VE K (tCB (zwL K) (zcs (zwJ K te) zef)) (mUn zo8 me):=by
 intro ρ σ H a ρ' Q r e q;obtain⟨⟨a1,ρ1⟩,e1,e⟩:=zd e;obtain⟨u,eu,e⟩:=zd e;obtain⟨x,ex,e⟩:=zd e;cases e;obtain⟨kvs,ek,rfl⟩:=qr.mp ex;refine h ρ σ H a1 _ _ r e1 fun v H1 g1 k1=>?_;obtain⟨b,ws,rfl,h1,h2⟩:=zux (k1.now r g1 eu) ek;refine⟨b,ws,rfl,h1,fun pp hp=>?_⟩;have s1:zba H1 (upd H1 pp (pIV pp b)):=zC hp _;have h1':Rd (upd H1 pp (pIV pp b)) b (.dT ws):=h1.imp (s1 _ _) fun⟨o,z⟩=>⟨o,s1 _ _ z⟩;refine⟨pp,b,ws,rfl,zr,h1',fun H2 ys l sm hl pr hl2=>?_⟩;have s2:=zC hl2 (.lst ys);have s12:zba H1 H2:=fun c o z=>sm _ _ (s1 _ _ z);have sg:zba H1 (upd H2 l (.lst ys)):=fun c o z=>s2 _ _ (s12 _ _ z);refine q _ _ (g1.trans (Go.grow g1.rs sg)) ⟨⟨l,ys,rfl,zr,(zls s12.kp h2 pr).kp s2.kp⟩,Nw.mono (H':=H1) (fun _=>⟨l,rfl,?_⟩) g1.dm⟩;exact s12.dm l hl2
end
def zu3(K:qc)(J:It)(σc:St)(g:TG)(tk tv:TE)(D:Addr)(Z:Hp->Prop)(H1:Hp):Prop :=
 ∃ W:Nat->Nat->Hp->Prop,(∃ m,W 0 m H1)/\∀ i m H,W i m H ->
  (J.stop i H/\Z H)\/(J.go i H/\∃ N:Hp->Prop,(∀ H',N H'->∃ m',m' < m/\W (i+1) m' H') /\
   ∀ x H',J.yld i H x H'->g x σc H' fun σ2 H3=>tk σ2 H3 fun y H4=>tv σ2 H4 fun v H5=>∃ kvs k p,y=.ref p/\H5 D=some (.dT kvs)/\TpK K H5 p (k.map kV)/\kvs.length < sizeLine/\N (upd H5 D (.dT (zcj kvs k v))))
def zo9(K:qc)(J:It)(σc:St)(g:TG)(wi:TI)(j:Nat)(tk tv:TE)(D:Addr)(Z:Hp->Prop)(H1:Hp):Prop :=
 ∃ W:Nat->Nat->Hp->Prop,(∃ m,W 0 m H1)/\∀ i m H,W i m H ->
  (J.stop i H/\Z H)\/(J.go i H/\∃ N:Hp->Prop,(∀ H',N H'->∃ m',m' < m/\W (i+1) m' H') /\
   ∀ x H',J.yld i H x H'->g x σc H' fun σ2 H3=>wi σ2 H3 fun J2 H4=>zu3 K J2 (σ2.set j none) (zbr j) tk tv D N H4)
section
variable {X:Cx} {pins:List (Addr×Obj)} {σ:St} {H:Hp} {s:Shared} {kx vx t1 i1 t2 i2:Expr} {scope:Scope} {pos:Pos} {D:Addr} {R:Result->Shared->Prop}
theorem zpa{J:It}{it:Addr}{fp:List Addr}{tn:Nat->Heap->Prop}{g:TG}{tk tv:TE}{Z:Hp->Prop}(hx:X.xe=fun _ _=>False)(hu:X.A.units+1 < cLine)(hc:X.calm=true)(I:Inv X pins σ H s)(T:Turn X.prog X.w X.K t2 J fp it tn)(st:tn 0 s.heap)(hf:∀ b∈fp,zaq X pins H b)
  (hg:PG X t2 g) (hk:PE X kx tk) (hv:PE X vx tv) (gw:GW σ g) (h:zu3 X.K J σ g tk tv D Z H) (hR:∀ s' H',Inv X pins σ H' s'->Z H'->R (.ok .next) s') :
  codeAny (model X.prog X.w) X.A (.compStart (dc2 kx vx t1 i1 t2 i2 scope pos) 1 (.ref it) (.ref D) X.env) R s:=by
 obtain⟨W,⟨m0,w0⟩,turn⟩:=h;have fpk:∀ {H':Hp},(∀ b∈fp,H' b=none)->∀ b∈fp,zaq X pins H' b:=fun{H'} hn b hb=>(hf b hb).same (hn b hb);have loop:codeAny (model X.prog X.w) X.A (.compLoop (dc2 kx vx t1 i1 t2 i2 scope pos) 1 (.ref it) (.ref D) X.env) R s:=by
  refine zo4 (fun n s'=>∃ i H',Inv X pins σ H' s'/\tn i s'.heap/\(∀ b∈fp,H' b=none)/\W i n H') ?_ m0 ⟨0,H,I,st,fun b hb=>(hf b hb).1,w0⟩;rintro n s3 ⟨i,H3,I3,st3,fr3,w3⟩ E';rcases turn i n H3 w3 with ⟨stop,qz⟩ | ⟨go,N,hN,step⟩
  ·refine thn (T.done X rfl rfl rfl hc i _ s3 _ H3 E' I3 (fpk fr3) st3 stop) fun r s4 hZ=>?_
   obtain⟨hr,I4⟩:=hZ;subst hr;exact hR _ _ I4 qz
  ·refine thn (T.item X rfl rfl rfl hc i _ s3 _ H3 E' I3 (fpk fr3) st3 go) fun r s4 hZ=>?_
   obtain⟨u,hr,h4⟩:=hZ;subst hr;refine thn h4 fun _ s5 hZ=>?_;obtain⟨x,H5,I5,r5,y5,st5,fr5⟩:=hZ;have I5':=I5.pinned (fpk fr5) (T.obj _ _ st5);have fx:∀ {α:Type} {t:Sem α} {Q Q':α->Shared->Prop} {E:Value->Shared->Prop} {s:Shared},wpAny (model X.prog X.w) X.A t Q X.xe s->(∀ a s,Q a s->Q' a s)->wpAny (model X.prog X.w) X.A t Q' E s:=fun h hQ=>wpAny_mono h hQ fun _ _ z=>by rw [hx]at z; exact z.elim
   refine fx (hg _ s5 _ H5 x u _ I5' r5 (gw _ _ _ (step x H5 y5))) fun _ s6 hZ=>?_;obtain⟨σ6,H6,I6,wk6,q6⟩:=hZ;refine fx (hk _ s6 σ6 H6 _ I6 q6) fun kv s8 hZ=>?_;obtain⟨y,H8,I8,ry,q8⟩:=hZ;refine fx (hv _ s8 σ6 H8 _ I8 q8) fun vv s9 hZ=>?_;obtain⟨v,H9,I9,rv,q9⟩:=hZ;obtain⟨kvs,k,p,ey,eD,ep,hz,q10⟩:=q9;subst ey;cases(show kv=Value.ref p from ry);refine zmf hu I9 eD ep hz rv fun s10 I10=>?_;obtain⟨m',hm,w10⟩:=hN _ q10;refine⟨m',hm,i+1,_,?_,T.keep _ _ _ st5 fun b hb o e=>(I10.pin (b,o) (qw _ (qw _ (zaH hb e)))).1,fun b hb=>?_,w10⟩
   ·exact(I10.weak wk6.1 wk6.2).pins_of fun p hp=>by
     have:=I10.pin p (qw _ (List.mem_append_left _ hp));exact this
   ·obtain⟨o,e,d⟩:=T.obj _ _ st5 b hb
    exact(I10.pin (b,o) (qw _ (qw _ (zaH hb e)))).2.1
 exact zo5 loop (T.self _ _ _ _ _ st loop)
end
section
variable {X:Cx} {pins:List (Addr×Obj)} {σ:St} {H:Hp} {s:Shared} {scope:Scope} {cl:List (Str×Addr)} {xs:List Str} {js:List Nat} {nt:Nat} {ts:List Str} {fp:List Addr}
theorem zpb{kx vx iter tg t2 i2:Expr}{pos:Pos}{J:It}{it D:Addr}{tn:Nat->Heap->Prop}{g:TG}{wi2:TI}{j:Nat}{tk tv:TE}{Z:Hp->Prop}{R:Result->Shared->Prop}{h1:Heap}{m1:Str->Option Value}{t1:Nat}
  (hu:X.A.units+1 < cLine) (hc:X.calm=true) (I:Inv X pins σ H s) (S:ScC scope xs) (f:Frees X cl xs js) (hts:ts.length=nt) (T:Turn X.prog X.w X.K tg J fp it tn) (st:tn 0 s.heap) (hf:∀ b∈fp,zaq X pins H b)
  (hg:∀ C s H ex,PG (zD X scope cl (ts++xs) C s H ex) tg g) (jl:j < nt) (hi2:∀ C s H ex,PI (zD X scope cl (ts++xs) C s H ex) t2 i2 wi2) (hg2:∀ C s H ex,PG (zD X scope cl (ts++xs) C s H ex) t2 (zbr j)) (hs2:∀ env x,foldedSetIterable i2 env x=pure x) (hk:∀ C s H ex,PE (zD X scope cl (ts++xs) C s H ex) kx tk) (hv:∀ C s H ex,PE (zD X scope cl (ts++xs) C s H ex) vx tv)
  (gw:GW (c0 nt js σ) g) (h:zo9 X.K J (c0 nt js σ) g wi2 j tk tv D Z H) (hn1:h1.Ns s.heap.objs.size m1) (old:∀ b o,s.heap.get? b=some o->h1.get? b=some o) (ck:CellsOk h1 (s.heap.objs.size+1) (cellsFrom (s.heap.objs.size+1) scope.names []))
  (hR:∀ (m:Str->Option Value) (s':Shared) (H':Hp),Z H'->Inv X pins σ H' s'->s'.heap.Ns s.heap.objs.size m->H' s.heap.objs.size=none->s.heap.objs.size≠X.env.locals ->
   (∀ x c,X.env.cells.lookup x=some c->c≠s.heap.objs.size)->X.s₀.heap.objs.size<=s.heap.objs.size->(∀ p∈X.pn++pins,p.1≠s.heap.objs.size)->R (.ok .next) s') :
  codeAny (model X.prog X.w) X.A (.compStart (dc2 kx vx tg iter t2 i2 scope pos) 0 (.ref it) (.ref D) (compEnvC scope (cellsFrom (s.heap.objs.size+1) scope.names cl) s.heap.objs.size X.env)) R { s with heap:=h1,toks:=t1 }:=by
 have hl:∀ b∈fp,b < s.heap.objs.size:=fun b hb=>by
  obtain⟨o,e,_⟩:=T.obj _ _ st b hb;exact qh e
 have J0:Inv (zD X scope cl (ts++xs) s.heap.objs.size s H fp) [] (c0 nt js σ) H { s with heap:=h1,toks:=t1 }:=zid I S f hts (qe _) hf hl old hn1 ck;obtain⟨W,⟨m0,w0⟩,turn⟩:=h;have st1:tn 0 h1:=T.keep _ _ _ st fun b hb o e=>old b o e;have fpk:∀ {H':Hp},(∀ b∈fp,H' b=none)->∀ b∈fp,zaq (zD X scope cl (ts++xs) s.heap.objs.size s H fp) [] H' b:=fun{H'} hn b hb=>by
  refine⟨hn b hb,qj (hl b hb),fun z=>?_,.inl hb,fun x c e=>((zhc I S f ck (qe _) hf hl (ts:=ts)).exf b hb).2 x c e,fun p hpp=>by cases hpp⟩;rcases qv.mp (I.stkSub b z)with q | q
  ·exact(hf b hb).2.1 q
  ·exact(hf b hb).2.2.1 q
 have loop:codeAny (model X.prog X.w) X.A (.compLoop (dc2 kx vx tg iter t2 i2 scope pos) 0 (.ref it) (.ref D) (compEnvC scope (cellsFrom (s.heap.objs.size+1) scope.names cl) s.heap.objs.size X.env)) R { s with heap:=h1,toks:=t1 }:=by
  refine zo6 (hs2 _) (fun n s'=>∃ i H',Inv (zD X scope cl (ts++xs) s.heap.objs.size s H fp) [] (c0 nt js σ) H' s'/\tn i s'.heap/\(∀ b∈fp,H' b=none)/\W i n H') ?_ m0 ⟨0,H,J0,st1,fun b hb=>(hf b hb).1,w0⟩;rintro n s3 ⟨i,H3,I3,st3,fr3,w3⟩ E';rcases turn i n H3 w3 with ⟨stop,qz⟩ | ⟨go,N,hN,step⟩
  ·refine thn (T.done (zD X scope cl (ts++xs) s.heap.objs.size s H fp) rfl rfl rfl hc i _ s3 _ H3 E' I3 (fpk fr3) st3 stop) fun r s4 hZ=>?_
   obtain⟨hr,I4⟩:=hZ;subst hr;obtain⟨m4,n4,_⟩:=I4.loc;refine hR m4 s4 H3 qz (I.call' I4.os I4.base I4.hok I4.bare fun b hb=>⟨(hf b hb).2.2.2.1,(hf b hb).2.1,(hf b hb).2.2.2.2.1,fun p hp=>(hf b hb).2.2.2.2.2 p hp⟩) n4 I4.free ?_ ?_ I.sz ?_
   ·exact fun z=>absurd I.lt (by rw [<-z]; exact Nat.lt_irrefl _)
   ·intro x c e z
    obtain⟨v,ob,q,_⟩:=I.cell x c e;exact absurd (qh q) (by rw [z]; exact Nat.lt_irrefl _)
   ·intro p hp z
    have q:=(I.pin p hp).1;exact absurd (qh q) (by rw [z]; exact Nat.lt_irrefl _)
  ·refine thn (T.item (zD X scope cl (ts++xs) s.heap.objs.size s H fp) rfl rfl rfl hc i _ s3 _ H3 E' I3 (fpk fr3) st3 go) fun r s4 hZ=>?_
   obtain⟨u,hr,h4⟩:=hZ;subst hr;refine thn h4 fun _ s5 hZ=>?_;obtain⟨x,H5,I5,r5,y5,st5,fr5⟩:=hZ;have I5':=I5.pinned (fpk fr5) (T.obj _ _ st5);refine zl3 (hg _ _ _ _ _ s5 _ H5 x u _ I5' r5 (gw _ _ _ (step x H5 y5))) fun _ s6 hZ=>?_;obtain⟨σ6,H6,I6,wk6,q6⟩:=hZ;have lj:j < σ6.length:=by
    rw [<-wk6.1];unfold c0;rw [qt,List.length_replicate];omega
   refine zl3 (hi2 _ _ _ _ _ s6 σ6 H6 _ I6 q6) fun x2 s7 hZ=>zl3 hZ fun it2 s8 hZ=>?_;obtain⟨it',fp2,tn2,J2,H8,rfl,I8,T2,st8,f8,q8⟩:=hZ;have wj:Wk (σ6.set j none) σ6:=⟨by simp,fun i v e=>by
    by_cases z:j=i
    ·subst z
     rw [List.getElem?_set_self lj]at e;cases e
    ·rw [qC z]at e
     exact e⟩
   have wc:Wk (c0 nt js σ) (σ6.set j none):=⟨by rw [List.length_set]; exact wk6.1,fun i v e=>by
    have z:j≠i:=by rintro rfl; rw [ze8 jl]at e; cases e
    rw [qC z];exact wk6.2 i v e⟩
   refine zpa (X:=zD X scope cl (ts++xs) s.heap.objs.size s H fp) rfl hu hc (I8.weak wj.1 wj.2) T2 st8 f8 (hg2 _ _ _ _) (hk _ _ _ _) (hv _ _ _ _) (fun x H Q q=>⟨znb (List.getElem?_set_self (by simpa using lj)),q⟩) q8 fun s9 H9 I9 q9=>⟨rfl,?_⟩;obtain⟨m',hm,w10⟩:=hN _ q9;refine⟨m',hm,i+1,H9,?_,T.keep _ _ _ st5 fun b hb o e=>(I9.pin (b,o) (qw _ (qw _ (zaH hb e)))).1,fun b hb=>?_,w10⟩
   ·exact(I9.weak wc.1 wc.2).pins_of fun p hp=>by cases hp
   ·obtain⟨o,e,d⟩:=T.obj _ _ st5 b hb
    exact(I9.pin (b,o) (qw _ (qw _ (zaH hb e)))).2.1
 exact codeAny_compStart_dict loop (T.self _ _ _ _ _ st1 loop)
theorem zmq{kx vx iter tg t2 i2:Expr}{pos:Pos}{J:It}{it:Addr}{tn:Nat->Heap->Prop}{g:TG}{wi2:TI}{j:Nat}{tk tv:TE}{Z:Addr->Hp->Prop}{RR:Value->Addr->Result->Shared->Prop}{E:Value->Shared->Prop}
  (hu:X.A.units+1 < cLine) (hc:X.calm=true) (I:Inv X pins σ H s) (S:ScC scope xs) (f:Frees X cl xs js) (hts:ts.length=nt) (T:Turn X.prog X.w X.K tg J fp it tn) (st:tn 0 s.heap) (hf:∀ b∈fp,zaq X pins H b)
  (hg:∀ C s H ex,PG (zD X scope cl (ts++xs) C s H ex) tg g) (jl:j < nt) (hi2:∀ C s H ex,PI (zD X scope cl (ts++xs) C s H ex) t2 i2 wi2) (hg2:∀ C s H ex,PG (zD X scope cl (ts++xs) C s H ex) t2 (zbr j)) (hs2:∀ env x,foldedSetIterable i2 env x=pure x) (hk:∀ C s H ex,PE (zD X scope cl (ts++xs) C s H ex) kx tk) (hv:∀ C s H ex,PE (zD X scope cl (ts++xs) C s H ex) vx tv)
  (gw:GW (c0 nt js σ) g) (h:∀ D,H D=none->zo9 X.K J (c0 nt js σ) g wi2 j tk tv D (Z D) (upd H D (.dT [])))
  (hRR:∀ (D C:Addr) (m:Str->Option Value) (s':Shared) (H':Hp),Z D H'->Inv X pins σ H' s'->s'.heap.Ns C m->H' C=none->C≠X.env.locals ->
   (∀ x c,X.env.cells.lookup x=some c->c≠C)->X.s₀.heap.objs.size<=C->(∀ p∈X.pn++pins,p.1≠C)->RR (.ref D) C (.ok .next) s') :
  wpAny (model X.prog X.w) X.A newDict (fun acc s3=>wpAny (model X.prog X.w) X.A (newFunctionEnv scope X.env.globals cl [] X.env.qual none .none (some X.env)) (fun cenv s4 =>
   codeAny (model X.prog X.w) X.A (.compStart (dc2 kx vx tg iter t2 i2 scope pos) 0 (.ref it) acc { cenv with scope:=relabel scope X.env }) (RR acc cenv.locals) s4) E s3) E s:=by
 refine qA (zic fun h1 hn1 hsb1 ck=>?_);dsimp only at hn1 hsb1 ck ⊢;have hDn:H s.heap.objs.size=none:=I.hok.fresh (qe _);have I1:=I.laid (a:=s.heap.objs.size) (o:=.dT []) (h':=s.heap.push { cls:=.type "dict",data:=.dict #[] }) (t':=s.toks) (fun _ _ q=>qd _ q) (qe _) (zfw s.heap I.big);have h2:=h _ hDn;have hl0:∀ b∈fp,b < s.heap.objs.size:=fun b hb=>by
  obtain⟨o,e,_⟩:=T.obj _ _ st b hb;exact qh e
 have st0:tn 0 (s.heap.push { cls:=.type "dict",data:=.dict #[] }):=T.keep _ _ _ st fun b hb o e=>qd _ e;have hf0:∀ b∈fp,zaq X pins (upd H s.heap.objs.size (.dT [])) b:=fun b hb=>⟨by rw [zq (qj (hl0 b hb))]; exact(hf b hb).1,(hf b hb).2⟩;have hp:s.heap.objs.size < (s.heap.push { cls:=.type "dict",data:=.dict #[] }).objs.size:=by rw [Heap.size_push]; exact Nat.lt_succ_self _
 refine zpb (s:={ s with heap:=s.heap.push { cls:=.type "dict",data:=.dict #[] },toks:=s.toks }) hu hc I1 S f hts T st0 hf0 hg jl hi2 hg2 hs2 hk hv gw h2 hn1 hsb1 ck fun m s' H' z I' hn hCn hCL hCc hCs hCp=>hRR _ _ m s' H' z I' hn hCn hCL hCc hCs hCp
def zwM(K:qc)(wi:TI)(nt:Nat)(js:List Nat)(g:TG)(wi2:TI)(j:Nat)(tk tv:TE):TE:=fun σ H Q=>wi σ H fun J H1 =>
 ∀ D,H1 D=none->zo9 K J (c0 nt js σ) g wi2 j tk tv D (fun H2=>Q (.ref D) H2) (upd H1 D (.dT []))
theorem zu4{y:Str}{py spos:Pos}{i:Nat}{kx vx iter tg t2 i2:Expr}{pos:Pos}{wi:TI}{g:TG}{wi2:TI}{j:Nat}{tk tv:TE}{n:Nat}(hr:Room n X.A){nt:Nat}(hi:Wr (PI X tg iter wi))(hg:∀ {C s H ex},Wr (PG (zD X scope (zcP X js) ((tgN tg++tgN t2)++zcF X js) C s H ex) tg g))(hi2:∀ {C s H ex},Wr (PI (zD X scope (zcP X js) ((tgN tg++tgN t2)++zcF X js) C s H ex) t2 i2 wi2))(hg2:∀ {C s H ex},Wr (PG (zD X scope (zcP X js) ((tgN tg++tgN t2)++zcF X js) C s H ex) t2 (zbr j)))
  (hk:∀ {C s H ex},Wr (PE (zD X scope (zcP X js) ((tgN tg++tgN t2)++zcF X js) C s H ex) kx tk)) (hv:∀ {C s H ex},Wr (PE (zD X scope (zcP X js) ((tgN tg++tgN t2)++zcF X js) C s H ex) vx tv))
  (hN:X.N.Nodup:=by first | assumption | exact ze9 rfl) (hi':X.N[i]?=some y:=by rfl) (hy:Loc X.env.scope y:=by first | exact Or.inl rfl | exact Or.inr rfl)
  (f:Frees X (zcP X js) (zcF X js) js:=by repeat (first | exact Frees.nil | refine Frees.cons rfl (by first | exact Or.inl rfl | exact Or.inr rfl) rfl ?_)) (hclos:closureFor scope X.env=pure (zcP X js):=by rfl) (S:ScC scope (zcF X js):=by exact⟨rfl,of_decide_eq_true rfl,of_decide_eq_true rfl,of_decide_eq_true rfl,of_decide_eq_true rfl⟩) (hts:(tgN tg++tgN t2).length=nt:=by rfl) (jl:j < nt:=by decide) (hs2:∀ env x,foldedSetIterable i2 env x=pure x:=by intro _ _; rfl) (hc:X.calm=true:=by rfl) (gw:∀ σ:St,GW (c0 nt js σ) g:=by first | exact zhd (by decide) | exact znh (zhe (by repeat (first | exact zfy | refine zej (by decide) ?_)))) (hs:∀ x,foldedSetIterable iter X.env x=pure x:=by intro _; rfl)
  (hsw:swapsWith (dc2 kx vx tg iter t2 i2 scope pos) (some (.Name y py)) spos.line X.env=pure true:=by rfl)
  (hf:X.fn y=true\/X.env.scope.names.lookup y=some .local:=by first | exact .inl rfl | exact .inr rfl | assumption) :
  Wr (PS X (.Assign [.Name y py] (dc2 kx vx tg iter t2 i2 scope pos) spos) (zhY (zwM X.K wi nt js g wi2 j tk tv) (zbr i))):=by
 refine⟨?_⟩;intro pins s σ H D I h;rw [exec_Assign_Name_used _ _ _ _ hsw];refine qa (wpAny_standAt (qa ?_));show wpAny _ X.A (do let _ <-comprehension (dc2 kx vx tg iter t2 i2 scope pos) scope X.env _ newDict false (eval iter X.env) (some (assign (.Name y py) X.env))) _ _ s;refine qa (wpAny_mono (wpAny_comprehension_free (use:=some (assign (.Name y py) X.env)) (Q:=fun _ s'=>SP X pins D .next s') rfl hs hclos S.kind S.names
  (thn (hi.run pins s σ H _ I h) fun v s1 h1=>thn h1 fun itv s2 h2=>?_)) (fun _ s' hq=>qb (qb hq)) fun _ _ e=>e)
 obtain⟨it,fp,tn,J,H2,e,I2,T,st2,f2,q⟩:=h2;subst e;refine zmq (RR:=fun acc C=>compPost (model X.prog X.w) X.A X.xe (some (assign (.Name y py) X.env)) (fun _ s'=>SP X pins D .next s') acc C) (zib hr) hc I2 S f hts T st2 f2 (fun C s H ex=>hg.run) jl (fun C s H ex=>hi2.run) (fun C s H ex=>hg2.run) hs2 (fun C s H ex=>hk.run) (fun C s H ex=>hv.run) (gw σ) q ?_;intro D' C m s' H' z I' hn hCn hCL hCc hCs hCp;show wpAny _ _ (assign (.Name y py) X.env (.ref D')) _ _ _;refine wpAny_assign_Name (zec (v:=.ref D') I' hN hi' hy rfl (fun s'' I'' hZ=>?_) hf);obtain⟨a,sb,ha⟩:=hZ;have ne:C≠a:=by
  rcases ha with rfl | ha
  ·exact hCL
  ·exact(hCc _ _ ha).symm
 exact⟨m,hn.sameBut sb ne,fun h' hs'=>⟨_,_,I''.turned (it:=C) (fun b o hb e=>hs'.extBut b o hb e) hCn hCL (.inr hCs) hCc hCp,z⟩⟩
end
def inM(j:Nat)(mk mv:ME):List D->En->List (List Key×D)->Option (List (List Key×D)×En)
 | [],ρ,ys=>some (ys,ρ)
 | d::ds,ρ,ys=>if ys.length < sizeLine then(mk (ρ.set j (some (.d d)))).bind fun p=>(mv p.2).bind fun q=>(p.1.get q.2).bind fun uk=>(q.1.get q.2).bind fun uv=>uk.da.bind fun dk=>uv.da.bind fun dv=>(zaM dk).bind fun k =>
   inM j mk mv ds (q.2.set j none) (zcJ ys k dv)else none
def ziT(nt j:Nat)(mg:MG)(mi:MI)(mk mv:ME):List D->En->List (List Key×D)->Option (List (List Key×D)×En)
 | [],ρ,ys=>some (ys,ρ)
 | d::ds,ρ,ys=>(mg d ρ).bind fun ρ1=>(mi ρ1).bind fun p=>(inM j mk mv p.1 (p.2.set j none) ys).bind fun q=>ziT nt j mg mi mk mv ds (reset nt q.2) q.1
def zu5(mi:MI)(nt:Nat)(js:List Nat)(mg:MG)(mi2:MI)(j:Nat)(mk mv:ME):ME:=fun ρ=>(mi ρ).bind fun p=>(ziT nt j mg mi2 mk mv p.1 (cEn nt js p.2) []).bind fun q=>some (.u (.t q.1),back js (q.2.drop nt) p.2)
structure Shn (nt:Nat) (ρ ρ':En):Prop where
 len:ρ'.length=ρ.length
 own:∀ (i:Nat) (u:U),nt<=i->ρ'[i]?=some (some u)->u.own=true->∃ w,ρ[i]?=some (some w)/\w.own=true
 live:∀ (i:Nat) (u:U),nt<=i->ρ[i]?=some (some u)->∃ w,ρ'[i]?=some (some w)
section
variable {K:qc} {nt j n:Nat} {ρ ρ' ρ'' ρb:En} {pn:List Nat} {σ₀ σ σc:St} {A:Addr->Prop} {H₀ H₁ H H':Hp} {D:Addr}
theorem Shr.shn(s:Shr ρ ρ'):Shn nt ρ ρ':=⟨s.len,fun i u _ e o=>s.own i u e o,fun i u _ e=>s.live i u e⟩
theorem Shn.trans(a:Shn nt ρ ρ')(b:Shn nt ρ' ρ''):Shn nt ρ ρ'':=⟨b.len.trans a.len,fun i u h e o=>let ⟨w,e',o'⟩:=b.own i u h e o; a.own i w h e' o',fun i u h e=>let ⟨w,e'⟩:=a.live i u h e; b.live i w h e'⟩
theorem Shn.set(a:Shn nt ρ ρ')(h:j < nt)(x:Option U):Shn nt ρ (ρ'.set j x) :=
 ⟨by rw [List.length_set]; exact a.len,fun i u hi e o=>a.own i u hi (by rw [qC (by omega)]at e; exact e) o,fun i u hi e=>by rw [qC (by omega)]; exact a.live i u hi e⟩
theorem Sn.unset(s:Sn K pn σ₀ A H₀ H₁ ρ σ H)(hj:j∉pn):Sn K pn σ₀ A H₀ H₁ (ρ.set j none) (σ.set j none) H:=by
 have inv:∀ (i:Nat) (w:U),(ρ.set j none)[i]?=some (some w)->j≠i/\ρ[i]?=some (some w):=fun i w e=>by
  by_cases z:j=i
  ·subst z
   have hl:=(qk.mp e).1;rw [List.length_set]at hl;rw [List.getElem?_set_self hl]at e;cases e
  ·rw [qC z]at e
   exact⟨z,e⟩
 refine⟨⟨by rw [List.length_set,List.length_set]; exact s.rs.len,fun i w e=>?_,fun i k x y ei ek ox oy es=>?_⟩,s.fr,fun i w a e o es=>?_,fun i hi=>?_,s.dm,s.kp⟩
 ·obtain⟨z,e⟩:=inv i w e
  rw [qC z];exact s.rs.rep i w e
 ·obtain⟨z1,ei⟩:=inv i x ei
  obtain⟨z2,ek⟩:=inv k y ek;rw [qC z1,qC z2]at es;exact s.rs.apart i k x y ei ek ox oy es
 ·obtain⟨z,e⟩:=inv i w e
  rw [qC z]at es;exact s.ow i w a e o es
 ·rw [qC (by rintro rfl; exact hj hi)]
  exact s.pin i hi
theorem zu6{J:It}{ds:List L2.D}{ρz ρ3:En}{σ3:St}{H3:Hp}{mk mv:ME}{tk tv:TE}{ws:List (List Key×V)}{kd zs:List (List Key×L2.D)}{Z:Hp->Prop}(hk:VE K tk mk)(hv:VE K tv mv)(jl:j < nt)(hA:A D)
  (noD:∀ {ρ:En} {σ:St} {H:Hp},Sn K (zbG nt n) σc A H₀ H₁ ρ σ H->Shn nt ρb ρ->¬Ow ρ σ D) (run:zjr K J H3 ds) (s3:Sn K (zbG nt n) σc A H₀ H₁ ρ3 σ3 H3) (sh3:Shn nt ρb ρ3) (hw:H3 D=some (.dT ws)) (dy:KVd K H3 ws kd)
  (el:inM j mk mv ds (ρ3.set j none) kd=some (zs,ρz)) (hZ:∀ H' ws',Sn K (zbG nt n) σc A H₀ H₁ ρz (σ3.set j none) H'->Shn nt ρb ρz->H' D=some (.dT ws')->KVd K H' ws' zs->Z H'):zu3 K J (σ3.set j none) (zbr j) tk tv D Z H3:=by
 have hj:j∉zbG nt n:=fun z=>by have:=(zbU.mp z).1; omega
 refine⟨fun i m H'=>m=ds.length - i/\i<=ds.length/\∃ ρc kd ws,Sn K (zbG nt n) σc A H₀ H₁ ρc (σ3.set j none) H'/\Shn nt ρb ρc/\Kp H3 H'/\H' D=some (.dT ws)/\KVd K H' ws kd/\inM j mk mv (ds.drop i) ρc kd=some (zs,ρz),
  ⟨ds.length,by simp,Nat.zero_le _,_,kd,ws,s3.unset hj,sh3.set jl none,Kp.refl _,hw,dy,el⟩,?_⟩
 rintro i m H' ⟨rfl,hi',ρc,kd,ws,s',sh,kp',hw,dy,el⟩
 by_cases hlt:i < ds.length
 ·rw [List.drop_eq_getElem_cons hlt]at el
  unfold inM at el;split at el
  ·rename_i hz
   obtain⟨⟨a4,ρ4⟩,e5,el⟩:=zd el;obtain⟨⟨a5,ρ5⟩,e6,el⟩:=zd el;obtain⟨uk,ek,el⟩:=zd el;obtain⟨uv,ev,el⟩:=zd el;obtain⟨dk,edk,el2⟩:=zd el;obtain⟨dv,edv,el3⟩:=zd el2;obtain⟨ks,eks,el4⟩:=zd el3;cases zbl edk;cases zbl edv;obtain⟨go,yl⟩:=(run H' kp' i).1 ds[i] (qm hlt);refine .inr ⟨go,fun H2=>∃ ρc kd ws,Sn K (zbG nt n) σc A H₀ H₁ ρc (σ3.set j none) H2/\Shn nt ρb ρc/\Kp H3 H2/\H2 D=some (.dT ws)/\KVd K H2 ws kd/\inM j mk mv (ds.drop (i+1)) ρc kd=some (zs,ρz),
    fun H2 z=>⟨ds.length - (i+1),by omega,rfl,hlt,z⟩,fun x H2 y=>?_⟩
   obtain⟨sm,dx⟩:=yl x H2 y;have s2:=s'.go (Go.grow s'.rs sm);have s4:=s2.set (i:=j) (v:=x) (u:=.d ds[i]) hj dx (fun o=>by cases o);have sh4:=sh.set jl (some (.d ds[i]));show tk _ H2 _;refine hk _ _ H2 a4 ρ4 _ s4.rs e5 fun kx H4 g4 k4=>hv ρ4 _ H4 a5 ρ5 _ g4.rs e6 fun vx H5 g5 k5=>?_;have pk:=k4.later s4.rs g4 g5 ek;have pv:=k5.now g4.rs g5 ev;obtain⟨p,rfl,hp⟩:=zdg pk eks;have g45:=g4.trans g5;have hw5:H5 D=some (.dT ws):=g45.fr D _ (sm _ _ hw) (noD s4 sh4);have s6:=(s4.go g45).unset hj;rw [List.set_set,List.set_set]at s6;have sh6:=(sh4.trans g45.shr.shn).set jl none;have dy5:KVd K H5 ws kd:=(dy.kp sm.kp).kp (g45.kp s4.rs);have kp:=zbc hw5 trivial (.dT (zcj ws ks vx));exact⟨ws,ks,p,rfl,hw5,hp,by rw [dy5.len]; exact hz,_,_,_,s6.free hw5 trivial (noD s6 sh6) hA,sh6,((kp'.trans sm.kp).trans (g45.kp s4.rs)).trans kp,zr,(dy5.kp kp).put ks (DF.kp kp pv),el4⟩
  ·cases el
 ·have ei:i=ds.length:=by omega
  subst ei;rw [List.drop_length]at el;cases el;exact .inl ⟨(run H' kp' _).2 rfl,hZ _ _ s' sh hw dy⟩
end
section
variable {K:qc} {ρ ρ' ρ1:En} {σ:St} {H H' H1:Hp}
theorem zwN{wi wi2:TI}{nt j:Nat}{js:List Nat}{g:TG}{tk tv:TE}{mi mi2:MI}{mg:MG}{mk mv:ME}(hi:VI K wi mi)(hg:VGt K (zbG nt js.length) g mg)(hi2:VI K wi2 mi2)(hk:VE K tk mk)(hv:VE K tv mv)(jl:j < nt:=by decide)(nd:js.Nodup:=by decide) :
  VE K (zwM K wi nt js g wi2 j tk tv) (zu5 mi nt js mg mi2 j mk mv):=by
 intro ρ σ H a ρ' Q r e q;obtain⟨⟨ds,ρ1⟩,e1,e⟩:=zd e;obtain⟨⟨zs,ρz⟩,e2,e⟩:=zd e;cases e;refine hi ρ σ H ds ρ1 _ r e1 fun J H1 g1 run=>fun D hD=>?_;have sm0:=zC hD (.dT []);have s0:=zkr (nt:=nt) (js:=js) g1.rs nd;have s1:Sn K (zbG nt js.length) (c0 nt js σ) (fun a=>zer ρ1 σ js a\/a=D) (upd H1 D (.dT [])) H1 (cEn nt js ρ1) (c0 nt js σ) (upd H1 D (.dT [])):=by
  have s2:=s0.go (Go.grow s0.rs sm0);refine⟨s2.rs,fun a o h n=>h,fun i u a e o es=>?_,s2.pin,fun a h=>h,s2.kp⟩;rcases s2.ow i u a e o es with z | z
  ·exact .inl ⟨z.1,.inl z.2⟩
  ·exact absurd z (by
    obtain⟨v,ev,p⟩:=s0.rs.rep i u e;rw [es]at ev;cases ev;obtain⟨b,c,eb,hb,_⟩:=p.own o;cases eb;rw [hb];exact fun z=>nomatch z)
 have noD:∀ {ρx:En} {σx:St} {Hx:Hp},Sn K (zbG nt js.length) (c0 nt js σ) (fun a=>zer ρ1 σ js a\/a=D) (upd H1 D (.dT [])) H1 ρx σx Hx->Shn nt (cEn nt js ρ1) ρx->¬Ow ρx σx D:=fun s sh=>zsh g1.rs hD s sh.own;refine⟨fun i m H'=>m=ds.length - i/\i<=ds.length/\∃ ρc kd ws,Sn K (zbG nt js.length) (c0 nt js σ) (fun a=>zer ρ1 σ js a\/a=D) (upd H1 D (.dT [])) H1 ρc (c0 nt js σ) H'/\Shr (cEn nt js ρ1) ρc/\(∀ k,k < nt->ρc[k]?=some none)/\H' D=some (.dT ws)/\KVd K H' ws kd/\ziT nt j mg mi2 mk mv (ds.drop i) ρc kd=some (zs,ρz),
  ⟨ds.length,by simp,Nat.zero_le _,_,[],[],s1,Shr.refl _,fun k hk=>zju hk,zr,.nil,e2⟩,?_⟩
 rintro i m H' ⟨rfl,hi',ρc,kd,ws,s',sh,lo,hw,dy,el⟩;have lc:ρc.length=nt+js.length:=by rw [sh.len,zdQ]
 by_cases hlt:i < ds.length
 ·rw [List.drop_eq_getElem_cons hlt]at el
  unfold ziT at el;obtain⟨ρ2,e3,el⟩:=zd el;obtain⟨⟨ds2,ρ3⟩,e4,el⟩:=zd el;obtain⟨⟨ys,ρ4⟩,e5,el⟩:=zd el;obtain⟨l2,p2⟩:=hg.ok _ _ _ e3;obtain⟨go,yl⟩:=(run H' s'.kp i).1 ds[i] (qm hlt);refine .inr ⟨go,fun H2=>∃ ρc' kd' ws',Sn K (zbG nt js.length) (c0 nt js σ) (fun a=>zer ρ1 σ js a\/a=D) (upd H1 D (.dT [])) H1 ρc' (c0 nt js σ) H2/\Shr (cEn nt js ρ1) ρc'/\(∀ k,k < nt->ρc'[k]?=some none)/\H2 D=some (.dT ws')/\KVd K H2 ws' kd'/\ziT nt j mg mi2 mk mv (ds.drop (i+1)) ρc' kd'=some (zs,ρz),
   fun H2 ⟨ρc',kd',ws',z⟩=>⟨ds.length - (i+1),by omega,rfl,hlt,ρc',kd',ws',z⟩,fun x H2 y=>?_⟩
  obtain⟨sm,dx⟩:=yl x H2 y;have s2:=s'.go (Go.grow s'.rs sm);refine hg.run _ _ _ _ ρc _ H2 x ds[i] ρ2 _ s2 dx e3 fun σ3 s3=>?_;have shn2:Shn nt ρc ρ2:=⟨l2,fun k u hk ek ou=>by
    have lk:k < nt+js.length:=by rw [<-l2.trans lc]; exact(qk.mp ek).1
    rw [p2 k (zbU.mpr ⟨hk,lk⟩)]at ek;exact⟨u,ek,ou⟩,fun k u hk ek=>by
    have lk:k < nt+js.length:=by rw [<-lc]; exact(qk.mp ek).1
    rw [<-p2 k (zbU.mpr ⟨hk,lk⟩)]at ek;exact⟨u,ek⟩⟩
  have sh2:Shn nt (cEn nt js ρ1) ρ2:=sh.shn.trans shn2;have hw2:H2 D=some (.dT ws):=sm _ _ hw;refine hi2 ρ2 σ3 H2 ds2 ρ3 _ s3.rs e4 fun J2 H3 g3 run2=>?_;have sh3:=sh2.trans g3.shr.shn;refine zu6 (ρb:=cEn nt js ρ1) hk hv jl (.inr rfl) noD run2 (s3.go g3) sh3 (g3.fr D _ hw2 (noD s3 sh2)) ((dy.kp sm.kp).kp (g3.kp s3.rs)) e5 fun H4 ws4 s4 sh4 hw4 dy4=>?_;have l4:ρ4.length=nt+js.length:=by rw [sh4.len,zdQ]
  have shx:Shn nt ρc ρ4->Shr ρc (L2.reset nt ρ4):=fun z=>Shr.reset' lc lo l4 (fun k u hk ek ou=>z.own k u hk ek ou) fun k u hk ek=>z.live k u hk ek;have sh5:Shr (cEn nt js ρ1) (L2.reset nt ρ4):=Shr.reset' (by rw [zdQ]) (fun k hk=>zju hk) l4 (fun k u hk ek ou=>sh4.own k u hk ek ou) fun k u hk ek=>sh4.live k u hk ek;exact⟨_,_,ws4,s4.reset l4 zjt,sh5,fun k hk=>zfM hk,hw4,dy4,el⟩
 ·have ei:i=ds.length:=by omega
  subst ei;rw [List.drop_length]at el;cases el;refine .inl ⟨(run H' s'.kp _).2 rfl,?_⟩;have nE:¬Ow ρz (c0 nt js σ) D:=zsh g1.rs hD s' fun k u _ ek ou=>sh.own k u ek ou;have s4:Sn K (zbG nt js.length) (c0 nt js σ) (zer ρ1 σ js) H1 H1 ρz (c0 nt js σ) H':=by
   refine⟨s'.rs,fun a o h n=>?_,fun i u a e o es=>?_,s'.pin,fun a h=>?_,s'.kp⟩
   ·have ne:a≠D:=by rintro rfl; rw [hD]at h; cases h
    exact s'.fr a o (by rw [zq ne]; exact h) fun z=>z.elim n ne
   ·rcases s'.ow i u a e o es with ⟨z1,z2 | z2⟩ | z
    ·exact .inl ⟨z1,z2⟩
    ·subst z2; exact absurd ⟨i,u,e,o,es⟩ nE
    ·by_cases ea:a=D
     ·subst ea; exact .inr hD
     ·rw [zq ea]at z; exact .inr z
   ·have z:=s'.dm a h
    by_cases ea:a=D
    ·subst ea; exact hD
    ·rw [zq ea]at z; exact z
  have gb:=Sn.comp_back g1.rs s4 lc sh;exact q _ _ (g1.trans gb) ⟨⟨D,ws,rfl,hw,dy⟩,fun _=>⟨D,rfl,g1.dm _ hD⟩⟩
end
abbrev zmr(h:Heap)(t1:Addr):Heap:=h.push { cls:=.type "tuple_iterator",data:=.fields #[.ref t1,.int 0 0] }
abbrev zpc(h:Heap)(t1 t2:Addr):Heap:=(zmr h t1).push { cls:=.type "list_iterator",data:=.fields #[.ref t2,.int 0 0] }
abbrev zms(h:Heap)(t1 t2:Addr):Heap:=(zpc h t1 t2).push { cls:=.type "tuple",data:=.seq #[.ref h.objs.size,.ref (zmr h t1).objs.size] }
abbrev zrh(h:Heap)(t1 t2:Addr):Heap:=(zms h t1 t2).push { cls:=.type "tuple",data:=.seq #[.none,.none] }
abbrev zu7(h:Heap)(t1 t2:Addr):Heap:=(zrh h t1 t2).push { cls:=.type "zip",data:=.fields #[.none,.bool false,.bool false,.ref (zpc h t1 t2).objs.size,.ref (zms h t1 t2).objs.size] }
theorem zmt(t1 t2:Addr)(xs ys:Array Value) :
  Meets (Builtin.«zip.__new__» ⟨[.type "zip",.ref t1,.ref t2],[]⟩) (fun _ R s=>s.heap.IsTuple t1 xs/\s.heap.IsList t2 ys /\
   R (.ok (.ret (.ref (zrh s.heap t1 t2).objs.size))) { s with heap:=zu7 s.heap t1 t2 }) :=
 .of_wp fun prog w A R s h=>by
  obtain⟨hp,g,d,tk,os⟩:=s;obtain⟨h1,h2,h⟩:=h;have h2':Heap.IsList (zmr hp t1) t2 ys:=by
   obtain⟨o,e,r⟩:=h2;exact⟨o,qd _ e,r⟩
  have hsub:=sub_zip
  wp_walk using wpAny_pyIter_tuple h1,wpAny_pyIter_list h2'
  exact⟨_,rfl,h⟩
section
variable {prog:Program} {w:World} {A:Around} {E:Value->Shared->Prop} {s:Shared} {z TI TO i1 i2 t1 t2:Addr} {k:Nat} {xs ys:Array Value} {x y a b:Value}
theorem zjR{Q:Option Value->Shared->Prop}(ap:ZipApart z TI TO i1 i2 t1 t2)(hz:IsZip s.heap z TI TO .none)(hI:IsPair s.heap TI (.ref i1) (.ref i2))(hO:IsPair s.heap TO a b)
  (h1:s.heap.IsTupleIter i1 t1 k) (h2:s.heap.IsListIter i2 t2 k) (g1:s.heap.IsTuple t1 xs) (g2:s.heap.IsList t2 ys) (ex:xs[k]?=some x) (ey:ys[k]?=some y)
  (q:∀ h':Heap,IsZip h' z TI TO (rawInt s.heap.objs.size)->IsPair h' TO x y->h'.IsTupleIter i1 t1 (k+1)->h'.IsListIter i2 t2 (k+1)->IsPair h' s.heap.objs.size x y ->
   (∀ c o,c≠z->c≠TO->c≠i1->c≠i2->s.heap.get? c=some o->h'.get? c=some o)->Q (some (.ref s.heap.objs.size)) { s with heap:=h' }):wpAny (model prog w) A (pyNext (.ref z)) Q E s:=by
 have kT:s.TypeIs (.ref z) "zip":=⟨_,hz,rfl⟩;unfold pyNext;refine qa (wpAny_attempt (wpAny_callSpecial?_slot (name:=Str.ofString "__next__") kT F.slot_zip_next (wpAny_call_entry F.slot_zip_next kT F.entry_zip_next ?_ (F.args_zip_next_1 _))));unfold Builtin.«zip.__next__»;refine qa (qb ?_);refine qa (wpAny_field hz rfl (x:=.bool false) rfl ?_);refine qa (wpAny_field hz rfl (x:=.ref TI) rfl ?_);refine qa (wpAny_seqItems hI rfl ?_);show wpAny _ _ (Builtin.SmallTypes.ownedTupleIsFree (.ref z) >>= _) _ _ s;unfold Builtin.SmallTypes.ownedTupleIsFree;refine qa (qa (wpAny_field hz rfl (x:=.none) rfl (qb ?_)));show wpAny _ _ (if true=true then _ else _) _ _ _;rw [if_pos rfl];refine qa (wpAny_rule (qa (wpAny_field hz rfl (x:=.ref TO) rfl ?_)));refine qa (za3 hz (by simp) fun ha ka za fa=>?_);have hO1:IsPair ha TO a b:=fa _ _ ap.TOz hO;have h11:ha.IsTupleIter i1 t1 k:=by
  obtain⟨o,e,r⟩:=h1;exact⟨o,fa _ _ ap.i1z e,r⟩
 have g11:ha.IsTuple t1 xs:=by
  obtain⟨o,e,r⟩:=g1;exact⟨o,fa _ _ ap.l1z e,r⟩
 refine qa ?_;show wpAny _ _ (forIn [(Value.ref i1,0),(Value.ref i2,1)] (none,()) _) _ _ _;rw [List.forIn_cons];refine qa (qa (wpAny_onRaise ?_));show wpAny _ _ (Builtin.SmallTypes.nextOf (.ref i1) >>= _) _ _ _;refine qa (zcl (s:={ s with heap:=ha }) h11 g11 ex fun hb kb sb=>qb ?_);refine qa (wpAny_seqItems (s:={ s with heap:=hb }) (o:=_) ((sb.2 _ ap.TOi1).trans hO1) rfl ?_);refine qa (wpAny_updateSeq_pair (s:={ s with heap:=hb }) ((sb.2 _ ap.TOi1).trans hO1) fun hc kc sc=>?_);refine qa (wpAny_letGo (qb ?_));show wpAny _ _ (forIn [(Value.ref i2,1)] (none,()) _) _ _ _;rw [List.forIn_cons];have keepC:∀ c o,c≠z->c≠TO->c≠i1->s.heap.get? c=some o->hc.get? c=some o:=fun c o n1 n2 n3 e=>(sc.2 c n2).trans ((sb.2 c n3).trans (fa c o n1 e));have h22:hc.IsListIter i2 t2 k:=by
  obtain⟨o,e,r⟩:=h2;exact⟨o,keepC _ _ ap.i2z (Ne.symm ap.TOi2) (Ne.symm ap.i12) e,r⟩
 have g22:hc.IsList t2 ys:=by
  obtain⟨o,e,r⟩:=g2;exact⟨o,keepC _ _ ap.l2z ap.l2TO ap.l2i1 e,r⟩
 refine qa (qa (wpAny_onRaise ?_));show wpAny _ _ (Builtin.SmallTypes.nextOf (.ref i2) >>= _) _ _ _;refine qa (wpAny_nextOf_list_item (s:={ s with heap:=hc }) h22 g22 ey fun hd kd sd=>qb ?_);have hO3:IsPair hd TO x b:=(sd.2 _ ap.TOi2).trans kc;refine qa (wpAny_seqItems (s:={ s with heap:=hd }) hO3 rfl ?_);refine qa (wpAny_updateSeq_pair (s:={ s with heap:=hd }) hO3 fun he ke se=>?_);refine qa (wpAny_letGo (qb ?_));show wpAny _ _ (forIn ([]:List (Value×Nat)) (none,()) _) _ _ _;rw [List.forIn_nil];refine qb ?_;have hO4:IsPair he TO x y:=ke;show wpAny _ _ (seqItems? (.ref TO) >>= _) _ _ _;refine qa (wpAny_seqItems (s:={ s with heap:=he }) hO4 rfl ?_);simp only [newTuple];refine qa (qA ?_ (by show(2:Nat)<=sizeLine; decide));have sz:he.objs.size=s.heap.objs.size:=by rw [se.1,sd.1,sc.1,sb.1]; exact za
 show wpAny _ _ (Builtin.SmallTypes.ownedTupleHandOut (.ref z) (.ref he.objs.size) >>= _) _ _ { s with heap:=he.push { cls:=.type "tuple",data:=.seq #[x,y] } };have kz:(he.push { cls:=.type "tuple",data:=.seq #[x,y] }).get? z=some { cls:=.type "zip",data:=.fields #[.ellipsis,.bool false,.bool false,.ref TI,.ref TO] } :=
  qd _ ((se.2 _ (Ne.symm ap.TOz)).trans ((sd.2 _ (Ne.symm ap.i2z)).trans ((sc.2 _ (Ne.symm ap.TOz)).trans ((sb.2 _ (Ne.symm ap.i1z)).trans ka))))
 have kt:(he.push { cls:=.type "tuple",data:=.seq #[x,y] }).get? he.objs.size=some { cls:=.type "tuple",data:=.seq #[x,y] }:=qg _ rfl;have kO:(he.push { cls:=.type "tuple",data:=.seq #[x,y] }).get? TO=_:=qd _ hO4;have k1:Heap.IsTupleIter (he.push { cls:=.type "tuple",data:=.seq #[x,y] }) i1 t1 (k+1):=by
  obtain⟨o,e,r⟩:=kb;exact⟨o,qd _ ((se.2 _ (Ne.symm ap.TOi1)).trans ((sd.2 _ ap.i12).trans ((sc.2 _ (Ne.symm ap.TOi1)).trans e))),r⟩
 have k2:Heap.IsListIter (he.push { cls:=.type "tuple",data:=.seq #[x,y] }) i2 t2 (k+1):=by
  obtain⟨o,e,r⟩:=kd;exact⟨o,qd _ ((se.2 _ (Ne.symm ap.TOi2)).trans e),r⟩
 have kk:∀ c o,c≠z->c≠TO->c≠i1->c≠i2->s.heap.get? c=some o->(he.push { cls:=.type "tuple",data:=.seq #[x,y] }).get? c=some o:=fun c o n1 n2 n3 n4 e =>
  qd _ ((se.2 c n2).trans ((sd.2 c n4).trans (keepC c o n1 n2 n3 e)))
 have nz:he.objs.size≠z:=by
  rw [sz];exact Ne.symm (qj (qh hz))
 generalize he.push { cls:=.type "tuple",data:=.seq #[x,y] }=hf at kz kt kO k1 k2 kk ⊢;unfold Builtin.SmallTypes.ownedTupleHandOut;refine qa (qa (za3 (s:={ s with heap:=hf }) kz (by simp) fun hg kg zg fg=>?_));refine za3 (s:={ s with heap:=hg }) kg (by simp) fun hh kh zh fh=>?_;have up:∀ c o,c≠z->hf.get? c=some o->hh.get? c=some o:=fun c o n e=>fh c o n (fg c o n e);refine qb ⟨_,rfl,qb ?_⟩;rw [sz]at kt kh nz ⊢;refine q hh kh (up _ _ ap.TOz kO) ?_ ?_ (up _ _ nz kt) fun c o n1 n2 n3 n4 e=>up _ _ n1 (kk c o n1 n2 n3 n4 e)
 ·obtain⟨o,e,r⟩:=k1
  exact⟨o,up _ _ ap.i1z e,r⟩
 ·obtain⟨o,e,r⟩:=k2
  exact⟨o,up _ _ ap.i2z e,r⟩
theorem zmu{Q:Option Value->Shared->Prop}(hh:A.handled=none)(ap:ZipApart z TI TO i1 i2 t1 t2)(hz:IsZip s.heap z TI TO .none)(hI:IsPair s.heap TI (.ref i1) (.ref i2))(hO:IsPair s.heap TO a b)
  (h1:s.heap.IsTupleIter i1 t1 k) (h2:s.heap.IsListIter i2 t2 k) (g1:s.heap.IsTuple t1 xs) (g2:s.heap.IsList t2 ys) (en:xs[k]?=none)
  (q:∀ h':Heap,(∀ c o,c≠z->c≠TO->c≠i1->c≠i2->s.heap.get? c=some o->h'.get? c=some o)->Q none { s with heap:=h' }):wpAny (model prog w) A (pyNext (.ref z)) Q E s:=by
 have kT:s.TypeIs (.ref z) "zip":=⟨_,hz,rfl⟩;unfold pyNext;refine qa (wpAny_attempt (wpAny_callSpecial?_slot (name:=Str.ofString "__next__") kT F.slot_zip_next (wpAny_call_entry F.slot_zip_next kT F.entry_zip_next ?_ (F.args_zip_next_1 _))));unfold Builtin.«zip.__next__»;refine qa (qb ?_);refine qa (wpAny_field hz rfl (x:=.bool false) rfl ?_);refine qa (wpAny_field hz rfl (x:=.ref TI) rfl ?_);refine qa (wpAny_seqItems hI rfl ?_);show wpAny _ _ (Builtin.SmallTypes.ownedTupleIsFree (.ref z) >>= _) _ _ s;unfold Builtin.SmallTypes.ownedTupleIsFree;refine qa (qa (wpAny_field hz rfl (x:=.none) rfl (qb ?_)));show wpAny _ _ (if true=true then _ else _) _ _ _;rw [if_pos rfl];refine qa (wpAny_rule (qa (wpAny_field hz rfl (x:=.ref TO) rfl ?_)));refine qa (za3 hz (by simp) fun ha ka za fa=>?_);have h11:ha.IsTupleIter i1 t1 k:=by
  obtain⟨o,e,r⟩:=h1;exact⟨o,fa _ _ ap.i1z e,r⟩
 have g11:ha.IsTuple t1 xs:=by
  obtain⟨o,e,r⟩:=g1;exact⟨o,fa _ _ ap.l1z e,r⟩
 refine qa ?_;show wpAny _ _ (forIn [(Value.ref i1,0),(Value.ref i2,1)] (none,()) _) _ _ _;rw [List.forIn_cons];refine qa (qa (wpAny_onRaise ?_));show wpAny _ _ (Builtin.SmallTypes.nextOf (.ref i1) >>= _) _ _ _;refine qa (zel (s:={ s with heap:=ha }) hh h11 g11 en fun hb e sb hZ=>?_);obtain⟨oe,ge,ce⟩:=hZ;have kb:=sb z _ (Ne.symm ap.i1z) ka;refine za3 (s:={ s with heap:=hb }) kb (by simp) fun hc kc zc fc=>?_;have nez:e≠z:=fun h=>by
  rw [h]at ge;have z1:=qx (ge.symm.trans kb);rw [z1]at ce;have z2 : "zip" = "StopIteration":=Value.type.inj ce;exact absurd z2 (by decide)
 show wpAny _ _ (isInstance (.ref e) (.type "StopIteration") >>= _) _ _ _;refine qa (wpAny_isInstance (T := "StopIteration") (b:=true) ⟨oe,fc _ _ nez ge,ce⟩ isSubtype_stop ?_);exact qb (q hc fun c o n1 n2 n3 n4 e=>fc c o n1 (sb c o n3 (fa c o n1 e)))
end
def zwO(K:qc)(a b:Addr):It :=
 ⟨fun i H=>∃ xs ys x y,SqT K H a xs/\SqL K H b ys/\xs[i]?=some x/\ys[i]?=some y,fun i H x H'=>∃ T,H T=none/\x=.ref T/\∀ xs ys v u,SqT K H a xs->SqL K H b ys->xs[i]?=some v->ys[i]?=some u->H'=upd H T (.tup [v,u]),fun i H=>∃ xs ys,SqT K H a xs/\SqL K H b ys/\xs.length=i⟩
abbrev zwP(z TI TO i1 i2 t1 t2:Addr)(i:Nat)(h:Heap):Prop:=IsZip h z TI TO .none/\IsPair h TI (.ref i1) (.ref i2)/\(∃ a b,IsPair h TO a b)/\h.IsTupleIter i1 t1 i/\h.IsListIter i2 t2 i
theorem zmv{P:Program}{w:World}{K:qc}{elts:List Expr}{k:Nat}{pos:Pos}(z TI TO i1 i2 t1 t2:Addr)(ap:ZipApart z TI TO i1 i2 t1 t2) :
  Turn P w K (.Tuple elts k pos) (zwO K t1 t2) [z,TI,TO,i1,i2] z (zwP z TI TO i1 i2 t1 t2) where
 mem:=by simp
 obj:=fun i h st c hc=>by
  obtain⟨hz,hI,⟨a,b,hO⟩,⟨o1,e1,_,d1⟩,⟨o2,e2,_,d2⟩⟩:=st;simp only [qv,List.not_mem_nil,or_false]at hc;rcases hc with rfl | rfl | rfl | rfl | rfl
  ·exact⟨_,hz,fun v q=>by
    have q':Data.fields _=Data.cell v:=q;cases q'⟩
  ·exact⟨_,hI,fun v q=>by
    have q':Data.seq _ _=Data.cell v:=q;cases q'⟩
  ·exact⟨_,hO,fun v q=>by
    have q':Data.seq _ _=Data.cell v:=q;cases q'⟩
  ·exact⟨o1,e1,fun v q=>by rw [d1]at q; cases q⟩
  ·exact⟨o2,e2,fun v q=>by rw [d2]at q; cases q⟩
 keep:=fun i h h' st kk=>by
  obtain⟨hz,hI,⟨a,b,hO⟩,⟨o1,e1,r1⟩,⟨o2,e2,r2⟩⟩:=st;exact⟨kk z (by simp) _ hz,kk TI (by simp) _ hI,⟨a,b,kk TO (by simp) _ hO⟩,⟨o1,kk i1 (by simp) _ e1,r1⟩,⟨o2,kk i2 (by simp) _ e2,r2⟩⟩
 item:=by
  intro X hP hw hK hc i pins s σ H E I hf st hg;subst hP hw hK;obtain⟨xs,ys,x,y,hq1,hq2,hx,hy⟩:=hg;obtain⟨hz,hI,⟨a,b,hO⟩,h1,h2⟩:=st;obtain⟨its1,rv1,ht1,_⟩:=I.tuple hq1;obtain⟨its2,rv2,ht2,_⟩:=I.list hq2;obtain⟨u1,eu1,r1⟩:=rv1.get hx;obtain⟨u2,eu2,r2⟩:=rv2.get hy;refine zjR ap hz hI hO h1 h2 ht1 ht2.isList (by simpa using eu1) (by simpa using eu2) fun h' z' O' k1 k2 isT kk=>?_;refine⟨_,rfl,wpAny_letOwnedTupleGo_zip (s:={ s with heap:=h' }) z' fun h2' z2 sb=>?_⟩;have nm:s.heap.objs.size∉[z,TI,TO,i1,i2]:=fun hm=>by
   have:s.heap.objs.size < s.heap.objs.size:=by
    simp only [qv,List.not_mem_nil,or_false]at hm;obtain⟨_,e1,_⟩:=h1;obtain⟨_,e2,_⟩:=h2;rcases hm with h | h | h | h | h
    ·exact qi (h▸qh hz) (qe _)
    ·exact qi (h▸qh hI) (qe _)
    ·exact qi (h▸qh hO) (qe _)
    ·exact qi (h▸qh e1) (qe _)
    ·exact qi (h▸qh e2) (qe _)
   exact Nat.lt_irrefl _ this
  have nz:s.heap.objs.size≠z:=fun h=>nm (by rw [h]; simp);have I2:Inv X pins σ H { s with heap:=h2' }:=I.turnedW (t':=s.toks) (wr:=[z,TI,TO,i1,i2]) (fun c o hc q=>by
   simp only [qv,List.not_mem_nil,or_false,not_or]at hc;exact(sb.2 c hc.1).trans (kk c o hc.1 hc.2.2.1 hc.2.2.2.1 hc.2.2.2.2 q)) hf
  have fT:zaq X pins H s.heap.objs.size:=I.fpOk (qe _) (I.hok.fresh (qe _));have I3:Inv X pins σ (upd H s.heap.objs.size (.tup [x,y])) { s with heap:=h2' }:=I2.track fT I.sz ⟨by show 2<=sizeLine; decide,[u1,u2],.cons r1 (.cons r2 .nil),_,(sb.2 _ nz).trans isT,rfl,⟨_,rfl⟩,.inl rfl⟩;refine⟨.ref s.heap.objs.size,_,I3,rfl,⟨_,I.hok.fresh (qe _),rfl,fun xs' ys' v u hq1' hq2' hv hu=>?_⟩,⟨z2,(sb.2 _ ap.TIz).trans (kk _ _ ap.TIz ap.TITO ap.TIi1 ap.TIi2 hI),⟨_,_,(sb.2 _ ap.TOz).trans O'⟩,?_,?_⟩,fun c hc=>?_⟩
  ·cases I.tuple_inj hq1 hq1'
   cases I.list_inj hq2 hq2';rw [hx]at hv;rw [hy]at hu;cases hv;cases hu;rfl
  ·obtain⟨o,e,r⟩:=k1
   exact⟨o,(sb.2 _ ap.i1z).trans e,r⟩
  ·obtain⟨o,e,r⟩:=k2
   exact⟨o,(sb.2 _ ap.i2z).trans e,r⟩
  ·have ne:c≠s.heap.objs.size:=fun h=>nm (h▸hc)
   rw [zq ne];exact(hf c hc).1
 done:=by
  intro X hP hw hK hc i pins s σ H E I hf st hg;subst hP hw hK;obtain⟨xs,ys,hq1,hq2,hl⟩:=hg;obtain⟨hz,hI,⟨a,b,hO⟩,h1,h2⟩:=st;obtain⟨its1,rv1,ht1,_⟩:=I.tuple hq1;obtain⟨its2,rv2,ht2,_⟩:=I.list hq2;refine zmu (I.ok.hd hc) ap hz hI hO h1 h2 ht1 ht2.isList (by
   have:=rv1.length;simp;omega) fun h' kk=>⟨rfl,I.turnedW (t':=s.toks) (wr:=[z,TI,TO,i1,i2]) (fun c o hc q=>by
   simp only [qv,List.not_mem_nil,or_false,not_or]at hc;exact kk c o hc.1 hc.2.2.1 hc.2.2.2.1 hc.2.2.2.2 q) hf⟩
 self:=fun _ _ _ _ _ st h=>wpAny_pyIter_zip st.1 h
section
variable {prog:Program} {w:World} {A:Around} {E:Value->Shared->Prop} {s:Shared}
theorem zjS{t1 t2:Addr}{xs ys:Array Value}{Q:Value->Shared->Prop}(h1:s.heap.IsTuple t1 xs)(h2:s.heap.IsList t2 ys)
  (h:∀ h':Heap,zwP (s.heap.objs.size+4) (s.heap.objs.size+2) (s.heap.objs.size+3) s.heap.objs.size (s.heap.objs.size+1) t1 t2 0 h'->(∀ b o,s.heap.get? b=some o->h'.get? b=some o)->Q (.ref (s.heap.objs.size+4)) { s with heap:=h' }) :
  wpAny (model prog w) A (call (.type "zip") [.ref t1,.ref t2]) Q E s:=by
 refine callType_new F.called_zip (by decide) (F.typeCall_zip_2 _ _) (F.newCall_zip_2 _ _) (fun obj=>F.args_object_init_3 obj _ _) F.entry_zip_new (zmt t1 t2 xs ys) ⟨h1,h2,?_⟩;have z1:(zmr s.heap t1).objs.size=s.heap.objs.size+1:=Heap.size_push ..;have z2:(zpc s.heap t1 t2).objs.size=s.heap.objs.size+2:=by rw [Heap.size_push,z1]
 have z3:(zms s.heap t1 t2).objs.size=s.heap.objs.size+3:=by rw [Heap.size_push,z2]
 have z4:(zrh s.heap t1 t2).objs.size=s.heap.objs.size+4:=by rw [Heap.size_push,z3]
 show _/\_;rw [z4];have ez:(zu7 s.heap t1 t2).get? (s.heap.objs.size+4)=some { cls:=.type "zip",data:=.fields #[.none,.bool false,.bool false,.ref (s.heap.objs.size+2),.ref (s.heap.objs.size+3)] }:=by
  have:=qg (zrh s.heap t1 t2) (o:={ cls:=.type "zip",data:=.fields #[.none,.bool false,.bool false,.ref (zpc s.heap t1 t2).objs.size,.ref (zms s.heap t1 t2).objs.size] }) rfl;rw [z4,z2,z3]at this;rw [<-this];unfold zu7;rw [z2,z3]
 refine⟨⟨_,ez,rfl⟩,h _ ⟨ez,?_,⟨.none,.none,?_⟩,⟨{ cls:=.type "tuple_iterator",data:=.fields #[.ref t1,.int 0 0] },?_,rfl,rfl⟩,⟨{ cls:=.type "list_iterator",data:=.fields #[.ref t2,.int 0 0] },?_,rfl,rfl⟩⟩ fun b o x=>?_⟩
 ·have:=qg (zpc s.heap t1 t2) (o:={ cls:=.type "tuple",data:=.seq #[.ref s.heap.objs.size,.ref (zmr s.heap t1).objs.size] }) rfl
  rw [z2,z1]at this;refine qd _ (qd _ ?_);unfold zms;rw [z1];exact this
 ·have:=qg (zms s.heap t1 t2) (o:={ cls:=.type "tuple",data:=.seq #[.none,.none] }) rfl
  rw [z3]at this;exact qd _ this
 ·exact qd _ (qd _ (qd _ (qd _ (qg _ rfl))))
 ·have:=qg (zmr s.heap t1) (o:={ cls:=.type "list_iterator",data:=.fields #[.ref t2,.int 0 0] }) rfl
  rw [z1]at this;exact qd _ (qd _ (qd _ this))
 ·exact qd _ (qd _ (qd _ (qd _ (qd _ x))))
end
section
variable {X:Cx} {elts:List Expr} {k:Nat} {tpos:Pos}
end
section
variable {X:Cx} {elts:List Expr} {k:Nat} {tpos:Pos}
def zsC(K:qc)(ta:TA):TI:=fun σ H R=>ta σ H fun vs H1=>(∃ a b,vs=[.ref a,.ref b]/\(∃ xs,SqT K H1 a xs)/\(∃ ys,SqL K H1 b ys)/\R (zwO K a b) H1)\/∃ a b,vs=[.ref a,.ref b]/\(∃ xs,SqL K H1 a xs)/\(∃ ys,SqL K H1 b ys)/\R (zuy K a b) H1
theorem zri{a b:Expr}{ta:TA}{p pos:Pos}{K:qc}(ha:Wr (PA X [a,b] ta))(hK:X.K=K:=by rfl)(hg:Gl X "zip":=by exact rfl)(hm:X.mg "zip"=none:=by exact zeE ‹Bl _ _› (by decide))(hs:zK a=true:=by rfl)(hs2:[b].all zK=true:=by rfl) :
  Wr (PI X (.Tuple elts k tpos) (.Call (.Name "zip" p) [a,b] [] pos) (zsC K ta)):=by
 subst hK;refine⟨?_⟩;intro pins s σ H R I h;refine Call_ (zcL I hg hm boot_zip (PyProof.Rows.callWith_type1 (thn (ha.run pos pins s σ H _ I h) fun us s1 hZ=>?_) (zbj hs) (zaZ hs2)));obtain⟨vs,H1,I1,r1,q1⟩:=hZ;rcases q1 with q1 | q1
 ·obtain⟨t1,t2,e,⟨xs,hq1⟩,⟨ys,hq2⟩,q⟩:=q1
  subst e;obtain⟨u1,u2,rfl,ru1,ru2⟩:=zj6 r1;cases ru1;cases ru2;obtain⟨its1,rv1,ht1,hz1⟩:=I1.tuple hq1;obtain⟨its2,rv2,ht2,hz2⟩:=I1.list hq2;have tl1:t1 < s1.heap.objs.size:=by
   obtain⟨o,e,_⟩:=ht1;exact qh e
  have tl2:t2 < s1.heap.objs.size:=ht2.lt;have lt_ne:∀ {x y:Nat},x < y->x≠y:=fun h=>qj h;refine zjS (show s1.heap.IsTuple t1 its1.toArray from ht1) (show s1.heap.IsList t2 its2.toArray from ht2.isList) fun h' hst kk=>?_;have I2:Inv X pins σ H1 { s1 with heap:=h' }:=I1.kept (t':=s1.toks) kk;refine wpAny_pyIter_zip hst.1 ?_;have f:∀ j:Nat,zaq X pins H1 (s1.heap.objs.size+j):=fun j=>I1.fpOk (Nat.le_add_right _ _) (I1.hok.fresh (Nat.le_add_right _ _));have ap:ZipApart (s1.heap.objs.size+4) (s1.heap.objs.size+2) (s1.heap.objs.size+3) s1.heap.objs.size (s1.heap.objs.size+1) t1 t2:=by
   generalize s1.heap.objs.size=n at tl1 tl2;constructor<;>(simp only [Addr]at *; omega)
  refine⟨_,_,_,_,H1,rfl,I2,zmv _ _ _ _ _ t1 t2 ap,hst,fun c hc=>?_,q⟩;simp only [qv,List.not_mem_nil,or_false]at hc;rcases hc with rfl | rfl | rfl | rfl | rfl
  ·exact f 4
  ·exact f 2
  ·exact f 3
  ·exact f 0
  ·exact f 1
 ·obtain⟨t1,t2,e,⟨xs,hq1⟩,⟨ys,hq2⟩,q⟩:=q1
  subst e;obtain⟨u1,u2,rfl,ru1,ru2⟩:=zj6 r1;cases ru1;cases ru2;obtain⟨its1,rv1,ht1,hz1⟩:=I1.list hq1;obtain⟨its2,rv2,ht2,hz2⟩:=I1.list hq2;have tl1:t1 < s1.heap.objs.size:=by
   exact ht1.lt
  have tl2:t2 < s1.heap.objs.size:=by
   exact ht2.lt
  have lt_ne:∀ {x y:Nat},x < y->x≠y:=fun h=>qj h;refine call_zip_2 ht1.isList ht2.isList fun h' c1 c2 c3 c4 c5 _ kk=>?_;have hst:zuz (s1.heap.objs.size+4) (s1.heap.objs.size+2) (s1.heap.objs.size+3) s1.heap.objs.size (s1.heap.objs.size+1) t1 t2 0 h':=⟨c1,c2,⟨_,_,c3⟩,c4,c5⟩;have I2:Inv X pins σ H1 { s1 with heap:=h' }:=I1.kept (t':=s1.toks) kk;refine wpAny_pyIter_zip hst.1 ?_;have f:∀ j:Nat,zaq X pins H1 (s1.heap.objs.size+j):=fun j=>I1.fpOk (Nat.le_add_right _ _) (I1.hok.fresh (Nat.le_add_right _ _));have ap:ZipApart (s1.heap.objs.size+4) (s1.heap.objs.size+2) (s1.heap.objs.size+3) s1.heap.objs.size (s1.heap.objs.size+1) t1 t2:=by
   generalize s1.heap.objs.size=n at tl1 tl2;constructor<;>(simp only [Addr]at *; omega)
  refine⟨_,_,_,_,H1,rfl,I2,zgO _ _ _ _ _ t1 t2 ap,hst,fun c hc=>?_,q⟩;simp only [qv,List.not_mem_nil,or_false]at hc;rcases hc with rfl | rfl | rfl | rfl | rfl
  ·exact f 4
  ·exact f 2
  ·exact f 3
  ·exact f 0
  ·exact f 1
end
def lsN:U->Option (List D)
 | .l xs=>some xs
 | .d (.list xs)=>some xs
 | _=>none
def tpN:U->Option (List D)
 | .d (.tuple xs)=>some xs
 | _=>none
def sqN(u:U):Option (List D):=(lsN u).orElse fun _=>tpN u
def zpd(i j:Nat):MI:=fun ρ=>(ρ[i]?).join.bind fun u=>(ρ[j]?).join.bind fun w=>(sqN u).bind fun xs=>(lsN w).bind fun ys=>if xs.length=ys.length then some (zeZ xs ys,ρ)else none
section
variable {K:qc} {ρ:En} {σ:St} {H:Hp} {js:List Nat} {i j:Nat} {a:Addr}
theorem zpe{u:U}{xs:List D}(r:Rs K ρ σ H)(hi:i∉js)(e:ρ[i]?=some (some u))(h:lsN u=some xs):∃ a us,σ[i]?=some (some (.ref a))/\(∀ H2,Kp H H2->Fr' (zer ρ σ js) H H2->SqL K H2 a us)/\SqL K H a us/\DFs K H us xs:=by
 obtain⟨v,ev,p⟩:=r.rep i _ e;unfold lsN at h;split at h
 ·cases h
  obtain⟨a,us,rfl,h1,h2⟩:=p;exact⟨a,us,ev,fun H2 _ f=>SqL.of (f a _ h1 (zou r hi e rfl ev)),SqL.of h1,h2⟩
 ·cases h
  obtain⟨b,vy,rfl,h2,d2⟩:=DF.lst_inv p;exact⟨b,vy,ev,fun H2 k _=>(PL.kp k h2).sq,PL.sq h2,d2⟩
 ·cases h
theorem zrj(hi:i∉js:=by decide)(hj:j∉js:=by decide):VIA K js (zsC K (zcs (zbF i) (zcs (zbF j) zef))) (zpd i j):=by
 intro ρ σ H ds ρ' R r e q;obtain⟨u,eu,e⟩:=zd e;obtain⟨w,ew,e⟩:=zd e;obtain⟨xs,ex,e⟩:=zd e;obtain⟨ys,ey,e⟩:=zd e;split at e
 rotate_left
 ·cases e
 rename_i hl;cases e;have eu:=ziL eu;have ew:=ziL ew;obtain⟨b,vy,eb,kb,sb,db⟩:=zpe r hj ew ey;unfold sqN at ex;cases lu:lsN u with
 | some xs' =>
  rw [lu]at ex;cases ex;obtain⟨a,vx,ea,ka,sa,da⟩:=zpe r hi eu lu;refine⟨_,ea,_,eb,.inr ⟨a,b,rfl,⟨_,sa⟩,⟨_,sb⟩,q _ _ (Go.refl r) fun H2 kk f i=>⟨fun d ed=>?_,fun ei=>⟨vx,vy,ka _ kk f,kb _ kk f,by rw [zcW _ _ hl]at ei; rw [da.len]; exact ei.symm⟩⟩⟩⟩;obtain⟨x,y,ex,ey,rfl⟩:=zdX ed;obtain⟨v,ev,dv⟩:=(da.kp kk).get ex;obtain⟨w,ew,dw⟩:=(db.kp kk).get ey;refine⟨⟨vx,vy,v,w,ka _ kk f,kb _ kk f,ev,ew⟩,fun z H' y=>?_⟩;obtain⟨T,nT,rfl,y⟩:=y;cases y vx vy v w (ka _ kk f) (kb _ kk f) ev ew;have sm:=zC nT (.tup [v,w]);exact⟨sm,.tup (.inl zr) (.cons (dv.kp sm.kp) (.cons (dw.kp sm.kp) .nil))⟩
 | none =>
  rw [lu]at ex;replace ex:tpN u=some xs:=ex;unfold tpN at ex;split at ex
  rotate_left
  ·cases ex
  cases ex;obtain⟨v0,ea,p⟩:=r.rep i _ eu;obtain⟨a,vx,rfl,ha,da⟩:=DF.tup_inv p;refine⟨_,ea,_,eb,.inl ⟨a,b,rfl,⟨_,TpK.sq ha⟩,⟨_,sb⟩,q _ _ (Go.refl r) fun H2 kk f i=>⟨fun d ed=>?_,fun ei=>⟨vx,vy,(TpK.kp kk ha).sq,kb _ kk f,by rw [zcW _ _ hl]at ei; rw [da.len]; exact ei.symm⟩⟩⟩⟩;obtain⟨x,y,ex,ey,rfl⟩:=zdX ed;obtain⟨v,ev,dv⟩:=(da.kp kk).get ex;obtain⟨w,ew,dw⟩:=(db.kp kk).get ey;refine⟨⟨vx,vy,v,w,(TpK.kp kk ha).sq,kb _ kk f,ev,ew⟩,fun z H' y=>?_⟩;obtain⟨T,nT,rfl,y⟩:=y;cases y vx vy v w ((TpK.kp kk ha).sq) (kb _ kk f) ev ew;have sm:=zC nT (.tup [v,w]);exact⟨sm,.tup (.inl zr) (.cons (dv.kp sm.kp) (.cons (dw.kp sm.kp) .nil))⟩
end
theorem zmw(l:Addr)(items:Array Value)(n:Nat)(sl:Array (Option Value))(b:Addr)(items2:Array Value)(n2:Nat)(sl2:Array (Option Value))(hc0:items.size+items2.size<=sizeLine) :
  Meets (Builtin.«list.__add__» ⟨[.ref l,.ref b],[]⟩) (fun _ R s=>s.heap.get? l=some { cls:=.type "list",dict:=none,data:=.seq items n,slots:=sl }/\s.heap.get? b=some { cls:=.type "list",dict:=none,data:=.seq items2 n2,slots:=sl2 }/\R (.ok (.ret (.ref s.heap.objs.size))) { s with heap:=s.heap.push { cls:=.type "list",data:=.seq (items++items2) },toks:=s.toks }) :=
 .of_wp fun prog w A R s h=>by
  obtain⟨hp,g,d,tk,os⟩:=s;obtain⟨hl,hb,h⟩:=h;have f1:=PySem.AutoSeq1.idx_int;have f2:=PySem.AutoSeq1.sub_tuple_tuple;have f3:=PySem.AutoSeq1.sub_list_list;have f4:=PySem.AutoSeq1.sub_tuple_list;have f5:=PySem.AutoSeq1.sub_list_tuple
  wp_walk using PySem.AutoSeq1.wpAny_loadPart' hl,PySem.AutoSeq1.wpAny_loadPart' hb
  exact⟨_,rfl,h⟩
section
variable {X:Cx}
def zsD(K:qc):R2:=fun x y H Q=>∃ l b xs zs,x=.ref l/\y=.ref b/\SqL K H l xs/\SqL K H b zs/\xs.length+zs.length<=sizeLine/\∀ p,H p=none->Q (.ref p) (upd H p (.lst (xs++zs)))
theorem zhG{K:qc}(hK:X.K=K:=by rfl):OpR X (binaryOp .Add) (zsD K):=by
 subst hK;intro pins s σ H x y v u Q I rx ry h;obtain⟨l,b,xs,zs,rfl,rfl,hH,hB,hz,q⟩:=h;cases rx;cases ry;obtain⟨its,r,⟨o,n,e,c1,d1,t1⟩,_⟩:=I.list hH;obtain⟨its2,r2,⟨o2,n2,e2,c2,d2,t2⟩,_⟩:=I.list hB;obtain⟨cls,dd,data,sl⟩:=o;obtain⟨cls2,dd2,data2,sl2⟩:=o2;simp only at c1 d1 t1 c2 d2 t2;subst c1 d1 t1 c2 d2 t2;have l1:=r.length;have l2:=r2.length;have ea:its.toArray++its2.toArray=(its++its2).toArray:=by simp
 refine concat_meets ⟨_,e,rfl⟩ ⟨_,e2,rfl⟩ noFill_list_add seq_list_add F.slot_list_add F.entry_list_add (F.args_list_add_2 _ _) (zmw l its.toArray n sl b its2.toArray n2 sl2 (by rw [List.size_toArray,List.size_toArray]; omega)) ⟨e,e2,?_⟩;rw [ea];exact⟨.ref _,_,I.lnew (t':=s.toks) (r.append r2) (by rw [qt]; omega),rfl,q _ I.fresh⟩
end
def zgR(u w:U):Option U:=(lsN u).bind fun xs=>(lsN w).bind fun ys=>if xs.length+ys.length<=sizeLine then some (.l (xs++ys))else none
theorem zpf{K:qc}{H:Hp}{v:V}{u:U}{xs:List D}(p:Rp K H v u)(h:lsN u=some xs):∃ a us,v=.ref a/\SqL K H a us/\DFs K H us xs:=by
 unfold lsN at h;split at h
 ·cases h
  obtain⟨a,us,rfl,h1,h2⟩:=p;exact⟨a,us,rfl,SqL.of h1,h2⟩
 ·cases h
  obtain⟨b,vy,rfl,h2,d2⟩:=DF.lst_inv p;exact⟨b,vy,rfl,PL.sq h2,d2⟩
 ·cases h
theorem zhH{K:qc}:VO K (zsD K) zgR:=by
 intro x y a b u H Q ha hb e q;obtain⟨xs,ex,e⟩:=zd e;obtain⟨ys,ey,e⟩:=zd e;split at e
 ·rename_i hz
  cases e;obtain⟨p,us,rfl,h1,h2⟩:=zpf ha ex;obtain⟨p',us',rfl,h1',h2'⟩:=zpf hb ey;refine⟨p,p',us,us',rfl,rfl,h1,h1',by rw [h2.len,h2'.len]; exact hz,fun r hr=>?_⟩;have s:=zC hr (.lst (us++us'));exact q _ _ s ⟨r,_,rfl,zr,(h2.app h2').kp s.kp⟩ fun _=>⟨r,rfl,hr⟩
 ·cases e
section
variable {ρ:En} {mi me mk mv:ME} {i j:Nat} {QE:Ar×En->Prop} {QS:Fl->Prop} {QI:List D×En->Prop}
theorem zpg:Wo (zu0 i mi me ρ) QS=Wo (ρ[i]?).join (Co (fun _=>(mi ρ).bind fun p=>(p.1.get p.2).bind fun y=>y.da.bind fun y=>(ziP y).bind fun n=>(p.2[i]?).join.bind fun w=>w.lsu.bind fun xs=>if 0<=n then(atI xs n).bind fun x=>(ziP x).bind fun a =>
 (me p.2).bind fun q=>(q.1.get q.2).bind fun z=>z.da.bind fun z=>(ziP z).bind fun b=>(q.2[i]?).join.bind fun w=>w.lsu.bind fun ys=>(ixN ys.length n).bind fun j=>some (.nx (q.2.set i (some (.l (ys.set j (.int (a+b)))))))else none) ⟨0⟩ QS):=by
 show Wo (Option.bind _ _) QS=_;rw [zp]
theorem zph:Wo (zu1 i me ρ) QE=Wo (ρ[i]?).join (Co (fun w=>w.lsu.bind fun _=>(me ρ).bind fun p=>(p.1.get p.2).bind fun u=>u.lsu.bind fun zs=>(p.2[i]?).join.bind fun w=>w.lsu.bind fun xs=>if xs.length+zs.length<=sizeLine then some (.u (.d .none),p.2.set i (some (.l (xs++zs))))else none) ⟨0⟩ QE):=by
 show Wo (Option.bind _ _) QE=_;rw [zp]
theorem zpi{xs:List D}:U.lsu (.l xs)=some xs:=rfl
theorem zlt{n:Int}:ziP (.int n)=some n:=rfl
def kSD(kvs:List (List Key×D))(k:List Key)(x:D)(i:Nat)(ρ:En):Ar×En:=match zcI kvs k with
 | some v=>(.u (.d v),ρ)
 | none=>(.u (.d x),ρ.set i (some (.t (zcJ kvs k x))))
def sdU(w:U):Option (List (List Key×D)):=match w with
 | .t kvs=>some kvs
 | _=>none
theorem zpj{kvs:List (List Key×D)}:sdU (.t kvs)=some kvs:=rfl
theorem zlu:Wo (zlr i mk mv ρ) QE=Wo (ρ[i]?).join (Co (fun w0=>if ziE w0=true then(mk ρ).bind fun p=>(mv p.2).bind fun q=>(p.1.get q.2).bind fun y=>y.da.bind fun y=>(q.1.get q.2).bind fun x=>x.da.bind fun x=>(zaM y).bind fun k=>(q.2[i]?).join.bind fun w=>(sdU w).bind fun kvs=>if kvs.length < sizeLine then some (kSD kvs k x i q.2)else none else none) ⟨0⟩ QE):=by
 rw [<-zp];congr 1;unfold zlr;congr 1
 funext w0
 congr 1;congr 1
 funext p
 congr 1
 funext q
 congr 1
 funext y
 congr 1
 funext y
 congr 1
 funext x
 congr 1
 funext x
 congr 1
 funext k
 congr 1
 funext w
 cases w<;>rfl
theorem zlv:Wo (zpd i j ρ) QI=Wo (ρ[i]?).join (Co (fun u=>(ρ[j]?).join.bind fun w=>(sqN u).bind fun xs=>(lsN w).bind fun ys=>if xs.length=ys.length then some (zeZ xs ys,ρ)else none) ⟨0⟩ QI):=by
 show Wo (Option.bind _ _) QI=_;rw [zp]
theorem zlw{m1:MI}{nt:Nat}{js:List Nat}{mg:MG}{m2:MI}:Wo (zu5 m1 nt js mg m2 j mk mv ρ) QE=Wo (m1 ρ) (Co (fun p=>(ziT nt j mg m2 mk mv p.1 (cEn nt js p.2) []).bind fun q=>some (.u (.t q.1),back js (q.2.drop nt) p.2)) ⟨0⟩ QE):=by
 show Wo (Option.bind _ _) QE=_;rw [zp]
theorem zlx{kvs:List (List Key×D)}:zo8 (.t kvs)=some (.l (kvs.map fun p=>.tuple [kTD p.1,p.2])):=rfl
end
def nwO(rs ps:List D)(pl ml:List (List K3×D)):U:=.o "NewRows" [("rows",.l rs),("paper",.l ps),("places",.x pl),("mark_places",.x ml)]
section
variable {rs ps xs:List D} {pl ml kv:List (List K3×D)}
theorem zpk:U.o "NewRows" [("rows",.l rs),("paper",.l ps),("places",.x pl),("mark_places",.x ml)]=nwO rs ps pl ml:=rfl
theorem zpl:U.noF "NewRows" "add_new" (nwO rs ps pl ml)=true:=rfl
theorem zpm:U.noF "NewRows" "shared" (nwO rs ps pl ml)=true:=rfl
theorem zpn:U.noF "NewRows" "sum_row" (nwO rs ps pl ml)=true:=rfl
theorem zpo:U.fl "NewRows" "rows" (nwO rs ps pl ml)=some rs:=rfl
theorem zpp:U.fl "NewRows" "paper" (nwO rs ps pl ml)=some ps:=rfl
theorem zpq:U.fp "NewRows" "rows" (nwO rs ps pl ml)=some (.l rs):=rfl
theorem zpr:U.fp "NewRows" "places" (nwO rs ps pl ml)=some (.x pl):=rfl
theorem zps:U.setP "rows" (.l xs) (nwO rs ps pl ml)=nwO xs ps pl ml:=rfl
theorem zpt:U.setP "paper" (.l xs) (nwO rs ps pl ml)=nwO rs xs pl ml:=rfl
theorem zpu:U.setP "places" (.x kv) (nwO rs ps pl ml)=nwO rs ps kv ml:=rfl
theorem zpv:PU.ls (.l xs)=some xs:=rfl
theorem zpw:PU.xs (.x kv)=some kv:=rfl
end
end L2
namespace K58
open PySem L2
def top(i:Nat):Stmt:=PySem.Challenge.pw_undivide_k58_whole_two_are_not_enough.main.body.getD i (.Pass ⟨0,0,0,0⟩)
def zly(j:Nat):Stmt->Stmt
 | .ClassDef _ _ _ b _ _ _ _ _ _ _=>b.getD j default
 | s=>s
abbrev zbV:Stmt:=zly 1 (top 4)
abbrev zcg:Stmt:=zly 2 (top 4)
abbrev zbW:Stmt:=zly 5 (top 4)
abbrev zcu:Stmt:=top 10
abbrev zcZ:Stmt:=top 11
abbrev zcv:Stmt:=top 12
abbrev zlz:Stmt:=top 13
abbrev zdm:Stmt:=top 14
abbrev zeL:Stmt:=top 15
abbrev zgS:Stmt:=top 16
abbrev zbX:Stmt:=top 17
abbrev zf6:Stmt:=top 18
abbrev zf7:Stmt:=top 19
abbrev zeM:Stmt:=top 21
abbrev zd3:Stmt:=top 22
abbrev zbA:Stmt:=top 23
abbrev zeN:Stmt:=top 24
abbrev zdn:Stmt:=top 25
abbrev zbY:Stmt:=top 26
abbrev zcw:Stmt:=top 27
abbrev zc0:Stmt:=top 28
abbrev zc1:Stmt:=top 29
abbrev zd4:Stmt:=top 30
abbrev zc2:Stmt:=top 31
abbrev zeO:Stmt:=top 32
abbrev zsE:Stmt:=top 33
def zwQ:List (Str×List Str):=[]
abbrev xfl:List Str:=[]
abbrev zcp:Stmt:=zly 0 (top 4)
section
variable {P:Program} {w:World} {K:qc} {mg:Str->Option Value} {base:Heap} {f:Addr} {fd:FuncData}
end
section
def Bs(Z:Zs):Prop:=Bl Z.mg ["len", "tuple", "zip", "enumerate", "range", "list", "int", "sum"]/\XT Z.K zwQ xfl/\(∃ T,Z.mg "POWERS"=some (.int 5 T))/\(∃ G,Z.mg "NOUGHT"=some (.ref G)/\GTi Z.K G [0,1])/\(∃ G,Z.mg "ONE"=some (.ref G)/\GTi Z.K G [1,1])/\(∃ G,Z.mg "NUMBER"=some (.ref G)/\GTi Z.K G [1,0,0,0,0])/\(∃ G,Z.mg "LETTER"=some (.ref G)/\GTi Z.K G [0,1,0,0,0])/\(∃ G,Z.mg "SIGNS"=some (.ref G)/\GTi Z.K G [0,1,-1])/\OB Z.K "NewRows" ["rows", "paper", "places", "mark_places"]/\NCal Z.P Z.w Z.K Z.mg Z.base "NewRows" [("rows",.l []),("paper",.l []),("places",.x []),("mark_places",.x [])]
variable {Z:Zs}
noncomputable def zbZ:MS:=(zM (zct (zlj "NewRows" 0 "rows" (zk 1)))
  (zM (zct (zlj "NewRows" 0 "paper" (mC .none)))
  (zau (mOp zhj (zoR "NewRows" 0 "rows") (mC (.int 1))))))
noncomputable def zN:FD:=za2 2 [0,1] zbZ
abbrev zaE(Z:Zs):Prop:=Z.M "NewRows" "add_new" 1 ["self", "row"] 2 zN
theorem zd5(B:Bs Z)(A:MtK Z.K "NewRows" "add_new" "NewRows.add_new" zbV):zaE Z :=
 by obtain⟨hB,_,_,_,_,_,_,_,oB_NewRows,_⟩:=B; exact zuV A ["self", "row"] fun nd hr=>⟨_,(zA (zcT (zoK oB_NewRows.at zjN))
 (zA (zcT (zoK oB_NewRows.at (zxh fun _=>.non)))
 (zad (zy zdw (zuS oB_NewRows.at) zn)))),
 (w_s (zcQ (zsv PySem.F.plainAttrs_list PySem.F.slot_list_append PySem.F.type_list_append (zsu zcb) (zdH w_v) (w_a w_v zi)))
 (w_s (zcQ (zsv PySem.F.plainAttrs_list PySem.F.slot_list_append PySem.F.type_list_append (zsu zcb) (zdH w_v) (w_a zdl zi)))
 (zQ (z9 (zW zds (zhh (zlk zeF) PySem.boot_len (w_a (zdH w_v) zi)) zo)))))⟩
noncomputable def zcx:MS:=(zM (zae 1 (mOp zgs (zbi (zf (mC (.int 0)) zt)) (mC (.int 5))))
  (zM (zbq (mIt zhn (zk 0)) (zaD 2 (zH (zx 2) (zH (zx 3) zaV))) (zM (zbR (mOr (mB (mOp fGe (mOp zin (zk 2) (mC (.int 0))) (mC (.int 5)))) (mB (mOp (zcK true) (mOp zin (zk 3) (mC (.int 1))) (mC (.int 1))))) (zau (mC .none)) za0)
  (zcn 1 (mOp zin (zk 3) (mC (.int 0))) (mOp zin (zk 2) (mC (.int 0))))))
  (zau (mCB (f1 zen) (zf (zk 1) zt)))))
noncomputable def za7:FD:=za2 4 [0] zcx
abbrev zcy(Z:Zs):Prop:=Z.C "whole_numbers" 1 ["poly"] 1 za7
theorem ze1(B:Bs Z)(A:FnZ Z "whole_numbers" zcu):zcy Z :=
 by obtain⟨hB,_,⟨TPOWERS,g_POWERS⟩,_⟩:=B; exact zbS A ["poly", "told", "powers", "f"] fun nd hr=>⟨_,(zA (zR (zy zhB (zam (ze zn zm)) zn))
 (zA (zay (zep zj) (zaw (zB zw (zB zw zav))) (zA (zbs (zvI (zai (zy zrC (zy zfG zj zn) zn)) (zai (zy zht (zy zfG zj zn) zn))) (zad zdM) zaJ)
 (zdT (zy zfG zj zn) (zy zfG zj zn))))
 (zad (zem zdN (ze zj zm))))),
 (w_s (zY (zW zg9 (zaj (w_a zo zi)) (zb8 (v:=.int 5) rfl g_POWERS ⟨_,rfl⟩)))
 (w_s (zax (zek w_v) (zat (w_g zu (w_g zu zas))) (w_s (zcG (zvA (zvz (zaB zrx (zbb zij w_v zo) (zb8 (v:=.int 5) rfl g_POWERS ⟨_,rfl⟩)) (ztI (zaB zj4 (zbb zij w_v zo) zo)))) (zQ (z9 zdl)) zaI)
 (zQ (zik (zbb zij w_v zo) (zfA w_v (zbb zij w_v zo) zca)))))
 (zQ (z9 (zjm zcc PyProof.Rows.boot_tuple (w_a w_v zi))))))⟩
noncomputable def zc3:MS:=(zau (mCB (f1 zen) (zf (mLC (zus (zf (zk 0) (zf (zk 1) zt))) 2 [2] (zaD 2 (zH (zx 0) (zH (zx 1) zaV))) zgr (mOp zcd (zk 0) (mOp zce (zk 2) (zk 1)))) zt)))
noncomputable def zaN:FD:=za2 3 [0,1,2] zc3
abbrev zbN(Z:Zs):Prop:=Z.C "numbers_plus" 1 ["one", "other", "sign"] 3 zaN
theorem zf8(B:Bs Z)(A:FnZ Z "numbers_plus" zcZ):zbN Z :=
 have hB:=B.1; zbS A ["one", "other", "sign"] fun nd hr=>⟨_,(zad (zem zdN (ze (zfN (zut (ze zj (ze zj zm))) (zaw (zB zw (zB zw zav))) zdB (zy zaC zj (zy zaX zj zj))) zm))),
 (zQ (z9 (zjm zcc PyProof.Rows.boot_tuple (w_a (zii (zur (w_a w_v (w_a w_v zi))) (zat (w_g zu (w_g zu zas))) zdt (zW zaA w_v (zW zaW w_v w_v))) zi))))⟩
noncomputable def zcz:MS:=(zM (zae 2 (mOp zgs (zbi (zf (mC (.int 0)) zt)) (mC (.int 5))))
  (zM (zbq (ziq (zf (zk 0) zt)) (zaD 2 (zH (zx 3) (zH (zx 4) zaV))) (zbq (zcU (zf (mOp zhj (mC (.int 5)) (zk 3)) zt)) (zx 5) (zu0 2 (mOp zcd (zk 3) (zk 5)) (mOp zce (zk 4) (mOp zin (zk 1) (zk 5))))))
  (zau (mCB (f1 zen) (zf (zk 2) zt)))))
noncomputable def za8:FD:=za2 6 [0,1] zcz
abbrev zcA(Z:Zs):Prop:=Z.C "numbers_times" 1 ["one", "other"] 2 za8
theorem ze2(B:Bs Z)(A:FnZ Z "numbers_times" zcv):zcA Z :=
 by obtain⟨hB,_,⟨TPOWERS,g_POWERS⟩,_⟩:=B; exact zbS A ["one", "other", "told", "power", "many", "more"] fun nd hr=>⟨_,(zA (zR (zy zhB (zam (ze zn zm)) zn))
 (zA (zay (zkq (ze zj zm)) (zaw (zB zw (zB zw zav))) (zay (zbT (ze (zy zdw zn zj) zm)) zw (zwH (zy zaC zj zj) (zy zaX zj (zy zfG zj zj)))))
 (zad (zem zdN (ze zj zm))))),
 (w_s (zY (zW zg9 (zaj (w_a zo zi)) (zb8 (v:=.int 5) rfl g_POWERS ⟨_,rfl⟩)))
 (w_s (zax (zkg (w_a w_v zi)) (zat (w_g zu (w_g zu zas))) (zQ (zax (zbx (w_a (zW zds (zb8 (v:=.int 5) rfl g_POWERS ⟨_,rfl⟩) w_v) zi)) zu (zQ (zuZ w_v (zW zaA w_v w_v) (zW zaW w_v (zbb zij w_v w_v)))))))
 (zQ (z9 (zjm zcc PyProof.Rows.boot_tuple (w_a w_v zi))))))⟩
noncomputable def zeP:MS:=(zM (zae 2 (mOp zcd (mOp zce (mC (.int 7919)) (zk 1)) (mC (.int 11))))
  (zM (zbR (mB (mOp fLt (zk 1) (mCB (f1 zfH) (zf (zk 0) zt)))) (zae 2 (mOp zaS (zk 0) (zk 1))) (zbR (mB (mOp fGt (mCB (f1 zfH) (zf (zk 0) zt)) (mC (.int 0)))) (zae 2 (mOp zcd (zk 2) (mOp zce (mOp zfF (mOp zaS (zk 0) (mOp zfF (zk 1) (mCB (f1 zfH) (zf (zk 0) zt)))) (mC (.int 2147483629))) (mC (.int 69623))))) za0))
  (zM (zae 3 (mOp zcd (mOp zfF (mOp zcd (mOp zce (mOp zfF (zk 2) (mC (.int 2147483629))) (mC (.int 48271))) (mOp zce (mC (.int 40692)) (zk 1))) (mC (.int 2147483629))) (mC (.int 1))))
  (zau (zbi (zf (mOp zce (zk 2) (mCB (f1 zkm) (zf (mOp fGe (zk 2) (mOp zqu (mC (.int 10)) (mC (.int 18)))) zt))) (zf (zk 3) zt)))))))
noncomputable def zbB:FD:=za2 4 [0,1] zeP
abbrev zeQ(Z:Zs):Prop:=Z.C "_law_box" 1 ["_law_script", "_law_k"] 2 zbB
theorem ziU(B:Bs Z)(A:FnZ Z "_law_box" zeM):zeQ Z :=
 have hB:=B.1; zbS A ["_law_script", "_law_k", "_law_cell", "_law_seed"] fun nd hr=>⟨_,(zA (zR (zy zaC (zy zaX zn zj) zn))
 (zA (znt (zbs (zai (zy zvG zj (zem zdy (ze zj zm)))) (zR (zy zac zj zj)) (zbs (zai (zy zkl (zem zdy (ze zj zm)) zn)) (zR (zy zaC zj (zy zaX (zy zcR (zy zac zj (zy zcR zj (zem zdy (ze zj zm)))) zn) zn))) zaJ)))
 (zA (zR (zy zaC (zy zcR (zy zaC (zy zaX (zy zcR zj zn) zn) (zy zaX zn zj)) zn) zn))
 (zad (zam (ze (zy zaX zj (zem zqw (ze (zy zrC zj (zy ztM zn zn)) zm))) (ze zj zm))))))),
 (w_s (zY (zW zaA (zW zaW zo w_v) zo))
 (w_s (znj (zcG (zaB zvo w_v (zhh zeF PySem.boot_len (w_a w_v zi))) (zQ (zY (zbb zap w_v w_v))) (zQ (zcG (zaB zj5 (zhh zeF PySem.boot_len (w_a w_v zi)) zo) (zQ (zY (zW zaA w_v (zW zaW (zW zcM (zbb zap w_v (zW zcM w_v (zhh zeF PySem.boot_len (w_a w_v zi)))) zo) zo)))) zaI))))
 (w_s (zY (zW zaA (zW zcM (zW zaA (zW zaW (zW zcM w_v zo) zo) (zW zaW zo w_v)) zo) zo))
 (zQ (z9 (zaj (w_a (zW zaW w_v (zjm zlS PyProof.Rows.boot_int (w_a (zdL zrx w_v (zW ztn zo zo)) zi))) (w_a w_v zi))))))))⟩
noncomputable def zd6:MS:=(zM (zbR (mB (mOp fGt (mOp zaS (zk 0) (mC (.int 0))) (mC (.int 0)))) (zM (zae 2 (mOp zfF (mOp zaS (zk 0) (mC (.int 0))) (zk 1)))
  (zM (zcn 0 (mOp zil (mOp zaS (zk 0) (mC (.int 0))) (zk 1)) (mC (.int 0)))
  (zau (zk 2)))) za0)
  (zM (zae 3 (mOp zfF (mOp zce (mOp zaS (zk 0) (mC (.int 1))) (mC (.int 69623))) (mC (.int 2147483647))))
  (zM (zcn 0 (mOp zcd (mOp zfF (mOp zcd (mOp zce (zk 3) (mC (.int 48271))) (mC (.int 30103))) (mC (.int 2147483629))) (mC (.int 1))) (mC (.int 1)))
  (zau (mOp zfF (mOp zil (mOp zcd (mOp zce (zk 3) (mC (.int 2147483647))) (mOp zaS (zk 0) (mC (.int 1)))) (mC (.int 8191))) (zk 1))))))
noncomputable def zL:FD:=za2 4 [0,1] zd6
abbrev zbH(Z:Zs):Prop:=Z.C "_law_take" 1 ["_law_box_here", "_law_wide"] 2 zL
theorem zhI(B:Bs Z)(A:FnZ Z "_law_take" zd3):zbH Z :=
 have hB:=B.1; zbS A ["_law_box_here", "_law_wide", "_law_digit", "_law_one"] fun nd hr=>⟨_,(zA (zbs (zai (zy zkl (zy zac zj zn) zn)) (zA (zR (zy zcR (zy zac zj zn) zj))
 (zA (zdT (zy zkk (zy zac zj zn) zj) zn)
 (zad zj))) zaJ)
 (zA (zR (zy zcR (zy zaX (zy zac zj zn) zn) zn))
 (zA (zdT (zy zaC (zy zcR (zy zaC (zy zaX zj zn) zn) zn) zn) zn)
 (zad (zy zcR (zy zkk (zy zaC (zy zaX zj zn) (zy zac zj zn)) zn) zj))))),
 (w_s (zcG (zaB zj5 (zbb zap w_v zo) zo) (w_s (zY (zW zcM (zbb zap w_v zo) w_v))
 (w_s (zik (zW zih (zbb zap w_v zo) w_v) (zfA w_v zo zca))
 (zQ (z9 w_v)))) zaI)
 (w_s (zY (zW zcM (zW zaW (zbb zap w_v zo) zo) zo))
 (w_s (zik (zW zaA (zW zcM (zW zaA (zW zaW w_v zo) zo) zo) zo) (zfA w_v zo zca))
 (zQ (z9 (zW zcM (zW zih (zW zaA (zW zaW w_v zo) (zbb zap w_v zo)) zo) w_v))))))⟩
noncomputable def zbC:MS:=(zM (zae 2 (mOp zgs (zbi (zf (mC (.int 0)) zt)) (mC (.int 5))))
  (zM (zbq (zcU (zf (mC (.int 5)) zt)) (zx 3) (zbq (zcU (zf (mOp zhj (mC (.int 5)) (zk 3)) zt)) (zx 4) (zcn 2 (mOp zcd (mOp zaS (zk 2) (mOp zcd (zk 3) (zk 4))) (mOp zce (mOp zaS (zk 0) (zk 3)) (mOp zaS (zk 1) (zk 4)))) (mOp zcd (zk 3) (zk 4)))))
  (zdP [0,1] 2)))
noncomputable def zZ:FD:=za2 5 [0,1] zbC
abbrev zaO(Z:Zs):Prop:=Z.C "_law_list_product" 1 ["_law_one", "_law_other"] 2 zZ
theorem zc4(B:Bs Z)(A:FnZ Z "_law_list_product" zbA):zaO Z :=
 have hB:=B.1; zbS A ["_law_one", "_law_other", "_law_found", "_law_k", "_law_j"] fun nd hr=>⟨_,(zA (zR (zy zhB (zam (ze zn zm)) zn))
 (zA (zay (zbT (ze zn zm)) zw (zay (zbT (ze (zy zdw zn zj) zm)) zw (zdT (zy zaC (zy zac zj (zy zaC zj zj)) (zy zaX (zy zac zj zj) (zy zac zj zj))) (zy zaC zj zj))))
 zhm)),
 (w_s (zY (zW zg9 (zaj (w_a zo zi)) zo))
 (w_s (zax (zbx (w_a zo zi)) zu (zQ (zax (zbx (w_a (zW zds zo w_v) zi)) zu (zQ (zik (zW zaA (zbb zap w_v (zW zaA w_v w_v)) (zW zaW (zbb zap w_v w_v) (zbb zap w_v w_v))) (zfA w_v (zW zaA w_v w_v) zca))))))
 (zQ (z9 w_v))))⟩
noncomputable def zeR:MS:=(zau (mLC (zcU (zf (mC (.int 5)) zt)) 1 [1,0] (zx 0) zgr (mCB (f1 ztS) (zf (mLC (zpd 2 1) 2 [0] (zaD 2 (zH (zx 0) (zH (zx 1) zaV))) zgr (mOp zce (zk 0) (mOp zaS (zk 1) (zk 2)))) zt))))
noncomputable def zaP:FD:=za2 2 [0,1] zeR
abbrev zc5(Z:Zs):Prop:=Z.C "_law_mix" 1 ["_law_signs_here", "_law_things"] 2 zaP
theorem ziV(B:Bs Z)(A:FnZ Z "_law_mix" zeN):zc5 Z :=
 have hB:=B.1; zbS A ["_law_signs_here", "_law_things"] fun nd hr=>⟨_,(zad (zfN (zbT (ze zn zm)) zw zdB (zem ztT (ze (zrF zrj (zaw (zB zw (zB zw zav))) zdB (zy zaX zj (zy zac zj zj))) zm)))),
 (zQ (z9 (zii (zbx (w_a zo zi)) zu zdt (zhh (zvF _ rfl rfl) PyProof.Rows.boot_sum (w_a (zii (zri (w_a w_v (w_a w_v zi))) (zat (w_g zu (w_g zu zas))) zdt (zW zaW w_v (zbb zap w_v w_v))) zi)))))⟩
noncomputable def zcB:MS:=(zau (mCB (f1 zen) (zf (mLC (zf2 (zf (mFz (zk 0)) zt)) 2 [] (zaD 2 (zH (zx 0) (zH (zx 1) zaV))) (mB (mOp (zcK true) (zk 1) (mC (.int 0)))) (zag (zf (zag (zf (zk 0) zt)) (zf (zag (zf (zk 1) (zf (mC (.int 1)) zt))) zt)))) zt)))
noncomputable def za9:FD:=za2 1 [0] zcB
abbrev zcC(Z:Zs):Prop:=Z.C "_law_poly_of" 1 ["_law_numbers"] 1 za9
theorem ze3(B:Bs Z)(A:FnZ Z "_law_poly_of" zcw):zcC Z :=
 have hB:=B.1; zbS A ["_law_numbers"] fun nd hr=>⟨_,(zad (zem zdN (ze (zfN (zf3 (ze (zbe zj) zm)) (zaw (zB zw (zB zw zav))) (zai (zy zht zj zn)) (zT (ze (zT (ze zj zm)) (ze (zT (ze zj (ze zn zm))) zm)))) zm))),
 (zQ (z9 (zjm zcc PyProof.Rows.boot_tuple (w_a (zii (zf1 (w_a (zbd w_v) zi)) (zat (w_g zu (w_g zu zas))) (zfB (zaB zj4 w_v zo)) (zS (w_a (zS (w_a w_v zi)) (w_a (zS (w_a w_v (w_a zo zi))) zi)))) zi))))⟩
noncomputable def zc6:MS:=(zau (zfJ (mOp (fIn false) (mOp zaS (zk 0) (mC (.int 0))) (zag (zf (mUn zeY (mC (.int 1))) (zf (mC (.int 0)) (zf (mC (.int 1)) zt))))) (zfJ (mOp (fIn false) (mOp zaS (zk 0) (mC (.int 1))) (zag (zf (mUn zeY (mC (.int 1))) (zf (mC (.int 0)) (zf (mC (.int 1)) zt))))) (mOp (zim false) (mSl zhs (zk 0) (zfO (mC (.int 2))) zco) (mOp zgs (zbi (zf (mC (.int 0)) zt)) (mC (.int 3)))))))
noncomputable def zaQ:FD:=za2 1 [0] zc6
abbrev zbO(Z:Zs):Prop:=Z.C "_law_is_mix" 1 ["_law_left"] 1 zaQ
theorem zf9(B:Bs Z)(A:FnZ Z "_law_is_mix" zc0):zbO Z :=
 have hB:=B.1; zbS A ["_law_left"] fun nd hr=>⟨_,(zad (zhk (zy (zr6 false) (zy zac zj zn) (zT (ze (zhi zcm zn) (ze zn (ze zn zm))))) (zhk (zy (zr6 false) (zy zac zj zn) (zT (ze (zhi zcm zn) (ze zn (ze zn zm))))) (zy (znn false) (zqC zfi zj (zfh zn) zfg) (zy zhB (zam (ze zn zm)) zn))))),
 (zQ (z9 (zkd (zdL zvC (zbb zap w_v zo) (zS (w_a (zhf zci zo) (w_a zo (w_a zo zi)))) rfl) (zkd (zdL zvC (zbb zap w_v zo) (zS (w_a (zhf zci zo) (w_a zo (w_a zo zi)))) rfl) (zni (zdL (ztO _ rfl hr) (zfc zke w_v (zfb zo) zfa) (zW zg9 (zaj (w_a zo zi)) zo)))))))⟩
noncomputable def zch:MS:=(zM (zbR (mB (zuN true (zk 1) "NewRows" 0 "places")) (zoO "NewRows" 0 "places" (zk 1) (ze0 "NewRows" 0 "add_new" zN (zf (zk 1) zt))) za0)
  (zau (zoN "NewRows" 0 "places" (zk 1))))
noncomputable def zah:FD:=za2 2 [0,1] zch
abbrev zbv(Z:Zs):Prop:=Z.M "NewRows" "shared" 2 ["self", "row"] 2 zah
theorem zex(B:Bs Z)(A:MtK Z.K "NewRows" "shared" "NewRows.shared" zcg)(c0:zaE Z):zbv Z :=
 by obtain⟨hB,_,_,_,_,_,_,_,oB_NewRows,_⟩:=B; exact zuV A ["self", "row"] fun nd hr=>⟨_,(zA (znt (zbs (zfI (zoQ oB_NewRows.at zj)) (zuP oB_NewRows.at zjN (zeK 2 (ze zj zm))) zaJ))
 (zad (zuO oB_NewRows.at zjN))),
 (w_s (znj (zcG (zmk hr w_v (zdH w_v)) (zQ (zuK hr (zdH w_v) w_v (zcY c0 w_v (w_a w_v zi)))) zaI))
 (zQ (z9 (zuJ hr (zdH w_v) w_v))))⟩
noncomputable def zlA:MS:=(zM (zae 1 (zjI (mOp zkZ (zag (zf (mC (.int 0)) zt)) (mC (.int 5))) (zag zt)))
  (zM (zbq (mIt zdz (mFz (zk 0))) (zx 2) (zae 1 (zu5 (mIt zdF (mFz (zk 1))) 3 [2] (zaD 2 (zH (zx 0) (zH (zx 1) zaV))) (mIt zhn (mC (.tuple [.int 0,.int 1,.int (-1)]))) 2 (z8 zaN (zf (zk 0) (zf (zk 3) (zf (zk 2) zt)))) (mOp zet (zk 1) (zag (zf (zk 2) zt))))))
  (zdP [0] 1)))
noncomputable def zcq:FD:=za2 3 [0] zlA
abbrev zfl(Z:Zs):Prop:=Z.C "mixes" 2 ["things"] 1 zcq
theorem zrk(B:Bs Z)(A:FnZ Z "mixes" zlz)(c0:zbN Z):zfl Z :=
 by obtain⟨hB,_,⟨TPOWERS,g_POWERS⟩,_,_,_,_,⟨GSIGNS,g_SIGNS,gt_SIGNS⟩,_⟩:=B; exact zbS A ["things", "told", "thing"] fun nd hr=>⟨_,(zA (zR (zq4 (zy zq2 (zT (ze zn zm)) zn) (zT zm)))
 (zA (zay (za6 (zbe zj)) zw (zR (zwN (zdW (zbe zj)) (zaw (zB zw (zB zw zav))) (zep (zf4 gt_SIGNS)) (zF 3 (ze zj (ze zj (ze zj zm)))) (zy zfS zj (zT (ze zj zm))))))
 zhm)),
 (w_s (zY (zq3 hr (zW (zq1 _ rfl) (zS (w_a zo zi)) (zb8 (v:=.int 5) rfl g_POWERS ⟨_,rfl⟩)) (zS zi)))
 (w_s (zax (za5 (zbd w_v)) zu (zQ (zu4 hr (zfj (zbd w_v)) (zat (w_g zu (w_g zu zas))) (zek (zb8 (v:=.ref GSIGNS) rfl g_SIGNS rfl)) zu (zG (w_a w_v (w_a w_v (w_a w_v zi)))) (zW zfR w_v (zS (w_a w_v zi))))))
 (zQ (z9 w_v))))⟩
noncomputable def zdo:MS:=(zau (mLC (zcU (zf (zk 1) zt)) 1 [0] (zx 0) zgr (mOp zaS (zbi (zf (mC (.int 0)) (zf (mC (.int 1)) (zf (mC (.int 1)) (zf (mUn zeY (mC (.int 1))) zt))))) (z8 zL (zf (zk 1) (zf (mC (.int 4)) zt))))))
noncomputable def zaz:FD:=za2 2 [0,1] zdo
abbrev zdp(Z:Zs):Prop:=Z.C "_law_signs" 2 ["_law_box_here", "_law_many"] 2 zaz
theorem zgt(B:Bs Z)(A:FnZ Z "_law_signs" zdn)(c0:zbH Z):zdp Z :=
 have hB:=B.1; zbS A ["_law_box_here", "_law_many"] fun nd hr=>⟨_,(zad (zfN (zbT (ze zj zm)) zw zdB (zy zac (zam (ze zn (ze zn (ze zn (ze (zhi zcm zn) zm))))) (zF 2 (ze zj (ze zn zm)))))),
 (zQ (z9 (zii (zbx (w_a w_v zi)) zu zdt (zbb zap (zaj (w_a zo (w_a zo (w_a zo (w_a (zhf zci zo) zi))))) (zG (w_a w_v (w_a zo zi)))))))⟩
noncomputable def zc7:MS:=(zM (zae 1 (zbi zt))
  (zM (zae 2 (zbi (zf (zag zt) zt)))
  (zM (zbq (zcU (zf (mCB (f1 zfH) (zf (zk 0) zt)) zt)) (zx 3) (zM (zae 4 (zbi zt))
  (zM (zbq (mIt zdz (mFz (zk 2))) (zx 5) (zct (zu1 4 (mLC (mIt zhn (zag (zf (mUn zeY (mC (.int 1))) (zf (mC (.int 0)) (zf (mC (.int 1)) zt))))) 1 [5] (zx 0) zgr (mOp zet (zk 1) (zag (zf (zk 0) zt)))))))
  (zae 2 (mFz (zk 4))))))
  (zM (zbq (mIt zdz (mFz (zk 2))) (zx 5) (zM (zae 6 (mLC (mIt zhn (zor (zk 5) (mUn zeY (mC (.int 1))))) 1 [] (zx 0) (mB (mOp (zcK true) (zk 0) (mC (.int 0)))) (zk 0)))
  (zbR (zqx (mB (mOp (zim true) (zk 6) (zbi zt))) (mB (mOp (zcK false) (mOp zaS (zk 6) (mC (.int 0))) (mC (.int 1))))) (zct (zit 1 (mFz (z8 zaP (zf (zk 5) (zf (zk 0) zt)))))) za0)))
  (zdP [0] 1)))))
noncomputable def zaR:FD:=za2 7 [0] zc7
abbrev zc8(Z:Zs):Prop:=Z.C "_law_halves" 2 ["_law_things"] 1 zaR
theorem zga(B:Bs Z)(A:FnZ Z "_law_halves" zc1)(c0:zc5 Z):zc8 Z :=
 have hB:=B.1; zbS A ["_law_things", "_law_found", "_law_rows", "_law_k", "_law_longer", "_law_signs_here", "_law_some"] fun nd hr=>⟨_,(zA (zR (zam zm))
 (zA (zR (zam (ze (zT zm) zm)))
 (zA (zay (zbT (ze (zem zdy (ze zj zm)) zm)) zw (zA (zR (zam zm))
 (zA (zay (za6 (zbe zj)) zw (zcT (zwI (zfN (zep (zT (ze (zhi zcm zn) (ze zn (ze zn zm))))) zw zdB (zy zfS zj (zT (ze zj zm)))))))
 (zR (zbe zj)))))
 (zA (zay (za6 (zbe zj)) zw (zA (zR (zfN (zep (zuw zj (zhi zcm zn))) zw (zai (zy zht zj zn)) zj))
 (zbs (ztU (zai (zy (znn true) zj (zam zm))) (zai (zy zdC (zy zac zj zn) zn))) (zcT (znx (zbe (zF 2 (ze zj (ze zj zm)))))) zaJ)))
 zhm)))),
 (w_s (zY (zaj zi))
 (w_s (zY (zaj (w_a (zS zi) zi)))
 (w_s (zax (zbx (w_a (zhh zeF PySem.boot_len (w_a w_v zi)) zi)) zu (w_s (zY (zaj zi))
 (w_s (zax (za5 (zbd w_v)) zu (zQ (zcQ (zqr _ rfl PySem.F.plainAttrs_list PySem.F.slot_list_extend PySem.F.type_list_extend zlY w_v (w_a (zii (zek (zS (w_a (zhf zci zo) (w_a zo (w_a zo zi))))) zu zdt (zW zfR w_v (zS (w_a w_v zi)))) zi)))))
 (zQ (zY (zbd w_v))))))
 (w_s (zax (za5 (zbd w_v)) zu (w_s (zkf (zek (zuv w_v (zhf zci zo))) zu (zfB (zaB zj4 w_v zo)) w_v)
 (zQ (zcG (zvA (ztJ (zaB (ztP _ rfl hr) w_v (zaj zi)) (zqq (zaB zfr (zbb zap w_v zo) zo)))) (zQ (zcQ (zqr _ rfl PySem.F.plainAttrs_list PySem.F.slot_list_append PySem.F.type_list_append zcb w_v (w_a (zbd (zG (w_a w_v (w_a w_v zi)))) zi)))) zaI))))
 (zQ (z9 w_v))))))⟩
noncomputable def zd7:MS:=(zM (zbq (mIt zhn (zag (zf (mUn zeY (mC (.int 1))) (zf (mC (.int 1)) zt)))) (zx 3) (zbR (mB (mOp (zcK false) (mOp zhj (mOp zaS (zk 0) (mC (.int 4))) (mOp zce (zk 3) (mOp zaS (zk 2) (mC (.int 4))))) (mC (.int 0)))) (zM (zae 4 (mLC (zk6 (zf (mFz (zk 0)) (zf (mFz (zk 2)) zt))) 2 [3] (zaD 2 (zH (zx 0) (zH (zx 1) zaV))) zgr (mOp zhj (zk 0) (mOp zce (zk 2) (zk 1)))))
  (zbq (mIt zhn (zag (zf (mUn zeY (mC (.int 1))) (zf (mC (.int 0)) (zf (mC (.int 1)) zt))))) (zx 5) (zbR (mB (z8 zaQ (zf (mLC (zk6 (zf (mFz (zk 4)) (zf (mFz (zk 1)) zt))) 2 [5] (zaD 2 (zH (zx 0) (zH (zx 1) zaV))) zgr (mOp zhj (zk 0) (mOp zce (zk 2) (zk 1)))) zt))) (zau (mC (.bool true))) za0))) za0))
  (zau (mC (.bool false))))
noncomputable def zbI:FD:=za2 6 [0,1,2] zd7
abbrev zd8(Z:Zs):Prop:=Z.C "_law_fits" 2 ["_law_wanted", "_law_first", "_law_second"] 3 zbI
theorem zhJ(B:Bs Z)(A:FnZ Z "_law_fits" zd4)(c0:zbO Z):zd8 Z :=
 have hB:=B.1; zbS A ["_law_wanted", "_law_first", "_law_second", "_law_sign", "_law_left", "_law_more"] fun nd hr=>⟨_,(zA (zay (zep (zT (ze (zhi zcm zn) (ze zn zm)))) zw (zbs (zai (zy zdC (zy zdw (zy zac zj zn) (zy zaX zj (zy zac zj zn))) zn)) (zA (zR (zfN (zk7 (ze (zbe zj) (ze (zbe zj) zm))) (zaw (zB zw (zB zw zav))) zdB (zy zdw zj (zy zaX zj zj))))
 (zay (zep (zT (ze (zhi zcm zn) (ze zn (ze zn zm))))) zw (zbs (zfI (zF 1 (ze (zfN (zk7 (ze (zbe zj) (ze (zbe zj) zm))) (zaw (zB zw (zB zw zav))) zdB (zy zdw zj (zy zaX zj zj))) zm))) (zad zqt) zaJ))) zaJ))
 (zad zqt)),
 (w_s (zax (zek (zS (w_a (zhf zci zo) (w_a zo zi)))) zu (zQ (zcG (zaB zfr (zW zds (zbb zap w_v zo) (zW zaW w_v (zbb zap w_v zo))) zo) (w_s (zkf (zk4 (w_a (zbd w_v) (w_a (zbd w_v) zi))) (zat (w_g zu (w_g zu zas))) zdt (zW zds w_v (zW zaW w_v w_v)))
 (zQ (zax (zek (zS (w_a (zhf zci zo) (w_a zo (w_a zo zi))))) zu (zQ (zcG (zhg (zG (w_a (zii (zk4 (w_a (zbd w_v) (w_a (zbd w_v) zi))) (zat (w_g zu (w_g zu zas))) zdt (zW zds w_v (zW zaW w_v w_v))) zi))) (zQ (z9 zqp)) zaI))))) zaI)))
 (zQ (z9 zqp)))⟩
noncomputable def zeS:MS:=(zM (zae 1 (z8 zL (zf (zk 0) (zf (mC (.int 3)) zt))))
  (zM (zae 2 (zbi (zf (z8 zL (zf (zk 0) (zf (mC (.int 4)) zt))) (zf (mOp zaS (zbi (zf (mC (.int 5)) (zf (mC (.int 5)) (zf (mC (.int 5)) (zf (mC (.int 4)) zt))))) (z8 zL (zf (zk 0) (zf (mC (.int 4)) zt)))) zt))))
  (zM (zbR (mB (mOp (zcK false) (zk 1) (mC (.int 0)))) (zau (zag (zf (zag (zf (zag (zf (mOp zaS (zk 2) (mC (.int 0))) zt)) (zf (zag (zf (mOp zcd (mC (.int 1)) (z8 zL (zf (zk 0) (zf (mC (.int 3)) zt)))) (zf (mC (.int 1)) zt))) zt))) (zf (zag (zf (zag (zf (mOp zcd (mC (.int 5)) (z8 zL (zf (zk 0) (zf (mC (.int 9)) zt)))) zt)) (zf (zag (zf (mC (.int 1)) (zf (mC (.int 1)) zt))) zt))) zt)))) za0)
  (zM (zbR (mB (mOp (zcK false) (zk 1) (mC (.int 1)))) (zau (zag (zf (zag (zf (zag (zf (mOp zaS (zk 2) (mC (.int 0))) zt)) (zf (zag (zf (mOp zcd (mC (.int 1)) (mOp zce (mC (.int 2)) (z8 zL (zf (zk 0) (zf (mC (.int 5)) zt))))) (zf (mC (.int 2)) zt))) zt))) zt))) za0)
  (zau (zag (zf (zag (zf (zag (zf (mOp zaS (zk 2) (mC (.int 0))) zt)) (zf (zag (zf (mOp zcd (mC (.int 41)) (z8 zL (zf (zk 0) (zf (mC (.int 99)) zt)))) (zf (mC (.int 1)) zt))) zt))) (zf (zag (zf (zag (zf (mOp zaS (zk 2) (mC (.int 1))) zt)) (zf (zag (zf (mC (.int 1)) (zf (mC (.int 1)) zt))) zt))) zt))))))))
noncomputable def zbD:FD:=za2 3 [0] zeS
abbrev zeT(Z:Zs):Prop:=Z.C "_law_far" 2 ["_law_box_here"] 1 zbD
theorem ziW(B:Bs Z)(A:FnZ Z "_law_far" zeO)(c0:zbH Z):zeT Z :=
 have hB:=B.1; zbS A ["_law_box_here", "_law_form", "_law_powers"] fun nd hr=>⟨_,(zA (zR (zF 2 (ze zj (ze zn zm))))
 (zA (zR (zam (ze (zF 2 (ze zj (ze zn zm))) (ze (zy zac (zam (ze zn (ze zn (ze zn (ze zn zm))))) (zF 2 (ze zj (ze zn zm)))) zm))))
 (zA (zbs (zai (zy zdC zj zn)) (zad (zT (ze (zT (ze (zT (ze (zy zac zj zn) zm)) (ze (zT (ze (zy zaC zn (zF 2 (ze zj (ze zn zm)))) (ze zn zm))) zm))) (ze (zT (ze (zT (ze (zy zaC zn (zF 2 (ze zj (ze zn zm)))) zm)) (ze (zT (ze zn (ze zn zm))) zm))) zm)))) zaJ)
 (zA (zbs (zai (zy zdC zj zn)) (zad (zT (ze (zT (ze (zT (ze (zy zac zj zn) zm)) (ze (zT (ze (zy zaC zn (zy zaX zn (zF 2 (ze zj (ze zn zm))))) (ze zn zm))) zm))) zm))) zaJ)
 (zad (zT (ze (zT (ze (zT (ze (zy zac zj zn) zm)) (ze (zT (ze (zy zaC zn (zF 2 (ze zj (ze zn zm)))) (ze zn zm))) zm))) (ze (zT (ze (zT (ze (zy zac zj zn) zm)) (ze (zT (ze zn (ze zn zm))) zm))) zm)))))))),
 (w_s (zY (zG (w_a w_v (w_a zo zi))))
 (w_s (zY (zaj (w_a (zG (w_a w_v (w_a zo zi))) (w_a (zbb zap (zaj (w_a zo (w_a zo (w_a zo (w_a zo zi))))) (zG (w_a w_v (w_a zo zi)))) zi))))
 (w_s (zcG (zaB zfr w_v zo) (zQ (z9 (zS (w_a (zS (w_a (zS (w_a (zbb zap w_v zo) zi)) (w_a (zS (w_a (zW zaA zo (zG (w_a w_v (w_a zo zi)))) (w_a zo zi))) zi))) (w_a (zS (w_a (zS (w_a (zW zaA zo (zG (w_a w_v (w_a zo zi)))) zi)) (w_a (zS (w_a zo (w_a zo zi))) zi))) zi))))) zaI)
 (w_s (zcG (zaB zfr w_v zo) (zQ (z9 (zS (w_a (zS (w_a (zS (w_a (zbb zap w_v zo) zi)) (w_a (zS (w_a (zW zaA zo (zW zaW zo (zG (w_a w_v (w_a zo zi))))) (w_a zo zi))) zi))) zi)))) zaI)
 (zQ (z9 (zS (w_a (zS (w_a (zS (w_a (zbb zap w_v zo) zi)) (w_a (zS (w_a (zW zaA zo (zG (w_a w_v (w_a zo zi)))) (w_a zo zi))) zi))) (w_a (zS (w_a (zS (w_a (zbb zap w_v zo) zi)) (w_a (zS (w_a zo (w_a zo zi))) zi))) zi)))))))))⟩
noncomputable def zb0:MS:=(zM (zae 2 (mLC (mIt zdz (mFz (zk 1))) 2 [] (zaD 2 (zH (zx 0) (zH (zx 1) zaV))) (mB (zk 0)) (zk 1)))
  (zM (zae 3 (mLC (mIt zdz (mFz (zk 1))) 2 [] (zaD 2 (zH (zx 0) (zH (zx 1) zaV))) (zqy (mB (zk 0))) (zk 1)))
  (zM (zae 4 (mIf (zqz (zk 2)) (mOp zaS (zk 2) (mC (.int 0))) (ze0 "NewRows" 0 "shared" zah (zf (zag (zf (mC (.str "number")) (zf (mC (.tuple [.int 0,.int 1])) zt))) zt))))
  (zM (zbq (mIt zdz (mFz (mSl zhs (zk 2) (zfO (mC (.int 1))) zco))) (zx 5) (zae 4 (ze0 "NewRows" 0 "add_new" zN (zf (zag (zf (mC (.str "plus")) (zf (zk 4) (zf (zk 5) zt)))) zt))))
  (zM (zbq (mIt zdz (mFz (zk 3))) (zx 5) (zae 4 (ze0 "NewRows" 0 "add_new" zN (zf (zag (zf (mC (.str "less")) (zf (zk 4) (zf (zk 5) zt)))) zt))))
  (zau (zk 4)))))))
noncomputable def zaF:FD:=za2 6 [0,1] zb0
abbrev zb1(Z:Zs):Prop:=Z.M "NewRows" "sum_row" 3 ["self", "signed"] 2 zaF
theorem zd9(B:Bs Z)(A:MtK Z.K "NewRows" "sum_row" "NewRows.sum_row" zbW)(c0:zaE Z)(c1:zbv Z):zb1 Z :=
 by obtain⟨hB,_,_,⟨GNOUGHT,g_NOUGHT,gt_NOUGHT⟩,_⟩:=B; exact zuV A ["self", "signed", "added", "taken", "told", "row"] fun nd hr=>⟨_,(zA (zR (zfN (za6 (zbe zj)) (zaw (zB zw (zB zw zav))) (zfI zj) zj))
 (zA (zR (zfN (za6 (zbe zj)) (zaw (zB zw (zB zw zav))) (ztV (zfI zj)) zj))
 (zA (zR (zvJ (ztX zj) (zy zac zj zn) (zeK 2 (ze (zT (ze zfE (ze (zf4 gt_NOUGHT) zm))) zm))))
 (zA (zay (za6 (zbe (zqC zfi zj (zfh zn) zfg))) zw (zR (zeK 2 (ze (zT (ze zfE (ze zj (ze zj zm)))) zm))))
 (zA (zay (za6 (zbe zj)) zw (zR (zeK 2 (ze (zT (ze zfE (ze zj (ze zj zm)))) zm))))
 (zad zj)))))),
 (w_s (zkf (za5 (zbd w_v)) (zat (w_g zu (w_g zu zas))) (zfB (zhg w_v)) w_v)
 (w_s (zkf (za5 (zbd w_v)) (zat (w_g zu (w_g zu zas))) (zfB (ztK (zhg w_v))) w_v)
 (w_s (zY (zrA (zvD w_v) (zbb zap w_v zo) (zcY c1 w_v (w_a (zS (w_a zfz (w_a (zb8 (v:=.ref GNOUGHT) rfl g_NOUGHT rfl) zi))) zi))))
 (w_s (zax (za5 (zbd (zfc zke w_v (zfb zo) zfa))) zu (zQ (zY (zcY c0 w_v (w_a (zS (w_a zfz (w_a w_v (w_a w_v zi)))) zi)))))
 (w_s (zax (za5 (zbd w_v)) zu (zQ (zY (zcY c0 w_v (w_a (zS (w_a zfz (w_a w_v (w_a w_v zi)))) zi)))))
 (zQ (z9 w_v)))))))⟩
noncomputable def zdq:MS:=(zM (zae 1 (mUn zo8 (z8 zcq (zf (zk 0) zt))))
  (zM (zae 2 zhr)
  (zM (zbq (mIt zdz (mFz (zk 1))) (zaD 2 (zH (zx 3) (zH (zx 4) zaV))) (zbq (mIt zdz (mFz (zk 1))) (zaD 2 (zH (zx 5) (zH (zx 6) zaV))) (zct (zlr 2 (z8 za8 (zf (zk 3) (zf (zk 5) zt))) (zag (zf (zk 4) (zf (zk 6) zt)))))))
  (zdP [0] 2))))
noncomputable def za4:FD:=za2 7 [0] zdq
abbrev zb9(Z:Zs):Prop:=Z.C "products_of" 3 ["things"] 1 za4
theorem zgu(B:Bs Z)(A:FnZ Z "products_of" zdm)(c0:zcA Z)(c1:zfl Z):zb9 Z :=
 have hB:=B.1; zbS A ["things", "pairs", "told", "one", "signs", "other", "others"] fun nd hr=>⟨_,(zA (zR (zu2 (zF 1 (ze zj zm))))
 (zA (zR zqA)
 (zA (zay (za6 (zbe zj)) (zaw (zB zw (zB zw zav))) (zay (za6 (zbe zj)) (zaw (zB zw (zB zw zav))) (zcT (zuY (zF 2 (ze zj (ze zj zm))) (zT (ze zj (ze zj zm)))))))
 zhm))),
 (w_s (zY (zjm zmp PyProof.Rows.boot_list (w_a (zwK (zG (w_a w_v zi))) zi)))
 (w_s (zY zkh)
 (w_s (zax (za5 (zbd w_v)) (zat (w_g zu (w_g zu zas))) (zQ (zax (za5 (zbd w_v)) (zat (w_g zu (w_g zu zas))) (zQ (zcQ (zuX hr w_v (zG (w_a w_v (w_a w_v zi))) (zS (w_a w_v (w_a w_v zi)))))))))
 (zQ (z9 w_v)))))⟩
noncomputable def zeU:MS:=(zM (zbR (mB (mOp (zcK false) (zk 1) (mC (.int 0)))) (zau (ze0 "NewRows" 0 "shared" zah (zf (zag (zf (mC (.str "number")) (zf (mC (.tuple [.int 1,.int 1])) zt))) zt))) za0)
  (zau (mIf (mB (mOp (zcK false) (zk 1) (mC (.int 1)))) (ze0 "NewRows" 0 "shared" zah (zf (zag (zf (mC (.str "letter")) (zf (mC (.int 0)) zt))) zt)) (mOp zaS (zk 2) (mOp zhj (zk 1) (mC (.int 2)))))))
noncomputable def zb2:FD:=za2 3 [0,1,2] zeU
abbrev zeV(Z:Zs):Prop:=Z.C "thing_row" 3 ["made", "at", "rows"] 3 zb2
theorem ziX(B:Bs Z)(A:FnZ Z "thing_row" zeL)(c0:zbv Z):zeV Z :=
 by obtain⟨hB,_,_,_,⟨GONE,g_ONE,gt_ONE⟩,_⟩:=B; exact zbS A ["made", "at", "rows"] fun nd hr=>⟨_,(zA (zbs (zai (zy zdC zj zn)) (zad (zeK 2 (ze (zT (ze zfE (ze (zf4 gt_ONE) zm))) zm))) zaJ)
 (zad (zvJ (zai (zy zdC zj zn)) (zeK 2 (ze (zT (ze zfE (ze zn zm))) zm)) (zy zac zj (zy zdw zj zn))))),
 (w_s (zcG (zaB zfr w_v zo) (zQ (z9 (zcY c0 w_v (w_a (zS (w_a zfz (w_a (zb8 (v:=.ref GONE) rfl g_ONE rfl) zi))) zi)))) zaI)
 (zQ (z9 (zrA (zaB zfr w_v zo) (zcY c0 w_v (w_a (zS (w_a zfz (w_a zo zi))) zi)) (zbb zap w_v (zW zds w_v zo))))))⟩
noncomputable def zb3:MS:=(zM (zae 2 (zbi (zf (mFz (zbi (zf (mC (.int 1)) (zf (mC (.int 0)) (zf (mC (.int 0)) (zf (mC (.int 0)) (zf (mC (.int 0)) zt))))))) (zf (mFz (zbi (zf (mC (.int 0)) (zf (mC (.int 1)) (zf (mC (.int 0)) (zf (mC (.int 0)) (zf (mC (.int 0)) zt))))))) zt))))
  (zM (zbq (zcU (zf (zk 1) zt)) (zx 3) (zM (zae 4 (z8 zaP (zf (z8 zaz (zf (zk 0) (zf (mCB (f1 zfH) (zf (zk 2) zt)) zt))) (zf (zk 2) zt))))
  (zct (zit 2 (mFz (z8 zZ (zf (zk 4) (zf (z8 zaP (zf (z8 zaz (zf (zk 0) (zf (mCB (f1 zfH) (zf (zk 2) zt)) zt))) (zf (zk 2) zt))) zt))))))))
  (zau (z8 zaP (zf (z8 zaz (zf (zk 0) (zf (mCB (f1 zfH) (zf (zk 2) zt)) zt))) (zf (zk 2) zt))))))
noncomputable def zaG:FD:=za2 5 [0,1] zb3
abbrev zb4(Z:Zs):Prop:=Z.C "_law_small_one" 3 ["_law_box_here", "_law_many"] 2 zaG
theorem zea(B:Bs Z)(A:FnZ Z "_law_small_one" zbY)(c0:zaO Z)(c1:zc5 Z)(c2:zdp Z):zb4 Z :=
 have hB:=B.1; zbS A ["_law_box_here", "_law_many", "_law_things", "_law_k", "_law_one"] fun nd hr=>⟨_,(zA (zR (zam (ze (zbe (zam (ze zn (ze zn (ze zn (ze zn (ze zn zm))))))) (ze (zbe (zam (ze zn (ze zn (ze zn (ze zn (ze zn zm))))))) zm))))
 (zA (zay (zbT (ze zj zm)) zw (zA (zR (zF 2 (ze (zF 2 (ze zj (ze (zem zdy (ze zj zm)) zm))) (ze zj zm))))
 (zcT (znx (zbe (zF 2 (ze zj (ze (zF 2 (ze (zF 2 (ze zj (ze (zem zdy (ze zj zm)) zm))) (ze zj zm))) zm))))))))
 (zad (zF 2 (ze (zF 2 (ze zj (ze (zem zdy (ze zj zm)) zm))) (ze zj zm)))))),
 (w_s (zY (zaj (w_a (zbd (zaj (w_a zo (w_a zo (w_a zo (w_a zo (w_a zo zi))))))) (w_a (zbd (zaj (w_a zo (w_a zo (w_a zo (w_a zo (w_a zo zi))))))) zi))))
 (w_s (zax (zbx (w_a w_v zi)) zu (w_s (zY (zG (w_a (zG (w_a w_v (w_a (zhh zeF PySem.boot_len (w_a w_v zi)) zi))) (w_a w_v zi))))
 (zQ (zcQ (zqr _ rfl PySem.F.plainAttrs_list PySem.F.slot_list_append PySem.F.type_list_append zcb w_v (w_a (zbd (zG (w_a w_v (w_a (zG (w_a (zG (w_a w_v (w_a (zhh zeF PySem.boot_len (w_a w_v zi)) zi))) (w_a w_v zi))) zi)))) zi))))))
 (zQ (z9 (zG (w_a (zG (w_a w_v (w_a (zhh zeF PySem.boot_len (w_a w_v zi)) zi))) (w_a w_v zi)))))))⟩
noncomputable def zc9:MS:=(zM (zae 1 (zbi (zf (mFz (zbi (zf (mC (.int 1)) (zf (mC (.int 0)) (zf (mC (.int 0)) (zf (mC (.int 0)) (zf (mC (.int 0)) zt))))))) (zf (mFz (zbi (zf (mC (.int 0)) (zf (mC (.int 1)) (zf (mC (.int 0)) (zf (mC (.int 0)) (zf (mC (.int 0)) zt))))))) zt))))
  (zM (zae 2 (z8 zaR (zf (zk 1) zt)))
  (zM (zbq (zf2 (zf (mFz (zk 2)) zt)) (zaD 2 (zH (zx 3) (zH (zx 4) zaV))) (zbq (mIt zdz (mFz (mSl zhs (zk 2) (zfO (zk 3)) zco))) (zx 5) (zM (zae 6 (z8 zZ (zf (zk 4) (zf (zk 5) zt))))
  (zM (zae 7 (z8 zaR (zf (mOp zgR (zk 1) (zbi (zf (mFz (zk 6)) zt))) zt)))
  (zbq (zf2 (zf (mFz (zk 7)) zt)) (zaD 2 (zH (zx 8) (zH (zx 9) zaV))) (zbq (mIt zdz (mFz (mSl zhs (zk 7) (zfO (zk 8)) zco))) (zx 10) (zbR (mB (z8 zbI (zf (zk 0) (zf (zk 6) (zf (z8 zZ (zf (zk 9) (zf (zk 10) zt))) zt))))) (zau (mC (.bool true))) za0)))))))
  (zau (mC (.bool false))))))
noncomputable def zbn:FD:=za2 11 [0] zc9
abbrev zda(Z:Zs):Prop:=Z.C "_law_by_two" 3 ["_law_wanted"] 1 zbn
theorem zgb(B:Bs Z)(A:FnZ Z "_law_by_two" zc2)(c0:zaO Z)(c1:zc8 Z)(c2:zd8 Z):zda Z :=
 have hB:=B.1; zbS A ["_law_wanted", "_law_things", "_law_some", "_law_k", "_law_one", "_law_other", "_law_first", "_law_more", "_law_j", "_law_mine", "_law_yours"] fun nd hr=>⟨_,(zA (zR (zam (ze (zbe (zam (ze zn (ze zn (ze zn (ze zn (ze zn zm))))))) (ze (zbe (zam (ze zn (ze zn (ze zn (ze zn (ze zn zm))))))) zm))))
 (zA (zR (zF 1 (ze zj zm)))
 (zA (zay (zf3 (ze (zbe zj) zm)) (zaw (zB zw (zB zw zav))) (zay (za6 (zbe (zqC zfi zj (zfh zj) zfg))) zw (zA (zR (zF 2 (ze zj (ze zj zm))))
 (zA (zR (zF 1 (ze (zy zhH zj (zam (ze (zbe zj) zm))) zm)))
 (zay (zf3 (ze (zbe zj) zm)) (zaw (zB zw (zB zw zav))) (zay (za6 (zbe (zqC zfi zj (zfh zj) zfg))) zw (zbs (zfI (zF 3 (ze zj (ze zj (ze (zF 2 (ze zj (ze zj zm))) zm))))) (zad zqt) zaJ)))))))
 (zad zqt)))),
 (w_s (zY (zaj (w_a (zbd (zaj (w_a zo (w_a zo (w_a zo (w_a zo (w_a zo zi))))))) (w_a (zbd (zaj (w_a zo (w_a zo (w_a zo (w_a zo (w_a zo zi))))))) zi))))
 (w_s (zY (zG (w_a w_v zi)))
 (w_s (zax (zf1 (w_a (zbd w_v) zi)) (zat (w_g zu (w_g zu zas))) (zQ (zax (za5 (zbd (zfc zke w_v (zfb w_v) zfa))) zu (w_s (zY (zG (w_a w_v (w_a w_v zi))))
 (w_s (zY (zG (w_a (zW zhG w_v (zaj (w_a (zbd w_v) zi))) zi)))
 (zQ (zax (zf1 (w_a (zbd w_v) zi)) (zat (w_g zu (w_g zu zas))) (zQ (zax (za5 (zbd (zfc zke w_v (zfb w_v) zfa))) zu (zQ (zcG (zhg (zG (w_a w_v (w_a w_v (w_a (zG (w_a w_v (w_a w_v zi))) zi))))) (zQ (z9 zqp)) zaI)))))))))))
 (zQ (z9 zqp)))))⟩
noncomputable def zgT:MS:=(zau (ze0 "NewRows" 0 "sum_row" zaF (zf (mLC (ziq (zf (zk 1) zt)) 2 [2,0] (zaD 2 (zH (zx 0) (zH (zx 1) zaV))) (mB (mOp (zcK true) (zk 1) (mC (.int 0)))) (zag (zf (mOp fGt (zk 1) (mC (.int 0))) (zf (z8 zb2 (zf (zk 3) (zf (zk 0) (zf (zk 2) zt)))) zt)))) zt)))
noncomputable def zbJ:FD:=za2 3 [0,1,2] zgT
abbrev zgU(Z:Zs):Prop:=Z.C "mix_row" 4 ["made", "signs", "rows"] 3 zbJ
theorem zmx(B:Bs Z)(A:FnZ Z "mix_row" zgS)(c0:zeV Z)(c1:zb1 Z):zgU Z :=
 have hB:=B.1; zbS A ["made", "signs", "rows"] fun nd hr=>⟨_,(zad (zeK 2 (ze (zfN (zkq (ze zj zm)) (zaw (zB zw (zB zw zav))) (zai (zy zht zj zn)) (zT (ze (zy zkl zj zn) (ze (zF 3 (ze zj (ze zj (ze zj zm)))) zm)))) zm))),
 (zQ (z9 (zcY c1 w_v (w_a (zii (zkg (w_a w_v zi)) (zat (w_g zu (w_g zu zas))) (zfB (zaB zj4 w_v zo)) (zS (w_a (zdL zj5 w_v zo) (w_a (zG (w_a w_v (w_a w_v (w_a w_v zi)))) zi)))) zi))))⟩
noncomputable def zb5:MS:=(zM (zae 2 (zuT "NewRows" [("rows",.l []),("paper",.l []),("places",.x []),("mark_places",.x [])]))
  (zM (zae 3 (zbi zt))
  (zM (zbq (mIt zdz (mFz (zk 0))) (zaD 2 (zH (zx 4) (zH (zx 5) zaV))) (zM (zae 6 (z8 zbJ (zf (zk 2) (zf (zk 4) (zf (zk 3) zt)))))
  (zct (zit 3 (ze0 "NewRows" 2 "add_new" zN (zf (zag (zf (mC (.str "times")) (zf (zk 6) (zf (z8 zbJ (zf (zk 2) (zf (zk 5) (zf (zk 3) zt)))) zt)))) zt))))))
  (zM (zct (z8 zbJ (zf (zk 2) (zf (zk 1) (zf (zk 3) zt)))))
  (zau (zag (zf (zag (zf (mC (.str "x")) zt)) (zf (zoX "NewRows" 2 "rows") zt))))))))
noncomputable def zaf:FD:=za2 7 [0,1] zb5
abbrev zbo(Z:Zs):Prop:=Z.C "small_reckoning" 5 ["factors", "signs"] 2 zaf
theorem zeb(B:Bs Z)(A:FnZ Z "small_reckoning" zbX)(c0:zgU Z)(c1:zaE Z):zbo Z :=
 by obtain⟨hB,_,_,_,_,_,_,_,oB_NewRows,nC_NewRows⟩:=B; exact zbS A ["factors", "signs", "made", "rows", "one", "other", "first"] fun nd hr=>⟨_,(zA (zR (zwG (fun z=>nomatch z) (by decide)))
 (zA (zR (zam zm))
 (zA (zay (za6 (zbe zj)) (zaw (zB zw (zB zw zav))) (zA (zR (zF 3 (ze zj (ze zj (ze zj zm)))))
 (zcT (znx (zeK 2 (ze (zT (ze zfE (ze zj (ze (zF 3 (ze zj (ze zj (ze zj zm)))) zm)))) zm))))))
 (zA (zcT (zF 3 (ze zj (ze zj (ze zj zm)))))
 (zad (zT (ze (zT (ze zfE zm)) (ze (zuU oB_NewRows.at) zm)))))))),
 (w_s (zY (zwF nC_NewRows))
 (w_s (zY (zaj zi))
 (w_s (zax (za5 (zbd w_v)) (zat (w_g zu (w_g zu zas))) (w_s (zY (zG (w_a w_v (w_a w_v (w_a w_v zi)))))
 (zQ (zcQ (zqr _ rfl PySem.F.plainAttrs_list PySem.F.slot_list_append PySem.F.type_list_append zcb w_v (w_a (zcY c1 w_v (w_a (zS (w_a zfz (w_a w_v (w_a (zG (w_a w_v (w_a w_v (w_a w_v zi)))) zi)))) zi)) zi))))))
 (w_s (zcQ (zG (w_a w_v (w_a w_v (w_a w_v zi)))))
 (zQ (z9 (zS (w_a (zS (w_a zfz zi)) (w_a (zjm (zlk zcc) PyProof.Rows.boot_tuple (w_a (zdH w_v) zi)) zi)))))))))⟩
noncomputable def zgc:MS:=(zM (zae 3 (z8 za4 (zf (zk 1) zt)))
  (zM (zbq (mIt zdF (mFz (z8 zcq (zf (zk 1) zt)))) (zaD 2 (zH (zx 4) (zH (zx 5) zaV))) (zM (zae 6 (z8 zaN (zf (zk 0) (zf (zk 4) (zf (mUn zeY (mC (.int 1))) zt)))))
  (zbR (mB (zl9 false (zk 6) (zk 3))) (zau (z8 zaf (zf (zbi (zf (zk 2) (zf (zgE (zk 3) (zk 6)) zt))) (zf (mOp zet (zk 5) (zag (zf (mC (.int 1)) zt))) zt)))) za0)))
  (zau (mC .none))))
noncomputable def zcr:FD:=za2 7 [0,1,2] zgc
abbrev zgd(Z:Zs):Prop:=Z.C "with_two" 6 ["target", "things", "factors"] 3 zcr
theorem zjT(B:Bs Z)(A:FnZ Z "with_two" zf6)(c0:zbN Z)(c1:zfl Z)(c2:zb9 Z)(c3:zbo Z):zgd Z :=
 have hB:=B.1; zbS A ["target", "things", "factors", "seconds", "rest", "signs", "left"] fun nd hr=>⟨_,(zA (zR (zF 1 (ze zj zm)))
 (zA (zay (zdW (zbe (zF 1 (ze zj zm)))) (zaw (zB zw (zB zw zav))) (zA (zR (zF 3 (ze zj (ze zj (ze (zhi zcm zn) zm)))))
 (zbs (zfI (znz zj zj)) (zad (zF 2 (ze (zam (ze zj (ze (zjw zj zj) zm))) (ze (zy zfS zj (zT (ze zn zm))) zm)))) zaJ)))
 (zad zdM))),
 (w_s (zY (zG (w_a w_v zi)))
 (w_s (zax (zfj (zbd (zG (w_a w_v zi)))) (zat (w_g zu (w_g zu zas))) (w_s (zY (zG (w_a w_v (w_a w_v (w_a (zhf zci zo) zi)))))
 (zQ (zcG (zjq hr w_v w_v) (zQ (z9 (zG (w_a (zaj (w_a w_v (w_a (zjp hr w_v w_v) zi))) (w_a (zW zfR w_v (zS (w_a zo zi))) zi))))) zaI))))
 (zQ (z9 zdl))))⟩
noncomputable def zge:MS:=(zM (zae 1 (z8 za7 (zf (zk 0) zt)))
  (zM (zbR (mB (mOp (zdD false) (zk 1) (mC .none))) (zau (mC .none)) za0)
  (zM (zae 2 (zbi (zf (mC (.tuple [.int 1,.int 0,.int 0,.int 0,.int 0])) (zf (mC (.tuple [.int 0,.int 1,.int 0,.int 0,.int 0])) zt))))
  (zM (zae 3 (z8 zcq (zf (zk 2) zt)))
  (zM (zbR (mB (zl9 false (zk 1) (zk 3))) (zau (zag (zf (mC (.int 0)) (zf (z8 zaf (zf (zbi zt) (zf (zgE (zk 3) (zk 1)) zt))) zt)))) za0)
  (zM (zae 4 (z8 za4 (zf (zk 2) zt)))
  (zM (zbq (mIt zdF (mFz (zk 4))) (zaD 2 (zH (zx 5) (zH (zx 6) zaV))) (zM (zae 3 (z8 zcq (zf (mOp zgR (zk 2) (zbi (zf (zk 5) zt))) zt)))
  (zbR (mB (zl9 false (zk 1) (zk 3))) (zau (zag (zf (mC (.int 1)) (zf (z8 zaf (zf (zbi (zf (zk 6) zt)) (zf (zgE (zk 3) (zk 1)) zt))) zt)))) za0)))
  (zM (zbq (mIt zdF (mFz (zk 4))) (zaD 2 (zH (zx 5) (zH (zx 6) zaV))) (zM (zae 7 (z8 zcr (zf (zk 1) (zf (mOp zgR (zk 2) (zbi (zf (zk 5) zt))) (zf (zk 6) zt)))))
  (zbR (mB (mOp (zdD true) (zk 7) (mC .none))) (zau (zag (zf (mC (.int 2)) (zf (zk 7) zt)))) za0)))
  (zau (mC .none))))))))))
noncomputable def zbf:FD:=za2 8 [0] zge
abbrev zgf(Z:Zs):Prop:=Z.C "cheapest" 7 ["poly"] 1 zbf
theorem zjU(B:Bs Z)(A:FnZ Z "cheapest" zf7)(c0:zcy Z)(c1:zfl Z)(c2:zb9 Z)(c3:zbo Z)(c4:zgd Z):zgf Z :=
 by obtain⟨hB,_,_,_,_,⟨GNUMBER,g_NUMBER,gt_NUMBER⟩,⟨GLETTER,g_LETTER,gt_LETTER⟩,_⟩:=B; exact zbS A ["poly", "target", "things", "known", "firsts", "first", "factors", "told"] fun nd hr=>⟨_,(zA (zR (zF 1 (ze zj zm)))
 (zA (zbs (zai (zy zhu zj zdM)) (zad zdM) zaJ)
 (zA (zR (zam (ze (zf4 gt_NUMBER) (ze (zf4 gt_LETTER) zm))))
 (zA (zR (zF 1 (ze zj zm)))
 (zA (zbs (zfI (znz zj zj)) (zad (zT (ze zn (ze (zF 2 (ze (zam zm) (ze (zjw zj zj) zm))) zm)))) zaJ)
 (zA (zR (zF 1 (ze zj zm)))
 (zA (zay (zdW (zbe zj)) (zaw (zB zw (zB zw zav))) (zA (zR (zF 1 (ze (zy zhH zj (zam (ze zj zm))) zm)))
 (zbs (zfI (znz zj zj)) (zad (zT (ze zn (ze (zF 2 (ze (zam (ze zj zm)) (ze (zjw zj zj) zm))) zm)))) zaJ)))
 (zA (zay (zdW (zbe zj)) (zaw (zB zw (zB zw zav))) (zA (zR (zF 3 (ze zj (ze (zy zhH zj (zam (ze zj zm))) (ze zj zm)))))
 (zbs (zai (zy zqF zj zdM)) (zad (zT (ze zn (ze zj zm)))) zaJ)))
 (zad zdM))))))))),
 (w_s (zY (zG (w_a w_v zi)))
 (w_s (zcG (zaB zg0 w_v zdl) (zQ (z9 zdl)) zaI)
 (w_s (zY (zaj (w_a (zb8 (v:=.ref GNUMBER) rfl g_NUMBER rfl) (w_a (zb8 (v:=.ref GLETTER) rfl g_LETTER rfl) zi))))
 (w_s (zY (zG (w_a w_v zi)))
 (w_s (zcG (zjq hr w_v w_v) (zQ (z9 (zS (w_a zo (w_a (zG (w_a (zaj zi) (w_a (zjp hr w_v w_v) zi))) zi))))) zaI)
 (w_s (zY (zG (w_a w_v zi)))
 (w_s (zax (zfj (zbd w_v)) (zat (w_g zu (w_g zu zas))) (w_s (zY (zG (w_a (zW zhG w_v (zaj (w_a w_v zi))) zi)))
 (zQ (zcG (zjq hr w_v w_v) (zQ (z9 (zS (w_a zo (w_a (zG (w_a (zaj (w_a w_v zi)) (w_a (zjp hr w_v w_v) zi))) zi))))) zaI))))
 (w_s (zax (zfj (zbd w_v)) (zat (w_g zu (w_g zu zas))) (w_s (zY (zG (w_a w_v (w_a (zW zhG w_v (zaj (w_a w_v zi))) (w_a w_v zi)))))
 (zQ (zcG (zaB zp6 w_v zdl) (zQ (z9 (zS (w_a zo (w_a w_v zi))))) zaI))))
 (zQ (z9 zdl))))))))))⟩
noncomputable def zsF:MS:=(zM (zae 1 (z8 zbB (zf (zk 0) (zf (mC (.int 0)) zt))))
  (zM (zbR (mB (mOp fGt (z8 zL (zf (zk 1) (zf (mC (.int 4)) zt))) (mC (.int 0)))) (zau (zfJ (mOp (zdD false) (z8 zbf (zf (z8 zbD (zf (zk 1) zt)) zt)) (mC .none)) (mOp (zdD false) (z8 zbf (zf (z8 zbD (zf (z8 zbB (zf (zk 0) (zf (mC (.int 1)) zt))) zt)) zt)) (mC .none)))) za0)
  (zM (zae 2 (z8 zaG (zf (zk 1) (zf (mC (.int 2)) zt))))
  (zM (zbq (zcU (zf (mOp zcd (mC (.int 1)) (z8 zL (zf (zk 1) (zf (mC (.int 2)) zt)))) zt)) (zx 3) (zM (zae 4 (z8 zL (zf (zk 1) (zf (mC (.int 5)) zt))))
  (zcn 2 (mOp zcd (mOp zaS (zk 2) (zk 4)) (mOp zaS (zbi (zf (mC (.int 1)) (zf (mUn zeY (mC (.int 1))) (zf (mC (.int 2)) zt)))) (z8 zL (zf (zk 1) (zf (mC (.int 3)) zt))))) (zk 4))))
  (zau (mOp (zcK false) (mOp (zdD false) (z8 zbf (zf (z8 za9 (zf (zk 2) zt)) zt)) (mC .none)) (zfJ (zio (z8 zaQ (zf (zk 2) zt))) (zio (z8 zbn (zf (zk 2) zt))))))))))
noncomputable def zgV:FD:=za2 5 [0] zsF
theorem zu8{f:Addr}{fd:FuncData}(B:Bs Z)(F:Fun Z.K "law" "law" zsE f fd)(c0:zgf Z)(c1:zeQ Z)(c2:zbH Z)(c3:zb4 Z)(c4:zcC Z)(c5:zbO Z)(c6:zda Z)(c7:zeT Z):FnOk Z.P Z.w Z.K Z.mg Z.base CX0 8 f fd ["_law_script"] (spV Z.K 1 zgV) :=
 have hB:=B.1; okZ F ["_law_script", "_law_box_here", "_law_wanted", "_law_k", "_law_at"] fun nd hr=>⟨_,(zA (zR (zF 2 (ze zj (ze zn zm))))
 (zA (zbs (zai (zy zkl (zF 2 (ze zj (ze zn zm))) zn)) (zad (zhk (zy zhu (zF 1 (ze (zF 1 (ze zj zm)) zm)) zdM) (zy zhu (zF 1 (ze (zF 1 (ze (zF 2 (ze zj (ze zn zm))) zm)) zm)) zdM))) zaJ)
 (zA (zR (zF 2 (ze zj (ze zn zm))))
 (zA (zay (zbT (ze (zy zaC zn (zF 2 (ze zj (ze zn zm)))) zm)) zw (zA (zR (zF 2 (ze zj (ze zn zm))))
 (zdT (zy zaC (zy zac zj zj) (zy zac (zam (ze zn (ze (zhi zcm zn) (ze zn zm)))) (zF 2 (ze zj (ze zn zm))))) zj)))
 (zad (zy zdC (zy zhu (zF 1 (ze (zF 1 (ze zj zm)) zm)) zdM) (zhk (znq (zF 1 (ze zj zm))) (znq (zF 1 (ze zj zm)))))))))),
 (w_s (zY (zG (w_a w_v (w_a zo zi))))
 (w_s (zcG (zaB zj5 (zG (w_a w_v (w_a zo zi))) zo) (zQ (z9 (zkd (zdL zg0 (zG (w_a (zG (w_a w_v zi)) zi)) zdl) (zni (zdL zg0 (zG (w_a (zG (w_a (zG (w_a w_v (w_a zo zi))) zi)) zi)) zdl))))) zaI)
 (w_s (zY (zG (w_a w_v (w_a zo zi))))
 (w_s (zax (zbx (w_a (zW zaA zo (zG (w_a w_v (w_a zo zi)))) zi)) zu (w_s (zY (zG (w_a w_v (w_a zo zi))))
 (zQ (zik (zW zaA (zbb zap w_v w_v) (zbb zap (zaj (w_a zo (w_a (zhf zci zo) (w_a zo zi)))) (zG (w_a w_v (w_a zo zi))))) (zfA w_v w_v zca)))))
 (zQ (z9 (zdL zfr (zdL zg0 (zG (w_a (zG (w_a w_v zi)) zi)) zdl) (zkd (w_not (zG (w_a w_v zi))) (zni (w_not (zG (w_a w_v zi))))))))))))⟩
end
end K58
set_option exponentiation.threshold 10000
open PySem L2
local macro_rules | `(tactic| simp_arith [$ls,*])=>`(tactic| simp (disch:=first | with_unfolding_all exact zsl rfl | omega | (simp only [List.length_cons,List.length_nil,List.length_map,List.length_append,List.length_take,List.length_drop,Nat.zero_add,Nat.reduceAdd]<;>omega) | fail) only [$ls,*,↓zox,↓zwx,↓zk9,↓zsp,↓zoy,↓zla,↓ziM,↓zgP,↓zoz,↓zsq,↓zoA,↓zoB,↓zlb,↓zoC,↓zlc,↓zwy,↓zss,↓zoD,↓zoE,↓zoF,↓zld,↓ziN,↓zle,↓zso,↓zsr,nr zsn,nr zlf,nr zlg,nr zst,nr zoG,nr ziO,zwr,zws,zwt,zwu,zwv,zww,↓zsj,↓zsk,zV,↓zp,↓zbL,zjy,zun,↓zr7,↓znQ,zjz,↓znR,↓znS,↓znT,↓znU,↓zkI,zhv,↓znV,↓znW,↓zr8,↓znX,↓zkJ,↓zkK,↓znY,↓znZ,↓zn0,↓zix,↓zkL,↓zn1,↓ziy,↓zr9,↓zsa,↓zkM,↓zkO,↓zn3,↓zn4,↓zsc,↓zgI,↓zkP,↓ziz,↓zkQ,↓ziA,↓zkR,↓zn5,↓zoi,↓ziI,↓ziJ,↓zk2,↓zos,↓zoY,↓zoZ,↓zsA,↓zo0,↓zlm,↓zo1,↓zln,↓zlo,↓zlp,↓zlq,↓zpg,↓zph,↓zlu,↓zlv,↓zlw,bd,zrG,znB,zkv,ziu,zes,zgF,zfP,ziv,zvR,zvS,znC,nr zkw,nr zkx,zrH,zrI,zrJ,zrK,zvV,zvW,zrL,zrM,zrN,zvY,zvZ,zv0,znF,znG,zrO,zrP,zv6,zv7,zv8,zrR,znJ,zv9,zrS,zrT,zkz,zrU,zrV,zrW,zrX,zrY,zrZ,zr0,nr zkA,ziw,zgG,zr1,zr2,znK,zkB,zwa,zwb,zqT,zwc,zwd,zwe,zwf,zwg,zwh,zr4,zkD,zr5,zkE,znL,znM,znN,zsb,zkN,nr ziB,nr ziC,nr zsd,nr zse,zmb,zn7,zkV,zok,zkY,ziH,zgN,zhx,zfY,zk0,zoo,zk3,zpi,zlt,zpj,zlx,zpk,zpl,zpm,zpn,zpo,zpp,zpq,zpr,zps,zpt,zpu,zpv,zpw,List.getElem?_cons_zero,List.getElem?_cons_succ,List.set_cons_zero,List.set_cons_succ,List.cons_append,List.nil_append,List.length_cons,List.length_nil,List.replicate,Option.map_some,decide_eq_true_eq,List.mem_cons,List.not_mem_nil,true_or,or_true,or_false,false_or,if_true,if_false,ite_true,ite_false,true_and,and_true,and_false,false_and,Bool.not_true,Bool.not_false,Bool.false_eq_true,not_true,not_false_iff,Nat.zero_add,Nat.reduceAdd,Nat.reduceLeDiff,Nat.reduceEqDiff,Nat.reduceSub,Nat.reduceLT,List.map_cons,List.map_nil,List.getD_cons_zero,List.getD_cons_succ,List.drop_succ_cons,List.drop_zero,decide_true,decide_false,Bool.true_and,Bool.and_true,Bool.true_or,Bool.or_true,Bool.false_or,Bool.or_false,Bool.false_and,Bool.and_false,reduceCtorEq,List.length_map,List.length_append,zr3,zkC,String.reduceEq,↓reduceIte,Int.reduceEq,Int.reduceNe,Int.reduceLT,Int.reduceLE,Int.reduceAdd,Int.reduceSub,Int.reduceNeg,Int.reduceToNat,Int.cast_ofNat_Int,implies_true,forall_const,Option.map_none])
local macro_rules | `(tactic| simp_arith)=>`(tactic| simp_arith [Option.map_none])
namespace K58
open PySem L2
abbrev bx(x y:Int):U:=.l [.int x,.int y]
theorem zbE{x y w:Int}{Q:U×List U->Prop}(hw:0 < w)(hw2:w<=18446744073709551616)(k:∀ r x' y',0<=r->r < w->Q (.d (.int r),[bx x' y',.d (.int w)])):Wo (zL [bx x y,.d (.int w)]) Q:=by
 simp_arith [zL,zd6];refine zdV (fun hx=>?_) (fun hx=>?_)
 ·simp_arith [hx]
  exact k _ _ _ (Int.emod_nonneg _ (by omega)) (Int.emod_lt_of_pos _ hw)
 ·simp_arith [hx]
  exact k _ _ _ (Int.emod_nonneg _ (by omega)) (Int.emod_lt_of_pos _ hw)
theorem zpx{ns:List Int}{k:Int}(h0:0<=k)(h:k < (ns.length:Int)):∃ v:Int,atI (ns.map PyData.int) k=some (.int v):=by
 have hk:k.toNat < ns.length:=by omega
 refine⟨ns[k.toNat],?_⟩;unfold atI ixN;rw [if_pos h0,if_pos (by rw [List.length_map]; exact h),bd,List.getElem?_map,qm hk];rfl
theorem zsG{ns:List Int}{k:Int}{Q:U×List U->Prop}(h0:0<=k)(q:∀ x y,Q (bx x y,[.d (.list (ns.map .int)),.d (.int k)])):Wo (zbB [.d (.list (ns.map .int)),.d (.int k)]) Q:=by
 simp_arith [zbB,zeP,List.length_map];refine zdV (fun h1=>?_) (fun h1=>?_)
 ·obtain⟨v,hv⟩:=zpx h0 h1
  simp_arith [hv];exact q _ _
 ·simp_arith [List.length_map]
  refine zdV (fun h2=>?_) (fun h2=>?_)
  ·have hm:=Int.emod_lt_of_pos k h2
   have hm0:=Int.emod_nonneg k (show(ns.length:Int)≠0 by omega);obtain⟨v,hv⟩:=zpx hm0 hm;simp_arith [hv];exact q _ _
  ·simp_arith
   exact q _ _
def pl(s:Int)(a b:List Int):List Int:=(a.zip b).map fun t=>t.1+s * t.2
theorem zpy{s:Int}{a b:List Int}(h:a.length=b.length):(pl s a b).length=a.length:=by
 unfold pl;rw [List.length_map,List.length_zip,h,Nat.min_self]
theorem zdb{a b:List Int}{s:Int}{Q:U×List U->Prop}(h:a.length=b.length)(hl:a.length=5)(hs:-1<=s/\s<=1)(q:Q (.d (pwD (pl s a b)),[.d (pwD a),.d (pwD b),.d (.int s)])):Wo (zaN [.d (pwD a),.d (pwD b),.d (.int s)]) Q:=by
 simp_arith [zaN,zc3,zfY h];refine zfZ (e:=fun t=>.int (t.1+s * t.2)) (by rw [List.length_zip]; omega) (fun t ht ys=>?_) ?_
 ·simp_arith
 ·have hz:((a.zip b).map fun t:Int×Int=>PyData.int (t.1+s * t.2)).length<=sizeLine:=by
   rw [List.length_map,List.length_zip,sizeLine_eq];omega
  simp_arith [hz];have e:PyData.tuple ((a.zip b).map fun t:Int×Int=>PyData.int (t.1+s * t.2))=pwD (pl s a b):=by
   unfold pwD pl;rw [List.map_map];rfl
  rw [e];exact q
def stp(x:Int)(b:List Int)(k:Nat)(l:List Int)(j:Nat):List Int:=l.set (k+j) (l.getD (k+j) 0+x * b.getD j 0)
def inn(x:Int)(b:List Int)(k n:Nat)(l:List Int):List Int:=(List.range n).foldl (stp x b k) l
def tmo(a b:List Int)(n:Nat):List Int:=(List.range n).foldl (fun l k=>inn (a.getD k 0) b k (5 - k) l) (List.replicate 5 0)
def tm(a b:List Int):List Int:=tmo a b 5
theorem zpz{x:Int}{b l:List Int}{k n:Nat}:inn x b k (n+1) l=stp x b k (inn x b k n l) n:=by
 unfold inn;rw [List.range_succ,List.foldl_append];rfl
theorem zpA{a b:List Int}{n:Nat}:tmo a b (n+1)=inn (a.getD n 0) b n (5 - n) (tmo a b n):=by
 unfold tmo;rw [List.range_succ,List.foldl_append];rfl
theorem zrl{x:Int}{b l:List Int}{k j:Nat}:(stp x b k l j).length=l.length:=by
 unfold stp;rw [List.length_set]
theorem zfm{x:Int}{b l:List Int}{k:Nat}:∀ n:Nat,(inn x b k n l).length=l.length
 | 0=>rfl
 | n+1=>by rw [zpz,zrl,zfm n]
theorem zfn{a b:List Int}:∀ n:Nat,(tmo a b n).length=5
 | 0=>rfl
 | n+1=>by rw [zpA,zfm,zfn n]
theorem zjV{l:List Int}{i:Nat}(h:i < l.length):atI (l.map PyData.int) (i:Int)=some (.int (l.getD i 0)):=by
 unfold atI ixN;rw [if_pos (by omega),if_pos (by rw [List.length_map]; omega),bd,List.getElem?_map,Int.toNat_natCast,qm h,qB,qm h];rfl
theorem zrm{l:List Int}{i:Nat}(h:i < l.length):ixN l.length (i:Int)=some i:=by
 unfold ixN;rw [if_pos (by omega),if_pos (by omega),Int.toNat_natCast]
theorem zlB{l:List Int}{i:Nat}{x:Int}:(l.map PyData.int).set i (.int x)=(l.set i x).map PyData.int:=by
 rw [List.map_set]
theorem zdI{l:List Int}(h:l.length=5):∃ a b c d e,l=[a,b,c,d,e]:=zwq h
def Sm(a:List Int):Prop:=∀ x∈a,-1000000<=x/\x<=1000000
theorem zaU{a:List Int}{n:Nat}(h:Sm a):-1000000<=a.getD n 0/\a.getD n 0<=1000000:=by
 rw [qB];cases e:a[n]? with
 | none=>exact⟨by show(-1000000:Int)<=0; omega,by show(0:Int)<=1000000; omega⟩
 | some x=>exact h x (List.mem_of_getElem? e)
theorem rp5:zgs (.l [.int 0]) (.d (.int 5))=some (.l ((List.replicate 5 (0:Int)).map .int)):=by
 have hz:sizeLine=16777216:=sizeLine_eq;have c:-1000000 < (5:Int)/\(5:Int) < 1000000/\[PyData.int 0].length * (5:Int).toNat<=sizeLine:=⟨by omega,by omega,by
  rw [hz];decide⟩
 unfold zgs;dsimp only;rw [if_pos c];rfl
theorem ze4{a b:List Int}{Q:U×List U->Prop}(ha:a.length=5)(hb:b.length=5)(sa:Sm a)(q:Q (.d (pwD (tm a b)),[.d (pwD a),.d (pwD b)])):Wo (za8 [.d (pwD a),.d (pwD b)]) Q:=by
 simp_arith [za8,zcz,rp5];unfold pwD;simp_arith;refine zdh (fun i ρ=>i<=5/\∃ v3 v4 v5,ρ=[some (.d (pwD a)),some (.d (pwD b)),some (.l ((tmo a b i).map .int)),v3,v4,v5]) ⟨by omega,_,_,_,rfl⟩ ?_ ?_
 ·rintro i d ρ hd ⟨hi,v3,v4,v5,rfl⟩
  obtain⟨x,hx,rfl⟩:=zaK hd;rw [List.getElem?_map]at hx;obtain⟨y,hy,rfl⟩:=qr.mp hx;have hi5:i < 5:=by rw [<-ha]; exact(qk.mp hy).1
  have ey:a.getD i 0=y:=by rw [qB,hy]; rfl
  have hsm:=zaU (n:=i) sa;rw [ey]at hsm;simp_arith;refine zgJ (fun j ρ=>j<=5 - i/\∃ v5,ρ=[some (.d (pwD a)),some (.d (pwD b)),some (.l ((inn y b i j (tmo a b i)).map .int)),some (.d (.int (i:Int))),some (.d (.int y)),v5]) ⟨by omega,_,rfl⟩ ?_ ?_
  ·rintro j ρ hj ⟨_,v5,rfl⟩
   have l1:(inn y b i j (tmo a b i)).length=5:=by rw [zfm,zfn]
   have e1:=zjV (l:=inn y b i j (tmo a b i)) (i:=i+j) (by omega);have e2:=zjV (l:=b) (i:=j) (by omega);have e3:=zrm (l:=inn y b i j (tmo a b i)) (i:=i+j) (by omega);have c1:(i:Int)+(j:Int)=((i+j:Nat):Int):=by omega
   unfold pwD;have h0:(0:Int)<=((i+j:Nat):Int):=by omega
   simp_arith [Int.zero_add,c1,h0,e1,e2,e3,zlB];refine⟨by omega,?_⟩;rw [zpz];exact⟨_,rfl⟩
  ·rintro ρ ⟨_,v5,rfl⟩
   simp_arith;rw [zpA,ey,show(5 - (i:Int)).toNat=5 - i by omega];exact⟨by omega,_,_,_,rfl⟩
 ·rintro ρ ⟨_,v3,v4,v5,rfl⟩
  rw [zak,List.length_map,ha];simp_arith;exact q
def lsB(o:Bool)(l:List Int):U:=if o=true then .l (l.map .int)else .d (.list (l.map .int))
theorem zpB{o:Bool}{l:List Int}{i:Nat}(h:i < l.length):zaS (lsB o l) (.d (.int (i:Int)))=some (.d (.int (l.getD i 0))):=by
 have e:=zjV h;cases o
 ·show(atI (l.map PyData.int) (i:Int)).map _=_
  rw [e];rfl
 ·show(atI (l.map PyData.int) (i:Int)).map _=_
  rw [e];rfl
theorem zgW{u:U}{α:Type}{x y:α}:(if u.own=true/\u.own=false then x else y)=y:=if_neg fun z=>by rw [z.1]at z; cases z.2
theorem zbP{a b:List Int}{o:Bool}{Q:U×List U->Prop}(ha:a.length=5)(hb:b.length=5)(sa:Sm a)(q:Q (.l ((tm a b).map .int),[lsB o a,lsB o b])):Wo (zZ [lsB o a,lsB o b]) Q:=by
 simp_arith [zZ,zbC,rp5];refine zgJ (fun i ρ=>∃ v3 v4,ρ=[some (lsB o a),some (lsB o b),some (.l ((tmo a b i).map .int)),v3,v4]) ⟨_,_,rfl⟩ ?_ ?_
 ·rintro i ρ hi ⟨v3,v4,rfl⟩
  have hi5:i < 5:=hi;have hsm:=zaU (n:=i) sa;simp_arith;refine zgJ (fun j ρ=>∃ v4,ρ=[some (lsB o a),some (lsB o b),some (.l ((inn (a.getD i 0) b i j (tmo a b i)).map .int)),some (.d (.int (0+(i:Int)))),v4]) ⟨_,rfl⟩ ?_ ?_
  ·rintro j ρ hj ⟨v4,rfl⟩
   have l1:(inn (a.getD i 0) b i j (tmo a b i)).length=5:=by rw [zfm,zfn]
   have e1:=zjV (l:=inn (a.getD i 0) b i j (tmo a b i)) (i:=i+j) (by omega);have e2:=zpB (o:=o) (l:=b) (i:=j) (by omega);have e4:=zpB (o:=o) (l:=a) (i:=i) (by omega);have e3:=zrm (l:=inn (a.getD i 0) b i j (tmo a b i)) (i:=i+j) (by omega);have c1:(i:Int)+(j:Int)=((i+j:Nat):Int):=by omega
   simp_arith [Int.zero_add,c1,e1,e2,e3,e4,zlB];rw [zpz];exact⟨_,rfl⟩
  ·rintro ρ ⟨v4,rfl⟩
   simp_arith;rw [zpA,show(5 - (0+(i:Int))).toNat=5 - i by omega];exact⟨_,_,rfl⟩
 ·rintro ρ ⟨v3,v4,rfl⟩
  simp_arith [zgW];exact q
end K58
open PySem L2
namespace K58
open PySem L2
def kIn(mv:ME)(p:Ar×En):Option (Ar×Ar×En):=(mv p.2).bind fun q=>some (p.1,q)
def rIn(j:Nat)(ρ:En)(x y:D)(p:Ar×Ar×En):Prop:=p.1.get p.2.2=some (.d x)/\p.2.1.get p.2.2=some (.d y)/\p.2.2.set j none=ρ
theorem zpC{mv:ME}{p:Ar×En}{Q:Ar×Ar×En->Prop}:Wo (kIn mv p) Q=Wo (mv p.2) (Co (fun q=>some (p.1,q)) ⟨0⟩ Q):=by
 unfold kIn;rw [zp]
theorem zpD{β:Type}{c:β->D}{mk mv:ME}{j:Nat}{ρ:En}{k:Int->List Int}{v:Int->β}{Q:List (List Key×D)×En->Prop}:∀ {ss:List Int} {ys:Pq β},ys.length+ss.length<=1000 ->
  (∀ s∈ss,Wo (mk (ρ.set j (some (.d (.int s))))) (Co (kIn mv) ⟨0⟩ (rIn j ρ (pwD (k s)) (c (v s))))) ->
  Q (kvG c ((ss.map fun s=>(k s,v s)).foldl (fun ys t=>zby ys t.1 t.2) ys),ρ)->Wo (inM j mk mv (ss.map .int) ρ (kvG c ys)) Q
 | [],ys,_,_,q=>⟨_,rfl,q⟩
 | s::ss,ys,hl,st,q=>by
  rw [qu]at hl;obtain⟨p,e1,z,e0,hh⟩:=st s qp;obtain⟨y,e2,e3⟩:=zd e0;cases e3;obtain⟨h1,h2,h3⟩:=hh;dsimp only at h1 h2 h3;have hz:sizeLine=16777216:=sizeLine_eq;have hk:zaM (pwD (k s))=some (kL (k s)):=zdZ _;have pl:=zdY ys (k s) (v s);rw [List.map_cons];unfold inM;rw [if_pos (by rw [zjD]; omega),e1,bd,e2,bd,h1,bd,h2,bd];show Wo ((zaM (pwD (k s))).bind _) Q;rw [hk,bd,h3,zol];exact zpD (by omega) (fun s hs=>st s (qo _ hs)) q
theorem zlC{α β:Type}{c:β->D}{g:α->D}{mg:MG}{mi:MI}{mk mv:ME}{nt j:Nat}{ρ:En}{ss:List Int}{k:α->Int->List Int}{v:α->Int->β}{ρ1:α->En}{Q:List (List Key×D)×En->Prop}:∀ {as:List α} {ys:Pq β},ys.length+as.length * ss.length<=1000 ->
  (∀ a∈as,mg (g a) ρ=some (ρ1 a)/\mi (ρ1 a)=some (ss.map .int,ρ1 a)/\reset nt ((ρ1 a).set j none)=ρ/\∀ s∈ss,Wo (mk (((ρ1 a).set j none).set j (some (.d (.int s))))) (Co (kIn mv) ⟨0⟩ (rIn j ((ρ1 a).set j none) (pwD (k a s)) (c (v a s))))) ->
  Q (kvG c ((as.flatMap fun a=>ss.map fun s=>(k a s,v a s)).foldl (fun ys t=>zby ys t.1 t.2) ys),ρ)->Wo (ziT nt j mg mi mk mv (as.map g) ρ (kvG c ys)) Q
 | [],ys,_,_,q=>⟨_,rfl,q⟩
 | a::as,ys,hl,st,q=>by
  obtain⟨e1,e2,e3,e4⟩:=st a qp;rw [qu,Nat.add_mul,Nat.one_mul]at hl;rw [List.map_cons];unfold ziT;rw [e1,bd,e2,bd,zp];refine zpD (by omega) e4 ?_;rw [zbL];dsimp only;rw [e3];have fl:∀ (l:Pq β) (acc:Pq β),(l.foldl (fun ys t=>zby ys t.1 t.2) acc).length<=acc.length+l.length:=by
   intro l
   induction l with
   | nil=>intro acc; simp
   | cons t l ih =>
    intro acc;have h1:=ih (zby acc t.1 t.2);have h2:=zdY acc t.1 t.2;simp only [List.foldl_cons,qu];omega
  have:=fl (ss.map fun s=>(k a s,v a s)) ys;rw [List.length_map]at this;refine zlC (by omega) (fun b hb=>st b (qo _ hb)) ?_;rw [List.flatMap_cons,List.foldl_append]at q;exact q
def zs5:List Int:=[0,0,0,0,0]
def mx(sg:List Int)(ts:List (List Int)):List Int:=(sg.zip ts).foldl (fun acc p=>pl p.1 acc p.2) zs5
theorem zlD{sg:List Int}{ts:List (List Int)}{s:Int}{t:List Int}(h:sg.length=ts.length):mx (sg++[s]) (ts++[t])=pl s (mx sg ts) t:=by
 unfold mx;rw [List.zip_append h,List.foldl_append];rfl
def Sg(n:Nat)(sg:List Int):Prop:=sg.length=n/\∀ s∈sg,s=0\/s=1\/s=-1
def L5(ts:List (List Int)):Prop:=∀ t∈ts,t.length=5
theorem zpE:∀ {ps:List (Int×List Int)} {acc:List Int},acc.length=5->(∀ p∈ps,p.2.length=5)->(ps.foldl (fun acc p=>pl p.1 acc p.2) acc).length=5
 | [],acc,h,_=>h
 | p::ps,acc,h,hp=>by
  have:=hp p qp;exact zpE (ps:=ps) (acc:=pl p.1 acc p.2) (by rw [zpy (by omega)]; exact h) fun q hq=>hp q (qo _ hq)
theorem mx5{sg:List Int}{ts:List (List Int)}(h:L5 ts):(mx sg ts).length=5:=zpE rfl fun p hp=>h _ (List.of_mem_zip hp).2
structure MX (ts:List (List Int)) (p:Pq (List Int)):Prop where
 sg:∀ e∈p,Sg ts.length e.2/\e.1=mx e.2 ts
 all:∀ sg,Sg ts.length sg->∃ v,look p (mx sg ts)=some v
 len:p.length<=3^ts.length
theorem ziY{β:Type}{P:List Int×β->Prop}:∀ {l acc:Pq β},(∀ t∈acc,P t)->(∀ t∈l,P t)->∀ t∈l.foldl (fun ys t=>zby ys t.1 t.2) acc,P t
 | [],_,h,_=>h
 | u::l,acc,h,hl=>ziY (l:=l) (acc:=zby acc u.1 u.2) (fun t ht=>by
   rcases zkW ht with ⟨z,_⟩ | rfl
   ·exact h t z
   ·exact hl u qp) fun t ht=>hl t (qo _ ht)
theorem zhK{β:Type}{p:Pq β}{k k':List Int}{x:β}(h:k'=k\/∃ v,look p k'=some v):∃ v,look (zby p k x) k'=some v:=by
 have e:(look (zby p k x) k').isSome=true:=by
  rw [ziG,List.any_eq_true];have hk:k'∈(zby p k x).map (·.1):=by
   rw [zoj];have m:∀ {v:β},look p k'=some v->k'∈p.map (·.1):=fun hv=>List.mem_map.mpr ⟨_,zbk hv,rfl⟩;split
   ·rename_i hc
    rcases h with rfl | ⟨v,hv⟩
    ·rw [<-ziG,Option.isSome_iff_exists]at hc
     obtain⟨v,hv⟩:=hc;exact m hv
    ·exact m hv
   ·rcases h with rfl | ⟨v,hv⟩
    ·simp
    ·exact List.mem_append_left _ (m hv)
  obtain⟨t,ht,rfl⟩:=List.mem_map.mp hk;exact⟨t,ht,by simp⟩
 exact Option.isSome_iff_exists.mp e
theorem ziZ{β:Type}{k':List Int}:∀ {l acc:Pq β},((∃ t∈l,t.1=k')\/∃ v,look acc k'=some v)->∃ v,look (l.foldl (fun ys t=>zby ys t.1 t.2) acc) k'=some v
 | [],acc,h=>h.elim (fun⟨t,ht,_⟩=>(by cases ht)) id
 | u::l,acc,h=>by
  refine ziZ (l:=l) (acc:=zby acc u.1 u.2) ?_;rcases h with ⟨t,ht,e⟩ | h
  ·rcases qv.mp ht with rfl | ht
   ·exact .inr (zhK (.inl e.symm))
   ·exact .inl ⟨t,ht,e⟩
  ·exact .inr (zhK (.inr h))
theorem zi0{β:Type}:∀ (l acc:Pq β),(l.foldl (fun ys t=>zby ys t.1 t.2) acc).length<=acc.length+l.length
 | [],acc=>by simp
 | t::l,acc=>by
  have h1:=zi0 l (zby acc t.1 t.2);have h2:=zdY acc t.1 t.2;simp only [List.foldl_cons,qu];omega
def sss:List Int:=[0,1,-1]
theorem MX.step{ts:List (List Int)}{p:Pq (List Int)}(m:MX ts p)(t:List Int):MX (ts++[t]) ((p.flatMap fun a=>sss.map fun s=>(pl s a.1 t,a.2++[s])).foldl (fun ys t=>zby ys t.1 t.2) []):=by
 have ms:∀ s∈sss,s=0\/s=1\/s=-1:=fun s hs=>by simpa [sss] using hs
 refine⟨ziY (fun t ht=>by cases ht) fun u hu=>?_,fun sg hs=>ziZ (.inl ?_),?_⟩
 ·obtain⟨a,ha,hu⟩:=List.mem_flatMap.mp hu
  obtain⟨s,hs,rfl⟩:=List.mem_map.mp hu;obtain⟨⟨l1,a1⟩,e1⟩:=m.sg a ha;refine⟨⟨by simp [l1],fun x hx=>?_⟩,?_⟩
  ·rcases List.mem_append.mp hx with hx | hx
   ·exact a1 x hx
   ·rw [qq.mp hx]
    exact ms s hs
  ·show pl s a.1 t=mx (a.2++[s]) (ts++[t])
   rw [zlD l1,<-e1]
 ·obtain⟨l1,a1⟩:=hs
  rw [qt,List.length_singleton]at l1;have hne:sg≠[]:=fun z=>by rw [z]at l1; simp at l1
  obtain⟨sg',s,rfl⟩:∃ sg' s,sg=sg'++[s]:=⟨sg.dropLast,sg.getLast hne,(List.dropLast_concat_getLast hne).symm⟩;have l2:sg'.length=ts.length:=by simpa using l1
  obtain⟨v,hv⟩:=m.all sg' ⟨l2,fun x hx=>a1 x (List.mem_append_left _ hx)⟩;refine⟨(pl s (mx sg' ts) t,v++[s]),List.mem_flatMap.mpr ⟨(mx sg' ts,v),zbk hv,List.mem_map.mpr ⟨s,?_,rfl⟩⟩,?_⟩
  ·have:=a1 s (qw _ qp)
   simp only [sss,qv,List.not_mem_nil,or_false];exact this
  ·show pl s (mx sg' ts) t=_
   rw [zlD l2]
 ·refine qy (zi0 _ _) ?_
  rw [List.length_nil,Nat.zero_add,List.length_flatMap,qt,List.length_singleton,Nat.pow_succ];have e:(p.map fun a=>(sss.map fun s=>(pl s a.1 t,a.2++[s])).length)=p.map fun _=>3:=List.map_congr_left fun a _=>by simp [sss]
  have:(p.map fun _=>(3:Nat)).sum=p.length * 3:=by
   rw [List.map_const',List.sum_replicate_nat]
  rw [e,this];exact Nat.mul_le_mul_right _ m.len
theorem MX.nil:MX [] [(zs5,[])]:=by
 refine⟨fun e he=>?_,fun sg hs=>?_,qe _⟩
 ·cases qq.mp he
  exact⟨⟨rfl,fun s hs=>by cases hs⟩,rfl⟩
 ·have:sg=[]:=List.eq_nil_of_length_eq_zero hs.1
  subst this;exact⟨[],rfl⟩
def lsT(o:Bool)(ts:List (List Int)):U:=if o=true then .l (ts.map pwD)else .d (.list (ts.map pwD))
theorem ke5:zaM (PyData.tuple [[PyData.int 0],[PyData.int 0],[PyData.int 0],[PyData.int 0],[PyData.int 0]].flatten)=some (kL zs5):=zdZ zs5
theorem zu9{o:Bool}{ts:List (List Int)}:(lsT o ts).fz=some (.list (ts.map pwD)):=by cases o<;>rfl
theorem zva{l:List Int}{s:Int}(h:l.length<=100):zet (.d (pwD l)) (.d (.tuple [.int s]))=some (.d (pwD (l++[s]))):=by
 have hz:sizeLine=16777216:=sizeLine_eq;cases l with
 | nil=>rfl
 | cons x l =>
  rw [qu]at h;show(if _/\_ then _ else _)=_;rw [if_pos ⟨fun z=>by simp at z,by simp; omega⟩];unfold pwD;rw [List.map_append];rfl
theorem zfo{o:Bool}{ts:List (List Int)}{Q:U×List U->Prop}(h5:L5 ts)(hn:ts.length<=3)(k:∀ p,MX ts p->Q (.t (kvG pwD p),[.d (.list (ts.map pwD))])):Wo (zcq [lsT o ts]) Q:=by
 simp_arith [zcq,zlA,ke5,zu9];refine zan (fun bs cs ρ=>∃ p v2,MX bs p/\ρ=[some (.d (.list (ts.map pwD))),some (.t (kvG pwD p)),v2]) ⟨_,_,MX.nil,rfl⟩ ?_ ?_
 ·rintro bs t cs ρ et ⟨p,v2,m,rfl⟩
  simp_arith;have hl:bs.length<=2:=by
   have:=congrArg List.length et;simp at this;omega
  have t5:t.length=5:=h5 t (by rw [et]; simp);have b5:L5 bs:=fun x hx=>h5 x (by rw [et]; exact List.mem_append_left _ hx);unfold tmG;refine zlC (c:=pwD) (ss:=sss) (k:=fun a s=>pl s a.1 t) (v:=fun a s=>a.2++[s]) (ρ1:=fun a=>[some (.d (pwD a.1)),some (.d (pwD a.2)),none,some (.d (pwD t))]) (ys:=[]) ?_ (fun a ha=>⟨rfl,rfl,rfl,fun s hs=>?_⟩) ?_
  ·have:=m.len
   have:(3:Nat)^bs.length<=3^2:=Nat.pow_le_pow_right (by omega) hl;show 0+p.length * 3<=1000;omega
  ·obtain⟨⟨l1,_⟩,e1⟩:=m.sg a ha
   have a5:a.1.length=5:=by rw [e1]; exact mx5 b5
   have hs':-1<=s/\s<=1:=by
    simp only [sss,qv,List.not_mem_nil,or_false]at hs;omega
   have ec:=zva (l:=a.2) (s:=s) (by omega);simp_arith [zpC];refine zdb (by omega) a5 hs' ?_;simp_arith [ec,zpC];exact⟨rfl,rfl,rfl⟩
  ·simp_arith
   exact⟨_,_,m.step t,rfl⟩
 ·rintro ρ ⟨p,v2,m,rfl⟩
  simp_arith;exact k p m
end K58
open PySem L2
namespace K58
open PySem L2
def BL(B:Int)(l:List Int):Prop:=∀ x∈l,-B<=x/\x<=B
theorem zwR{A B:Int}{s:Int}{a b:List Int}(ha:BL A a)(hb:BL B b)(hs:s=0\/s=1\/s=-1)(hB:0<=B):BL (A+B) (pl s a b):=fun x hx=>by
 unfold pl at hx;obtain⟨t,ht,rfl⟩:=List.mem_map.mp hx;have h1:=ha _ (List.of_mem_zip ht).1;have h2:=hb _ (List.of_mem_zip ht).2;rcases hs with rfl | rfl | rfl<;>omega
theorem zsH{B:Int}(hB:0<=B):∀ {ps:List (Int×List Int)} {acc:List Int} {A:Int},BL A acc->(∀ p∈ps,BL B p.2)->(∀ p∈ps,p.1=0\/p.1=1\/p.1=-1)->BL (A+ps.length * B) (ps.foldl (fun acc p=>pl p.1 acc p.2) acc)
 | [],acc,A,h,_,_=>fun x hx=>by
  have:=h x hx;simp only [List.length_nil];omega
 | p::ps,acc,A,h,hp,hs=>fun x hx=>by
  have:=zsH hB (ps:=ps) (zwR h (hp p qp) (hs p qp) hB) (fun q hq=>hp q (qo _ hq)) (fun q hq=>hs q (qo _ hq)) x hx;have e:(((p::ps).length:Nat):Int) * B=B+(ps.length:Int) * B:=by
   rw [qu,Int.natCast_add,Int.add_mul];omega
  rw [e];omega
theorem zlE{sg:List Int}{ts:List (List Int)}{B:Int}(hB:0<=B)(hs:Sg ts.length sg)(ht:∀ t∈ts,BL B t):BL (ts.length * B) (mx sg ts):=fun x hx=>by
 have:=zsH hB (ps:=sg.zip ts) (acc:=zs5) (A:=0) (fun y hy=>by simp [zs5]at hy; omega) (fun p hp=>ht _ (List.of_mem_zip hp).2) (fun p hp=>hs.2 _ (List.of_mem_zip hp).1) x hx;rw [List.length_zip,hs.1,Nat.min_self]at this;omega
def c2(x:List Int×List Int):D:=.tuple [pwD x.1,pwD x.2]
def psd{β:Type}(r:Pq β)(k:List Int)(x:β):Pq β:=match look r k with
 | some _=>r
 | none=>zby r k x
theorem sdG{β:Type}{c:β->D}{r:Pq β}{k:List Int}{x:β}{i:Nat}{ρ:En}(h:ρ[i]?=some (some (.t (kvG c r)))):kSD (kvG c r) (kL k) (c x) i ρ=(.u (.d (c ((look r k).getD x))),ρ.set i (some (.t (kvG c (psd r k x))))):=by
 unfold kSD psd;rw [zkX];cases e:look r k with
 | some v =>
  show(Ar.u (.d (c v)),ρ)=(.u (.d (c v)),ρ.set i (some (.t (kvG c r))));congr 1;obtain⟨hl,he⟩:=qk.mp h;rw [<-he,List.set_getElem_self]
 | none =>
  show(Ar.u (.d (c x)),ρ.set i (some (.t (zcJ (kvG c r) (kL k) (c x)))))=_;rw [zol];rfl
theorem zwS{p:Pq (List Int)}:(kvG pwD p).map (fun p=>PyData.tuple [kTD p.1,p.2])=p.map fun t=>.tuple [pwD t.1,pwD t.2]:=by
 unfold kvG;rw [List.map_map];refine List.map_congr_left fun t _=>?_;show PyData.tuple [kTD (kL t.1),pwD t.2]=_;rw [zjC]
structure PX (ts:List (List Int)) (r:Pq (List Int×List Int)):Prop where
 sg:∀ e∈r,Sg ts.length e.2.1/\Sg ts.length e.2.2/\e.1=tm (mx e.2.1 ts) (mx e.2.2 ts)
 all:∀ a b,Sg ts.length a->Sg ts.length b->∃ v,look r (tm (mx a ts) (mx b ts))=some v
 len:r.length<=1000
theorem zrn{β:Type}{r:Pq β}{k:List Int}{x:β}{t:List Int×β}(h:t∈psd r k x):t∈r\/t=(k,x):=by
 unfold psd at h;split at h
 ·exact .inl h
 ·rcases zkW h with ⟨z,_⟩ | z
  ·exact .inl z
  ·exact .inr z
theorem zhL{β:Type}{r:Pq β}{k k':List Int}{x:β}(h:k'=k\/∃ v,look r k'=some v):∃ v,look (psd r k x) k'=some v:=by
 unfold psd;split
 ·rename_i v hv
  rcases h with rfl | h
  ·exact⟨v,hv⟩
  ·exact h
 ·exact zhK h
theorem zro{β:Type}{r:Pq β}{k:List Int}{x:β}:(psd r k x).length<=r.length+1:=by
 unfold psd;split
 ·omega
 ·exact zdY r k x
theorem zdr{o:Bool}{ts:List (List Int)}{Q:U×List U->Prop}(h5:L5 ts)(hB:∀ t∈ts,BL 1000 t)(hn:ts.length<=3)(k:∀ r,PX ts r->Q (.t (kvG c2 r),[.d (.list (ts.map pwD))])):Wo (za4 [lsT o ts]) Q:=by
 simp_arith [za4,zdq];refine zfo h5 hn fun p m=>?_;simp_arith;have pn:p.length<=27:=qy m.len (show 3^ts.length<=3^3 from Nat.pow_le_pow_right (by omega) hn);have p5:∀ e∈p,e.1.length=5/\Sm e.1:=fun e he=>by
  obtain⟨s1,e1⟩:=m.sg e he;rw [e1];refine⟨mx5 h5,fun x hx=>?_⟩;have:=zlE (by omega) s1 hB x hx;omega
 rw [zwS];refine zan (fun bs cs ρ=>∃ r v3 v4 v5 v6,(∀ e∈r,Sg ts.length e.2.1/\Sg ts.length e.2.2/\e.1=tm (mx e.2.1 ts) (mx e.2.2 ts))/\(∀ a∈bs,∀ b∈p,∃ v,look r (tm a.1 b.1)=some v)/\r.length<=bs.length * p.length/\ρ=[some (.d (.list (ts.map pwD))),some (.d (.list (p.map fun t=>.tuple [pwD t.1,pwD t.2]))),some (.t (kvG c2 r)),v3,v4,v5,v6]) ⟨[],_,_,_,_,fun e he=>(by cases he),fun a ha=>(by cases ha),by simp,rfl⟩ ?_ ?_
 ·rintro bs a cs ρ ep ⟨r,v3,v4,v5,v6,r1,r2,r3,rfl⟩
  have ha:a∈p:=by rw [ep]; simp
  have lb:bs.length+1<=p.length:=by rw [ep]; simp
  simp_arith;refine zan (fun bs2 cs2 ρ=>∃ r v5 v6,(∀ e∈r,Sg ts.length e.2.1/\Sg ts.length e.2.2/\e.1=tm (mx e.2.1 ts) (mx e.2.2 ts))/\(∀ a∈bs,∀ b∈p,∃ v,look r (tm a.1 b.1)=some v)/\(∀ b∈bs2,∃ v,look r (tm a.1 b.1)=some v)/\r.length<=bs.length * p.length+bs2.length/\ρ=[some (.d (.list (ts.map pwD))),some (.d (.list (p.map fun t=>.tuple [pwD t.1,pwD t.2]))),some (.t (kvG c2 r)),some (.d (pwD a.1)),some (.d (pwD a.2)),v5,v6]) ⟨r,_,_,r1,r2,fun b hb=>(by cases hb),by simpa using r3,rfl⟩ ?_ ?_
  ·rintro bs2 b cs2 ρ ep2 ⟨r,v5,v6,r1,r2,r4,r3,rfl⟩
   have hb:b∈p:=by rw [ep2]; simp
   have lb2:bs2.length+1<=p.length:=by rw [ep2]; simp
   have hr:r.length < 16777216:=by
    have:bs.length * p.length<=27 * 27:=Nat.mul_le_mul (by omega) pn;omega
   simp_arith;refine ze4 (p5 a ha).1 (p5 b hb).1 (p5 a ha).2 ?_;have hc:PyData.tuple [pwD a.2,pwD b.2]=c2 (a.2,b.2):=rfl;simp_arith [hc,zjD,hr];rw [sdG (c:=c2) (r:=r) rfl];refine⟨psd r (tm a.1 b.1) (a.2,b.2),_,_,fun e he=>?_,fun x hx y hy=>zhL (.inr (r2 x hx y hy)),fun y hy=>?_,?_,rfl⟩
   ·rcases zrn he with he | rfl
    ·exact r1 e he
    ·obtain⟨s1,e1⟩:=m.sg a ha
     obtain⟨s2,e2⟩:=m.sg b hb;exact⟨s1,s2,by rw [e1,e2]⟩
   ·rcases List.mem_append.mp hy with hy | hy
    ·exact zhL (.inr (r4 y hy))
    ·rw [qq.mp hy]
     exact zhL (.inl rfl)
   ·have:=zro (r:=r) (k:=tm a.1 b.1) (x:=(a.2,b.2))
    omega
  ·rintro ρ ⟨r,v5,v6,r1,r2,r4,r3,rfl⟩
   simp_arith;refine⟨r,_,_,_,_,r1,fun x hx y hy=>?_,?_,rfl⟩
   ·rcases List.mem_append.mp hx with hx | hx
    ·exact r2 x hx y hy
    ·rw [qq.mp hx]
     exact r4 y hy
   ·rw [Nat.add_mul,Nat.one_mul]
    exact r3
 ·rintro ρ ⟨r,v3,v4,v5,v6,r1,r2,r3,rfl⟩
  simp_arith;refine k r ⟨r1,fun a b ha hb=>?_,?_⟩
  ·obtain⟨va,ea⟩:=m.all a ha
   obtain⟨vb,eb⟩:=m.all b hb;have:=r2 (mx a ts,va) (zbk ea) (mx b ts,vb) (zbk eb);exact this
  ·have h2:p.length * p.length<=27 * 27:=Nat.mul_le_mul pn pn
   exact qy r3 (qy h2 (by decide))
end K58
open PySem L2
namespace K58
open PySem L2
def Md(n:Nat)(u:U):Prop:=∃ rs ps pl,u=nwO rs ps pl []/\rs.length<=n/\ps.length<=n/\pl.length<=n
theorem Md.up{n m:Nat}{u:U}(h:Md n u)(l:n<=m):Md m u:=by
 obtain⟨rs,ps,pl,e,h1,h2,h3⟩:=h;exact⟨rs,ps,pl,e,by omega,by omega,by omega⟩
theorem zeW{α:Type}{rs ps rs' ps':List D}{pl ml pl' ml':List (List K3×D)}{x y:α}:(if(nwO rs ps pl ml).own=true/\(nwO rs' ps' pl' ml').own=false then x else y)=y:=if_neg fun z=>by cases z.2
theorem rk1{u:U}{row:D}{r:En}:zhE (Ar.s 1,some u::some (.d row)::r)=nkO row:=rfl
theorem zpF{pl:List (List K3×D)}{key:List K3}{x:D}:zcI (zcJ pl key x) key=some x:=by
 unfold zcI zcJ;split
 ·rename_i h
  induction pl with
  | nil=>simp at h
  | cons t pl ih =>
   rw [List.map_cons,List.find?_cons]
   by_cases c:t.1=key
   ·rw [if_pos c,decide_eq_true c]
    rfl
   ·rw [if_neg c,decide_eq_false c]
    refine ih ?_;rw [List.any_cons,decide_eq_false c,Bool.false_or]at h;exact h
 ·rename_i h
  rw [List.find?_append];have e:pl.find? (fun kv=>decide (kv.1=key))=none:=by
   rw [List.find?_eq_none];intro t ht z;exact h (List.any_eq_true.mpr ⟨t,ht,z⟩)
  rw [e];simp
theorem zpG{pl:List (List K3×D)}{key:List K3}{x:D}:(zcJ pl key x).length<=pl.length+1:=by
 unfold zcJ;split
 ·rw [List.length_map]; omega
 ·simp
theorem zey{n:Nat}{u:U}{row:D}{Q:U×List U->Prop}(h:Md n u)(hn:n<=1000)(k:∀ u' x,Md (n+1) u'->Q (.d x,[u',.d row])):Wo (zN [u,.d row]) Q:=by
 obtain⟨rs,ps,pl,rfl,h1,h2,h3⟩:=h;simp_arith [zN,zbZ,zeW];exact k _ _ ⟨_,_,_,rfl,by simp; omega,by simp; omega,by omega⟩
theorem zgg{n:Nat}{u:U}{row:D}{key:List K3}{Q:U×List U->Prop}(hk:nkO row=some key)(h:Md n u)(hn:n<=1000)(k:∀ u' x,Md (n+2) u'->Q (.d x,[u',.d row])):Wo (zah [u,.d row]) Q:=by
 obtain⟨rs,ps,pl,rfl,h1,h2,h3⟩:=h;simp_arith [zah,zch,rk1,hk];cases e:zcI pl key with
 | some v =>
  simp_arith [Option.isSome_some,Bool.not_true,Bool.false_eq_true,rk1,hk,e,zeW];exact k _ _ ⟨_,_,_,rfl,by omega,by omega,by omega⟩
 | none =>
  simp_arith [Option.isSome_none,Bool.not_false];refine zey ⟨rs,ps,pl,rfl,h1,h2,h3⟩ hn fun u' x h'=>?_;obtain⟨rs',ps',pl',rfl,g1,g2,g3⟩:=h';simp_arith [rk1,hk,zpF,zeW];have:=zpG (pl:=pl') (key:=key) (x:=x);exact k _ _ ⟨_,_,_,rfl,by omega,by omega,by omega⟩
theorem zez{n:Nat}{u:U}{w:Str}{told:D}{a b c:Option U}{ds:List D}{Q:Fl->Prop}(h:Md n u)(hn:n+ds.length<=1000)(k:∀ u' x v,Md (n+ds.length) u'->Q (.nx [some u',a,b,c,some (.d x),v])){v:Option U} :
  Wo (zbt (zx 5) (zae 4 (ze0 "NewRows" 0 "add_new" zN (zf (zag (zf (mC (.str w)) (zf (zk 4) (zf (zk 5) zt)))) zt))) ds [some u,a,b,c,some (.d told),v]) Q:=by
 refine zdh (fun i ρ=>i<=ds.length/\∃ u' x v,Md (n+i) u'/\ρ=[some u',a,b,c,some (.d x),v]) ⟨by omega,u,told,v,h,rfl⟩ ?_ ?_
 ·rintro i d ρ hd ⟨hi,u',x,v,hu,rfl⟩
  have hi':=(qk.mp hd).1;obtain⟨rs,ps,pl,rfl,h1,h2,h3⟩:=hu;simp_arith;refine zey ⟨rs,ps,pl,rfl,h1,h2,h3⟩ (by omega) fun u' x h'=>?_;simp_arith;exact⟨by omega,_,_,_,h',rfl⟩
 ·rintro ρ ⟨_,u',x,v,hu,rfl⟩
  exact k _ _ _ hu
theorem zmy{n:Nat}{u:U}{xs:List (Bool×D)}{Q:U×List U->Prop}(h:Md n u)(hn:n<=900)(hl:xs.length<=4)(k:∀ u' x,Md (n+10) u'->Q (.d x,[u',.d (.list (xs.map fun t=>.tuple [.bool t.1,t.2]))])):Wo (zaF [u,.l (xs.map fun t=>.tuple [.bool t.1,t.2])]) Q:=by
 have hz:sizeLine=16777216:=sizeLine_eq;simp_arith [zaF,zb0];refine zfW (b:=fun t=>t.1) (e:=fun t=>t.2) (by omega) (fun t ht ys=>?_) ?_
 ·obtain⟨b,d⟩:=t
  cases b<;>simp_arith
 ·simp_arith
  refine zfW (b:=fun t=>!t.1) (e:=fun t=>t.2) (by omega) (fun t ht ys=>?_) ?_
  ·obtain⟨b,d⟩:=t
   cases b<;>simp_arith
  ·have l1:((xs.filter fun t=>t.1).map fun t=>t.2).length<=4:=by
    rw [List.length_map];exact qy (List.length_filter_le _ _) hl
   have l2:((xs.filter fun t=>!t.1).map fun t=>t.2).length<=4:=by
    rw [List.length_map];exact qy (List.length_filter_le _ _) hl
   generalize ((xs.filter fun t=>t.1).map fun t=>t.2)=as at l1;generalize ((xs.filter fun t=>!t.1).map fun t=>t.2)=bs at l2;have kn:nkO (PyData.tuple [.str "number",.tuple [.int 0,.int 1]])=some [.inl (.inr "number"),.inr [.inl (.inl 0),.inl (.inl 1)]]:=rfl;have fin:∀ {u':U} {m:Nat} {ds:List D} {y:D} {v:Option U},Md (n+m) u'->m<=6->Wo (zbt (zx 5) (zae 4 (ze0 "NewRows" 0 "add_new" zN (zf (zag (zf (mC (.str "less")) (zf (zk 4) (zf (zk 5) zt)))) zt))) bs [some u',some (.d (.list (xs.map fun t=>.tuple [.bool t.1,t.2]))),some (.l ds),some (.d (.list bs)),some (.d y),v])
     (Co (zfQ (zau (zk 4))) ⟨0⟩ (Co (zqS [0,1] [u,.l (xs.map fun t=>.tuple [.bool t.1,t.2])]) ⟨0⟩ Q)):=fun{u' m ds y v} hu hm=>by
    refine zez hu (by omega) fun u2 x v h2=>?_;obtain⟨r0,q0,l0,rfl,_⟩:=id h;obtain⟨r1,q1,l1,rfl,_⟩:=id h2;simp_arith [zeW];exact k _ _ (h2.up (by omega))
   cases as with
   | nil =>
    have ht:(U.l ([]:List D)).tru=some false:=rfl;obtain⟨r0,q0,l0,eu,g⟩:=id h;subst eu;simp_arith [ht];refine zgg kn h (by omega) fun u' x h'=>?_;have ec:zdA ([]:List D) (some 1) none=[]:=rfl;simp_arith;rw [ec];refine zez h' (by simp; omega) fun u2 x2 v2 h2=>?_;simp_arith;exact fin (m:=2) (h2.up (by simp)) (by omega)
   | cons a as =>
    have ht:(U.l (a::as)).tru=some true:=rfl;have ea:atI (a::as) 0=some a:=by
     unfold atI;rw [qu,zqT,bd];rfl
    rw [qu]at l1;obtain⟨r0,q0,l0,eu,g⟩:=id h;subst eu;simp_arith [ht,ea];have ec:zdA (a::as) (some 1) none=as:=(zfU (by omega)).trans rfl;rw [ec];refine zez h (by omega) fun u2 x2 v2 h2=>?_;simp_arith;exact fin (m:=as.length) h2 (by omega)
theorem zi1{n:Nat}{u:U}{i:Nat}{rows:List D}{Q:U×List U->Prop}(h:Md n u)(hn:n<=900)(hi:i < 2+rows.length)(k:∀ u' x,Md (n+2) u'->Q (.d x,[u',.d (.int (i:Int)),.l rows])):Wo (zb2 [u,.d (.int (i:Int)),.l rows]) Q:=by
 obtain⟨r0,q0,l0,eu,g⟩:=id h;subst eu;have k1:nkO (PyData.tuple [.str "number",.tuple [.int 1,.int 1]])=some [.inl (.inr "number"),.inr [.inl (.inl 1),.inl (.inl 1)]]:=rfl;have k2:nkO (PyData.tuple [.str "letter",.int 0])=some [.inl (.inr "letter"),.inl (.inl 0)]:=rfl;simp_arith [zb2,zeU];refine zdV (fun h0=>?_) fun h0=>?_
 ·simp_arith
  refine zgg k1 h (by omega) fun u' x h'=>?_;obtain⟨r1,q1,l1,rfl,_⟩:=id h';simp_arith [zeW];exact k _ _ h'
 ·simp_arith
  refine zdV (fun h1=>?_) fun h1=>?_
  ·simp_arith
   refine zgg k2 h (by omega) fun u' x h'=>?_;obtain⟨r1,q1,l1,rfl,_⟩:=id h';simp_arith [zeW];exact k _ _ h'
  ·have e:∃ x,atI rows ((i:Int) - 2)=some x:=by
    have hj:i - 2 < rows.length:=by simp at h0 h1; omega
    refine⟨rows[i - 2],?_⟩;simp at h0 h1;unfold atI ixN;rw [if_pos (by omega),if_pos (by omega),bd,show((i:Int) - 2).toNat=i - 2 by omega,qm hj]
   obtain⟨x,ex⟩:=e;simp_arith [ex,zeW];exact k _ _ (h.up (by omega))
theorem zeA{n:Nat}{u:U}{sg:List Int}{rows:List D}{Q:U×List U->Prop}(h:Md n u)(hn:n<=800)(hl:sg.length<=4)(hr:sg.length<=2+rows.length)(k:∀ u' x,Md (n+20) u'->Q (.d x,[u',.d (pwD sg),.l rows])):Wo (zbJ [u,.d (pwD sg),.l rows]) Q:=by
 obtain⟨r0,q0,l0,eu,g⟩:=id h;subst eu;unfold pwD;have hz:sizeLine=16777216:=sizeLine_eq;simp_arith [zbJ,zgT];refine zn6 (fun i ρ ys=>∃ (xs:List (Bool×D)) (u':U),i<=sg.length/\Md (n+2 * i) u'/\xs.length<=i/\ys=(xs.map fun t=>.tuple [.bool t.1,t.2])/\ρ=[none,none,some (.l rows),some u']) (by rw [zak,List.length_map]; omega) ?_ ⟨[],_,by omega,h,by simp,rfl,rfl⟩ ?_ ?_
 ·rintro i ρ ys ⟨xs,u',_,_,hx,rfl,_⟩
  rw [List.length_map];exact hx
 ·rintro i d ρ ys hd ⟨xs,u',hi,hu,hx,rfl,rfl⟩
  obtain⟨x,hx',rfl⟩:=zaK hd;rw [List.getElem?_map]at hx';obtain⟨y,hy,rfl⟩:=qr.mp hx';have hi':=(qk.mp hy).1;obtain⟨r1,q1,l1,eu,_⟩:=id hu;subst eu;simp_arith
  by_cases h0:y=0
  ·rw [decide_eq_true h0]
   simp_arith [Bool.not_true];exact⟨xs,_,hi',hu.up (by omega),by omega,rfl,rfl⟩
  ·rw [decide_eq_false h0]
   simp_arith [Bool.not_false];refine zi1 hu (by omega) (by omega) fun u' x h'=>?_;obtain⟨r2,q2,l2,rfl,_⟩:=id h';simp_arith;refine⟨xs++[(decide (0 < y),x)],_,hi',h'.up (by omega),by simp; omega,?_,rfl⟩;rw [List.map_append];rfl
 ·rintro ρ ys ⟨xs,u',_,hu,hx,rfl,rfl⟩
  obtain⟨r1,q1,l1,eu,_⟩:=id hu;subst eu;rw [zak,List.length_map]at hx hu;simp_arith;refine zmy hu (by omega) (by omega) fun u2 x h2=>?_;obtain⟨r2,q2,l2,rfl,_⟩:=id h2;simp_arith [zeW];exact k _ _ (h2.up (by omega))
theorem zbp{fs:List (List Int×List Int)}{sg:List Int}{Q:U×List U->Prop}(hf:fs.length<=2)(h1:∀ i e,fs[i]?=some e->e.1.length=2+i/\e.2.length=2+i)(hs:sg.length=2+fs.length)(k:∀ xs,Q (.d (.tuple xs),[.d (.list (fs.map c2)),.d (pwD sg)])):Wo (zaf [.l (fs.map c2),.d (pwD sg)]) Q:=by
 simp_arith [zaf,zb5];have m0:Md 0 (nwO [] [] [] []):=⟨[],[],[],rfl,by simp,by simp,by simp⟩;refine zdh (fun i ρ=>i<=fs.length/\∃ u rows v4 v5 v6,Md (50 * i) u/\List.length rows=i/\ρ=[some (.d (.list (fs.map c2))),some (.d (pwD sg)),some u,some (.l rows),v4,v5,v6]) ⟨by omega,_,[],_,_,_,m0,rfl,rfl⟩ ?_ ?_
 ·rintro i d ρ hd ⟨hi,u,rows,v4,v5,v6,hu,hr,rfl⟩
  rw [List.getElem?_map]at hd;obtain⟨e,he,rfl⟩:=qr.mp hd;obtain⟨l1,l2⟩:=h1 i e he;have hi':=(qk.mp he).1;obtain⟨r1,q1,p1,eu,_⟩:=id hu;subst eu;unfold c2;simp_arith;refine zeA hu (by omega) (by omega) (by omega) fun u2 x h2=>?_;obtain⟨r2,q2,p2,eu,_⟩:=id h2;subst eu;simp_arith;refine zeA h2 (by omega) (by omega) (by omega) fun u3 y h3=>?_;obtain⟨r3,q3,p3,eu,_⟩:=id h3;subst eu;simp_arith;refine zey h3 (by omega) fun u4 z h4=>?_;obtain⟨r4,q4,p4,eu,_⟩:=id h4;subst eu;simp_arith;exact⟨hi',_,rows++[z],_,_,_,h4.up (by omega),by simp [hr],rfl⟩
 ·rintro ρ ⟨hi,u,rows,v4,v5,v6,hu,hr,rfl⟩
  obtain⟨r1,q1,p1,eu,_⟩:=id hu;subst eu;rw [List.length_map]at hu hr hi;simp_arith;refine zeA hu (by omega) (by omega) (by omega) fun u2 x h2=>?_;obtain⟨r2,q2,p2,eu,_⟩:=id h2;subst eu;simp_arith;exact k _
end K58
open PySem L2
namespace K58
open PySem L2
def T2:List (List Int):=[[1,0,0,0,0],[0,1,0,0,0]]
theorem mx2{a b:Int}:mx [a,b] T2=[a,b,0,0,0]:=by
 simp [mx,pl,zs5,T2]
theorem sg2{s:List Int}(h:Sg 2 s):∃ a b,s=[a,b]/\(a=0\/a=1\/a=-1)/\(b=0\/b=1\/b=-1):=by
 obtain⟨a,b,rfl⟩:=zuB h.1;exact⟨a,b,rfl,h.2 a (by simp),h.2 b (by simp)⟩
theorem tm5{a0 a1 a2 a3 a4 b0 b1 b2 b3 b4:Int}:tm [a0,a1,a2,a3,a4] [b0,b1,b2,b3,b4]=[a0 * b0,a0 * b1+a1 * b0,a0 * b2+a1 * b1+a2 * b0,a0 * b3+a1 * b2+a2 * b1+a3 * b0,a0 * b4+a1 * b3+a2 * b2+a3 * b1+a4 * b0]:=by
 simp [tm,tmo,inn,stp,List.range,List.range.loop,List.replicate]
theorem sgm{x y:Int}(hx:x=0\/x=1\/x=-1)(hy:y=0\/y=1\/y=-1):x * y=0\/x * y=1\/x * y=-1:=by
 rcases hx with rfl | rfl | rfl<;>rcases hy with rfl | rfl | rfl<;>decide
theorem zgh{s1 s2:List Int}(h1:Sg 2 s1)(h2:Sg 2 s2):∃ x y z,tm (mx s1 T2) (mx s2 T2)=[x,y,z,0,0]/\(-1<=x/\x<=1)/\(-2<=y/\y<=2)/\-1<=z/\z<=1:=by
 obtain⟨a,b,rfl,ha,hb⟩:=sg2 h1;obtain⟨c,d,rfl,hc,hd⟩:=sg2 h2;rw [mx2,mx2,tm5];have e1:=sgm ha hc;have e2:=sgm ha hd;have e3:=sgm hb hc;have e4:=sgm hb hd;refine⟨a * c,a * d+b * c,b * d,?_,by omega,by omega,by omega⟩;simp
def T3(f:List Int):List (List Int):=T2++[f]
theorem zhM{f:List Int}(h:f.length=5):L5 (T3 f):=fun t ht=>by
 simp only [T3,T2,List.mem_append,qv,List.not_mem_nil,or_false]at ht;rcases ht with (rfl | rfl) | rfl
 ·rfl
 ·rfl
 ·exact h
theorem zhN:L5 T2:=fun t ht=>by
 simp only [T2,qv,List.not_mem_nil,or_false]at ht;rcases ht with rfl | rfl<;>rfl
theorem zrp:∀ t∈T2,BL 1000 t:=fun t ht x hx=>by
 simp only [T2,qv,List.not_mem_nil,or_false]at ht;rcases ht with rfl | rfl<;>(simp at hx; omega)
theorem zgi{s1 s2:List Int}(h1:Sg 2 s1)(h2:Sg 2 s2):(tm (mx s1 T2) (mx s2 T2)).length=5/\BL 1000 (tm (mx s1 T2) (mx s2 T2)):=by
 obtain⟨x,y,z,e,b1,b2,b3⟩:=zgh h1 h2;rw [e];refine⟨rfl,fun w hw=>?_⟩;simp only [qv,List.not_mem_nil,or_false]at hw;rcases hw with rfl | rfl | rfl | rfl | rfl<;>omega
theorem zwT{f:List Int}(h:BL 1000 f):∀ t∈T3 f,BL 1000 t:=fun t ht=>by
 rcases List.mem_append.mp ht with ht | ht
 ·exact zrp t ht
 ·rw [qq.mp ht]
  exact h
def Fst(f:List Int):Prop:=∃ s1 s2,Sg 2 s1/\Sg 2 s2/\f=tm (mx s1 T2) (mx s2 T2)
def W0(t:List Int):Prop:=∃ a,Sg 2 a/\t=mx a T2
def W1(t f:List Int):Prop:=∃ b,Sg 3 b/\t=mx b (T3 f)
def W2(t f:List Int):Prop:=∃ b u v,Sg 3 b/\Sg 3 u/\Sg 3 v/\pl (-1) t (mx b (T3 f))=tm (mx u (T3 f)) (mx v (T3 f))
def Way(t:List Int):Prop:=W0 t\/(∃ f,Fst f/\W1 t f)\/∃ f,Fst f/\W2 t f
theorem zjW{t f:List Int}{fac:List Int×List Int}{Q:U×List U->Prop}(h5:t.length=5)(hf:f.length=5)(fb:BL 1000 f)(h1:Sg 2 fac.1)(h2:Sg 2 fac.2)(k:∀ x,(x=PyData.none↔¬W2 t f)->Q (.d x,[.d (pwD t),.d (.list ((T3 f).map pwD)),.d (c2 fac)])):Wo (zcr [.d (pwD t),.l ((T3 f).map pwD),.d (c2 fac)]) Q:=by
 have el:U.l ((T3 f).map pwD)=lsT true (T3 f):=rfl;have el2:U.d (.list ((T3 f).map pwD))=lsT false (T3 f):=rfl;simp_arith [zcr,zgc];rw [el];refine zdr (zhM hf) (zwT fb) (by simp [T3,T2]) fun r hr=>?_;simp_arith;rw [el2];refine zfo (zhM hf) (by simp [T3,T2]) fun p m=>?_;simp_arith;unfold tmG;refine zan (fun bs cs ρ=>(∀ e∈bs,look r (pl (-1) t e.1)=none)/\∃ v4 v5 v6,ρ=[some (.d (pwD t)),some (.d (.list ((T3 f).map pwD))),some (.d (c2 fac)),some (.t (kvG c2 r)),v4,v5,v6]) ⟨fun e he=>(by cases he),_,_,_,rfl⟩ ?_ ?_
 ·rintro bs e cs ρ ep ⟨hb,v4,v5,v6,rfl⟩
  have he:e∈p:=by rw [ep]; simp
  obtain⟨se,ee⟩:=m.sg e he;have e5:e.1.length=5:=by rw [ee]; exact mx5 (zhM hf)
  have se3:e.2.length=3:=se.1;simp_arith;refine zdb (by omega) h5 (by omega) ?_;cases lk:look r (pl (-1) t e.1)with
  | some v =>
   obtain⟨s1,s2,ev⟩:=hr.sg _ (zbk lk);have ec:=zva (l:=e.2) (s:=1) (by omega);simp_arith [lk,Option.map_some,Option.isSome_some,ec];have em:U.l [c2 fac,c2 v]=.l ([fac,v].map c2):=rfl;rw [em];refine zbp (by simp) ?_ (by simp [se3]) fun xs=>?_
   ·intro i x hx
    rcases i with _ | _ | i
    ·cases hx
     exact⟨h1.1,h2.1⟩
    ·cases hx
     exact⟨s1.1,s2.1⟩
    ·simp at hx
   ·have eo:(lsT true (T3 f)).own=true:=rfl
    simp_arith [eo];exact k _ ⟨fun z=>(by cases z),fun z=>(z ⟨e.2,v.1,v.2,se,s1,s2,by rw [<-ee]; exact ev⟩).elim⟩
  | none =>
   simp_arith [lk,Option.map_none,Option.isSome_none,Bool.false_eq_true];refine⟨fun x hx=>?_,_,_,_,rfl⟩;rcases List.mem_append.mp hx with hx | hx
   ·exact hb x hx
   ·rw [qq.mp hx]
    exact lk
 ·rintro ρ ⟨hb,v4,v5,v6,rfl⟩
  simp_arith;refine k _ ⟨fun _=>?_,fun _=>rfl⟩;rintro⟨b,u,v,sb,su,sv,e⟩;obtain⟨vb,hv⟩:=m.all b sb;have h1:=hb _ (zbk hv);obtain⟨w,hw⟩:=hr.all u v su sv;dsimp only at h1;rw [e,hw]at h1;cases h1
abbrev Tr:=Int×Int×Int
def trD(t:Tr):D:=.tuple [.tuple [.int t.1],.tuple [.int t.2.1,.int t.2.2]]
def wn:List Tr->List Int->Option (List Int)
 | [],l=>some l
 | t::r,l=>if t.1>=5\/t.2.2≠1 then none else wn r (l.set t.1.toNat t.2.1)
theorem ze5{ts:List Tr}{Q:U×List U->Prop}(h0:∀ t∈ts,0<=t.1)(k1:wn ts zs5=none->Q (.d .none,[.d (.tuple (ts.map trD))]))(k2:∀ l,l.length=5->wn ts zs5=some l->Q (.d (pwD l),[.d (.tuple (ts.map trD))])):Wo (za7 [.d (.tuple (ts.map trD))]) Q:=by
 simp_arith [za7,zcx,rp5];refine zan (fun bs cs ρ=>∃ l v2 v3,l.length=5/\wn ts zs5=wn cs l/\ρ=[some (.d (.tuple (ts.map trD))),some (.l (l.map .int)),v2,v3]) ⟨zs5,_,_,rfl,rfl,rfl⟩ ?_ ?_
 ·rintro bs t cs ρ et ⟨l,v2,v3,hl,hw,rfl⟩
  have ht:=h0 t (by rw [et]; simp);have ee:trD t=.tuple [.tuple [.int t.1],.tuple [.int t.2.1,.int t.2.2]]:=rfl;simp_arith [ee];refine zdV (fun c1=>?_) fun c1=>?_
  ·simp_arith
   refine k1 ?_;rw [hw];unfold wn;rw [if_pos (.inl c1)]
  ·simp_arith
   refine zdV (fun c2=>?_) fun c2=>?_
   ·simp_arith
    refine k1 ?_;rw [hw];unfold wn;rw [if_pos (.inr (by simpa using c2))]
   ·have hi:t.1.toNat < l.length:=by omega
    have en:t.1=((t.1.toNat:Nat):Int):=by omega
    have e3:=zrm (l:=l) hi;rw [<-en]at e3;simp_arith [e3,zlB];refine⟨l.set t.1.toNat t.2.1,_,_,?_,?_,rfl⟩
    ·rw [List.length_set,hl]
    ·rw [hw]
     show(if _ then _ else _)=_;rw [if_neg (by simp at c2; omega)]
 ·rintro ρ ⟨l,v2,v3,hl,hw,rfl⟩
  simp_arith;exact k2 l hl hw
theorem zgj{ts:List Tr}{Q:U×List U->Prop}(h0:∀ t∈ts,0<=t.1)(k1:wn ts zs5=none->Q (.d .none,[.d (.tuple (ts.map trD))]))(k2:∀ l x,l.length=5->wn ts zs5=some l->(x=PyData.none↔¬Way l)->Q (.d x,[.d (.tuple (ts.map trD))])):Wo (zbf [.d (.tuple (ts.map trD))]) Q:=by
 simp_arith [zbf,zge];refine ze5 h0 (fun e=>?_) fun l hl e=>?_
 ·have iN:zdD false (.d .none) (.d .none)=some (.d (.bool true)):=rfl
  simp_arith [iN];exact k1 e
 ·have el:U.l [PyData.tuple [.int 1,.int 0,.int 0,.int 0,.int 0],.tuple [.int 0,.int 1,.int 0,.int 0,.int 0]]=lsT true T2:=rfl
  have el2:U.d (.list (T2.map pwD))=lsT false T2:=rfl;have ep:pwD l=.tuple (l.map .int):=rfl;have iN:zdD false (.d (pwD l)) (.d .none)=some (.d (.bool false)):=rfl;simp_arith [iN];rw [el];refine zfo zhN (by decide) fun p m=>?_;cases lk:look p l with
  | some v =>
   have hv:=m.sg _ (zbk lk);have v2:v.length=2:=hv.1.1;simp_arith [lk,Option.map_some,Option.isSome_some];have em:U.l []=.l (([]:List (List Int×List Int)).map c2):=rfl;rw [em];refine zbp (by simp) (fun i e he=>by simp at he) v2 fun xs=>?_;simp_arith;exact k2 l _ hl e ⟨fun z=>(by cases z),fun z=>(z (.inl ⟨v,hv.1,hv.2⟩)).elim⟩
  | none =>
   have n0:¬W0 l:=by
    rintro⟨a,sa,ea⟩;obtain⟨v,hv⟩:=m.all a sa;rw [<-ea,lk]at hv;cases hv
   simp_arith [lk,Option.map_none,Option.isSome_none,Bool.false_eq_true];rw [el2];refine zdr zhN zrp (by decide) fun r hr=>?_;simp_arith;unfold tmG;have fst:∀ e∈r,Fst e.1/\e.1.length=5/\BL 1000 e.1/\Sg 2 e.2.1/\Sg 2 e.2.2:=fun e he=>by
    obtain⟨s1,s2,ee⟩:=hr.sg e he;rw [ee];obtain⟨h1,h2⟩:=zgi s1 s2;exact⟨⟨_,_,s1,s2,rfl⟩,h1,h2,s1,s2⟩
   have fcat:∀ {f:List Int},zgR (.d (.list (T2.map pwD))) (.l [pwD f])=some (.l ((T3 f).map pwD)):=fun{f}=>by
    show(if(T2.map pwD).length+[pwD f].length<=sizeLine then some (U.l (T2.map pwD++[pwD f]))else none)=_;rw [if_pos (by rw [sizeLine_eq]; show 2+1<=16777216; omega)];rfl
   refine zan (fun bs cs ρ=>(∀ e∈bs,¬W1 l e.1)/\∃ v3 v5 v6 v7,ρ=[some (.d (.tuple (ts.map trD))),some (.d (pwD l)),some (.d (.list (T2.map pwD))),v3,some (.d (.dict (dcG c2 r))),v5,v6,v7]) ⟨fun e he=>(by cases he),_,_,_,_,rfl⟩ ?_ ?_
   ·rintro bs a cs ρ ep ⟨hb,v3,v5,v6,v7,rfl⟩
    have ha:a∈r:=by rw [ep]; simp
    obtain⟨f1,f5,fb,s1,s2⟩:=fst a ha;simp_arith [fcat];have el3:U.l ((T3 a.1).map pwD)=lsT true (T3 a.1):=rfl;rw [el3];refine zfo (zhM f5) (by simp [T3,T2]) fun q mq=>?_;cases lq:look q l with
    | some v =>
     have hv:=mq.sg _ (zbk lq);have v3:v.length=3:=hv.1.1;simp_arith [lq,Option.map_some,Option.isSome_some];have em:U.l [c2 a.2]=.l ([a.2].map c2):=rfl;rw [em];refine zbp (by simp) ?_ (by simp [v3]) fun xs=>?_
     ·intro i x hx
      rcases i with _ | i
      ·cases hx
       exact⟨s1.1,s2.1⟩
      ·simp at hx
     ·simp_arith
      exact k2 l _ hl e ⟨fun z=>(by cases z),fun z=>(z (.inr (.inl ⟨a.1,f1,v,hv.1,hv.2⟩))).elim⟩
    | none =>
     simp_arith [lq,Option.map_none,Option.isSome_none,Bool.false_eq_true];refine⟨fun x hx=>?_,_,_,_,_,rfl⟩;rcases List.mem_append.mp hx with hx | hx
     ·exact hb x hx
     ·rw [qq.mp hx]
      rintro⟨b,sb,eb⟩;obtain⟨v,hv⟩:=mq.all b sb;rw [<-eb,lq]at hv;cases hv
   ·rintro ρ ⟨hb1,v3,v5,v6,v7,rfl⟩
    simp_arith;unfold tmG;refine zan (fun bs cs ρ=>(∀ e∈bs,¬W2 l e.1)/\∃ v3 v5 v6 v7,ρ=[some (.d (.tuple (ts.map trD))),some (.d (pwD l)),some (.d (.list (T2.map pwD))),v3,some (.d (.dict (dcG c2 r))),v5,v6,v7]) ⟨fun e he=>(by cases he),_,_,_,_,rfl⟩ ?_ ?_
    ·rintro bs a cs ρ ep ⟨hb,v3,v5,v6,v7,rfl⟩
     have ha:a∈r:=by rw [ep]; simp
     obtain⟨f1,f5,fb,s1,s2⟩:=fst a ha;simp_arith [fcat];refine zjW hl f5 fb s1 s2 fun x hx=>?_
     by_cases xn:x=.none
     ·subst xn
      have iN2:zdD true (.d .none) (.d .none)=some (.d (.bool false)):=rfl;simp_arith [iN2];refine⟨fun y hy=>?_,_,_,_,_,rfl⟩;rcases List.mem_append.mp hy with hy | hy
      ·exact hb y hy
      ·rw [qq.mp hy]
       exact hx.mp rfl
     ·have iN2:zdD true (.d x) (.d .none)=some (.d (.bool true)):=by
       cases x<;>first | rfl | exact absurd rfl xn
      simp_arith [iN2];refine k2 l _ hl e ⟨fun z=>(by cases z),fun z=>(z (.inr (.inr ⟨a.1,f1,?_⟩))).elim⟩;exact Classical.byContradiction fun z=>xn (hx.mpr z)
    ·rintro ρ ⟨hb2,v3,v5,v6,v7,rfl⟩
     simp_arith;refine k2 l _ hl e ⟨fun _=>?_,fun _=>rfl⟩;have un:∀ {f},Fst f->∃ e∈r,e.1=f:=fun{f} hf=>by
      obtain⟨s1,s2,h1,h2,rfl⟩:=hf;obtain⟨v,hv⟩:=hr.all s1 s2 h1 h2;exact⟨_,zbk hv,rfl⟩
     rintro(h | ⟨f,hf,h⟩ | ⟨f,hf,h⟩)
     ·exact n0 h
     ·obtain⟨e,he,rfl⟩:=un hf
      exact hb1 e he h
     ·obtain⟨e,he,rfl⟩:=un hf
      exact hb2 e he h
end K58
open PySem L2
namespace K58
open PySem L2
def mxL(sg:List Int)(ts:List (List Int))(k:Nat):Int:=((sg.zip ts).map fun p=>p.1 * p.2.getD k 0).sum
def mxA(sg:List Int)(ts:List (List Int)):List Int:=(List.range 5).map (mxL sg ts)
theorem zsI{s:Int}:∀ {a b:List Int} {k:Nat},a.length=b.length->(pl s a b).getD k 0=a.getD k 0+s * b.getD k 0
 | [],[],k,_=>by simp [pl]
 | x::a,y::b,0,_=>by simp [pl]
 | x::a,y::b,k+1,h=>by
  have:=zsI (s:=s) (a:=a) (b:=b) (k:=k) (by simpa using h);simpa [pl] using this
 | [],y::b,_,h=>by simp at h
 | x::a,[],_,h=>by simp at h
theorem zsJ{k:Nat}:∀ {ps:List (Int×List Int)} {acc:List Int},acc.length=5->(∀ p∈ps,p.2.length=5)->(ps.foldl (fun acc p=>pl p.1 acc p.2) acc).getD k 0=acc.getD k 0+(ps.map fun p=>p.1 * p.2.getD k 0).sum
 | [],acc,_,_=>by simp
 | p::ps,acc,h,hp=>by
  have h5:=hp p qp;rw [List.foldl_cons,zsJ (by rw [zpy (by omega)]; exact h) fun q hq=>hp q (qo _ hq),zsI (by omega),List.map_cons,List.sum_cons];omega
theorem zvb{sg:List Int}{ts:List (List Int)}(h:L5 ts):mxA sg ts=mx sg ts:=by
 have l5:=mx5 (sg:=sg) h;have at5:∀ k,(mx sg ts).getD k 0=mxL sg ts k:=fun k=>by
  unfold mx mxL;rw [zsJ rfl fun p hp=>h _ (List.of_mem_zip hp).2];have:zs5.getD k 0=0:=by
   rcases k with _ | _ | _ | _ | _ | k<;>rfl
  omega
 unfold mxA;obtain⟨a,b,c,d,e,hx⟩:=zdI l5;have h0:=at5 0;have h1:=at5 1;have h2:=at5 2;have h3:=at5 3;have h4:=at5 4;rw [hx]at h0 h1 h2 h3 h4 ⊢;simp only [List.getD_cons_zero,List.getD_cons_succ]at h0 h1 h2 h3 h4;rw [show List.range 5=[0,1,2,3,4] from rfl];simp only [List.map_cons,List.map_nil];rw [<-h0,<-h1,<-h2,<-h3,<-h4]
def lsI(o:Bool)(l:List Int):U:=if o=true then .l (l.map .int)else .d (.tuple (l.map .int))
def lsL(ts:List (List Int)):List D:=ts.map fun t=>.list (t.map .int)
def lsO(o:Bool)(ts:List (List Int)):U:=if o=true then .l (lsL ts)else .d (.list (lsL ts))
theorem zdj{o o2:Bool}{sg:List Int}{ts:List (List Int)}{Q:U×List U->Prop}(h5:L5 ts)(hl:sg.length=ts.length)(hn:ts.length<=100)(hs:∀ s∈sg,-1<=s/\s<=1)(q:Q (.l ((mx sg ts).map .int),[lsI o sg,lsO o2 ts])):Wo (zaP [lsI o sg,lsO o2 ts]) Q:=by
 have e1:sqN (lsI o sg)=some (sg.map .int):=by cases o<;>rfl
 have e2:lsN (lsO o2 ts)=some (lsL ts):=by cases o2<;>rfl
 have e3:sg.length=(lsL ts).length:=by rw [lsL,List.length_map,hl]
 have e4:zeZ (sg.map PyData.int) (lsL ts)=(sg.zip ts).map fun t=>.tuple [.int t.1,.list (t.2.map .int)]:=zd0 ..;have hz:sizeLine=16777216:=sizeLine_eq;simp_arith [zaP,zeR];refine zkS (fun i ρ ys=>ρ=[none,some (lsO o2 ts),some (lsI o sg)]/\ys=(List.range i).map fun k=>.int (mxL sg ts k)) (by omega) ⟨rfl,rfl⟩ ?_ ?_ ?_
 ·rintro i ρ ys ⟨rfl,rfl⟩
  simp
 ·rintro i ρ ys hi ⟨rfl,rfl⟩
  simp_arith [e1,e2];rw [if_pos e3,e4];simp_arith;refine zfZ (e:=fun p=>.int (p.1 * p.2.getD i 0)) (by rw [List.length_zip]; omega) (fun p hp ys=>?_) ?_
  ·have b1:=hs _ (List.of_mem_zip hp).1
   have b2:=h5 _ (List.of_mem_zip hp).2;have e5:=zjV (l:=p.2) (i:=i) (by omega);simp_arith [Int.zero_add,e5]
  ·have e6:((sg.zip ts).map fun p=>PyData.int (p.1 * p.2.getD i 0))=(((sg.zip ts).map fun p=>p.1 * p.2.getD i 0)).map .int:=by
    rw [List.map_map];rfl
   rw [e6];have e7:=znN (ks:=(sg.zip ts).map fun p=>p.1 * p.2.getD i 0);simp_arith [e7];rw [List.range_succ,List.map_append];rfl
 ·rintro ρ ys ⟨rfl,rfl⟩
  simp_arith [zgW];have e8:((List.range 5).map fun k=>PyData.int (mxL sg ts k))=(mxA sg ts).map .int:=by
   unfold mxA;rw [List.map_map];rfl
  rw [e8,zvb h5];exact q
theorem atK{xs:List D}{r:Int}{d:D}{i:Nat}(hr:r=(i:Int))(h:xs[i]?=some d):atI xs r=some d:=by
 have hi:=(qk.mp h).1;subst hr;unfold atI ixN;rw [if_pos (by omega),if_pos (by omega),bd,Int.toNat_natCast,h]
theorem pk4{r:Int}(h0:0<=r)(h:r < 4):∃ s:Int,(s=0\/s=1\/s=-1)/\atI [PyData.int 0,.int 1,.int 1,.int (-1)] r=some (.int s):=by
 rcases(show r=0\/r=1\/r=2\/r=3 by omega)with e | e | e | e
 ·exact⟨0,by simp,atK (i:=0) e rfl⟩
 ·exact⟨1,by simp,atK (i:=1) e rfl⟩
 ·exact⟨1,by simp,atK (i:=2) e rfl⟩
 ·exact⟨-1,by simp,atK (i:=3) e rfl⟩
theorem zdc{x y:Int}{n:Nat}{Q:U×List U->Prop}(hn:n<=100)(k:∀ sg x' y',Sg n sg->Q (.l (sg.map .int),[bx x' y',.d (.int (n:Int))])):Wo (zaz [bx x y,.d (.int (n:Int))]) Q:=by
 have hz:sizeLine=16777216:=sizeLine_eq;simp_arith [zaz,zdo];refine zkS (fun i ρ ys=>∃ sg x' y',Sg i sg/\ρ=[none,some (bx x' y')]/\ys=sg.map .int) (by omega) ⟨[],x,y,⟨rfl,fun s hs=>(by cases hs)⟩,rfl,rfl⟩ ?_ ?_ ?_
 ·rintro i ρ ys ⟨sg,x',y',hs,rfl,rfl⟩
  rw [List.length_map,hs.1];exact qe _
 ·rintro i ρ ys hi ⟨sg,x',y',hs,rfl,rfl⟩
  simp_arith;refine zbE (by omega) (by omega) fun r x2 y2 h0 h4=>?_;obtain⟨s,h1,h2⟩:=pk4 h0 h4;simp_arith [h2];refine⟨sg++[s],_,_,⟨by simp [hs.1],fun z hm=>?_⟩,rfl,by simp⟩;rcases List.mem_append.mp hm with hm | hm
  ·exact hs.2 z hm
  ·rw [qq.mp hm]
   exact h1
 ·rintro ρ ys ⟨sg,x',y',hs,rfl,rfl⟩
  rw [Int.toNat_natCast]at hs;simp_arith;exact k sg _ _ hs
theorem zhO{a b:List Int}:(tm a b).length=5:=zfn 5
theorem zrq{n:Nat}{sg:List Int}(h:Sg n sg):∀ s∈sg,-1<=s/\s<=1:=fun s hs=>by
 have:=h.2 s hs;omega
theorem zi2{x y:Int}{Q:U×List U->Prop}(k:∀ (l:List Int) (x' y':Int),l.length=5->Q (.l (l.map .int),[bx x' y',.d (.int 2)])):Wo (zaG [bx x y,.d (.int 2)]) Q:=by
 have e0:U.l [PyData.list [.int 1,.int 0,.int 0,.int 0,.int 0],.list [.int 0,.int 1,.int 0,.int 0,.int 0]]=.l (lsL T2):=rfl;have el:∀ {ts},lsO true ts=.l (lsL ts):=fun{ts}=>rfl;have ll:∀ {ts:List (List Int)},(lsL ts).length=ts.length:=fun{ts}=>by rw [lsL,List.length_map]
 simp_arith [zaG,zb3];rw [e0];refine zgJ (fun i ρ=>i<=2/\∃ (ts:List (List Int)) (x' y':Int) (v3 v4:Option U),L5 ts/\ts.length=2+i/\(i=0->ts=T2)/\(i=1->∀ t∈ts,BL 1000 t)/\ρ=[some (bx x' y'),some (.d (.int 2)),some (.l (lsL ts)),v3,v4]) ⟨by omega,T2,x,y,_,_,zhN,rfl,fun _=>rfl,fun z=>(by cases z),rfl⟩ ?_ ?_
 ·rintro i ρ hi ⟨_,ts,x',y',v3,v4,h5,hl,h0,h1,rfl⟩
  have hi2:i < 2:=hi;have hb:∀ t∈ts,BL 1000 t:=by
   rcases(show i=0\/i=1 by omega)with z | z
   ·rw [h0 z]
    exact zrp
   ·exact h1 z
  simp_arith;refine zdc (by rw [ll]; omega) fun s1 x1 y1 g1=>?_;rw [ll]at g1;simp_arith;refine zdj (o:=true) (o2:=true) h5 g1.1 (by omega) (zrq g1) ?_;simp_arith [el];refine zdc (by rw [ll]; omega) fun s2 x2 y2 g2=>?_;rw [ll]at g2;simp_arith;refine zdj (o:=true) (o2:=true) h5 g2.1 (by omega) (zrq g2) ?_;have sm:Sm (mx s1 ts):=fun z hz=>by
   have:=zlE (by omega) g1 hb z hz;rw [hl]at this;omega
  simp_arith [el];refine zbP (o:=true) (mx5 h5) (mx5 h5) sm ?_;have el2:lsB true (mx s1 ts)=.l ((mx s1 ts).map .int):=rfl;have hz:(lsL ts).length < 16777216:=by
   rw [ll];omega
  simp_arith [el,el2,hz];have et:lsL ts++[PyData.list ((tm (mx s1 ts) (mx s2 ts)).map .int)]=lsL (ts++[tm (mx s1 ts) (mx s2 ts)]):=by
   unfold lsL;rw [List.map_append];rfl
  rw [et];refine⟨by omega,ts++[tm (mx s1 ts) (mx s2 ts)],_,_,_,_,fun t ht=>?_,by simp; omega,fun z=>z.elim,fun z t ht=>?_,rfl⟩
  ·rcases List.mem_append.mp ht with ht | ht
   ·exact h5 t ht
   ·rw [qq.mp ht]
    exact zhO
  ·have z0:i=0:=by omega
   rcases List.mem_append.mp ht with ht | ht
   ·exact hb t ht
   ·rw [qq.mp ht]
    have e2:=h0 z0;subst e2;exact(zgi g1 g2).2
 ·rintro ρ ⟨_,ts,x',y',v3,v4,h5,hl,h0,h1,rfl⟩
  have hl4:ts.length=4:=hl;simp_arith;refine zdc (by rw [ll]; omega) fun s1 x1 y1 g1=>?_;rw [ll]at g1;simp_arith;refine zdj (o:=true) (o2:=true) h5 g1.1 (by omega) (zrq g1) ?_;simp_arith;exact k _ _ _ (mx5 h5)
end K58
open PySem L2
namespace K58
open PySem L2
def nb(l:List Int):List (Nat×Int):=[(0,l.getD 0 0),(1,l.getD 1 0),(2,l.getD 2 0),(3,l.getD 3 0),(4,l.getD 4 0)]
def trs(l:List Int):List Tr:=((nb l).filter fun p=>!decide (p.2=0)).map fun p=>((p.1:Int),p.2,1)
theorem zwU{l:List Int}(h:l.length=5):za1 0 (l.map PyData.int)=(nb l).map fun p=>.tuple [.int (p.1:Int),.int p.2]:=by
 obtain⟨a,b,c,d,e,rfl⟩:=zdI h;rfl
theorem zmz{l:List Int}{Q:U×List U->Prop}(h:l.length=5)(q:Q (.d (.tuple ((trs l).map trD)),[.d (.list (l.map .int))])):Wo (za9 [.l (l.map .int)]) Q:=by
 have hz:sizeLine=16777216:=sizeLine_eq;simp_arith [za9,zcB];rw [zwU h];refine zfW (b:=fun p=>!decide (p.2=0)) (e:=fun p=>trD ((p.1:Int),p.2,1)) (by show 5<=sizeLine; omega) (fun p hp ys=>?_) ?_
 ·by_cases c:p.2=0
  ·simp_arith [c,decide_true,Bool.not_true,Bool.false_eq_true]
  ·simp_arith [c,decide_false,Bool.not_false]
   rfl
 ·simp_arith
  have e:((nb l).filter fun p=>!decide (p.2=0)).map (fun p=>trD ((p.1:Int),p.2,1))=(trs l).map trD:=by
   unfold trs;rw [List.map_map];rfl
  rw [e];exact q
theorem zgk{n:Int}{k:Nat}{r:List Tr}{l:List Int}(hk:k < 5)(hl:l[k]?=some 0):wn ((if n=0 then []else [((k:Int),n,1)])++r) l=wn r (l.set k n):=by
 by_cases c:n=0
 ·rw [if_pos c,List.nil_append,c]
  congr 1;obtain⟨h1,h2⟩:=qk.mp hl;rw [<-h2,List.set_getElem_self]
 ·rw [if_neg c,List.cons_append,List.nil_append]
  show(if _ then _ else _)=_;rw [if_neg (by simp; omega)];rfl
theorem zpH{l:List Int}(h:l.length=5):wn (trs l) zs5=some l:=by
 obtain⟨a,b,c,d,e,rfl⟩:=zdI h;have step:∀ (p:Nat×Int) (as:List (Nat×Int)),((p::as).filter fun p=>!decide (p.2=0)).map (fun p=>((p.1:Int),p.2,(1:Int)))=(if p.2=0 then []else [((p.1:Int),p.2,(1:Int))])++(as.filter fun p=>!decide (p.2=0)).map fun p=>((p.1:Int),p.2,(1:Int)):=fun p as=>by
  by_cases z:p.2=0
  ·rw [if_pos z,List.filter_cons_of_neg (by simp [z])]
   rfl
  ·rw [if_neg z,List.filter_cons_of_pos (by simp [z])]
   rfl
 unfold trs nb;rw [step,zgk (by simp) rfl,step,zgk (by simp) rfl,step,zgk (by simp) rfl,step,zgk (by simp) rfl,step,zgk (by simp) rfl];rfl
theorem zvc{l:List Int}:∀ t∈trs l,0<=t.1:=fun t ht=>by
 obtain⟨p,_,rfl⟩:=List.mem_map.mp ht;exact Int.natCast_nonneg _
def isM(l:List Int):Prop:=∃ a b,(a=0\/a=1\/a=-1)/\(b=0\/b=1\/b=-1)/\l=[a,b,0,0,0]
theorem in3{x:Int}:∃ b:Bool,(b=true↔x=0\/x=1\/x=-1)/\fIn false (.d (.int x)) (.d (.tuple [.int (-1),.int 0,.int 1]))=some (.d (.bool b)):=by
 refine⟨inV (.int x) [.int (-1),.int 0,.int 1],?_,rfl⟩;simp [inV,eqV];omega
theorem rp3:zgs (.l [.int 0]) (.d (.int 3))=some (.l [.int 0,.int 0,.int 0]):=by
 have hz:sizeLine=16777216:=sizeLine_eq;have c:-1000000 < (3:Int)/\(3:Int) < 1000000/\[PyData.int 0].length * (3:Int).toNat<=sizeLine:=⟨by omega,by omega,by
  rw [hz];decide⟩
 unfold zgs;dsimp only;rw [if_pos c];rfl
theorem eq3{a b c:Int}:∃ r:Bool,(r=true↔a=0/\b=0/\c=0)/\zim false (.l [.int a,.int b,.int c]) (.l [.int 0,.int 0,.int 0])=some (.d (.bool r)):=by
 have sh:∀ a b c:Int,SeqAt.shaped (PyData.list [.int a,.int b,.int c])=true:=fun a b c=>by
  unfold SeqAt.shaped;simp [PyData.canLay0,PyData.canLayAll0,PyData.depth,PyData.depthAll]
 refine⟨PyData.eqv (.list [.int a,.int b,.int c]) (.list [.int 0,.int 0,.int 0]),?_,?_⟩
 ·simp [PyData.eqv,PyData.eqvAll]
 ·show(some (PyData.list [.int a,.int b,.int c])).bind _=_
  rw [bd];show(some (PyData.list [.int 0,.int 0,.int 0])).bind _=_;rw [bd,if_pos ⟨sh _ _ _,sh _ _ _⟩];rfl
theorem zi3{o:Bool}{l:List Int}{Q:U×List U->Prop}(h:l.length=5)(k:∀ b:Bool,(b=true↔isM l)->Q (.d (.bool b),[lsB o l])):Wo (zaQ [lsB o l]) Q:=by
 have e0:zaS (lsB o l) (.d (.int 0))=some (.d (.int (l.getD 0 0))):=zpB (o:=o) (l:=l) (i:=0) (by omega);have e1:zaS (lsB o l) (.d (.int 1))=some (.d (.int (l.getD 1 0))):=zpB (o:=o) (l:=l) (i:=1) (by omega);have e2:zhs (lsB o l) (some 2) none=some (.l ((l.drop 2).map .int)):=by
  have z:(l.map PyData.int).drop 2=zdA (l.map PyData.int) (some 2) none:=(zfU (xs:=l.map PyData.int) (k:=2) (by omega)).symm;rw [List.map_drop,z];cases o<;>rfl
 obtain⟨b0,h0,f0⟩:=in3 (x:=l.getD 0 0);obtain⟨b1,h1,f1⟩:=in3 (x:=l.getD 1 0);obtain⟨b2,h2,f2⟩:=eq3 (a:=l.getD 2 0) (b:=l.getD 3 0) (c:=l.getD 4 0);have e3:(l.drop 2).map PyData.int=[.int (l.getD 2 0),.int (l.getD 3 0),.int (l.getD 4 0)]:=by
  obtain⟨a,b,c,d,e,rfl⟩:=zdI h;rfl
 have iff:isM l↔(b0=true/\b1=true/\b2=true):=by
  rw [h0,h1,h2];obtain⟨a,b,c,d,e,rfl⟩:=zdI h;simp only [List.getD_cons_zero,List.getD_cons_succ];constructor
  ·rintro⟨x,y,hx,hy,e⟩
   simp only [List.cons.injEq,and_true]at e;obtain⟨rfl,rfl,rfl,rfl,rfl⟩:=e;exact⟨hx,hy,rfl,rfl,rfl⟩
  ·rintro⟨hx,hy,rfl,rfl,rfl⟩
   exact⟨a,b,hx,hy,rfl⟩
 simp_arith [zaQ,zc6,e0,f0];cases b0
 ·simp_arith [Bool.false_eq_true,zgW]
  exact k false (by rw [iff]; simp)
 ·simp_arith [e1,f1]
  cases b1
  ·simp_arith [Bool.false_eq_true,zgW]
   exact k false (by rw [iff]; simp)
  ·simp_arith [e2,e3,rp3,f2,zgW]
   exact k b2 (by rw [iff]; simp)
end K58
open PySem L2
namespace K58
open PySem L2
def Hf(sg:List Int):Prop:=(sg.reverse.filter fun s=>!decide (s=0)).head?=some 1
structure HV (ts:List (List Int)) (hs:List (List Int)):Prop where
 sg:∀ h∈hs,∃ s,Sg ts.length s/\Hf s/\h=mx s ts
 all:∀ s,Sg ts.length s->Hf s->mx s ts∈hs
 len:hs.length<=1000
def ss3:List Int:=[-1,0,1]
def ex3(rs:List (List Int)):List (List Int):=rs.flatMap fun r=>ss3.map fun s=>r++[s]
theorem zhP:∀ rs:List (List Int),(ex3 rs).length=3 * rs.length
 | []=>rfl
 | r::rs=>by
  have:=zhP rs;unfold ex3 at this ⊢;rw [List.flatMap_cons,qt,this,qu];simp [ss3];omega
theorem zrr{x:Int}{F:List Int}(h:∀ y∈x::F,y=0\/y=1\/y=-1)(hl:F.length<=2):zim true (.l (PyData.int x::F.map fun s=>.int s)) (.l [])=some (.d (.bool true)):=by
 have n1:Nic 1 (3 * (2+2)+3) (.list (PyData.int x::F.map fun s=>.int s)):=ziD (k:=0) (M:=2) (fun d hd=>by
  have e:(PyData.int x::F.map fun s=>.int s)=(x::F).map fun s=>.int s:=rfl;rw [e]at hd;obtain⟨y,hy,rfl⟩:=List.mem_map.mp hd;exact zq0 (n:=1) (by rcases h y hy with rfl | rfl | rfl<;>decide)) (by simp; omega)
 have n2:Nic 1 (3 * (2+2)+3) (.list []):=ziD (k:=0) (M:=2) (fun d hd=>by cases hd) (by simp);rw [n1.eqL n2 (by omega) (by omega)];rfl
theorem zi4{o:Bool}{ts:List (List Int)}{Q:U×List U->Prop}(h5:L5 ts)(hn:ts.length<=3)(k:∀ hs,HV ts hs->Q (.l (lsL hs),[lsO o ts])):Wo (zaR [lsO o ts]) Q:=by
 have el:zfH (lsO o ts)=some (.d (.int (ts.length:Int))):=by
  have ll:(lsL ts).length=ts.length:=by rw [lsL,List.length_map]
  cases o
  ·show some (U.d (.int ((lsL ts).length:Int)))=_
   rw [ll]
  ·show some (U.d (.int ((lsL ts).length:Int)))=_
   rw [ll]
 have hz:sizeLine=16777216:=sizeLine_eq;have e0:U.l [PyData.tuple []]=lsT true [[]]:=rfl;simp_arith [zaR,zc7,el];rw [e0];refine zgJ (fun i ρ=>∃ (rs:List (List Int)) (b:Bool) (v3 v4 v5:Option U),(∀ r∈rs,Sg i r)/\(∀ r,Sg i r->r∈rs)/\rs.length=3^i/\ρ=[some (lsO o ts),some (.l []),some (lsT b rs),v3,v4,v5,none]) ⟨[[]],true,none,none,none,fun r hr=>by rw [qq.mp hr]; exact⟨rfl,fun s hs=>(by cases hs)⟩,fun r hr=>by rw [List.eq_nil_of_length_eq_zero hr.1]; simp,rfl,rfl⟩ ?_ ?_
 ·rintro i ρ hi ⟨rs,b,v3,v4,v5,h1,h2,h3,rfl⟩
  have hi3:i < 3:=by rw [Int.toNat_natCast]at hi; omega
  have hr27:rs.length<=27:=by
   rw [h3];exact Nat.pow_le_pow_right (n:=3) (by omega) (show i<=3 by omega)
  simp_arith [zu9];refine zan (fun bs cs ρ=>∃ v5,ρ=[some (lsO o ts),some (.l []),some (.d (.list (rs.map pwD))),some (.d (.int (0+(i:Int)))),some (.l ((ex3 bs).map pwD)),v5,none]) ⟨_,rfl⟩ ?_ ?_
  ·rintro bs r cs ρ er ⟨v5,rfl⟩
   have hb:bs.length<=27:=by
    rw [er]at hr27;simp at hr27;omega
   have hrm:=h1 r (by rw [er]; simp);have e3:[PyData.int (-1),.int 0,.int 1]=ss3.map .int:=rfl;simp_arith;rw [e3];refine zfZ (e:=fun s=>pwD (r++[s])) (by decide) (fun s hs ys=>?_) ?_
   ·have ec:=zva (l:=r) (s:=s) (by rw [hrm.1]; omega)
    simp_arith [ec]
   ·have l1:((ex3 bs).map pwD).length+(ss3.map fun s=>pwD (r++[s])).length<=16777216:=by
     rw [List.length_map,zhP,List.length_map];show _+3<=_;omega
    rw [List.length_map,List.length_map]at l1;simp_arith [l1];have e5:(ex3 bs).map pwD++(ss3.map fun s=>pwD (r++[s]))=(ex3 (bs++[r])).map pwD:=by
     unfold ex3;rw [List.flatMap_append,List.map_append];simp
    rw [e5];exact⟨_,rfl⟩
  ·rintro ρ ⟨v5,rfl⟩
   simp_arith;refine⟨ex3 rs,false,_,_,_,fun x hx=>?_,fun x hx=>?_,?_,rfl⟩
   ·obtain⟨r,hr,hx⟩:=List.mem_flatMap.mp hx
    obtain⟨s,hs,rfl⟩:=List.mem_map.mp hx;obtain⟨g1,g2⟩:=h1 r hr;refine⟨by simp [g1],fun z hm=>?_⟩;rcases List.mem_append.mp hm with hm | hm
    ·exact g2 z hm
    ·rw [qq.mp hm]
     simp only [ss3,qv,List.not_mem_nil,or_false]at hs;omega
   ·obtain⟨g1,g2⟩:=hx
    have hne:x≠[]:=fun z=>by rw [z]at g1; simp at g1
    obtain⟨x',s,rfl⟩:∃ x' s,x=x'++[s]:=⟨x.dropLast,x.getLast hne,(List.dropLast_concat_getLast hne).symm⟩;refine List.mem_flatMap.mpr ⟨x',h2 x' ⟨by simpa using g1,fun z hm=>g2 z (List.mem_append_left _ hm)⟩,List.mem_map.mpr ⟨s,?_,rfl⟩⟩;have:=g2 s (by simp);simp only [ss3,qv,List.not_mem_nil,or_false];omega
   ·rw [zhP,h3,Nat.pow_succ]
    omega
 ·rintro ρ ⟨rs,b,v3,v4,v5,h1,h2,h3,rfl⟩
  rw [Int.toNat_natCast]at h1 h2 h3;simp_arith [zu9];have hr27:rs.length<=27:=by
   rw [h3];exact Nat.pow_le_pow_right (n:=3) (by omega) hn
  refine zan (fun bs cs ρ=>∃ (hs:List (List Int)) (v5 v6:Option U),(∀ h∈hs,∃ s,Sg ts.length s/\Hf s/\h=mx s ts)/\(∀ s∈bs,Hf s->mx s ts∈hs)/\hs.length<=bs.length/\ρ=[some (lsO o ts),some (.l (lsL hs)),some (.d (.list (rs.map pwD))),v3,v4,v5,v6]) ⟨[],_,_,fun h hh=>(by cases hh),fun s hs=>(by cases hs),qe _,rfl⟩ ?_ ?_
  ·rintro bs r cs ρ er ⟨hs,v5,v6,g1,g2,g3,rfl⟩
   have hb:bs.length<=27:=by
    rw [er]at hr27;simp at hr27;omega
   have hrm:=h1 r (by rw [er]; simp);unfold pwD;simp_arith;rw [<-List.map_reverse];refine zfW (b:=fun s=>!decide (s=0)) (e:=fun s=>.int s) (by rw [List.length_reverse,hrm.1]; omega) (fun s hs ys=>?_) ?_
   ·by_cases c:s=0
    ·simp_arith [c,decide_true,Bool.not_true,Bool.false_eq_true]
    ·simp_arith [c,decide_false,Bool.not_false]
   ·have hF:∀ x∈(r.reverse.filter fun s=>!decide (s=0)),x=0\/x=1\/x=-1:=fun x hx=>hrm.2 x (List.mem_reverse.mp (List.mem_filter.mp hx).1)
    have hL:(r.reverse.filter fun s=>!decide (s=0)).length<=3:=by
     refine qy (List.length_filter_le _ _) ?_;rw [List.length_reverse,hrm.1];exact hn
    have hh:Hf r↔(r.reverse.filter fun s=>!decide (s=0)).head?=some 1:=Iff.rfl;generalize (r.reverse.filter fun s=>!decide (s=0))=F at hF hL hh;have g2':¬Hf r->∀ s∈bs++[r],Hf s->mx s ts∈hs:=fun z s hm hf=>by
     rcases List.mem_append.mp hm with hm | hm
     ·exact g2 s hm hf
     ·rw [qq.mp hm]at hf
      exact absurd hf z
    cases F with
    | nil =>
     have q0:zim true (.l ([]:List D)) (.l [])=some (.d (.bool false)):=rfl;simp_arith [List.map_nil,q0,Bool.false_eq_true];exact⟨hs,_,_,g1,g2' (by rw [hh]; simp),by omega,rfl⟩
    | cons x F =>
     have q1:=zrr (x:=x) (F:=F) hF (by simpa using hL);have q2:atI (PyData.int x::F.map fun s=>.int s) 0=some (.int x):=by
      unfold atI;rw [qu,zqT,bd];rfl
     simp_arith [q1,q2]
     by_cases c:x=1
     ·have hfr:Hf r:=by rw [hh,c]; rfl
      simp_arith [c,decide_true];refine zdj (o:=false) (o2:=o) h5 hrm.1 (by omega) (zrq hrm) ?_;have eI:lsI false r=.d (.tuple (r.map .int)):=rfl;have ll:(lsL hs).length < 16777216:=by
       rw [lsL,List.length_map];omega
      simp_arith [eI,ll];have e6:lsL hs++[PyData.list ((mx r ts).map .int)]=lsL (hs++[mx r ts]):=by
       unfold lsL;rw [List.map_append];rfl
      rw [e6];refine⟨hs++[mx r ts],_,_,fun h hm=>?_,fun s hm hf=>?_,by simp; omega,rfl⟩
      ·rcases List.mem_append.mp hm with hm | hm
       ·exact g1 h hm
       ·exact⟨r,hrm,hfr,qq.mp hm⟩
      ·rcases List.mem_append.mp hm with hm | hm
       ·exact List.mem_append_left _ (g2 s hm hf)
       ·rw [qq.mp hm]
        simp
     ·simp_arith [c,decide_false,Bool.false_eq_true]
      exact⟨hs,_,_,g1,g2' (by rw [hh]; simpa using c),by omega,rfl⟩
  ·rintro ρ ⟨hs,v5,v6,g1,g2,g3,rfl⟩
   simp_arith [zgW];exact k hs ⟨g1,fun s hs hf=>g2 s (h2 s hs) hf,by omega⟩
end K58
open PySem L2
namespace K58
open PySem L2
theorem zlF{mA:MA}{ρ:En}{QI:List D×En->Prop}:Wo (zk6 mA ρ) QI=Wo (mA ρ) (Co (fun p=>(zao p.2 p.1).bind fun us=>(zk5 us).bind fun ds=>some (ds,p.2)) ⟨0⟩ QI):=by
 show Wo (Option.bind _ _) QI=_;rw [zp]
theorem zlG{a b:List Int}(h:a.length=b.length):zk5 [.d (.list (a.map .int)),.d (.list (b.map .int))]=some ((a.zip b).map fun t=>.tuple [.int t.1,.int t.2]):=by
 show(if(a.map PyData.int).length=(b.map PyData.int).length then some (zeZ _ _)else none)=_;rw [if_pos (by rw [List.length_map,List.length_map,h]),zd0]
def mn(s:Int)(a b:List Int):List Int:=(a.zip b).map fun t=>t.1 - s * t.2
theorem zpI{s:Int}{a b:List Int}(h:a.length=b.length):(mn s a b).length=a.length:=by
 unfold mn;rw [List.length_map,List.length_zip,h,Nat.min_self]
def Fm(s:Int)(w f sec:List Int):Prop:=w.getD 4 0 - s * sec.getD 4 0=0/\∃ m,(m=-1\/m=0\/m=1)/\isM (mn m (mn s w sec) f)
def Fit(w f sec:List Int):Prop:=∃ s,(s=-1\/s=1)/\Fm s w f sec
theorem zvd{w f sec:List Int}{Q:U×List U->Prop}(hw:w.length=5)(hf:f.length=5)(hs:sec.length=5)(k:∀ (b:Bool) (u:U),(b=true↔Fit w f sec)->Q (.d (.bool b),[.d (.list (w.map .int)),.d (.list (f.map .int)),u])):Wo (zbI [.d (.list (w.map .int)),.d (.list (f.map .int)),.l (sec.map .int)]) Q:=by
 have es:U.l (sec.map .int)=lsB true sec:=rfl;have e2:[PyData.int (-1),.int 1]=([-1,1]:List Int).map .int:=rfl;have e3:[PyData.int (-1),.int 0,.int 1]=([-1,0,1]:List Int).map .int:=rfl;have i4:atI (w.map PyData.int) 4=some (.int (w.getD 4 0)):=zjV (l:=w) (i:=4) (by omega);have fzB:∀ {o:Bool} {l:List Int},(lsB o l).fz=some (.list (l.map .int)):=fun{o l}=>by cases o<;>rfl
 simp_arith [zbI,zd7];rw [e2,es];refine zan (fun bs cs ρ=>(∀ s∈bs,¬Fm s w f sec)/\∃ (o:Bool) (v3 v4 v5:Option U),ρ=[some (.d (.list (w.map .int))),some (.d (.list (f.map .int))),some (lsB o sec),v3,v4,v5]) ⟨fun s hs=>(by cases hs),true,_,_,_,rfl⟩ ?_ ?_
 ·rintro bs s cs ρ eb ⟨hb,o,v3,v4,v5,rfl⟩
  have s1:s=-1\/s=1:=by
   have:s∈([-1,1]:List Int):=by rw [eb]; simp
   simpa using this
  have j4:zaS (lsB o sec) (.d (.int 4))=some (.d (.int (sec.getD 4 0))):=zpB (o:=o) (l:=sec) (i:=4) (by omega);have sb:-1<=s/\s<=1:=by omega
  simp_arith [i4,j4]
  by_cases c:w.getD 4 0 - s * sec.getD 4 0=0
  ·have hz:=zlG (a:=w) (b:=sec) (by omega)
   simp_arith [c,decide_true,↓zlF,fzB,hz];refine zfZ (e:=fun t=>.int (t.1 - s * t.2)) (by rw [List.length_zip]; omega) (fun t ht ys=>?_) ?_
   ·simp_arith
   ·have em:∀ (s:Int) (a b:List Int),((a.zip b).map fun t=>PyData.int (t.1 - s * t.2))=(mn s a b).map .int:=fun s a b=>by
     unfold mn;rw [List.map_map];rfl
    have ml:(mn s w sec).length=5:=by rw [zpI (by omega),hw]
    have eb2:U.l ((mn s w sec).map .int)=lsB true (mn s w sec):=rfl;rw [em];simp_arith;rw [e3,eb2];refine zan (fun ms cs ρ=>(∀ m∈ms,¬isM (mn m (mn s w sec) f))/\∃ (o:Bool) (v5:Option U),ρ=[some (.d (.list (w.map .int))),some (.d (.list (f.map .int))),some (.d (.list (sec.map .int))),some (.d (.int s)),some (lsB o (mn s w sec)),v5]) ⟨fun m hm=>(by cases hm),true,_,rfl⟩ ?_ ?_
    ·rintro ms m ns ρ en ⟨hm,o,v5,rfl⟩
     have m1:m=-1\/m=0\/m=1:=by
      have:m∈([-1,0,1]:List Int):=by rw [en]; simp
      simpa using this
     have mb:-1<=m/\m<=1:=by omega
     have hz2:=zlG (a:=mn s w sec) (b:=f) (by omega);simp_arith [↓zlF,fzB,hz2];refine zfZ (e:=fun t=>.int (t.1 - m * t.2)) (by rw [List.length_zip]; omega) (fun t ht ys=>?_) ?_
     ·simp_arith
     ·rw [em]
      simp_arith;refine zi3 (o:=true) (by rw [zpI (by omega),ml]) fun b hb2=>?_;cases b
      ·simp_arith [Bool.false_eq_true]
       refine⟨fun x hx=>?_,false,_,rfl⟩;rcases List.mem_append.mp hx with hx | hx
       ·exact hm x hx
       ·rw [qq.mp hx]
        exact fun z=>by cases hb2.mpr z
      ·simp_arith
       exact k true _ ⟨fun _=>⟨s,s1,c,m,m1,hb2.mp rfl⟩,fun _=>rfl⟩
    ·rintro ρ ⟨hm,o,v5,rfl⟩
     simp_arith;refine⟨fun x hx=>?_,false,_,_,_,rfl⟩;rcases List.mem_append.mp hx with hx | hx
     ·exact hb x hx
     ·rw [qq.mp hx]
      rintro⟨_,m,hm1,hm2⟩;exact hm m (by simpa using hm1) hm2
  ·simp_arith [c,decide_false,Bool.false_eq_true]
   refine⟨fun x hx=>?_,o,_,_,_,rfl⟩;rcases List.mem_append.mp hx with hx | hx
   ·exact hb x hx
   ·rw [qq.mp hx]
    exact fun z=>c z.1
 ·rintro ρ ⟨hb,o,v3,v4,v5,rfl⟩
  have own:((lsB o sec).own=true/\(lsB true sec).own=false)=False:=by
   refine eq_false ?_;rintro⟨_,z⟩;cases z
  simp_arith [own,if_false];refine k false _ ⟨fun z=>(by cases z),?_⟩;rintro⟨s,s1,hs⟩;exact absurd hs (hb s (by simpa using s1))
end K58
open PySem L2
namespace K58
open PySem L2
theorem zlH{a b:List Int}(ha:a.length=5)(hb:b.length=5):tm a b=tm b a:=by
 obtain⟨a0,a1,a2,a3,a4,rfl⟩:=zdI ha;obtain⟨b0,b1,b2,b3,b4,rfl⟩:=zdI hb;rw [tm5,tm5];simp only [List.cons.injEq,and_true];refine⟨?_,?_,?_,?_,?_⟩<;>grind
theorem zsK{α:Type}{R:α->α->Prop}{l:List α}(sym:∀ x∈l,∀ y∈l,R x y->R y x)(h:∀ i x,l[i]?=some x->∀ y∈l.drop i,¬R x y):∀ x∈l,∀ y∈l,¬R x y:=fun x hx y hy r=>by
 obtain⟨i,hi⟩:=List.getElem?_of_mem hx;obtain⟨j,hj⟩:=List.getElem?_of_mem hy;have mem:∀ {i j:Nat} {z:α},i<=j->l[j]?=some z->z∈l.drop i:=fun{i j z} hij hz=>by
  refine List.mem_of_getElem? (i:=j - i) ?_;rw [List.getElem?_drop,show i+(j - i)=j by omega];exact hz
 rcases Nat.le_total i j with hij | hij
 ·exact h i x hi y (mem hij hj) r
 ·exact h j y hj x (mem hij hi) (sym x hx y hy r)
def N2(w f:List Int):Prop:=∃ u v,Sg 3 u/\Hf u/\Sg 3 v/\Hf v/\Fit w f (tm (mx u (T3 f)) (mx v (T3 f)))
def By2(w:List Int):Prop:=∃ s1 s2,Sg 2 s1/\Hf s1/\Sg 2 s2/\Hf s2/\N2 w (tm (mx s1 T2) (mx s2 T2))
theorem zpJ{w:List Int}{Q:U×List U->Prop}(hw:w.length=5)(k:∀ b:Bool,(b=true↔By2 w)->Q (.d (.bool b),[.d (.list (w.map .int))])):Wo (zbn [.d (.list (w.map .int))]) Q:=by
 have e0:U.l [PyData.list [.int 1,.int 0,.int 0,.int 0,.int 0],.list [.int 0,.int 1,.int 0,.int 0,.int 0]]=lsO true T2:=rfl;have eO:∀ {ts},lsO true ts=.l (lsL ts):=fun{ts}=>rfl;have cut:∀ {hs:List (List Int)} {i:Nat},zdA (lsL hs) (some (i:Int)) none=lsL (hs.drop i):=fun{hs i}=>by
  rw [zfU (by omega),Int.toNat_natCast];unfold lsL;rw [List.map_drop]
 simp_arith [zbn,zc9];rw [e0];refine zi4 zhN (by decide) fun hs hv=>?_;simp_arith;have lat:∀ {hs:List (List Int)} {i:Nat} {x:D},(lsL hs)[i]?=some x->∃ h,hs[i]?=some h/\x=.list (h.map .int):=fun{hs i x} hx=>by
  unfold lsL at hx;rw [List.getElem?_map]at hx;obtain⟨h,h1,h2⟩:=qr.mp hx;exact⟨h,h1,h2.symm⟩
 have h5:∀ h∈hs,h.length=5/\Sm h:=fun h hh=>by
  obtain⟨s,g1,g2,rfl⟩:=hv.sg h hh;refine⟨mx5 zhN,fun x hx=>?_⟩;have:=zlE (by omega) g1 zrp x hx;have:T2.length=2:=rfl;omega
 have ff:∀ x∈hs,∀ y∈hs,∃ s1 s2,Sg 2 s1/\Hf s1/\Sg 2 s2/\Hf s2/\tm x y=tm (mx s1 T2) (mx s2 T2):=fun x hx y hy=>by
  obtain⟨s,g1,g2,rfl⟩:=hv.sg x hx;obtain⟨s',g1',g2',rfl⟩:=hv.sg y hy;exact⟨s,s',g1,g2,g1',g2',rfl⟩
 refine zdh (fun i ρ=>(∀ i' x,i' < i->hs[i']?=some x->∀ y∈hs.drop i',¬N2 w (tm x y))/\∃ v3 v4 v5 v6 v7 v8 v9 v10,ρ=[some (.d (.list (w.map .int))),some (.l (lsL T2)),some (.d (.list (lsL hs))),v3,v4,v5,v6,v7,v8,v9,v10]) ⟨fun i' x hi=>(by omega),_,_,_,_,_,_,_,_,rfl⟩ ?_ ?_
 ·rintro i d ρ hd ⟨hb,v3,v4,v5,v6,v7,v8,v9,v10,rfl⟩
  obtain⟨x,hx,rfl⟩:=zaK hd;obtain⟨one,h1,rfl⟩:=lat hx;have m1:one∈hs:=List.mem_of_getElem? h1;simp_arith [cut];refine zan (as:=hs.drop i) (g:=fun t=>.list (t.map .int)) (fun bs cs ρ=>(∀ y∈bs,¬N2 w (tm one y))/\∃ v5 v6 v7 v8 v9 v10,ρ=[some (.d (.list (w.map .int))),some (.l (lsL T2)),some (.d (.list (lsL hs))),some (.d (.int (i:Int))),some (.d (.list (one.map .int))),v5,v6,v7,v8,v9,v10]) ⟨fun y hy=>(by cases hy),_,_,_,_,_,_,rfl⟩ ?_ ?_
  ·rintro bs other cs ρ eo ⟨hb2,v5,v6,v7,v8,v9,v10,rfl⟩
   have m2:other∈hs:=List.mem_of_mem_drop (by rw [eo]; simp);obtain⟨s1,s2,g1,f1,g2,f2,ef⟩:=ff one m1 other m2;obtain⟨fl,fb⟩:=zgi g1 g2;rw [<-ef]at fl fb;simp_arith;refine zbP (o:=false) (h5 one m1).1 (h5 other m2).1 (h5 one m1).2 ?_;have eB:∀ {l},lsB false l=.d (.list (l.map .int)):=fun{l}=>rfl;have fc:zgR (.l (lsL T2)) (.l [.list ((tm one other).map .int)])=some (.l (lsL (T3 (tm one other)))):=by
    show(if(lsL T2).length+[PyData.list ((tm one other).map .int)].length<=sizeLine then some (U.l (lsL T2++[.list ((tm one other).map .int)]))else none)=_;rw [if_pos (by rw [sizeLine_eq]; show 2+1<=16777216; omega)];rfl
   simp_arith [eB,fc];have eT:U.l (lsL (T3 (tm one other)))=lsO true (T3 (tm one other)):=rfl;rw [eT];refine zi4 (zhM fl) (by simp [T3,T2]) fun more hm=>?_;simp_arith;have q5:∀ h∈more,h.length=5/\Sm h:=fun h hh=>by
    obtain⟨s,g1,g2,rfl⟩:=hm.sg h hh;refine⟨mx5 (zhM fl),fun x hx=>?_⟩;have:=zlE (by omega) g1 (zwT fb) x hx;have:(T3 (tm one other)).length=3:=rfl;omega
   refine zdh (fun i3 ρ=>(∀ i' x,i' < i3->more[i']?=some x->∀ y∈more.drop i',¬Fit w (tm one other) (tm x y))/\∃ v8 v9 v10,ρ=[some (.d (.list (w.map .int))),some (.l (lsL T2)),some (.d (.list (lsL hs))),some (.d (.int (i:Int))),some (.d (.list (one.map .int))),some (.d (.list (other.map .int))),some (.d (.list ((tm one other).map .int))),some (.d (.list (lsL more))),v8,v9,v10]) ⟨fun i' x hi=>(by omega),_,_,_,rfl⟩ ?_ ?_
   ·rintro i3 d ρ hd ⟨hb3,v8,v9,v10,rfl⟩
    obtain⟨x,hx,rfl⟩:=zaK hd;obtain⟨mine,h3,rfl⟩:=lat hx;have m3:mine∈more:=List.mem_of_getElem? h3;simp_arith [cut];refine zan (as:=more.drop i3) (g:=fun t=>.list (t.map .int)) (fun bs cs ρ=>(∀ y∈bs,¬Fit w (tm one other) (tm mine y))/\∃ v10,ρ=[some (.d (.list (w.map .int))),some (.l (lsL T2)),some (.d (.list (lsL hs))),some (.d (.int (i:Int))),some (.d (.list (one.map .int))),some (.d (.list (other.map .int))),some (.d (.list ((tm one other).map .int))),some (.d (.list (lsL more))),some (.d (.int (i3:Int))),some (.d (.list (mine.map .int))),v10]) ⟨fun y hy=>(by cases hy),_,rfl⟩ ?_ ?_
    ·rintro cs1 yours cs2 ρ ey ⟨hb4,v10,rfl⟩
     have m4:yours∈more:=List.mem_of_mem_drop (by rw [ey]; simp);simp_arith;refine zbP (o:=false) (q5 mine m3).1 (q5 yours m4).1 (q5 mine m3).2 ?_;simp_arith [eB];refine zvd hw fl zhO fun b u hfit=>?_;cases b
     ·simp_arith [Bool.false_eq_true]
      refine⟨fun y hy=>?_,_,rfl⟩;rcases List.mem_append.mp hy with hy | hy
      ·exact hb4 y hy
      ·rw [qq.mp hy]
       exact fun z=>by cases hfit.mpr z
     ·simp_arith
      refine k true ⟨fun _=>⟨s1,s2,g1,f1,g2,f2,?_⟩,fun _=>rfl⟩;obtain⟨u1,a1,a2,rfl⟩:=hm.sg mine m3;obtain⟨u2,b1,b2,rfl⟩:=hm.sg yours m4;rw [<-ef];exact⟨u1,u2,a1,a2,b1,b2,hfit.mp rfl⟩
    ·rintro ρ ⟨hb4,v10,rfl⟩
     simp_arith;refine⟨fun i' x hi' hx y hy=>?_,_,_,_,rfl⟩;rcases(show i' < i3\/i'=i3 by omega)with z | z
     ·exact hb3 i' x z hx y hy
     ·rw [z]at hx hy
      cases h3.symm.trans hx;exact hb4 y hy
   ·rintro ρ ⟨hb3,v8,v9,v10,rfl⟩
    simp_arith;refine⟨fun y hy=>?_,_,_,_,_,_,_,rfl⟩;rcases List.mem_append.mp hy with hy | hy
    ·exact hb2 y hy
    ·rw [qq.mp hy]
     rintro⟨u,v,a1,a2,b1,b2,hfit⟩;refine absurd hfit (zsK (R:=fun x y=>Fit w (tm one other) (tm x y)) (l:=more) (fun x hx y hy r=>by rw [zlH (q5 y hy).1 (q5 x hx).1]; exact r) (fun i x hx y hy=>?_) _ (hm.all u a1 a2) _ (hm.all v b1 b2));refine hb3 i x ?_ hx y hy;rw [zak,lsL,List.length_map];exact(qk.mp hx).1
  ·rintro ρ ⟨hb2,v5,v6,v7,v8,v9,v10,rfl⟩
   simp_arith;refine⟨fun i' x hi' hx y hy=>?_,_,_,_,_,_,_,_,_,rfl⟩;rcases(show i' < i\/i'=i by omega)with z | z
   ·exact hb i' x z hx y hy
   ·rw [z]at hx hy
    cases h1.symm.trans hx;exact hb2 y hy
 ·rintro ρ ⟨hb,v3,v4,v5,v6,v7,v8,v9,v10,rfl⟩
  simp_arith;refine k false ⟨fun z=>(by cases z),?_⟩;rintro⟨s1,s2,g1,f1,g2,f2,hN⟩;refine absurd hN (zsK (R:=fun x y=>N2 w (tm x y)) (l:=hs) (fun x hx y hy r=>by rw [zlH (h5 y hy).1 (h5 x hx).1]; exact r) (fun i x hx y hy=>?_) _ (hv.all s1 g1 f1) _ (hv.all s2 g2 f2));refine hb i x ?_ hx y hy;rw [zak,lsL,List.length_map];exact(qk.mp hx).1
def ng(e:Int)(l:List Int):List Int:=l.map fun x=>e * x
def Pm(e:Int):Prop:=e=1\/e=-1
def Sn(s:Int):Prop:=s=0\/s=1\/s=-1
theorem sg3{s:List Int}(h:Sg 3 s):∃ a b c,s=[a,b,c]/\Sn a/\Sn b/\Sn c:=by
 obtain⟨a,b,c,rfl⟩:=zuC h.1;exact⟨a,b,c,rfl,h.2 a (by simp),h.2 b (by simp),h.2 c (by simp)⟩
theorem zdd{a b c:Int}(ha:Sn a)(hb:Sn b)(hc:Sn c):Sg 3 [a,b,c]:=⟨rfl,fun s hs=>by
 simp only [qv,List.not_mem_nil,or_false]at hs;rcases hs with rfl | rfl | rfl
 ·exact ha
 ·exact hb
 ·exact hc⟩
theorem zgl{a b:Int}(ha:Sn a)(hb:Sn b):Sg 2 [a,b]:=⟨rfl,fun s hs=>by
 simp only [qv,List.not_mem_nil,or_false]at hs;rcases hs with rfl | rfl
 ·exact ha
 ·exact hb⟩
theorem zjX{e d:Int}(he:Pm e)(hd:Pm d):Pm (e * d):=by
 unfold Pm at *;rcases he with rfl | rfl<;>rcases hd with rfl | rfl<;>decide
theorem zwV{e:Int}(he:Pm e)(x:Int):e * (e * x)=x:=by
 rcases he with rfl | rfl<;>omega
theorem zi5{e s:Int}(he:Pm e)(hs:Sn s):Sn (e * s):=sgm (by unfold Pm at he; omega) hs
theorem zwW{e s:Int}(he:Pm e):e * s=0↔s=0:=by
 rcases he with rfl | rfl<;>omega
theorem zrs{n:Nat}{u:List Int}(h:Sg n u)(hz:∃ s∈u,s≠0):∃ e,Pm e/\Sg n (ng e u)/\Hf (ng e u):=by
 obtain⟨s,hs,hs0⟩:=hz;have hF:s∈u.reverse.filter fun s=>!decide (s=0):=List.mem_filter.mpr ⟨List.mem_reverse.mpr hs,by simp [hs0]⟩;have hm:∀ x∈(u.reverse.filter fun s=>!decide (s=0)),x=1\/x=-1:=fun x hx=>by
  obtain⟨h1,h2⟩:=List.mem_filter.mp hx;have:=h.2 x (List.mem_reverse.mp h1);simp at h2;omega
 cases e:(u.reverse.filter fun s=>!decide (s=0))with
 | nil=>rw [e]at hF; cases hF
 | cons x F =>
  have hx:=hm x (by rw [e]; simp);refine⟨x,hx,⟨by unfold ng; rw [List.length_map]; exact h.1,fun y hy=>?_⟩,?_⟩
  ·obtain⟨z,hz,rfl⟩:=List.mem_map.mp hy
   exact zi5 hx (h.2 z hz)
  ·unfold Hf ng
   rw [<-List.map_reverse,List.filter_map];have ec:((fun s:Int=>!decide (s=0)) ∘ fun y=>x * y)=fun s=>!decide (s=0):=by
    funext y
    show(!decide (x * y=0))=_;rw [decide_eq_decide.mpr (zwW hx)]
   rw [ec,e];show some (x * x)=some 1;rcases hx with rfl | rfl<;>rfl
theorem zlI{u:List Int}:(∃ s∈u,s≠0)\/∀ s∈u,s=0:=by
 by_cases h:∃ s∈u,s≠0
 ·exact .inl h
 ·exact .inr fun s hs=>Classical.byContradiction fun z=>h ⟨s,hs,z⟩
theorem mx3{a b c x y z:Int}:mx [a,b,c] (T3 [x,y,z,0,0])=[a+c * x,b+c * y,c * z,0,0]:=by
 simp [mx,pl,zs5,T3,T2]
theorem zpK{e d:Int}{a b:List Int}(ha:a.length=5)(hb:b.length=5):tm (ng e a) (ng d b)=ng (e * d) (tm a b):=by
 obtain⟨a0,a1,a2,a3,a4,rfl⟩:=zdI ha;obtain⟨b0,b1,b2,b3,b4,rfl⟩:=zdI hb;simp only [ng,List.map_cons,List.map_nil,tm5,List.cons.injEq,and_true];refine⟨?_,?_,?_,?_,?_⟩<;>grind
theorem zpL{e:Int}{s:List Int}(h:Sg 2 s):mx (ng e s) T2=ng e (mx s T2):=by
 obtain⟨a,b,rfl,_,_⟩:=sg2 h;show mx [e * a,e * b] T2=_;rw [mx2,mx2];simp [ng]
theorem zjY{e x y z:Int}{s:List Int}(h:Sg 3 s):mx (ng e s) (T3 [x,y,z,0,0])=ng e (mx s (T3 [x,y,z,0,0])):=by
 obtain⟨a,b,c,rfl,_,_,_⟩:=sg3 h;show mx [e * a,e * b,e * c] _=_;rw [mx3,mx3];simp only [ng,List.map_cons,List.map_nil,List.cons.injEq,and_true];refine⟨?_,?_,?_,?_,?_⟩<;>grind
theorem zve{s m a b x y z k0 k1 k2 k3 k4:Int}(hs:Pm s)(hm:Sn m)(ha:Sn a)(hb:Sn b) :
  Fit [a+s * k0+m * x,b+s * k1+m * y,s * k2+m * z,s * k3,s * k4] [x,y,z,0,0] [k0,k1,k2,k3,k4]:=by
 refine⟨s,by unfold Pm at hs; omega,?_,m,by unfold Sn at hm; omega,a,b,ha,hb,?_⟩
 ·simp
 ·simp only [mn,List.zip_cons_cons,List.zip_nil_right,List.map_cons,List.map_nil,List.cons.injEq,and_true]
  refine⟨?_,?_,?_,?_,?_⟩<;>omega
theorem zgm{t s1 s2 U V:List Int}{s m a b x y z k0 k1 k2 k3 k4:Int}(g1:Sg 2 s1)(f1:Hf s1)(g2:Sg 2 s2)(f2:Hf s2)(ef:tm (mx s1 T2) (mx s2 T2)=[x,y,z,0,0])(gU:Sg 3 U)(gV:Sg 3 V)(nU:∃ s∈U,s≠0)(nV:∃ s∈V,s≠0)(hs:Pm s)(hm:Sn m)(ha:Sn a)(hb:Sn b)
  (ek:tm (mx U (T3 [x,y,z,0,0])) (mx V (T3 [x,y,z,0,0]))=[k0,k1,k2,k3,k4]) (et:t=[a+s * k0+m * x,b+s * k1+m * y,s * k2+m * z,s * k3,s * k4]):By2 t:=by
 obtain⟨e,he,gU',fU⟩:=zrs gU nU;obtain⟨d,hd,gV',fV⟩:=zrs gV nV;refine⟨s1,s2,g1,f1,g2,f2,?_⟩;rw [ef];refine⟨ng e U,ng d V,gU',fU,gV',fV,?_⟩;have l5:∀ {w},(mx w (T3 [x,y,z,0,0])).length=5:=fun{w}=>mx5 (zhM rfl);rw [zjY gU,zjY gV,zpK l5 l5,ek,et];have hp:=zjX he hd;have:=zve (s:=s * (e * d)) (k0:=e * d * k0) (k1:=e * d * k1) (k2:=e * d * k2) (k3:=e * d * k3) (k4:=e * d * k4) (x:=x) (y:=y) (z:=z) (zjX hs hp) hm ha hb;simp only [Int.mul_assoc s (e * d),zwV hp]at this;exact this
theorem zlJ{s:List Int}(h:∀ x∈s,x=0)(g:Sg 2 s):mx s T2=zs5:=by
 obtain⟨a,b,rfl,_,_⟩:=sg2 g;rw [h a (by simp),h b (by simp),mx2];rfl
theorem zsL:tm (mx [1,0] T2) (mx [1,0] T2)=[1,0,0,0,0]:=by
 rw [mx2,tm5];simp
theorem zrt:Hf [1,0]:=rfl
theorem zru{a:List Int}(h:a.length=5):tm zs5 a=zs5/\tm a zs5=zs5:=by
 obtain⟨a0,a1,a2,a3,a4,rfl⟩:=zdI h;unfold zs5;rw [tm5,tm5];simp
theorem zsM{t f:List Int}(hf:Fst f)(h5:t.length=5)(h:W2 t f):isM t\/By2 t:=by
 obtain⟨s1,s2,g1,g2,rfl⟩:=hf;obtain⟨b,u,v,gb,gu,gv,e⟩:=h;obtain⟨x,y,z,ef,_⟩:=zgh g1 g2;rw [ef]at e;have f5:L5 (T3 [x,y,z,0,0]):=zhM rfl;obtain⟨k0,k1,k2,k3,k4,ek⟩:=zdI (zhO (a:=mx u (T3 [x,y,z,0,0])) (b:=mx v (T3 [x,y,z,0,0])));obtain⟨t0,t1,t2,t3,t4,rfl⟩:=zdI h5;obtain⟨a,b0,c,rfl,ha,hb,hc⟩:=sg3 gb;rw [ek,mx3]at e;simp only [pl,List.zip_cons_cons,List.zip_nil_right,List.map_cons,List.map_nil,List.cons.injEq,and_true]at e;obtain⟨q0,q1,q2,q3,q4⟩:=e;have et:[t0,t1,t2,t3,t4]=[a+c * x+k0,b0+c * y+k1,c * z+k2,k3,k4]:=by
  simp only [List.cons.injEq,and_true];refine⟨?_,?_,?_,?_,?_⟩<;>omega
 have kz:(∀ s∈u,s=0)\/(∀ s∈v,s=0)->k0=0/\k1=0/\k2=0/\k3=0/\k4=0:=fun hz=>by
  have z3:∀ {w},Sg 3 w->(∀ s∈w,s=0)->mx w (T3 [x,y,z,0,0])=zs5:=fun{w} gw hw=>by
   obtain⟨w0,w1,w2,rfl,_,_,_⟩:=sg3 gw;rw [hw w0 (by simp),hw w1 (by simp),hw w2 (by simp),mx3];simp [zs5]
  have:tm (mx u (T3 [x,y,z,0,0])) (mx v (T3 [x,y,z,0,0]))=zs5:=by
   rcases hz with hz | hz
   ·rw [z3 gu hz]
    exact(zru (mx5 f5)).1
   ·rw [z3 gv hz]
    exact(zru (mx5 f5)).2
  rw [ek]at this;simpa [zs5] using this
 have sn0:Sn 0:=.inl rfl;have fz:(∀ s∈s1,s=0)\/(∀ s∈s2,s=0)->x=0/\y=0/\z=0:=fun hz=>by
  have:tm (mx s1 T2) (mx s2 T2)=zs5:=by
   rcases hz with hz | hz
   ·rw [zlJ hz g1]
    exact(zru (mx5 zhN)).1
   ·rw [zlJ hz g2]
    exact(zru (mx5 zhN)).2
  rw [ef]at this;simpa [zs5] using this
 by_cases hF:(∀ s∈s1,s=0)\/(∀ s∈s2,s=0)
 ·obtain⟨rfl,rfl,rfl⟩:=fz hF
  obtain⟨u0,u1,u2,rfl,hu0,hu1,hu2⟩:=sg3 gu;obtain⟨v0,v1,v2,rfl,hv0,hv1,hv2⟩:=sg3 gv;rw [mx3,mx3,tm5]at ek;have em:mx [u0,u1,0] (T3 [1,0,0,0,0])=[u0,u1,0,0,0]:=by rw [mx3]; simp
  have em':mx [v0,v1,0] (T3 [1,0,0,0,0])=[v0,v1,0,0,0]:=by rw [mx3]; simp
  by_cases hk:(u0=0/\u1=0)\/(v0=0/\v1=0)
  ·refine .inl ⟨a,b0,ha,hb,?_⟩
   rw [et];simp only [List.cons.injEq,and_true]at ek ⊢;rcases hk with ⟨rfl,rfl⟩ | ⟨rfl,rfl⟩<;>(simp at ek; omega)
  ·refine .inr (zgm (s:=1) (m:=0) (zgl (by unfold Sn; simp) sn0) zrt (zgl (by unfold Sn; simp) sn0) zrt zsL (zdd hu0 hu1 sn0) (zdd hv0 hv1 sn0) ?_ ?_ (.inl rfl) sn0 ha hb (k0:=k0) (k1:=k1) (k2:=k2) (k3:=k3) (k4:=k4) ?_ ?_)
   ·by_cases z0:u0=0
    ·exact⟨u1,by simp,by omega⟩
    ·exact⟨u0,by simp,z0⟩
   ·by_cases z0:v0=0
    ·exact⟨v1,by simp,by omega⟩
    ·exact⟨v0,by simp,z0⟩
   ·rw [em,em',tm5]
    simpa using ek
   ·rw [et]
    simp
 ·rw [not_or]at hF
  obtain⟨hF1,hF2⟩:=hF;have n1:=zlI (u:=s1) |>.resolve_right hF1;have n2:=zlI (u:=s2) |>.resolve_right hF2
  by_cases hU:(∀ s∈u,s=0)\/(∀ s∈v,s=0)
  ·obtain⟨rfl,rfl,rfl,rfl,rfl⟩:=kz hU
   by_cases hc0:c=0
   ·refine .inl ⟨a,b0,ha,hb,?_⟩
    rw [et,hc0];simp
   ·obtain⟨p,q,rfl,hp,hq⟩:=sg2 g1
    obtain⟨p',q',rfl,hp',hq'⟩:=sg2 g2;refine .inr (zgm (s:=c) (m:=0) (a:=a) (b:=b0) (U:=[p,q,0]) (V:=[p',q',0]) (zgl (by unfold Sn; simp) sn0) zrt (zgl (by unfold Sn; simp) sn0) zrt zsL (zdd hp hq sn0) (zdd hp' hq' sn0) ?_ ?_ (by unfold Sn at hc; unfold Pm; omega) sn0 ha hb (k0:=x) (k1:=y) (k2:=z) (k3:=0) (k4:=0) ?_ ?_)
    ·obtain⟨s,hs,h0⟩:=n1
     exact⟨s,List.mem_append_left [0] hs,h0⟩
    ·obtain⟨s,hs,h0⟩:=n2
     exact⟨s,List.mem_append_left [0] hs,h0⟩
    ·rw [<-ef,mx2,mx2,mx3,mx3]
     simp
    ·rw [et]
     simp
  ·rw [not_or]at hU
   obtain⟨hU1,hU2⟩:=hU;have m1:=zlI (u:=u) |>.resolve_right hU1;have m2:=zlI (u:=v) |>.resolve_right hU2;obtain⟨e1,p1,j1,r1⟩:=zrs g1 n1;obtain⟨e2,p2,j2,r2⟩:=zrs g2 n2;have hE:=zjX p1 p2;have eF:tm (mx (ng e1 s1) T2) (mx (ng e2 s2) T2)=[e1 * e2 * x,e1 * e2 * y,e1 * e2 * z,0,0]:=by
    rw [zpL g1,zpL g2,zpK (mx5 zhN) (mx5 zhN),ef];simp [ng]
   generalize e1 * e2=E at hE eF;have EE:E * E=1:=by rcases hE with rfl | rfl<;>rfl
   obtain⟨u0,u1,u2,rfl,hu0,hu1,hu2⟩:=sg3 gu;obtain⟨v0,v1,v2,rfl,hv0,hv1,hv2⟩:=sg3 gv;have mE:∀ {w0 w1 w2:Int},mx [w0,w1,E * w2] (T3 [E * x,E * y,E * z,0,0])=mx [w0,w1,w2] (T3 [x,y,z,0,0]):=fun{w0 w1 w2}=>by
    rw [mx3,mx3];have:∀ i:Int,E * w2 * (E * i)=w2 * i:=fun i=>by
     rw [show E * w2 * (E * i)=E * E * (w2 * i) by grind,EE,Int.one_mul]
    simp only [this]
   have nz:∀ {w0 w1 w2:Int},(∃ s∈[w0,w1,w2],s≠0)->∃ s∈[w0,w1,E * w2],s≠0:=fun{w0 w1 w2} h=>by
    obtain⟨s,hs,h0⟩:=h;simp only [qv,List.not_mem_nil,or_false]at hs;rcases hs with rfl | rfl | rfl
    ·exact⟨_,by simp,h0⟩
    ·exact⟨_,by simp,h0⟩
    ·exact⟨E * s,by simp,fun z=>h0 ((zwW hE).mp z)⟩
   refine .inr (zgm (s:=1) (m:=c * E) (a:=a) (b:=b0) j1 r1 j2 r2 eF (zdd hu0 hu1 (zi5 hE hu2)) (zdd hv0 hv1 (zi5 hE hv2)) (nz m1) (nz m2) (.inl rfl) ?_ ha hb (k0:=k0) (k1:=k1) (k2:=k2) (k3:=k3) (k4:=k4) ?_ ?_)
   ·rw [Int.mul_comm]
    exact zi5 hE hc
   ·rw [mE,mE]
    exact ek
   ·have:∀ i:Int,c * E * (E * i)=c * i:=fun i=>by
     rw [show c * E * (E * i)=E * E * (c * i) by grind,EE,Int.one_mul]
    rw [et,this,this,this];simp only [List.cons.injEq,and_true];refine⟨?_,?_,?_,?_,?_⟩<;>omega
theorem zxj{l:List Int}:ng 1 l=l:=by
 unfold ng;rw [List.map_congr_left (g:=id) (fun x _=>by show 1 * x=x; omega),List.map_id]
theorem sg0:Sg 3 [0,0,0]:=zdd (.inl rfl) (.inl rfl) (.inl rfl)
theorem zsN{t f:List Int}(hf:Fst f)(h:W1 t f):W2 t f:=by
 obtain⟨s1,s2,g1,g2,rfl⟩:=hf;obtain⟨x,y,z,ef,_⟩:=zgh g1 g2;obtain⟨b,gb,rfl⟩:=h;rw [ef];obtain⟨a,b0,c,rfl,ha,hb,hc⟩:=sg3 gb;refine⟨_,_,_,gb,sg0,sg0,?_⟩;rw [mx3,mx3,tm5];simp only [pl,List.zip_cons_cons,List.zip_nil_right,List.map_cons,List.map_nil,List.cons.injEq,and_true];refine⟨?_,?_,?_,?_,?_⟩<;>simp<;>omega
theorem zrv{t:List Int}(h5:t.length=5):Way t↔isM t\/By2 t:=by
 constructor
 ·rintro(⟨s,hs,rfl⟩ | ⟨f,hf,h⟩ | ⟨f,hf,h⟩)
  ·obtain⟨a,b,rfl,ha,hb⟩:=sg2 hs
   exact .inl ⟨a,b,ha,hb,mx2⟩
  ·exact zsM hf h5 (zsN hf h)
  ·exact zsM hf h5 h
 ·rintro(⟨a,b,ha,hb,rfl⟩ | ⟨s1,s2,g1,_,g2,_,u,v,gu,_,gv,_,s,hs,_,m,hm,a,b,ha,hb,e⟩)
  ·exact .inl ⟨[a,b],zgl ha hb,mx2.symm⟩
  ·refine .inr (.inr ⟨_,⟨s1,s2,g1,g2,rfl⟩,?_⟩)
   obtain⟨x,y,z,ef,_⟩:=zgh g1 g2;rw [ef]at e ⊢;obtain⟨k0,k1,k2,k3,k4,ek⟩:=zdI (zhO (a:=mx u (T3 [x,y,z,0,0])) (b:=mx v (T3 [x,y,z,0,0])));obtain⟨t0,t1,t2,t3,t4,rfl⟩:=zdI h5;rw [ek]at e;simp only [mn,List.zip_cons_cons,List.zip_nil_right,List.map_cons,List.map_nil,List.cons.injEq,and_true]at e;obtain⟨q0,q1,q2,q3,q4⟩:=e;have hp:Pm s:=by unfold Pm; omega
   have hm':Sn m:=by unfold Sn; omega
   refine⟨[a,b,m],ng s u,v,zdd ha hb hm',⟨by unfold ng; rw [List.length_map]; exact gu.1,fun w hw=>?_⟩,gv,?_⟩
   ·obtain⟨w',hw',rfl⟩:=List.mem_map.mp hw
    exact zi5 hp (gu.2 w' hw')
   ·have l5:∀ {w},(mx w (T3 [x,y,z,0,0])).length=5:=fun{w}=>mx5 (zhM rfl)
    have e1:tm (mx (ng s u) (T3 [x,y,z,0,0])) (mx v (T3 [x,y,z,0,0]))=ng s [k0,k1,k2,k3,k4]:=by
     rw [<-ek,zjY gu];have:=zpK (e:=s) (d:=1) (a:=mx u (T3 [x,y,z,0,0])) (b:=mx v (T3 [x,y,z,0,0])) l5 l5;rw [zxj,Int.mul_one]at this;exact this
    rw [e1,mx3];simp only [pl,ng,List.zip_cons_cons,List.zip_nil_right,List.map_cons,List.map_nil,List.cons.injEq,and_true];refine⟨?_,?_,?_,?_,?_⟩<;>omega
theorem mb{x y A B:Int}(hx:-A<=x/\x<=A)(hy:-B<=y/\y<=B):-(A * B)<=x * y/\x * y<=A * B:=by
 have h1:x.natAbs<=A.toNat:=by omega
 have h2:y.natAbs<=B.toNat:=by omega
 have h3:=Nat.mul_le_mul h1 h2;rw [<-Int.natAbs_mul]at h3;have e:((A.toNat * B.toNat:Nat):Int)=A * B:=by
  rw [Int.natCast_mul,Int.toNat_of_nonneg (by omega),Int.toNat_of_nonneg (by omega)]
 omega
theorem zpM{s:Int}(h:Sn s):-1<=s/\s<=1:=by
 unfold Sn at h;omega
theorem zsO{t f:List Int}(h5:t.length=5)(hf:Fst f)(h:W2 t f):∀ z∈t,z<=40:=by
 obtain⟨s1,s2,g1,g2,rfl⟩:=hf;obtain⟨x,y,z,ef,bx,by',bz⟩:=zgh g1 g2;obtain⟨b,u,v,gb,gu,gv,e⟩:=h;rw [ef]at e;obtain⟨t0,t1,t2,t3,t4,rfl⟩:=zdI h5;obtain⟨a,b0,c,rfl,ha,hb,hc⟩:=sg3 gb;obtain⟨u0,u1,u2,rfl,hu0,hu1,hu2⟩:=sg3 gu;obtain⟨v0,v1,v2,rfl,hv0,hv1,hv2⟩:=sg3 gv;rw [mx3,mx3,mx3,tm5]at e;simp only [pl,List.zip_cons_cons,List.zip_nil_right,List.map_cons,List.map_nil,List.cons.injEq,and_true]at e;obtain⟨q0,q1,q2,q3,q4⟩:=e;have part:∀ {a b c:Int},Sn a->Sn b->Sn c->(-2<=a+c * x/\a+c * x<=2)/\(-3<=b+c * y/\b+c * y<=3)/\(-1<=c * z/\c * z<=1):=fun ha hb hc=>by
  have h1:=mb (zpM hc) bx;have h2:=mb (zpM hc) by'
  have h3:=mb (zpM hc) bz;have:=zpM ha;have:=zpM hb;omega
 obtain⟨r0,r1,r2⟩:=part ha hb hc;obtain⟨x0,x1,x2⟩:=part hu0 hu1 hu2;obtain⟨y0,y1,y2⟩:=part hv0 hv1 hv2;have p00:=mb x0 y0;have p01:=mb x0 y1;have p10:=mb x1 y0;have p02:=mb x0 y2;have p11:=mb x1 y1;have p20:=mb x2 y0;have p12:=mb x1 y2;have p21:=mb x2 y1;have p22:=mb x2 y2;intro w hw;simp only [qv,List.not_mem_nil,or_false]at hw;simp only [Int.mul_zero,Int.zero_mul,Int.add_zero,Int.zero_add]at q0 q1 q2 q3 q4;rcases hw with rfl | rfl | rfl | rfl | rfl<;>omega
theorem zvf{t:List Int}(h5:t.length=5)(h:Way t):∀ z∈t,z<=40:=by
 rcases h with ⟨s,hs,rfl⟩ | ⟨f,hf,h⟩ | ⟨f,hf,h⟩
 ·obtain⟨a,b,rfl,ha,hb⟩:=sg2 hs
  intro z hz;rw [mx2]at hz;simp only [qv,List.not_mem_nil,or_false]at hz;rcases hz with rfl | rfl | rfl | rfl | rfl<;>omega
 ·exact zsO h5 hf (zsN hf h)
 ·exact zsO h5 hf h
end K58
open PySem L2
namespace K58
open PySem L2
def Far(ts:List Tr):Prop:=(∀ t∈ts,0<=t.1)/\∀ l,wn ts zs5=some l->∃ z∈l,41<=z
theorem zsP{x y:Int}{Q:U×List U->Prop}(k:∀ ts x' y',Far ts->Q (.d (.tuple (ts.map trD)),[bx x' y'])):Wo (zbD [bx x y]) Q:=by
 simp_arith [zbD,zeS];refine zbE (by omega) (by omega) fun r x1 y1 h0 h1=>?_;simp_arith;refine zbE (by omega) (by omega) fun p x2 y2 p0 p1=>?_;simp_arith;refine zbE (by omega) (by omega) fun q x3 y3 q0 q1=>?_;have pk:∃ s:Int,(s=5\/s=4)/\atI [PyData.int 5,.int 5,.int 5,.int 4] q=some (.int s):=by
  rcases(show q=0\/q=1\/q=2\/q=3 by omega)with e | e | e | e
  ·exact⟨5,.inl rfl,atK (i:=0) e rfl⟩
  ·exact⟨5,.inl rfl,atK (i:=1) e rfl⟩
  ·exact⟨5,.inl rfl,atK (i:=2) e rfl⟩
  ·exact⟨4,.inr rfl,atK (i:=3) e rfl⟩
 obtain⟨s,hs,es⟩:=pk;simp_arith [es];refine zdV (fun c0=>?_) fun c0=>?_
 ·simp_arith
  refine zbE (by omega) (by omega) fun a x4 y4 a0 a1=>?_;simp_arith;refine zbE (by omega) (by omega) fun b x5 y5 b0 b1=>?_;simp_arith;refine k [(p,1+a,1),(5+b,1,1)] _ _ ⟨fun t ht=>?_,fun l hl=>?_⟩
  ·simp only [qv,List.not_mem_nil,or_false]at ht
   rcases ht with rfl | rfl
   ·exact p0
   ·show 0<=5+b
    omega
  ·unfold wn at hl
   rw [if_neg (by simp; omega)]at hl;unfold wn at hl;rw [if_pos (.inl (by show 5+b>=5; omega))]at hl;cases hl
 ·simp_arith
  refine zdV (fun c1=>?_) fun c1=>?_
  ·simp_arith
   refine zbE (by omega) (by omega) fun a x4 y4 a0 a1=>?_;simp_arith;refine k [(p,1+2 * a,2)] _ _ ⟨fun t ht=>?_,fun l hl=>?_⟩
   ·cases qq.mp ht
    exact p0
   ·unfold wn at hl
    rw [if_pos (.inr (by show(2:Int)≠1; omega))]at hl;cases hl
  ·simp_arith
   refine zbE (by omega) (by omega) fun a x4 y4 a0 a1=>?_;simp_arith;refine k [(p,41+a,1),(s,1,1)] _ _ ⟨fun t ht=>?_,fun l hl=>?_⟩
   ·simp only [qv,List.not_mem_nil,or_false]at ht
    rcases ht with rfl | rfl
    ·exact p0
    ·show 0<=s
     omega
   ·unfold wn at hl
    rw [if_neg (by simp; omega)]at hl;unfold wn at hl;rcases hs with rfl | rfl
    ·rw [if_pos (.inl (by show(5:Int)>=5; omega))]at hl
     cases hl
    ·rw [if_neg (by simp)]at hl
     cases hl;refine⟨41+a,?_,by omega⟩;rcases(show p=0\/p=1\/p=2\/p=3 by omega)with rfl | rfl | rfl | rfl<;>simp [zs5]
theorem zi6{ts:List Tr}{Q:U×List U->Prop}(h:Far ts)(q:Q (.d .none,[.d (.tuple (ts.map trD))])):Wo (zbf [.d (.tuple (ts.map trD))]) Q:=by
 refine zgj h.1 (fun _=>q) fun l x l5 hw hx=>?_;obtain⟨z,hz,h41⟩:=h.2 l hw;rw [hx.mpr fun w=>by have:=zvf l5 w z hz; omega];exact q
theorem zvg(ns:List Int)(hl:ns.length<=63):∃ outs,zgV [.d (.list (ns.map .int))]=some (.d (.bool true),outs):=by
 suffices h:Wo (zgV [.d (.list (ns.map .int))]) fun o=>o.1=.d (.bool true) by
  obtain⟨⟨a,outs⟩,e,ha⟩:=h;subst ha;exact⟨outs,e⟩
 have iN:zdD false (.d .none) (.d .none)=some (.d (.bool true)):=rfl;simp_arith [zgV,zsF];refine zsG (by omega) fun x y=>?_;simp_arith;refine zbE (by omega) (by omega) fun r x1 y1 h0 h1=>?_
 by_cases c:0 < r
 ·simp_arith [c,decide_true]
  refine zsP fun ts x2 y2 hts=>?_;simp_arith;refine zi6 hts ?_;simp_arith [iN];refine zsG (by omega) fun x3 y3=>?_;simp_arith;refine zsP fun ts' x4 y4 hts'=>?_;simp_arith;refine zi6 hts' ?_;simp_arith [iN]
 ·simp_arith [c,decide_false,Bool.false_eq_true]
  refine zi2 fun l x2 y2 l5=>?_;simp_arith;refine zbE (by omega) (by omega) fun n x3 y3 n0 n1=>?_;simp_arith;refine zgJ (fun i ρ=>∃ (l:List Int) (x' y':Int) (v3 v4:Option U),l.length=5/\ρ=[some (.d (.list (ns.map .int))),some (bx x' y'),some (.l (l.map .int)),v3,v4]) ⟨l,_,_,_,_,l5,rfl⟩ ?_ ?_
  ·rintro i ρ hi ⟨l,x',y',v3,v4,l5,rfl⟩
   simp_arith;refine zbE (by omega) (by omega) fun a x4 y4 a0 a1=>?_;have ea:a=((a.toNat:Nat):Int):=by omega
   have e1:=zjV (l:=l) (i:=a.toNat) (by omega);have e2:=zrm (l:=l) (i:=a.toNat) (by omega);rw [<-ea]at e1 e2;simp_arith [e1];refine zbE (by omega) (by omega) fun b x5 y5 b0 b1=>?_;have pk:∃ s:Int,atI [PyData.int 1,.int (-1),.int 2] b=some (.int s):=by
    rcases(show b=0\/b=1\/b=2 by omega)with e | e | e
    ·exact⟨1,atK (i:=0) e rfl⟩
    ·exact⟨-1,atK (i:=1) e rfl⟩
    ·exact⟨2,atK (i:=2) e rfl⟩
   obtain⟨s,es⟩:=pk;simp_arith [es,e2,zlB];exact⟨l.set a.toNat (l.getD a.toNat 0+s),_,_,_,_,by rw [List.length_set]; exact l5,rfl⟩
  ·rintro ρ ⟨l,x',y',v3,v4,l5,rfl⟩
   simp_arith;refine zmz l5 ?_;simp_arith;refine zgj zvc (fun z=>?_) fun l' z _ hw hz=>?_
   ·rw [zpH l5]at z
    cases z
   ·rw [zpH l5]at hw
    cases hw;rw [zrv l5]at hz;obtain⟨zb,hzb,iZ⟩:∃ zb:Bool,(zb=true↔z=.none)/\zdD false (.d z) (.d .none)=some (.d (.bool zb)):=by
     cases z<;>first | exact⟨true,by simp,rfl⟩ | exact⟨false,by simp,rfl⟩
    have eqB:∀ {p:Bool},zcK false (.d (.bool p)) (.d (.bool p))=some (.d (.bool true)):=fun{p}=>by cases p<;>rfl
    have eB:U.d (.list (l.map .int))=lsB false l:=rfl;simp_arith [iZ];rw [eB];refine zi3 l5 fun b hb=>?_;cases b
    ·have nm:¬isM l:=fun w=>by cases hb.mpr w
     simp_arith [Bool.not_false];have eB2:lsB false l=U.d (.list (l.map .int)):=rfl;rw [eB2];refine zpJ l5 fun b2 hb2=>?_;have ez:zb=!b2:=by
      rw [Bool.eq_iff_iff,hzb,hz];cases b2
      ·have n2:¬By2 l:=fun w=>by cases hb2.mpr w
       simp [nm,n2]
      ·simp [hb2.mp rfl]
     subst ez;simp_arith [eqB]
    ·have ez:zb=false:=by
      cases zb
      ·rfl
      ·exact absurd (.inl (hb.mp rfl)) (hz.mp (hzb.mp rfl))
     subst ez;simp_arith [Bool.not_true,Bool.false_eq_true,eqB]
abbrev zpN(K:qc):Sp:=spV K 1 zgV
theorem zhQ{X:Cx}{o value:Expr}{f:Str}{pos pos':Pos}{ta tv:TE}(ha:Wr (PE X o ta))(hv:Wr (PE X value tv))(hs:swapsWith value (some (.Attribute o f pos')) pos.line X.env=pure false:=by rfl):Wr (PS X (.Assign [.Attribute o f pos'] value pos) (zmV X.K ta tv f)):=⟨zts ha.run hv.run hs⟩
theorem all_mk{l:PySem.W.OpenLaw}{w:World}{K:qc}{h:Heap}{mg:Str->Option Value}{fa:Addr}(X:K.In h)(G:h.Ns mainGlobals mg)(hfa:mg "law"=some (.ref fa)){TPOWERS:Tok}{GNOUGHT GONE GNUMBER GLETTER GSIGNS CNewRows fXNewRows:Addr}{odTNOUGHT odTONE odTNUMBER odTLETTER odTSIGNS odXNewRows anXNewRows:Option Addr}{itTNOUGHT itTONE itTNUMBER itTLETTER itTSIGNS:Array Value}{nTNOUGHT nTONE nTNUMBER nTLETTER nTSIGNS:Nat}{slTNOUGHT slTONE slTNUMBER slTLETTER slTSIGNS slXNewRows:Array (Option Value)}{ocXNewRows kVXNewRows dcXNewRows pmXNewRows cdXNewRows ctXNewRows:Value}
  (a0:MtK K "NewRows" "add_new" "NewRows.add_new" zbV)
  (a1:MtK K "NewRows" "shared" "NewRows.shared" zcg)
  (a2:MtK K "NewRows" "sum_row" "NewRows.sum_row" zbW)
  (a3:FnK K "whole_numbers" zcu)
  (a4:FnK K "numbers_plus" zcZ)
  (a5:FnK K "numbers_times" zcv)
  (a6:FnK K "mixes" zlz)
  (a7:FnK K "products_of" zdm)
  (a8:FnK K "thing_row" zeL)
  (a9:FnK K "mix_row" zgS)
  (a10:FnK K "small_reckoning" zbX)
  (a11:FnK K "with_two" zf6)
  (a12:FnK K "cheapest" zf7)
  (a13:FnK K "_law_box" zeM)
  (a14:FnK K "_law_take" zd3)
  (a15:FnK K "_law_list_product" zbA)
  (a16:FnK K "_law_mix" zeN)
  (a17:FnK K "_law_signs" zdn)
  (a18:FnK K "_law_small_one" zbY)
  (a19:FnK K "_law_poly_of" zcw)
  (a20:FnK K "_law_is_mix" zc0)
  (a21:FnK K "_law_halves" zc1)
  (a22:FnK K "_law_fits" zd4)
  (a23:FnK K "_law_by_two" zc2)
  (a24:FnK K "_law_far" zeO)
  (a25:FnK K "law" zsE)
  (z0:PySem.W.nsIn K mainGlobals "len"=some none)
  (z1:PySem.W.nsIn K mainGlobals "tuple"=some none)
  (z2:PySem.W.nsIn K mainGlobals "zip"=some none)
  (z3:PySem.W.nsIn K mainGlobals "enumerate"=some none)
  (z4:PySem.W.nsIn K mainGlobals "range"=some none)
  (z5:PySem.W.nsIn K mainGlobals "list"=some none)
  (z6:PySem.W.nsIn K mainGlobals "int"=some none)
  (z7:PySem.W.nsIn K mainGlobals "sum"=some none)
  (xt0:zum K zwQ xfl=true)
  (aIPOWERS:PySem.W.nsIn K mainGlobals "POWERS"=some (some (.int 5 TPOWERS)))
  (aTNOUGHT:PySem.W.nsIn K mainGlobals "NOUGHT"=some (some (.ref GNOUGHT)))
  (lTNOUGHT:K.lookup GNOUGHT=some ⟨.type "tuple",odTNOUGHT,.seq itTNOUGHT nTNOUGHT,slTNOUGHT⟩)
  (vTNOUGHT:zE [.int (0),.int (1)] itTNOUGHT.toList)
  (zTNOUGHT:itTNOUGHT.size<=sizeLine)
  (aTONE:PySem.W.nsIn K mainGlobals "ONE"=some (some (.ref GONE)))
  (lTONE:K.lookup GONE=some ⟨.type "tuple",odTONE,.seq itTONE nTONE,slTONE⟩)
  (vTONE:zE [.int (1),.int (1)] itTONE.toList)
  (zTONE:itTONE.size<=sizeLine)
  (aTNUMBER:PySem.W.nsIn K mainGlobals "NUMBER"=some (some (.ref GNUMBER)))
  (lTNUMBER:K.lookup GNUMBER=some ⟨.type "tuple",odTNUMBER,.seq itTNUMBER nTNUMBER,slTNUMBER⟩)
  (vTNUMBER:zE [.int (1),.int (0),.int (0),.int (0),.int (0)] itTNUMBER.toList)
  (zTNUMBER:itTNUMBER.size<=sizeLine)
  (aTLETTER:PySem.W.nsIn K mainGlobals "LETTER"=some (some (.ref GLETTER)))
  (lTLETTER:K.lookup GLETTER=some ⟨.type "tuple",odTLETTER,.seq itTLETTER nTLETTER,slTLETTER⟩)
  (vTLETTER:zE [.int (0),.int (1),.int (0),.int (0),.int (0)] itTLETTER.toList)
  (zTLETTER:itTLETTER.size<=sizeLine)
  (aTSIGNS:PySem.W.nsIn K mainGlobals "SIGNS"=some (some (.ref GSIGNS)))
  (lTSIGNS:K.lookup GSIGNS=some ⟨.type "tuple",odTSIGNS,.seq itTSIGNS nTSIGNS,slTSIGNS⟩)
  (vTSIGNS:zE [.int (0),.int (1),.int (-1)] itTSIGNS.toList)
  (zTSIGNS:itTSIGNS.size<=sizeLine)
  (aXNewRows:PySem.W.nsIn K mainGlobals "NewRows"=some (some (.ref CNewRows)))
  (kXNewRows:PySem.W.keepIn K (.ref CNewRows)=true)
  (mXNewRows:PySem.W.makesIn K CNewRows=true)
  (pgXNewRows:PySem.W.plainGet K CNewRows Str.empty=true)
  (hdXNewRows:PySem.W.hasDictIn K CNewRows=true)
  (poXNewRows:PySem.W.plainOver K CNewRows=true)
  (saXNewRows:PySem.W.findIn K (.ref CNewRows) "__setattr__"=some (some (.builtin "object.__setattr__")))
  (nXNewRows_rows:PySem.W.findIn K (.ref CNewRows) "rows"=some none)
  (nXNewRows_paper:PySem.W.findIn K (.ref CNewRows) "paper"=some none)
  (nXNewRows_places:PySem.W.findIn K (.ref CNewRows) "places"=some none)
  (nXNewRows_mark_places:PySem.W.findIn K (.ref CNewRows) "mark_places"=some none)
  (iXNewRows:PySem.W.findIn K (.ref CNewRows) "__init__"=some (some (.ref fXNewRows)))
  (lXNewRows:K.lookup fXNewRows=some ⟨ocXNewRows,odXNewRows,.func (PySem.W.fnOf "__init__" "NewRows.__init__" (zbw zcp) (zar zcp) (zJ zcp) .none kVXNewRows dcXNewRows pmXNewRows anXNewRows cdXNewRows ctXNewRows),slXNewRows⟩)
  (cXNewRows:PySem.W.codeIn K cdXNewRows "NewRows.__init__"=true)
  (kfXNewRows:PySem.W.keepIn K (.ref fXNewRows)=true)
  (fnXNewRows:PySem.W.isFn K (.ref fXNewRows)=true)
  : ∃ fd:FuncData,(∀ (s:Shared) (v:Value),BindsTo s fd ⟨[v],[]⟩ [("_law_script",v)])/\∀ base:Heap,K.In base->base.Ns mainGlobals mg->FnOk l.prog w K mg base CX0 8 fa fd ["_law_script"] (spV K 1 zgV):=by
 obtain⟨_,fd,F,g⟩:=a25;cases hfa.symm.trans (PySem.W.mg_of X G g);refine⟨fd,fun s v=>by obtain⟨_,_,_,_,_,_,_,_,_,rfl,_⟩:=F.ex; exact .of_eq rfl,fun base _ _=>?_⟩;have hB:Bl mg ["len", "tuple", "zip", "enumerate", "range", "list", "int", "sum"]:=Bl.cons (PySem.W.mg_none_of X G z0) (Bl.cons (PySem.W.mg_none_of X G z1) (Bl.cons (PySem.W.mg_none_of X G z2) (Bl.cons (PySem.W.mg_none_of X G z3) (Bl.cons (PySem.W.mg_none_of X G z4) (Bl.cons (PySem.W.mg_none_of X G z5) (Bl.cons (PySem.W.mg_none_of X G z6) (Bl.cons (PySem.W.mg_none_of X G z7) (Bl.nil))))))));have hT:=zwk xt0;have g_POWERS:=PySem.W.mg_of X G aIPOWERS;have g_NOUGHT:=PySem.W.mg_of X G aTNOUGHT;have gt_NOUGHT:GTi K GNOUGHT [0,1]:=⟨_,itTNOUGHT,nTNOUGHT,lTNOUGHT,rfl,rfl,zTNOUGHT,vTNOUGHT⟩;have g_ONE:=PySem.W.mg_of X G aTONE;have gt_ONE:GTi K GONE [1,1]:=⟨_,itTONE,nTONE,lTONE,rfl,rfl,zTONE,vTONE⟩;have g_NUMBER:=PySem.W.mg_of X G aTNUMBER;have gt_NUMBER:GTi K GNUMBER [1,0,0,0,0]:=⟨_,itTNUMBER,nTNUMBER,lTNUMBER,rfl,rfl,zTNUMBER,vTNUMBER⟩;have g_LETTER:=PySem.W.mg_of X G aTLETTER;have gt_LETTER:GTi K GLETTER [0,1,0,0,0]:=⟨_,itTLETTER,nTLETTER,lTLETTER,rfl,rfl,zTLETTER,vTLETTER⟩;have g_SIGNS:=PySem.W.mg_of X G aTSIGNS;have gt_SIGNS:GTi K GSIGNS [0,1,-1]:=⟨_,itTSIGNS,nTSIGNS,lTSIGNS,rfl,rfl,zTSIGNS,vTSIGNS⟩;have gXNewRows:=PySem.W.mg_of X G aXNewRows;have FXNewRows:=zji (st:=zcp) lXNewRows cXNewRows kfXNewRows;have cl_NewRows:Cls K CNewRows:=⟨pgXNewRows,hdXNewRows,poXNewRows,saXNewRows⟩;have na_NewRows:∀ p∈([("rows",.l []),("paper",.l []),("places",.x []),("mark_places",.x [])]:List (Str×PU)),zal K CNewRows p.1:=fun _ z=>by rcases qv.mp z with rfl | z; exact nXNewRows_rows; rcases qv.mp z with rfl | z; exact nXNewRows_paper; rcases qv.mp z with rfl | z; exact nXNewRows_places; rcases qv.mp z with rfl | z; exact nXNewRows_mark_places; cases z
 have oB_NewRows:OB K "NewRows" ["rows", "paper", "places", "mark_places"]:=OB.of aXNewRows cl_NewRows fun f hf=>by obtain⟨p,hp,rfl⟩:=List.mem_map.mp (show f∈([("rows",.l []),("paper",.l []),("places",.x []),("mark_places",.x [])]:List (Str×PU)).map (·.1) from hf); exact na_NewRows p hp
 have nC_NewRows:NCal l.prog w K mg base "NewRows" [("rows",.l []),("paper",.l []),("places",.x []),("mark_places",.x [])]:=zxi (Z:=⟨l.prog,w,K,mg,base⟩) aXNewRows gXNewRows ⟨mXNewRows,iXNewRows,fnXNewRows,kXNewRows⟩ cl_NewRows na_NewRows FXNewRows (fun z=>nomatch z) (by decide) (by decide) ⟨rfl,rfl,rfl,by decide +kernel,rfl,by decide +kernel,by decide +kernel⟩ (fun _ _ _ _ _ _ us hl=>by obtain⟨_,rfl⟩:=zuA hl; rfl) fun nd=>(w_s (zhQ w_v (zaj zi)) (w_s (zhQ w_v (zaj zi)) (w_s (zhQ w_v zll) (zQ (zhQ w_v zll)))))
 let Z:Zs:=⟨l.prog,w,K,mg,base⟩
 have B:Bs Z:=⟨hB,hT,⟨_,g_POWERS⟩,⟨_,g_NOUGHT,gt_NOUGHT⟩,⟨_,g_ONE,gt_ONE⟩,⟨_,g_NUMBER,gt_NUMBER⟩,⟨_,g_LETTER,gt_LETTER⟩,⟨_,g_SIGNS,gt_SIGNS⟩,oB_NewRows,nC_NewRows⟩;have C0:=zd5 B a0;have C1:=zex B a1 C0;have C2:=zd9 B a2 C0 C1;have C3:=ze1 B (a3.z X G);have C4:=zf8 B (a4.z X G);have C5:=ze2 B (a5.z X G);have C6:=zrk B (a6.z X G) C4;have C7:=zgu B (a7.z X G) C5 C6;have C8:=ziX B (a8.z X G) C1;have C9:=zmx B (a9.z X G) C8 C2;have C10:=zeb B (a10.z X G) C9 C0;have C11:=zjT B (a11.z X G) C4 C6 C7 C10;have C12:=zjU B (a12.z X G) C3 C6 C7 C10 C11;have C13:=ziU B (a13.z X G);have C14:=zhI B (a14.z X G);have C15:=zc4 B (a15.z X G);have C16:=ziV B (a16.z X G);have C17:=zgt B (a17.z X G) C14;have C18:=zea B (a18.z X G) C15 C16 C17;have C19:=ze3 B (a19.z X G);have C20:=zf9 B (a20.z X G);have C21:=zga B (a21.z X G) C16;have C22:=zhJ B (a22.z X G) C20;have C23:=zgb B (a23.z X G) C15 C21 C22;have C24:=ziW B (a24.z X G) C14;exact zu8 (Z:=Z) B F C12 C13 C14 C18 C19 C20 C23 C24
theorem walk{l:PySem.W.OpenLaw}{q:Program}{loose:List Str}{XP:(Str->Option Value)->Heap->Prop}{YP:World->Heap->Prop}{d:DefRec}{K:Params->qc}(hn:l.most=some 63)(hdf:d.params.defaults=[])
  (hY:∀ (w:World) (h:Heap),YP w h->(K w.params).In h)
  (F:∀ (w:World) (mg:Str->Option Value) (fa:Addr) (h:Heap),(K w.params).In h->h.Ns mainGlobals mg->mg d.name=some (.ref fa) ->
   ∃ fd:FuncData,(∀ (s:Shared) (u:Value),BindsTo s fd ⟨[u],[]⟩ [("_law_script",u)])/\∀ base:Heap,(K w.params).In base->base.Ns mainGlobals mg->FnOk l.prog w (K w.params) mg base CX0 8 fa fd ["_law_script"] (zpN (K w.params))) :
  PySem.W.WalkO q loose XP YP l.row.toRowW d [] (fun f vs=>PySem.call f vs) :=
 L2.walk_of (n:=63) (k:=8) (x := "_law_script") (CX:=fun _=>CX0) (sp:=fun w=>zpN (K w.params)) hn (by decide) hdf ⟨rfl,by decide,by decide,rfl⟩ hY F (fun w H a ns hl hO hS=>zt0 hO hS (zvg ns hl)) fun _ _ _ _ _ z=>z
end K58
namespace PySem.W.Fast
def tw9549709408289500068:=()
def tw8319152115376354241:=()
def tw615063670868051499:=()
def tw4606059714809413241:=()
def tw7933998682210164380:=()
def tw1902464452722242695:=()
def tw14977075454604407022:=()
def tw10928639765328315456:=()
def tw2201849485526658169:=()
def tw13227232385206301247:=()
def tw5804934902168187166:=()
def tw14204508133800065764:=()
def tw1634832401742757384:=()
def tw9497000232891850896:=()
def tw10811972236363284760:=()
def tw9221990479387104571:=()
def tw4341924021788469247:=()
def tw3852761662166918719:=()
def tw15392718776575043706:=()
def tw7623849892360913568:=()
def tw6117326704476149374:=()
def tw6772841307365290502:=()
def tw10071570685328919314:=()
def tw3637213830852654265:=()
def tw1115547251828097178:=()
def tw16658069674639583814:=()
def tw6551936696653927802:=()
def tw13241491469729077124:=()
def tw84420664867572783:=()
def tw333445116745562567:=()
def tw18137747977553123353:=()
def tw8624626250376973529:=()
def tw6874980354691546268:=()
def tw9293578991194357399:=()
def tw2996075069829629633:=()
def tw1725770703400196633:=()
def tw1316521471292088602:=()
def tw12165858340247088075:=()
def tw14286790421600970414:=()
def tw2656246295473432666:=()
def tw14860263034506231959:=()
def tw17211362890674377602:=()
def tw13673291470994550810:=()
def tw16968462595734626725:=()
def tw251172207641668973:=()
def tw14301328607818724730:=()
def tw9140637596454094870:=()
def tw9087219259227468901:=()
def tw4148178533349740168:=()
def tw12524815348740297882:=()
def tw10592818461951483463:=()
def tw6925952130540683258:=()
def tw10246096468530144058:=()
def tw7603882213606158868:=()
def tw7011852575767851205:=()
def tw4438415383959532436:=()
def tw4599141867721788018:=()
def tw15756227829446901740:=()
def tw13405154561099138642:=()
def tw13032041677782283005:=()
def tw10415897895121889566:=()
def tw2557800210957872713:=()
def tw17476561945483448473:=()
def tw6146179419719384052:=()
def tw11393370684516182568:=()
def tw12744497695034138889:=()
def tw10252640544333691989:=()
def tw7391857394186298799:=()
def tw5725100064889657130:=()
def tw17709753283654331248:=()
def tw4565120994998681268:=()
def tw13256034909818278632:=()
def tw12376619613291442617:=()
def tw17775354466957670465:=()
def tw10291369616894041592:=()
def tw8403858732958503314:=()
def tw17788889182306448959:=()
def tw11777117951637431947:=()
def tw439997424696428493:=()
def tw13536825818758330850:=()
def tw16504612505290990824:=()
def tw3312959329473999717:=()
def tw7228339622021664035:=()
def tw5721319146410170431:=()
def tw13288408802694396626:=()
def tw4792628150137580487:=()
def tw9501858589105616948:=()
def tw955183066919756573:=()
def tw17272848495462225774:=()
def tw1747350605796172792:=()
def tw11543000372813853717:=()
def tw43870361215326404:=()
def tw4900641528845752653:=()
def tw11774360961468117802:=()
def tw3145442338263375741:=()
def tw736797085850046951:=()
def tw8951797852642311720:=()
def tw4318842715571794606:=()
def tw448621943484879375:=()
def tw7714458330243255545:=()
def tw7099776364463584564:=()
def tw2293878831301695983:=()
def tw10902515062538383775:=()
def tw12080713048509144790:=()
def tw15079662620297591735:=()
def tw9170516112206621111:=()
def tw3142639618045428703:=()
def tw5625944112295752507:=()
def tw6703082259815027458:=()
def tw18407928293365271147:=()
def tw16542435038357923170:=()
def tw17464074404148301815:=()
def tw5952560798797609761:=()
def tw16419750309840205552:=()
def tw3783119222744013515:=()
def tw5229436971306803857:=()
def tw2520955579127921454:=()
def tw16905283067065670179:=()
def tw12427172255900949043:=()
def tw11207407484916355901:=()
def tw7236546260848738155:=()
def tw8423004172400418020:=()
def tw16435016955674987826:=()
def tw15487269525570963940:=()
def tw10434626006162364639:=()
def tw14060882003412217875:=()
def tw11943177334520704633:=()
def tw1194500412118773086:=()
def tw9146297279158688385:=()
def tw1398512503569731526:=()
def tw11934004490354058111:=()
def tw6717644713062231204:=()
def tw4430743720990536308:=()
def tw14818070106241851684:=()
def tw1320655548339774358:=()
def tw5404855162872788629:=()
def tw8751163006784288739:=()
def tw4004000376588174105:=()
def tw11113955280696952584:=()
def tw16958713395558689795:=()
def tw1568153596708145218:=()
def tw709040650193937348:=()
def tw13552535659561413121:=()
def tw5993592663259437999:=()
def tw11330622430909439339:=()
def tw18446372966416194613:=()
end PySem.W.Fast
open PySem PySem.W PyProof.Rows
set_option maxRecDepth 100000 in
set_option maxHeartbeats 0 in
theorem PySem.Challenge.cw_undivide_k58_whole_two_are_not_enough_holds : PySem.Challenge.rw_undivide_k58_whole_two_are_not_enough.Holds := by
 w_on; o_law; k_head; (case hw=>w_witness2)
 k_fill
 refine K58.walk (l:=PySem.Challenge.rw_undivide_k58_whole_two_are_not_enough) rfl rfl (fun w h Y=>PySem.W.kIn_of Y) ?F
 case F =>
  intro w mg fa h KX G hmg;refine' K58.all_mk KX G hmg ?a0 ?a1 ?a2 ?a3 ?a4 ?a5 ?a6 ?a7 ?a8 ?a9 ?a10 ?a11 ?a12 ?a13 ?a14 ?a15 ?a16 ?a17 ?a18 ?a19 ?a20 ?a21 ?a22 ?a23 ?a24 ?a25 ?z0 ?z1 ?z2 ?z3 ?z4 ?z5 ?z6 ?z7 ?xt0 ?aIPOWERS ?aTNOUGHT ?lTNOUGHT ?vTNOUGHT ?zTNOUGHT ?aTONE ?lTONE ?vTONE ?zTONE ?aTNUMBER ?lTNUMBER ?vTNUMBER ?zTNUMBER ?aTLETTER ?lTLETTER ?vTLETTER ?zTLETTER ?aTSIGNS ?lTSIGNS ?vTSIGNS ?zTSIGNS ?aXNewRows ?kXNewRows ?mXNewRows ?pgXNewRows ?hdXNewRows ?poXNewRows ?saXNewRows ?nXNewRows_rows ?nXNewRows_paper ?nXNewRows_places ?nXNewRows_mark_places ?iXNewRows ?lXNewRows ?cXNewRows ?kfXNewRows ?fnXNewRows
  any_goals (refine' L2.fnK ?_ ?_ ?_ ?_<;>try k_is)
  any_goals (refine' L2.mtK ?_ ?_ ?_ ?_ ?_ ?_ ?_ ?_ ?_ ?_<;>try k_is)
  (case z0=>k_is)
  (case z1=>k_is)
  (case z2=>k_is)
  (case z3=>k_is)
  (case z4=>k_is)
  (case z5=>k_is)
  (case z6=>k_is)
  (case z7=>k_is)
  (case xt0=>kernel_rfl)
  (case aIPOWERS=>k_is)
  (case aTNOUGHT=>k_is)
  (case lTNOUGHT=>k_is)
  (case vTNOUGHT=>(repeat (first | exact .nil | refine .cons ⟨_,rfl⟩ ?_)))
  (case zTNOUGHT=>exact by decide)
  (case aTONE=>k_is)
  (case lTONE=>k_is)
  (case vTONE=>(repeat (first | exact .nil | refine .cons ⟨_,rfl⟩ ?_)))
  (case zTONE=>exact by decide)
  (case aTNUMBER=>k_is)
  (case lTNUMBER=>k_is)
  (case vTNUMBER=>(repeat (first | exact .nil | refine .cons ⟨_,rfl⟩ ?_)))
  (case zTNUMBER=>exact by decide)
  (case aTLETTER=>k_is)
  (case lTLETTER=>k_is)
  (case vTLETTER=>(repeat (first | exact .nil | refine .cons ⟨_,rfl⟩ ?_)))
  (case zTLETTER=>exact by decide)
  (case aTSIGNS=>k_is)
  (case lTSIGNS=>k_is)
  (case vTSIGNS=>(repeat (first | exact .nil | refine .cons ⟨_,rfl⟩ ?_)))
  (case zTSIGNS=>exact by decide)
  (case aXNewRows=>k_is)
  (case kXNewRows=>k_is)
  (case mXNewRows=>k_is)
  (case pgXNewRows=>k_is)
  (case hdXNewRows=>k_is)
  (case poXNewRows=>k_is)
  (case saXNewRows=>k_is)
  (case nXNewRows_rows=>k_is)
  (case nXNewRows_paper=>k_is)
  (case nXNewRows_places=>k_is)
  (case nXNewRows_mark_places=>k_is)
  (case iXNewRows=>k_is)
  (case lXNewRows=>k_is)
  (case cXNewRows=>k_is)
  (case kfXNewRows=>k_is)
  (case fnXNewRows=>k_is)
