import PyProof.Rows.All
import Wide.All
import OpenK.AllK
import Wide.FinOn
import Lean
import PyProof.EqAt
import PyProof.EqKinds
import PyProof.TupleCall
import PySem.Challenge.RW_undivide_k35_whole_borders
set_option Elab.async false
set_option linter.all false
set_option maxRecDepth 100000
set_option compiler.extract_closed false
local macro_rules | `(tactic| omega)=> `(tactic| lia)
noncomputable section
open Lean in
local macro_rules|`(tactic|have($a,$b,*):=$e)=>do
 let p<-(#[a]++b.getElems).mapM λx=>match x with|`($i:ident)=>`(Parser.Tactic.rcasesPatLo|$i:ident)|_=>`(Parser.Tactic.rcasesPatLo|_)
 `(tactic|obtain⟨$p,*⟩:=$e)
namespace L2
open PySem PySem.Spec PyProof.Rows
abbrev À:=@PySem.F.slot_list_append
abbrev Á:=@PySem.F.type_list_append
abbrev Â:=@PySem.F.plainAttrs_list
abbrev Ã:=@PySem.boot_len
abbrev Ä.{u,v}:=@List.mem_map.{u,v}
abbrev Å:=@Nat.lt_of_le_of_lt
abbrev Æ:=@Nat.mul_le_mul_right
abbrev Ç:=@Nat.zero_le
abbrev È:=@PyProof.Rows.boot_tuple
abbrev É:=@PyProof.Rows.boot_isinstance
abbrev Ê:=@PySem.W.mg_none_of
abbrev Ë:=@Nat.lt_irrefl
abbrev Ì.{u}:=@List.mem_of_getElem?.{u}
abbrev Í:=@List.mem_range
abbrev Î:=@PySem.Heap.get?_update_other
abbrev Ï.{u}:=@List.mem_append.{u}
abbrev Ð.{u}:=@List.mem_append_left.{u}
abbrev Ñ:=@PySem.W.kia_one
abbrev Ò.{u,v}:=@List.length_map.{u,v}
abbrev Ó:=@Int.le_refl
abbrev Ô:=@PySem.F.slot_dict_itemiterator_next
abbrev Õ:=@PySem.Heap.SameBut.update
abbrev Ö.{u,v}:=@List.map_congr_left.{u,v}
abbrev Ø.{u}:=@List.nodup_nil.{u}
abbrev Ù:=@PySem.Heap.get?_update_self
abbrev Ú.{u}:=@List.mem_filter.{u}
abbrev Û.{u}:=@List.pairwise_cons.{u}
abbrev Ü:=@PySem.F.slot_dict_valueiterator_next
abbrev Ý:=@Nat.lt_succ_self
abbrev Þ:=@Nat.lt_trans
abbrev ß:=@Nat.lt_or_ge
abbrev à:=@Int.le_of_lt
abbrev á:=@Int.mul_pos
abbrev â:=@PySem.F.slot_dict_keyiterator_next
abbrev ã:=@Nat.pow_le_pow_right
abbrev ä:=@Nat.pow_lt_pow_right
abbrev å:=@PyProof.Rows.callWith_type1
abbrev æ.{u}:=@List.nodup_cons.{u}
abbrev ç:=@Int.emod_nonneg
abbrev è:=@Nat.mul_le_mul_left
abbrev é.{u}:=@List.all_eq_true.{u}
abbrev ê:=@PySem.Calls.callWith_builtin
abbrev ë:=@Int.dvd_gcd_mul_iff_dvd_mul
abbrev ì:=@Int.emod_lt_of_pos
abbrev í:=@PyProof.Rows.boot_int
abbrev î:=@PyProof.Rows.boot_abs
abbrev ï.{u}:=@List.pairwise_iff_getElem.{u}
abbrev ð:=@Nat.pow_pos
abbrev ñ:=@Int.mul_ediv_cancel_left
abbrev ò:=@PySem.F.slot_list_getattribute
abbrev ó:=@PySem.mem_of_lookup
abbrev ô:=@Int.natCast_dvd_natCast
abbrev õ:=@PySem.F.plain_max_loop
abbrev ö.{u}:=@List.getElem?_set_self.{u}
abbrev ø:=@Nat.mul_pos
abbrev ù:=@Nat.lt_succ_of_lt
abbrev ú.{u,v}:=@List.pairwise_map.{u,v}
abbrev û:=@PySem.Obj.isFreed_of_fields
abbrev ü:=@Int.le_trans
abbrev ý.{u}:=@List.length_filter_le.{u}
abbrev þ:=@Int.gcd_pos_of_ne_zero_right
abbrev ÿ:=@Nat.mul_le_mul
abbrev Ā:=@PyProof.Rows.boot_max
abbrev ā.{u}:=@List.any_eq_true.{u}
abbrev Ă:=@Bool.and_eq_true_iff
abbrev ă:=@Int.eq_of_mul_eq_mul_right
abbrev Ą:=@PySem.W.mg_of
abbrev ą.{u}:=@List.getElem_of_mem.{u}
abbrev Ć:=@Nat.le_of_eq
abbrev ć:=@PySem.Obj.data_mapFields
abbrev Ĉ:=@Int.mul_nonneg
abbrev Qa.{u}:=@List.{u}
abbrev Qb.{u}:=@Option.{u}
abbrev Qc:=Value
abbrev Qd:=Shared
abbrev Qe:=Program
abbrev Qf:=Around
abbrev Qg:=Addr
abbrev Qh:=World
abbrev qc:=@wpAny_bind
abbrev qd:=@wpAny_pure
abbrev qe:=PySem.W.Frag
abbrev qf:=@Heap.get?_push_of_some
abbrev qg:=@Nat.le_refl
abbrev qh:=@Bool.false_ne_true
abbrev qi:=@Heap.get?_push_size
abbrev qj:=@Heap.lt_size
abbrev qk:=@Nat.lt_of_lt_of_le
abbrev ql:=@Nat.ne_of_lt
abbrev qm.{u}:=@List.getElem?_eq_some_iff.{u}
abbrev qo.{u}:=@List.getElem?_eq_getElem.{u}
abbrev qq.{u}:=@List.mem_cons_of_mem.{u}
abbrev qr.{u}:=@List.mem_cons_self.{u}
abbrev qu.{u}:=@List.mem_singleton.{u}
abbrev qv.{u,v}:=@Option.map_eq_some_iff.{u,v}
abbrev qw.{u}:=@List.length_append.{u}
abbrev qx.{u}:=@List.length_cons.{u}
abbrev qy.{u}:=@List.mem_cons.{u}
abbrev qA.{u}:=@List.mem_append_right.{u}
abbrev qB.{u}:=@Option.some.inj.{u}
abbrev qC:=@Nat.le_trans
abbrev qD:=@wpAny_newObj_type
abbrev qE.{u}:=@List.getD_eq_getElem?_getD.{u}
abbrev qF.{u}:=@List.getElem?_set_ne.{u}
abbrev Key:=Sum Int Str
def vK:Key->Qc->Bool
 | .inl k,v=>Value.isInt k v
 | .inr x,v=>Value.isStrOf x v
def RU(w:Qh):Key->Int
 | .inl k=>hashInt k
 | .inr x=>hashStr w x
theorem pC:∀ {k:Key} {v:Qc},vK k v=true->(∃ i t,k=Sum.inl i/\v=Value.int i t)\/(∃ x t,k=Sum.inr x/\v=Value.str x t)
 | .inl i,v,h=>by
  have(t,e):=Value.isInt_shape (k:=i) (v:=v) h;exact .inl ⟨i,t,rfl,e⟩
 | .inr x,v,h=>by
  have(t,e):=Value.isStrOf_shape (x:=x) (v:=v) h;exact .inr ⟨x,t,rfl,e⟩
theorem zq9(i:Int)(t:Tok):vK (.inl i) (.int i t)=true:=by simp[vK,Value.isInt]
theorem Z4(x:Str)(t:Tok):vK (.inr x) (.str x t)=true:=by simp[vK,Value.isStrOf]
theorem Ub(a b:Int):decide ((Sum.inl a:Key)=Sum.inl b)=(a==b):=by
 by_cases e:a=b
 .subst e; simp
 .have h:¬(Sum.inl a:Key)=Sum.inl b:=λq=>e<|Sum.inl.inj q
  rw[decide_eq_false h];exact(beq_eq_false_iff_ne.mpr e).symm
theorem Ua(a b:Str):decide ((Sum.inr a:Key)=Sum.inr b)=decide (a=b):=by
 by_cases e:a=b
 .subst e; simp
 .have h:¬(Sum.inr a:Key)=Sum.inr b:=λq=>e<|Sum.inr.inj q
  rw[decide_eq_false h,decide_eq_false e]
theorem T9(a:Int)(b:Str):decide ((Sum.inl a:Key)=Sum.inr b)=false:=decide_eq_false (λq=>nomatch q)
theorem T8(a:Str)(b:Int):decide ((Sum.inr a:Key)=Sum.inl b)=false:=decide_eq_false (λq=>nomatch q)
def eV(prog:Qe)(w:Qh):PySem.KeyKind prog w Key where
 is:=vK
 hash:=RU w
 inj:=λv a b ha hb=>by
  rcases pC ha with⟨i,t,rfl,rfl⟩|⟨x,t,rfl,rfl⟩
  .rcases pC hb with⟨j,u,rfl,e⟩|⟨y,u,rfl,e⟩
   .injection e with e1 _; rw[e1]
   .exact nomatch e
  .rcases pC hb with⟨j,u,rfl,e⟩|⟨y,u,rfl,e⟩
   .exact nomatch e
   .injection e with e1 _; rw[e1]
 byValue:=λk v h=>by
  rcases pC h with⟨i,t,rfl,rfl⟩|⟨x,t,rfl,rfl⟩<;>rfl
 pyHash:=λhv h=>by
  rcases pC hv with⟨i,t,rfl,rfl⟩|⟨x,t,rfl,rfl⟩
  .exact wpAny_pyHash_int h
  .exact wpAny_pyHash_str h
 eqBool:=λhu hv h=>by
  rcases pC hu with⟨i,t,rfl,rfl⟩|⟨x,t,rfl,rfl⟩
  .rcases pC hv with⟨j,u,rfl,rfl⟩|⟨y,u,rfl,rfl⟩
   .rw[Ub]at h; exact wpAny_eqBool_int h
   .rw[T9]at h; exact SeqAt.EqAt.int_str i t y u _ _ _ _ h
  .rcases pC hv with⟨j,u,rfl,rfl⟩|⟨y,u,rfl,rfl⟩
   .rw[T8]at h; exact SeqAt.EqAt.str_int x t j u _ _ _ _ h
   .rw[Ua]at h; exact wpAny_eqBool_str h
 «strs»:=λk x t v h=>by
  rcases pC h with⟨i,u,rfl,e⟩|⟨y,u,rfl,e⟩
  .exact nomatch e
  .injection e with e1 _
   subst e1;cases v<;>rfl
theorem zmg(prog:Qe)(w:Qh)(i:Int)(t:Tok):(eV prog w).is (.inl i) (.int i t)=true:=zq9 i t
theorem zmh(prog:Qe)(w:Qh)(x:Str)(t:Tok):(eV prog w).is (.inr x) (.str x t)=true:=Z4 x t
inductive V where
 | aP|bl (b:Bool) | int (i:Int) | str (x:Str) | jK (b:Array UInt8) | vh (b:UInt64) | ref (a:Qg) | ty (n:String)
 deriving DecidableEq
def aO:V->Qc->Prop
 | .aP,u=>u=Value.none
 | .bl b,u=>u=Value.bool b
 | .int i,u=>∃ t,u=Value.int i t
 | .str x,u=>∃ t,u=Value.str x t
 | .jK b,u=>∃ t,u=Value.bytes b t
 | .vh b,u=>∃ t,u=Value.float b t
 | .ref a,u=>u=Value.ref a
 | .ty n,u=>u=Value.type n
abbrev zW:Qa V->Qa Qc->Prop:=Paired aO
theorem zW.length{xs:Qa V}{us:Qa Qc}(r:zW xs us):xs.length=us.length:=Paired.length r
theorem zW.get:∀ {xs:Qa V} {us:Qa Qc} {i:Nat} {x:V},zW xs us->xs[i]?=some x->∃ u,us[i]?=some u/\aO x u
 | _,_,_,_,.nil,e=>by simp at e
 | _,_,0,_,.cons r _,e=>by simp at e; subst e; exact⟨_,rfl,r⟩
 | _,_,i+1,x,.cons _ t,e=>by
  have(u,h1,h2):=zW.get (i:=i) (x:=x) t (by simpa using e);exact⟨u,by simpa using h1,h2⟩
theorem zW.set{x:V}{u:Qc}(r:aO x u):∀ {xs:Qa V} {us:Qa Qc} (i:Nat),zW xs us->zW (xs.set i x) (us.set i u)
 | _,_,_,.nil=>.nil
 | _,_,0,.cons _ t=>.cons r t
 | _,_,i+1,.cons q t=>.cons q<|zW.set r i t
theorem zW.append:∀ {xs ys:Qa V} {us ws:Qa Qc},zW xs us->zW ys ws->zW (xs++ys) (us++ws)
 | _,_,_,_,.nil,s=>s
 | _,_,_,_,.cons r t,s=>.cons r<|zW.append t s
theorem zW.take:∀ {xs:Qa V} {us:Qa Qc} (n:Nat),zW xs us->zW (xs.take n) (us.take n)
 | _,_,0,_=>.nil
 | _,_,_+1,.nil=>.nil
 | _,_,n+1,.cons r t=>.cons r<|zW.take n t
theorem zW.drop:∀ {xs:Qa V} {us:Qa Qc} (n:Nat),zW xs us->zW (xs.drop n) (us.drop n)
 | _,_,0,r=>r
 | _,_,_+1,.nil=>.nil
 | _,_,n+1,.cons _ t=>zW.drop n t
def iK:Qb V->Qb Qc->Prop
 | some v,some u=>aO v u
 | none,none=>True
 | _,_=>False
def KV{κ:Type}:Qa (κ×V)->Qa (κ×Qc)->Prop:=Paired λ(p:κ×V) (q:κ×Qc)=>p.1=q.1/\aO p.2 q.2
def kV:Key->V
 | .inl i=>.int i
 | .inr x=>.str x
inductive HO where
 | lst (xs:Qa V)
 | tup (xs:Qa V)
 | dK (kvs:Qa (Key×V)) | dT (kvs:Qa (Qa Key×V))
 | set (S:Int->Bool) (n:Nat)
 | ins (C dx:Qg) (fs:Qa (Str×V))
 | own (x:Qg)
 | xd (fs:Qa (Str×V))
 | met (f x:Qg)
 | IH (lo hi:Int)
 | aZ (o:Obj) (u:HO)
 | uB (ps:Array Qc)
 | ext (φ:Heap->Prop)
abbrev Hp:=Qg->Qb HO
def upd(H:Hp)(a:Qg)(o:HO):Hp:=λb=>if b=a then some o else H b
theorem zy{H:Hp}{a:Qg}{o:HO}:upd H a o a=some o:=by unfold upd; rw[if_pos rfl]
theorem zD{H:Hp}{a b:Qg}{o:HO}(h:b≠a):upd H a o b=H b:=by unfold upd; rw[if_neg h]
theorem Cc{H:Hp}{a:Qg}{o u:HO}:upd (upd H a o) a u=upd H a u:=by
 funext b; unfold upd; split<;>rfl
theorem oM{H:Hp}{a b:Qg}{o u:HO}(h:H a=some o)(h':H b=some u)(d:o≠u):a≠b:=by
 intro e; subst e; rw[h]at h'; exact d<|qB h'
theorem gR{H:Hp}{a b:Qg}{o:HO}(h:H a=some o)(h':H b=none):a≠b:=by
 intro e; subst e; rw[h]at h'; cases h'
def zDL(K:qe)(a:Qg)(xs:Qa V):Prop:=∃ (o:Obj) (ah:Array Qc) (n:Nat),K.lookup a=some o/\o.cls=.type "tuple"/\o.data=.seq ah n/\ah.size<=sizeLine/\zW xs ah.toList/\∃ i r,xs=.int i::r
def aX(K:qe)(H:Hp)(a:Qg)(xs:Qa V):Prop:=H a=some (.tup xs)\/zDL K a xs
theorem aX.keeps{K:qe}{H H':Hp}{a:Qg}{xs:Qa V}(h:aX K H a xs)(ht:∀ b ys,H b=some (.tup ys)->H' b=some (.tup ys)):aX K H' a xs:=h.imp (ht _ _) id
def nu(h:Heap)(a:Qg)(items:Array Qc):Prop:=∃ o,h.get? a=some o/\o.cls=.type "tuple"/\(∃ n,o.data=.seq items n)/\(o.dict=none\/∃ i t r,items.toList=.int i t::r)
theorem nu.tup{h:Heap}{a:Qg}{items:Array Qc}(x:nu h a items):IsTup h a items:=let ⟨o,e,c,d,_⟩:=x; ⟨o,e,c,d⟩
theorem nu.lt{h:Heap}{a:Qg}{items:Array Qc}(x:nu h a items):a < h.objs.size:=x.tup.lt
theorem nu.new(h:Heap)(items:Array Qc):nu (h.push {cls:=.type "tuple",data:=.seq items}) h.objs.size items:=⟨_,qi _ rfl,rfl,⟨_,rfl⟩,.inl rfl⟩
section
variable(P:Qe)(w:Qh)(K:qe)
def bW(H:Hp)(h:Heap)(a:Qg):HO->Prop
 | .lst xs=>xs.length<=sizeLine/\∃ (ah:Qa Qc) (n:Nat),zW xs ah/\h.get? a=some {cls:=.type "list",data:=.seq ah.toArray n}
 | .tup xs=>xs.length<=sizeLine/\∃ ah:Qa Qc,zW xs ah/\nu h a ah.toArray
 | .dK kvs=>kvs.length<=sizeLine/\(a==sysModules)=false/\∃ vs,KV kvs vs/\h.DictOf (eV P w) a vs
 | .dT kvs=>kvs.length<=sizeLine/\(a==sysModules)=false/\∃ xs:Qa (Qa Key×Qg×Qc),
   Paired (λ(p:Qa Key×V) (q:Qa Key×Qg×Qc)=>p.1=q.1/\aX K H q.2.1 (p.1.map kV)/\aO p.2 q.2.2) kvs xs/\
   ∃ o es ep,h.get? a=some o/\o.ExactDict/\o.data=.dict es ep/\es.toList=xs.map (entryOfKey<|tupleKind<|eV P w)/\(xs.map (·.1)).Nodup
 | .set S n=>h.SetOf (intKind P w) a S n
 | .ins C dx fs=>H dx=some (.own a)/\fs.length<=1000/\dx≠a/\h.get? a=some (PySem.W.instObj C dx)/\
   ∃ mA,h.Ns1 dx mA/\(∀ f,iK (fs.lookup f)<|mA f)/\PySem.Within mA (fs.map (·.1))
 | .own _=>∃ o,h.get? a=some o
 | .xd fs=>∃ mA,h.Ns1 a mA/\∀ f,iK (fs.lookup f)<|mA f
 | .IH lo hi=>∃ t u v,h.get? a=some {cls:=.type "range",data:=.fields #[.int lo t,.int hi u,.int 1 v]}
 | .aZ o u=>h.get? a=some o/\bW H h a u
 | .uB ps=>h.get? a=some {cls:=.none,data:=.fields ps}
 | .met f x=>h.get? a=some (PySem.W.methodObj (.ref f)<|.ref x)
 | .ext φ=>φ h/\(∃ o,h.get? a=some o)/\∀ h1 h2:Heap,φ h1->(∀ o,h1.get? a=some o->h2.get? a=some o)->φ h2
def cK(H:Hp)(h:Heap):Prop:=∀ a o,H a=some o->bW P w K H h a o
end
section
variable{P:Qe}{w:Qh}{K:qe}{H H':Hp}{h h':Heap}{a:Qg}{o:HO}
theorem bW.lt(x:bW P w K H h a o):a < h.objs.size:=by
 cases o with
 | lst xs=>have(_,_,_,_,e):=x; exact qj e
 | tup xs=>have(_,_,_,p):=x; exact p.lt
 | dK kvs=>have(_,_,_,_,o,_,_,e,_):=x; exact qj e
 | dT kvs=>have(_,_,_,_,o,_,_,e,_):=x; exact qj e
 | set S n=>have(o,_,_,_,e,_):=x; exact qj e
 | ins C dx fs=>have(_,_,_,e,_):=x; exact qj e
 | own y=>have(_,e):=x; exact qj e
 | xd fs=>obtain⟨_,⟨_,_,_,e,_⟩,_⟩:=x; exact qj e
 | IH lo hi=>have(_,_,_,e):=x; exact qj e
 | aZ ob u=>have(e,_):=x; exact qj e
 | uB ps=>exact qj (show h.get? a=some _ from x)
 | met f y=>exact qj (show h.get? a=some _ from x)
 | ext φ=>obtain⟨_,⟨_,e⟩,_⟩:=x; exact qj e
theorem Paired.pQ{α β:Type}{F G:α->β->Prop}:∀ {Aa:Qa α} {l₂:Qa β},Paired F Aa l₂->(∀ a b,F a b->G a b)->Paired G Aa l₂
 | _,_,.nil,_=>.nil
 | _,_,.cons r t,f=>.cons (f _ _ r)<|Paired.pQ t f
theorem bW.eM(x:bW P w K H h a o)(k:∀ b u,(b=a\/H b=some (.own a))->h.get? b=some u->h'.get? b=some u)
  (ho:∀ b,H b=some (.own a)->H' b=some (.own a)) (ht:∀ b xs,H b=some (.tup xs)->H' b=some (.tup xs)):bW P w K H' h' a o:=by
 induction o with
 | lst xs=>have(z,ah,n,r,e):=x; exact⟨z,ah,n,r,k _ _ (.inl rfl) e⟩
 | tup xs=>have(z,ah,r,ob,e,c):=x; exact⟨z,ah,r,ob,k _ _ (.inl rfl) e,c⟩
 | dK kvs=>have(z,y,vs,r,ob,es,ep,e,c):=x; exact⟨z,y,vs,r,ob,es,ep,k _ _ (.inl rfl) e,c⟩
 | dT kvs=>
  have(z,y,xs,r,ob,es,ep,e,c):=x;exact⟨z,y,xs,Paired.pQ r λp q z=>⟨z.1,z.2.1.keeps ht,z.2.2⟩,ob,es,ep,k _ _ (.inl rfl) e,c⟩
 | set S n=>have(ob,es,ep,t,e,c):=x; exact⟨ob,es,ep,t,k _ _ (.inl rfl) e,c⟩
 | ins C dx fs=>
  obtain⟨d,z,ne,e,mA,⟨od,es,ep,e2,c⟩,r⟩:=x;exact⟨ho _ d,z,ne,k _ _ (.inl rfl) e,mA,⟨od,es,ep,k _ _ (.inr d) e2,c⟩,r⟩
 | own y=>have(ob,e):=x; exact⟨ob,k _ _ (.inl rfl) e⟩
 | xd fs=>obtain⟨mA,⟨od,es,ep,e,c⟩,r⟩:=x; exact⟨mA,⟨od,es,ep,k _ _ (.inl rfl) e,c⟩,r⟩
 | IH lo hi=>have(t,u,v,e):=x; exact⟨t,u,v,k _ _ (.inl rfl) e⟩
 | aZ ob u ih=>have(e,q):=x; exact⟨k _ _ (.inl rfl) e,ih q⟩
 | uB ps=>
  have e:h.get? a=some {cls:=.none,data:=.fields ps}:=x;show h'.get? a=some {cls:=.none,data:=.fields ps};exact k a _ (.inl rfl) e
 | met f y=>
  have e:h.get? a=some (PySem.W.methodObj (.ref f)<|.ref y):=x;show h'.get? a=some (PySem.W.methodObj (.ref f)<|.ref y);exact k a _ (.inl rfl) e
 | ext φ=>obtain⟨p,⟨o,e⟩,st⟩:=x; exact⟨st _ _ p λo q=>k _ _ (.inl rfl) q,⟨o,k _ _ (.inl rfl) e⟩,st⟩
theorem cK.lt(x:cK P w K H h)(e:H a=some o):a < h.objs.size:=(x a o e).lt
theorem cK.fresh(x:cK P w K H h)(e:h.objs.size<=a):H a=none:=by
 cases q:H a with
 | none=>rfl
 | some u=>exact absurd (qk (x.lt q) e)<|Ë _
theorem cK.kept(x:cK P w K H h)(k:∀ b u,h.get? b=some u->h'.get? b=some u):cK P w K H h':=λa o e=>
 (x a o e).eM (λb u _ q=>k b u q) (λ_ q=>q) λ_ _ q=>q
theorem cK.laid(x:cK P w K H h)(k:∀ b u,h.get? b=some u->h'.get? b=some u)(hp:h.objs.size<=a)(new:bW P w K (upd H a o) h' a o):cK P w K (upd H a o) h':=λb u e=>by
 have hn:=x.fresh hp
 by_cases hb:b=a
 .subst hb; rw[zy]at e; cases e; exact new
 .rw[zD hb]at e
  exact(x b u e).eM (λc v _ q=>k c v q) (λc q=>by rw[zD<|gR q hn]; exact q) λc xs q=>by rw[zD<|gR q hn]; exact q
end
def Rd(H:Hp)(a:Qg)(u:HO):Prop:=H a=some u\/∃ o,H a=some (.aZ o u)
theorem Rd.ok{P:Qe}{w:Qh}{K:qe}{H:Hp}{h:Heap}{a:Qg}{u:HO}(r:Rd H a u)(x:cK P w K H h):bW P w K H h a u:=by
 rcases r with r|⟨o,r⟩
 .exact x a u r
 .have(_,q):=x a _ r
  exact q
def AM:Qb HO->Prop
 | some (.lst _)=>True
 | some (.dK _)=>True
 | some (.dT _)=>True
 | some (.set _ _)=>True
 | some (.ins _ _ _)=>True
 | some (.ext _)=>True
 | _=>False
section
variable{P:Qe}{w:Qh}{K:qe}{H:Hp}{h h':Heap}{x e:Qg}{o':HO}
theorem cK.write(ok:cK P w K H h)(mu:AM (H x))(he:e=x\/H e=some (.own x))(k:∀ b u,b≠e->h.get? b=some u->h'.get? b=some u)(w9:∃ u,h'.get? e=some u)
  (new:bW P w K (upd H x o') h' x o'):cK P w K (upd H x o') h':=λb u q=>by
 have yX:∀ c y,H c=some (.own y)->c≠x:=λc y r z=>by subst z; rw[r]at mu; exact mu
 have IU:∀ c xs,H c=some (.tup xs)->c≠x:=λc xs r z=>by subst z; rw[r]at mu; exact mu
 by_cases hb:b=x
 .subst hb; rw[zy]at q; cases q; exact new
 .rw[zD hb]at q
  by_cases u5:b=e
  .have q':H b=some (.own x):=by
    rcases he with z|z
    .exact absurd (u5.trans z) hb
    .rw[u5]; exact z
   rw[q]at q'; cases q';have(v,hv):=w9;exact⟨v,by rw[u5]; exact hv⟩
  .refine(ok b u q).eM (λc v hc r=>k c v ?_ r) (λc r=>by rw[zD<|yX c b r]; exact r) λc xs r=>by rw[zD<|IU c xs r]; exact r
   rcases hc with rfl|hc
   .exact u5
   .rintro rfl
    rcases he with z|z
    .exact yX c b hc z
    .rw[hc]at z; cases z; exact hb rfl
end
structure Un (fs ex:Qa Qg) (H H':Hp) (h h':Heap):Prop where
 keep:∀ b o,h.get? b=some o->H b=none->b∉fs->b∉ex->h'.get? b=some o
 slot:∀ b o,h.get? b=some o->H b=none->b∈fs->b∉ex->∃ sl,h'.get? b=some {o with slots:=sl}
 free:∀ b o,h.get? b=some o->H b=none->b∉ex->H' b=none
 there:∀ b o,h.get? b=some o->b∉ex->∃ o',h'.get? b=some o'
 fF:∀ b xs,H b=some (.tup xs)->H' b=some (.tup xs)
 eP:∀ b o u,H b=some (.aZ o u)->H' b=some (.aZ o u)
 fW:∀ b ps,H b=some (.uB ps)->∃ more,H' b=some (.uB<|ps++more)
section
variable{fs fs' ex ex':Qa Qg}{H H1 H2:Hp}{h h1 h2 h':Heap}{a x e:Qg}{o:HO}
theorem Un.any(u:Un fs ex H H1 h h1){b:Qg}{ob:Obj}(q:h.get? b=some ob)(n:H b=none)(hx:b∉ex):∃ sl,h1.get? b=some {ob with slots:=sl}:=by
 by_cases hb:b∈fs
 .exact u.slot b ob q n hb hx
 .exact⟨ob.slots,u.keep b ob q n hb hx⟩
theorem Un.kept(k:∀ b u,h.get? b=some u->h'.get? b=some u):Un fs ex H H h h' :=
 ⟨λb ob q _ _ _=>k b ob q,λb ob q _ _ _=>⟨ob.slots,k b ob q⟩,λ_ _ _ n _=>n,λb ob q _=>⟨ob,k b ob q⟩,λ_ _ q=>q,λ_ _ _ q=>q,λ_ ps q=>⟨#[],by rw[q]; simp⟩⟩
theorem Un.refl:Un fs ex H H h h:=Un.kept λ_ _ q=>q
theorem Un.laid(k:∀ b u,h.get? b=some u->h'.get? b=some u)(hp:h.objs.size<=a)(hn:H a=none):Un fs ex H (upd H a o) h h' where
 keep:=λb u q _ _ _=>k b u q
 slot:=λb u q _ _ _=>⟨u.slots,k b u q⟩
 free:=λb u q n _=>by rw[zD<|ql<|qk (qj q) hp]; exact n
 there:=λb u q _=>⟨u,k b u q⟩
 fF:=λb xs q=>by rw[zD<|gR q hn]; exact q
 eP:=λb u xs q=>by rw[zD<|gR q hn]; exact q
 fW:=λb ps q=>⟨#[],by rw[zD<|gR q hn,q]; simp⟩
theorem Un.write(mu:AM (H x))(he:e=x\/H e=some (.own x))(k:∀ b u,b≠e->h.get? b=some u->h'.get? b=some u)(w9:∃ u,h'.get? e=some u):Un fs ex H (upd H x o) h h':=by
 have hx:∀ b,H b=none->b≠x:=λb n z=>by subst z; rw[n]at mu; exact mu
 have hb:∀ b,H b=none->b≠e:=λb n z=>by
  subst z;rcases he with r|r
  .exact hx b n r
  .rw[n]at r; cases r
 have hm:∀ b u,H b=some u->¬AM (some u)->b≠x:=λb u q nm z=>by subst z; rw[q]at mu; exact nm mu
 refine⟨λb u q n _ _=>k b u (hb b n) q,λb u q n _ _=>⟨u.slots,k b u (hb b n) q⟩,λb u q n _=>by rw[zD<|hx b n]; exact n,λb u q _=>?_,
  λb xs q=>by rw[zD<|hm b _ q λz=>z]; exact q,λb u xs q=>by rw[zD<|hm b _ q λz=>z]; exact q,λb ps q=>⟨#[],by rw[zD<|hm b _ q λz=>z,q]; simp⟩⟩
 by_cases u5:b=e
 .subst u5; exact w9
 .exact⟨u,k b u u5 q⟩
end
def DJ(h:Heap)(H:Hp):Qa Qg:=(List.range h.objs.size).filter λa=>(H a).isSome
def oJ(h:Heap)(H:Hp):Heap:=PySem.W.hideAll h (DJ h H)
theorem Z3(h:Heap)(H:Hp):(oJ h H).objs.size=h.objs.size:=PySem.W.hideAll_size _ _
theorem zr6{h:Heap}{H:Hp}{b:Qg}{o:Obj}(e:h.get? b=some o)(n:H b=none):(oJ h H).get? b=some o :=
 PySem.W.hideAll_get _ e λhm=>by
  have q:(H b).isSome=true:=(Ú.mp hm).2;rw[n]at q; simp at q
theorem Xx{h:Heap}{H:Hp}{b:Qg}{o:Obj}(e:(oJ h H).get? b=some o):h.get? b=some o/\H b=none:=by
 have e':h.get? b=some o:=PySem.W.of_hideAll (DJ h H) e;refine⟨e',?_⟩;cases q:H b with
 | none=>rfl
 | some x=>
  have hm:b∈DJ h H:=Ú.mpr ⟨Í.mpr<|qj e',by simp[q]⟩;have z:(oJ h H).get? b=none:=PySem.W.hideAll_none (DJ h H) hm;rw[z]at e; cases e
def Xw(g h:Heap)(L:Qg):Qa (Qg×Obj):=(List.range h.objs.size).filterMap λa=>if a=L\/(g.get? a).isSome=true then none else(h.get? a).map λo=>(a,o)
def eh(g h:Heap)(L d:Qg):Qa (Qg×Obj):=(Xw g h L).filter λp=>decide<|p.1≠d
structure Mod (K:qe) (mg:Str->Qb Qc) (base:Heap):Prop where
 jD:K.In base
 glob:base.Ns mainGlobals mg
 blt:∃ mb,base.Ns builtinsNs mb/\∀ x:Str,x ≠ "__name__"->mb x=bootBuiltins x
 nolimit:base.NoLimit
structure Cx where
 prog:Qe
 w:Qh
 K:qe
 mg:Str->Qb Qc
 base:Heap
 A:Qf
 N:Qa Str
 bp:Qd
 aA:Hp
 env:Env
 outer:Qa Env
 stack:Qa Env
 ex:Qa Qg
 fn:Str->Bool
 calm:Bool
 pn:Qa (Qg×Obj)
 xe:Qc->Qd->Prop
def kE(l:Qa Env):Qa Qg:=l.filterMap (·.frame)
abbrev Cx.fs(X:Cx):Qa Qg:=kE X.outer
def Ej(sc:Scope)(x:Str):Prop:=sc.names.lookup x=some .local\/sc.names.lookup x=some .cell\/sc.names.lookup x=some .free
def Loc(sc:Scope)(x:Str):Prop:=sc.names.lookup x=some .local\/sc.names.lookup x=some .cell
def zDM(env:Env)(h:Heap)(m:Str->Qb Qc)(x:Str)(u:Qc):Prop :=
 (env.kindOf x=some .local/\m x=some u)\/((env.kindOf x=some .cell\/env.kindOf x=some .free)/\∃ c,env.cells.lookup x=some c/\h.IsCell c (some u))
structure Cx.Ok (X:Cx):Prop where
 mod:Mod X.K X.mg X.base
 kind:X.env.scope.kind=.function
 glob:X.env.globals=mainGlobals
 blt:X.env.builtins=builtinsNs
 above:X.bp.heap.objs.size<=X.env.locals
 inj:∀ x y c,X.env.cells.lookup x=some c->X.env.cells.lookup y=some c->x=y
 has:∀ x,(X.env.kindOf x=some .cell\/X.env.kindOf x=some .free)->∃ c,X.env.cells.lookup x=some c
 xg:∀ x c,X.fn x=true->X.env.cells.lookup x=some c->X.bp.heap.objs.size<=c
 hd:X.calm=true->X.A.handled=none
 frames:X.A.frames=some X.stack
 yO:X.stack=X.outer\/(X.stack=X.env::X.outer/\X.env.frame=some X.env.locals)
 AH:∀ b∈X.ex,b≠X.env.locals/\∀ x c,X.env.cells.lookup x=some c->c≠b
 bs:∀ b o,X.base.get? b=some o->X.bp.heap.get? b=some o/\X.aA b=none
 nY:X.base.objs.size<=X.bp.heap.objs.size
 kj:∀ b o,X.base.get? b=some o->b∉X.ex
 mE:∀ b∈X.ex,b∉X.fs
 eE:X.bp.heap.FunFrames X.base X.outer
 sP:∀ b∈X.fs,X.aA b=none
structure Inv (X:Cx) (pins:Qa (Qg×Obj)) (σ:Qa (Qb V)) (H:Hp) (s:Qd):Prop where
 ok:X.Ok
 os:s.os=X.bp.os
 bare:AllBare s.gens
 base:Un X.fs X.ex X.aA H X.bp.heap s.heap
 loc:∃ m,s.heap.Ns X.env.locals m/\∀ (i:Nat) (x:Str) (v:V),X.N[i]?=some x->σ[i]?=some (some v)->Ej X.env.scope x->∃ u,aO v u/\zDM X.env s.heap m x u
 cell:∀ x c,X.env.cells.lookup x=some c->∃ v,s.heap.IsCell c v
 free:H X.env.locals=none
 cj:∀ x c,X.env.cells.lookup x=some c->H c=none
 pin:∀ p∈X.pn++pins,s.heap.get? p.1=some p.2/\H p.1=none/\p.1≠X.env.locals/\p.1∉X.fs/\∀ v,p.2.data≠.cell v
 aE:cK X.prog X.w X.K H s.heap
 len:σ.length=X.N.length
section
variable{X:Cx}{pins:Qa (Qg×Obj)}{σ:Qa (Qb V)}{H H':Hp}{s:Qd}{h':Heap}
theorem Cx.Ok.IW(ok:X.Ok){b:Qg}{o:Obj}(e:X.base.get? b=some o):b∉X.fs:=λhb=>by
 have:=(ok.eE.mem hb).1;rw[e]at this; cases this
theorem Inv.bs(I:Inv X pins σ H s):∀ b o,X.base.get? b=some o->s.heap.get? b=some o/\H b=none:=λb o e=>
 ⟨I.base.keep b o (I.ok.bs b o e).1 (I.ok.bs b o e).2 (I.ok.IW e)<|I.ok.kj b o e,I.base.free b o (I.ok.bs b o e).1 (I.ok.bs b o e).2<|I.ok.kj b o e⟩
theorem Inv.bk(I:Inv X pins σ H s):∀ b o,X.base.get? b=some o->s.heap.get? b=some o:=λb o e=>(I.bs b o e).1
theorem Inv.mod(I:Inv X pins σ H s):Mod X.K X.mg X.base:=I.ok.mod
theorem Inv.cc(I:Inv X pins σ H s):X.K.In s.heap:=I.ok.mod.jD.keeps I.bk
theorem Inv.fr(I:Inv X pins σ H s):∃ m,Fr X.base X.env.locals s.heap m :=
 let ⟨m,hn,_⟩:=I.loc
 ⟨m,hn,I.bk,qC I.ok.nY I.ok.above⟩
theorem Inv.lt(I:Inv X pins σ H s):X.env.locals < s.heap.objs.size:=let ⟨_,hn,_⟩:=I.loc; hn.lt
theorem Inv.sz(I:Inv X pins σ H s):X.bp.heap.objs.size<=s.heap.objs.size:=qC I.ok.above (Nat.le_of_lt I.lt)
theorem Inv.IV(I:Inv X pins σ H s){a:Qg}(h:s.heap.objs.size<=a):a∉X.fs:=λhb=>by
 have(_,o,ho,_):=I.ok.eE.mem hb;exact absurd (qk (qj ho)<|qC I.sz h)<|Ë _
theorem Inv.nX(I:Inv X pins σ H s):∀ x c,X.env.cells.lookup x=some c->c≠X.env.locals:=λx c e z=>by
 have(v,o,ho,hd):=I.cell x c e;obtain⟨m,⟨o',es,ep,fO,xa,_⟩,_⟩:=I.loc;rw[z,fO]at ho; cases ho; rw[xa]at hd; cases hd
theorem Inv.eE(I:Inv X pins σ H s):s.heap.FunFrames X.base X.outer:=by
 have all:∀ (l:Qa Env),(∀ b∈kE l,b∈X.fs)->X.bp.heap.FunFrames X.base l->s.heap.FunFrames X.base l:=by
  intro l
  induction l with
  | nil=>intro _ _; trivial
  | cons env r ih=>
   intro hs hl;obtain⟨hk,⟨L,o,hf,hn,ho,hd⟩,hr⟩:=hl;have hL:L∈X.fs:=hs L (by unfold kE; rw[List.filterMap_cons,hf]; exact qr);have(sl,e):=I.base.slot L o ho (I.ok.sP L hL) hL λz=>I.ok.mE L z hL;exact⟨hk,⟨L,_,hf,hn,e,hd⟩,ih (λb hb=>hs b (by unfold kE; rw[List.filterMap_cons,hf]; exact qq _ hb)) hr⟩
 exact all X.outer (λ_ hb=>hb) I.ok.eE
theorem Inv.stack(I:Inv X pins σ H s):s.heap.FunFrames X.base X.stack:=by
 rcases I.ok.yO with e|⟨e,hf⟩
 .rw[e]; exact I.eE
 .rw[e]
  have(m,hn,_):=I.loc;refine .cons (by rw[I.ok.kind]; decide) hf hn ?_ I.eE;exact Heap.get?_none_of_le<|qC I.ok.nY I.ok.above
theorem Inv.fG(I:Inv X pins σ H s):∀ b∈kE X.stack,b∈X.env.locals::X.fs:=λb hb=>by
 rcases I.ok.yO with e|⟨e,hf⟩
 .rw[e]at hb; exact qq _ hb
 .rw[e]at hb
  unfold kE at hb;rw[List.filterMap_cons,hf]at hb;exact hb
theorem Inv.jw(I:Inv X pins σ H s):∀ b∈kE X.stack,H b=none:=λb hb=>by
 rcases qy.mp (I.fG b hb)with e|hb
 .rw[e]; exact I.free
 .have(_,o,ho,_):=I.ok.eE.mem hb
  exact I.base.free b o ho (I.ok.sP b hb) λz=>I.ok.mE b z hb
theorem Inv.step{g':Array GenState}{t':Nat}{d':Drawn}{ch:Qa Qg}(I:Inv X pins σ H s)
  (nQ:∀ b∈ch,(b∈X.ex\/X.bp.heap.objs.size<=b)/\b≠X.env.locals/\(∀ x c,X.env.cells.lookup x=some c->c≠b)/\∀ p∈X.pn++pins,p.1≠b)
  (keep:∀ b o,b≠X.env.locals->b∉X.fs->b∉ch->s.heap.get? b=some o->H b=none->h'.get? b=some o)
  (slot:∀ b o,b≠X.env.locals->b∈X.fs->b∉ch->s.heap.get? b=some o->H b=none->∃ sl,h'.get? b=some {o with slots:=sl}) (free:∀ b o,b∉ch->s.heap.get? b=some o->H b=none->H' b=none)
  (there:∀ b o,b∉ch->s.heap.get? b=some o->∃ o',h'.get? b=some o')
  (fF:∀ b xs,H b=some (.tup xs)->H' b=some (.tup xs)) (eP:∀ b o u,H b=some (.aZ o u)->H' b=some (.aZ o u)) (fW:∀ b ps,H b=some (.uB ps)->∃ more,H' b=some (.uB<|ps++more))
  (ns:∀ m,s.heap.Ns X.env.locals m->h'.Ns X.env.locals m) (aE:cK X.prog X.w X.K H' h') (hg:AllBare g'):
  Inv X pins σ H' {s with heap:=h',gens:=g',drawn:=d',toks:=t'}:=by
 have Sf:∀ b o,X.bp.heap.get? b=some o->b≠X.env.locals:=λb o e=>ql<|qk (qj e) I.ok.above;have DQ:∀ b o,X.bp.heap.get? b=some o->b∉X.ex->b∉ch:=λb o e hx hb=>by
  rcases(nQ b hb).1 with z|z
  .exact hx z
  .exact absurd (qk (qj e) z) (Ë _)
 have cellK:∀ x c,X.env.cells.lookup x=some c->∀ v,s.heap.IsCell c v->h'.IsCell c v:=λx c e v ⟨o,ho,hd⟩=>by
  have y0:c∉ch:=λz=>(nQ c z).2.2.1 x c e rfl
  by_cases hc:c∈X.fs
  .have(sl,q):=slot c o (I.nX x c e) hc y0 ho (I.cj x c e)
   exact⟨_,q,hd⟩
  .exact⟨o,keep c o (I.nX x c e) hc y0 ho<|I.cj x c e,hd⟩
 refine⟨I.ok,I.os,hg,⟨λb o e n hb hx=>?_,λb o e n hb hx=>?_,λb o e n hx=>?_,λb o e hx=>?_,λb xs e=>fF b xs<|I.base.fF b xs e,λb o xs e=>eP b o xs<|I.base.eP b o xs e,λb ps e=>?_⟩,?_,λx c e=>?_,?_,λx c e=>?_,λp hp=>?_,aE,I.len⟩
 .exact keep b o (Sf b o e) hb (DQ b o e hx) (I.base.keep b o e n hb hx) (I.base.free b o e n hx)
 .have(sl,e1):=I.base.slot b o e n hb hx
  have(sl',e2):=slot b _ (Sf b o e) hb (DQ b o e hx) e1 (I.base.free b o e n hx);exact⟨sl',e2⟩
 .have(o',e1):=I.base.there b o e hx
  exact free b o' (DQ b o e hx) e1<|I.base.free b o e n hx
 .have(o',e1):=I.base.there b o e hx
  exact there b o' (DQ b o e hx) e1
 .have(m1,e1):=I.base.fW b ps e
  have(m2,e2):=fW b _ e1;exact⟨m1++m2,by rw[e2,Array.append_assoc]⟩
 .have(m,hn,hl):=I.loc
  refine⟨m,ns m hn,λi x v e1 e2 e3=>?_⟩;have(u,r,l):=hl i x v e1 e2 e3;refine⟨u,r,?_⟩;rcases l with l|⟨k,c,e,z⟩
  .exact .inl l
  .exact .inr ⟨k,c,e,cellK x c e _ z⟩
 .have(v,z):=I.cell x c e
  exact⟨v,cellK x c e v z⟩
 .obtain⟨m,⟨o,_,_,ho,_⟩,_⟩:=I.loc
  exact free _ o (λz=>(nQ _ z).2.1 rfl) ho I.free
 .have(v,o,ho,hd):=I.cell x c e
  exact free c o (λz=>(nQ c z).2.2.1 x c e rfl) ho<|I.cj x c e
 .have(e,n,ne,nf,d):=I.pin p hp
  have y0:p.1∉ch:=λz=>(nQ p.1 z).2.2.2 p hp rfl;exact⟨keep p.1 p.2 ne nf y0 e n,free p.1 p.2 y0 e n,ne,nf,d⟩
theorem Inv.un{t':Nat}(I:Inv X pins σ H s)(u:Un X.fs [] H H' s.heap h')(aE:cK X.prog X.w X.K H' h'):Inv X pins σ H' {s with heap:=h',toks:=t'}:=by
 obtain⟨m,⟨o,es,ep,ho,r⟩,_⟩:=id I.loc;have(sl,hL):=u.any ho I.free (by simp);exact I.step (g':=s.gens) (d':=s.drawn) (ch:=[]) (λ_ z=>nomatch z) (λb o _ hb _ e n=>u.keep b o e n hb (by simp)) (λb o _ hb _ e n=>u.slot b o e n hb (by simp)) (λb o _ e n=>u.free b o e n (by simp)) (λb o _ e=>u.there b o e (by simp)) u.fF u.eP u.fW (λm' hm=>by
  have(o',mF,eQ,fO,r'):=hm;rw[ho]at fO; cases fO;exact⟨_,mF,eQ,hL,r'⟩) aE I.bare
theorem Inv.call{g':Array GenState}{t':Nat}{d':Drawn}{ch:Qa Qg}(I:Inv X pins σ H s)(u:Un (kE X.stack) ch H H' s.heap h')(aE:cK X.prog X.w X.K H' h')(hg:AllBare g')
  (nQ:∀ b∈ch,(b∈X.ex\/X.bp.heap.objs.size<=b)/\b≠X.env.locals/\(∀ x c,X.env.cells.lookup x=some c->c≠b)/\∀ p∈X.pn++pins,p.1≠b):
  Inv X pins σ H' {s with heap:=h',gens:=g',drawn:=d',toks:=t'}:=by
 obtain⟨m,⟨o,es,ep,ho,r⟩,_⟩:=id I.loc;have(sl,hL):=u.any ho I.free λz=>(nQ _ z).2.1 rfl;exact I.step (ch:=ch) nQ (λb o hL hb hc e n=>u.keep b o e n (λz=>(qy.mp<|I.fG b z).elim hL hb) hc) (λb o _ _ hc e n=>u.any e n hc) (λb o hc e n=>u.free b o e n hc) (λb o hc e=>u.there b o e hc) u.fF u.eP u.fW (λm' hm=>by
  have(o',mF,eQ,fO,r'):=hm;rw[ho]at fO; cases fO;exact⟨_,mF,eQ,hL,r'⟩) aE hg
theorem Inv.turned{t':Nat}{it:Qg}(I:Inv X pins σ H s)(k:∀ b o,b≠it->s.heap.get? b=some o->h'.get? b=some o)(hn:H it=none)(hL:it≠X.env.locals)
  (h1:it∈X.ex\/X.bp.heap.objs.size<=it) (h2:∀ x c,X.env.cells.lookup x=some c->c≠it) (h3:∀ p∈X.pn++pins,p.1≠it):Inv X pins σ H {s with heap:=h',toks:=t'}:=by
 have km:∀ b u,H b=some u->b≠it:=λb u e z=>by rw[z,hn]at e; cases e
 refine I.step (g':=s.gens) (d':=s.drawn) (ch:=[it]) (λb hb=>?_) (λb o _ _ hc e _=>k b o (λz=>hc (by simp[z])) e) (λb o _ _ hc e _=>⟨o.slots,k b o (λz=>hc (by simp[z])) e⟩) (λ_ _ _ _ n=>n)
  (λb o hc e=>⟨o,k b o (λz=>hc (by simp[z])) e⟩) (λ_ _ e=>e) (λ_ _ _ e=>e) (λb ps e=>⟨#[],by rw[e]; simp⟩) (λm hm=>?_) (λb u e=>?_) I.bare
 .have e:b=it:=by simpa using hb
  subst e;exact⟨h1,hL,h2,h3⟩
 .have(o,es,ep,ho,r):=hm
  exact⟨o,es,ep,k _ o (Ne.symm hL) ho,r⟩
 .refine(I.aE b u e).eM (λc v hc q=>k c v ?_ q) (λ_ q=>q) λ_ _ q=>q
  rcases hc with z|z
  .rw[z]; exact km b u e
  .exact km c _ z
theorem Inv.tok(I:Inv X pins σ H s)(t:Nat):Inv X pins σ H {s with toks:=t}:=I.un (h':=s.heap) (t':=t) Un.refl I.aE
theorem Inv.kept{t':Nat}(I:Inv X pins σ H s)(k:∀ b u,s.heap.get? b=some u->h'.get? b=some u):Inv X pins σ H {s with heap:=h',toks:=t'}:=I.un (Un.kept k) (I.aE.kept k)
theorem Inv.laid{a:Qg}{o:HO}{t':Nat}(I:Inv X pins σ H s)(k:∀ b u,s.heap.get? b=some u->h'.get? b=some u)(hp:s.heap.objs.size<=a)(new:bW X.prog X.w X.K (upd H a o) h' a o):
  Inv X pins σ (upd H a o) {s with heap:=h',toks:=t'}:=I.un (Un.laid k hp<|I.aE.fresh hp) (I.aE.laid k hp new)
theorem Inv.write{x e:Qg}{o:HO}{t':Nat}(I:Inv X pins σ H s)(mu:AM (H x))(he:e=x\/H e=some (.own x))(k:∀ b u,b≠e->s.heap.get? b=some u->h'.get? b=some u)(w9:∃ u,h'.get? e=some u)
  (new:bW X.prog X.w X.K (upd H x o) h' x o):Inv X pins σ (upd H x o) {s with heap:=h',toks:=t'}:=I.un (Un.write mu he k w9) (I.aE.write mu he k w9 new)
theorem Inv.weak{aJ:Qa (Qb V)}(I:Inv X pins σ H s)(hl:aJ.length=σ.length)(w:∀ (i:Nat) v,aJ[i]?=some (some v)->σ[i]?=some (some v)):Inv X pins aJ H s :=
 ⟨I.ok,I.os,I.bare,I.base,let ⟨m,hn,hl'⟩:=I.loc; ⟨m,hn,λi x v e1 e2 e3=>hl' i x v e1 (w i v e2) e3⟩,I.cell,I.free,I.cj,I.pin,I.aE,hl.trans I.len⟩
theorem Inv.cT{rZ:Qa (Qg×Obj)}(I:Inv X pins σ H s)(h:∀ p∈rZ,s.heap.get? p.1=some p.2/\H p.1=none/\p.1≠X.env.locals/\p.1∉X.fs/\∀ v,p.2.data≠.cell v):Inv X rZ σ H s :=
 ⟨I.ok,I.os,I.bare,I.base,I.loc,I.cell,I.free,I.cj,λp hp=>(Ï.mp hp).elim (λz=>I.pin p<|Ð _ z)<|h p,I.aE,I.len⟩
theorem NU{N:Qa Str}(hN:N.Nodup){i j:Nat}{x:Str}(a:N[i]?=some x)(b:N[j]?=some x):i=j:=by
 have(h1,e1):=qm.mp a;have(h2,e2):=qm.mp b;exact(List.getElem_inj hN).mp<|e1.trans e2.symm
theorem Hj{M:Model}{A:Qf}{E:Qc->Qd->Prop}{i:Nat}{x:Str}{v:V}{u:Qc}{Q:Unit->Qd->Prop}(I:Inv X pins σ H s)(hN:X.N.Nodup)(hi:X.N[i]?=some x)(hx:Loc X.env.scope x)(r:aO v u)
  (h:∀ s',Inv X pins (σ.set i<|some v) H s'->(∃ a,Heap.SameBut a s.heap s'.heap/\(a=X.env.locals\/X.env.cells.lookup x=some a))->Q () s') (hf:X.fn x=true\/X.env.scope.names.lookup x=some .local:=by first|exact .inl rfl|exact .inr rfl|assumption):wpAny M A (storeName X.env x u) Q E s:=by
 have(m,hn,hl):=id I.loc;have JE:(X.env.scope.kind==.class || (X.env.scope.kind==.module && X.env.locals != X.env.globals))=false:=by rw[I.ok.kind]; rfl
 have Aq:i < σ.length:=by rw[I.len]; exact(qm.mp hi).1
 have nX:=I.nX;have tracked:∀ {a:Qg} {h':Heap},(∃ o,s.heap.get? a=some o/\H a=none)->Heap.SameBut a s.heap h'->cK X.prog X.w X.K H h':=λ{a h'} ha hs b ob e=>by
  have(_,_,sM):=ha;refine(I.aE b ob e).eM (λc w' hc q=>(hs.2 c ?_).trans q) (λ_ q=>q) λ_ _ q=>q;rintro rfl;rcases hc with rfl|hc
  .rw[sM]at e; cases e
  .rw[sM]at hc; cases hc
 rcases hx with hk|hk
 .refine wpAny_storeName_local hk hn (λh' hn' hs=>?_) JE
  have(oL,_,_,Aj,_):=id hn;refine h _ ⟨I.ok,I.os,I.bare,⟨λb o e n hb hx=>?_,λb o e n hb hx=>?_,I.base.free,λb o e hx=>?_,I.base.fF,I.base.eP,I.base.fW⟩,⟨_,hn',λj y v' e1 e2 e3=>?_⟩,λy c e=>?_,I.free,I.cj,λp hp=>?_,tracked ⟨oL,Aj,I.free⟩ hs,by simpa using I.len⟩ ⟨_,hs,.inl rfl⟩
  .exact(hs.2 b<|ql<|qk (qj e) I.ok.above).trans (I.base.keep b o e n hb hx)
  .have(sl,e1):=I.base.slot b o e n hb hx
   exact⟨sl,(hs.2 b<|ql<|qk (qj e) I.ok.above).trans e1⟩
  .have(o',e1):=I.base.there b o e hx
   exact⟨o',(hs.2 b<|ql<|qk (qj e) I.ok.above).trans e1⟩
  .by_cases hj:j=i
   .subst hj
    rw[hi]at e1; cases e1;rw[List.getElem?_set_self Aq]at e2;cases e2;exact⟨u,r,.inl ⟨hk,by simp⟩⟩
   .rw[qF<|Ne.symm hj]at e2
    have(u',r',q):=hl j y v' e1 e2 e3;refine⟨u',r',?_⟩;rcases q with⟨k,e⟩|⟨k,c,e,z⟩
    .refine .inl ⟨k,?_⟩
     have:y≠x:=λe=>hj<|NU hN e1<|e▸hi;simp[this,e]
    .exact .inr ⟨k,c,e,z.sameBut hs<|nX y c e⟩
  .have(w',z):=I.cell y c e
   exact⟨w',z.sameBut hs<|nX y c e⟩
  .have(e,n,ne,nf,d):=I.pin p hp
   exact⟨(hs.2 p.1 ne).trans e,n,ne,nf,d⟩
 .have JD:X.fn x=true:=by
   rcases hf with z|z
   .exact z
   .rw[z]at hk; cases hk
  have(c,hc):=I.ok.has x (.inl hk);have(w',z):=I.cell x c hc;refine wpAny_storeName_cell I.ok.kind hk hc z λh' kC hs=>?_;have(oc,Sx,Jx):=id z;refine h {s with heap:=h'} ⟨I.ok,I.os,I.bare,⟨λb o e n hb hx=>?_,λb o e n hb hx=>?_,I.base.free,λb o e hx=>?_,I.base.fF,I.base.eP,I.base.fW⟩,⟨m,hn.sameBut hs<|Ne.symm<|nX x c hc,λj y v' e1 e2 e3=>?_⟩,λy c' e=>?_,I.free,I.cj,λp hp=>?_,tracked ⟨oc,Sx,I.cj x c hc⟩ hs,by simpa using I.len⟩ ⟨c,hs,.inr hc⟩
  .exact(hs.2 b<|ql<|qk (qj e)<|I.ok.xg x c JD hc).trans (I.base.keep b o e n hb hx)
  .have(sl,e1):=I.base.slot b o e n hb hx
   exact⟨sl,(hs.2 b<|ql<|qk (qj e)<|I.ok.xg x c JD hc).trans e1⟩
  .have(o',e1):=I.base.there b o e hx
   exact⟨o',(hs.2 b<|ql<|qk (qj e)<|I.ok.xg x c JD hc).trans e1⟩
  .by_cases hj:j=i
   .subst hj
    rw[hi]at e1; cases e1;rw[List.getElem?_set_self Aq]at e2;cases e2;exact⟨u,r,.inr ⟨.inl hk,c,hc,kC⟩⟩
   .rw[qF<|Ne.symm hj]at e2
    have(u',r',q):=hl j y v' e1 e2 e3;refine⟨u',r',?_⟩;rcases q with q|⟨k,c',e,z'⟩
    .exact .inl q
    .refine .inr ⟨k,c',e,z'.sameBut hs ?_⟩
     rintro rfl;exact hj<|NU hN e1<|I.ok.inj _ _ _ e hc▸hi
  .by_cases SI:c'=c
   .subst SI; exact⟨_,kC⟩
   .have(w2,z2):=I.cell y c' e
    exact⟨w2,z2.sameBut hs SI⟩
  .have(e,n,ne,nf,d):=I.pin p hp
   refine⟨(hs.2 p.1 ?_).trans e,n,ne,nf,d⟩;intro q;rw[q,Sx]at e;have q':oc=p.2:=qB e;exact d w' (by rw[<-q']; exact Jx)
theorem CB{M:Model}{A:Qf}{E:Qc->Qd->Prop}{i:Nat}{x:Str}{v:V}{u:Qc}{Q:Unit->Qd->Prop}(I:Inv X pins σ H s)(hN:X.N.Nodup)(hi:X.N[i]?=some x)(hx:Loc X.env.scope x)(r:aO v u)
  (h:∀ s',Inv X pins (σ.set i<|some v) H s'->Q () s') (hf:X.fn x=true\/X.env.scope.names.lookup x=some .local:=by first|exact .inl rfl|exact .inr rfl|assumption):wpAny M A (storeName X.env x u) Q E s :=
 Hj I hN hi hx r (λs' I' _=>h s' I') hf
theorem Inv.sW{s':Qd}{ch:Qa Qg}(I:Inv X pins σ H s)(ho:s'.os=s.os)(u:Un (kE X.stack) ch H H' s.heap s'.heap)(aE:cK X.prog X.w X.K H' s'.heap)(hg:AllBare s'.gens)
  (nQ:∀ b∈ch,(b∈X.ex\/X.bp.heap.objs.size<=b)/\b≠X.env.locals/\(∀ x c,X.env.cells.lookup x=some c->c≠b)/\∀ p∈X.pn++pins,p.1≠b):Inv X pins σ H' s':=by
 have(h',g',d',t',o'):=s';have e:o'=s.os:=ho;subst e;exact I.call (g':=g') (t':=t') (d':=d') u aE hg nQ
end
abbrev XK:=Qc->Qb Qg->Hp->Prop
abbrev St:=Qa (Qb V)
abbrev VK:=V->Hp->Prop
abbrev TE:=St->Hp->VK->Prop
abbrev TT:=St->Hp->(Bool->Hp->Prop)->Prop
abbrev TA:=St->Hp->(Qa V->Hp->Prop)->Prop
structure Ends where
 nx:St->Hp->Prop
 rt:VK
 bk:St->Hp->Prop:=λ_ _=>False
 ct:St->Hp->Prop:=λ_ _=>False
abbrev TS:=Ends->St->Hp->Prop
def EP(X:Cx)(pins:Qa (Qg×Obj))(σ:St)(Q:VK)(u:Qc)(s':Qd):Prop:=∃ v H',Inv X pins σ H' s'/\aO v u/\Q v H'
def TP(X:Cx)(pins:Qa (Qg×Obj))(σ:St)(Q:Bool->Hp->Prop)(b:Bool)(s':Qd):Prop:=∃ H',Inv X pins σ H' s'/\Q b H'
def AP(X:Cx)(pins:Qa (Qg×Obj))(σ:St)(Q:Qa V->Hp->Prop)(us:Qa Qc)(s':Qd):Prop:=∃ vs H',Inv X pins σ H' s'/\zW vs us/\Q vs H'
def SP(X:Cx)(pins:Qa (Qg×Obj))(D:Ends)(f:Flow)(s':Qd):Prop :=
 match f with
 | .next=>∃ aJ H',Inv X pins aJ H' s'/\D.nx aJ H'
 | .brk=>∃ aJ H',Inv X pins aJ H' s'/\D.bk aJ H'
 | .cont=>∃ aJ H',Inv X pins aJ H' s'/\D.ct aJ H'
 | .ret u=>∃ v aJ H',Inv X pins aJ H' s'/\aO v u/\D.rt v H'
def PE(X:Cx)(e:Expr)(t:TE):Prop :=
 ∀ (pins:Qa (Qg×Obj)) (s:Qd) (σ:St) (H:Hp) (Q:VK),Inv X pins σ H s->t σ H Q->wpAny (model X.prog X.w) X.A (eval e X.env) (EP X pins σ Q) X.xe s
def PT(X:Cx)(e:Expr)(t:TT):Prop :=
 ∀ (pins:Qa (Qg×Obj)) (s:Qd) (σ:St) (H:Hp) (Q:Bool->Hp->Prop),Inv X pins σ H s->t σ H Q->wpAny (model X.prog X.w) X.A (isTrue e X.env<|eval e X.env) (TP X pins σ Q) X.xe s
def PW(X:Cx)(e:Expr)(t:TT):Prop :=
 ∀ (whole:Sem Qc) (pins:Qa (Qg×Obj)) (s:Qd) (σ:St) (H:Hp) (Q:Bool->Hp->Prop),Inv X pins σ H s->t σ H Q->wpAny (model X.prog X.w) X.A (isTrue e X.env whole) (TP X pins σ Q) X.xe s
theorem PW.pt{X:Cx}{e:Expr}{t:TT}(h:PW X e t):PT X e t:=h _
def PA(X:Cx)(es:Qa Expr)(t:TA):Prop :=
 ∀ (pos:Pos) (pins:Qa (Qg×Obj)) (s:Qd) (σ:St) (H:Hp) (Q:Qa V->Hp->Prop),Inv X pins σ H s->t σ H Q->wpAny (model X.prog X.w) X.A (spliced<|backTo pos<|starEach es X.env) (AP X pins σ Q) X.xe s
def PS(X:Cx)(st:Stmt)(t:TS):Prop :=
 ∀ (pins:Qa (Qg×Obj)) (s:Qd) (σ:St) (H:Hp) (D:Ends),Inv X pins σ H s->t D σ H->wpAny (model X.prog X.w) X.A (exec st X.env) (SP X pins D) X.xe s
def fm(X:Cx)(st:Qa Stmt)(t:TS):Prop :=
 ∀ (pins:Qa (Qg×Obj)) (s:Qd) (σ:St) (H:Hp) (D:Ends),Inv X pins σ H s->t D σ H->wpAny (model X.prog X.w) X.A (execs st X.env) (SP X pins D) X.xe s
theorem aH{α:Type}{t:Sem α}{Q Q':α->Qd->Prop}{M:Model}{A:Qf}{E:Qc->Qd->Prop}{s:Qd}(h:wpAny M A t Q E s)(hQ:∀ a s,Q a s->Q' a s):wpAny M A t Q' E s:=wpAny_mono h hQ λ_ _ x=>x
section
variable{X:Cx}
theorem bin{a b:Expr}{ta tb:TE}(ha:PE X a ta)(hb:PE X b tb){pins:Qa (Qg×Obj)}{s:Qd}{σ:St}{H:Hp}{R:V->V->Hp->Prop}(I:Inv X pins σ H s)(h:ta σ H λx H1=>tb σ H1 λy H2=>R x y H2)
  {α:Type} {Q:α->Qd->Prop} {f:Qc->Qc->Sem α}
  (hf:∀ v u s2 x y H2,Inv X pins σ H2 s2->aO x v->aO y u->R x y H2->wpAny (model X.prog X.w) X.A (f v u) Q X.xe s2):
  wpAny (model X.prog X.w) X.A (eval a X.env) (λv aG=>wpAny (model X.prog X.w) X.A (eval b X.env) (λu fX=>wpAny (model X.prog X.w) X.A (f v u) Q X.xe fX) X.xe aG) X.xe s:=by
 refine aH (ha pins s σ H _ I h) λv s1 hZ=>?_;have(x,H1,I1,r1,q1):=hZ;refine aH (hb pins s1 σ H1 _ I1 q1) λu s2 hZ=>?_;have(y,H2,I2,r2,q2):=hZ;exact hf v u s2 x y H2 I2 r1 r2 q2
def iA(i:Nat):TE:=λσ H Q=>∃ v,σ[i]?=some (some v)/\Q v H
def tC(v:V):TE:=λ_ H Q=>Q v H
theorem UI{i:Nat}{x:Str}{pos:Pos}(hN:X.N[i]?=some x)(hv:Ej X.env.scope x)(hd:(x==("__debug__":Str))=false:=by decide)(kA:(x==("__classdict__":Str))=false:=by decide):PE X (.Name x pos) (iA i):=by
 intro pins s σ H Q I h;have(v,e,h):=h;have(m,hn,hl):=I.loc;have(u,r,l):=hl i x v hN e hv;have fin:EP X pins σ Q u s:=⟨v,H,I,r,h⟩;rcases l with⟨hk,hm⟩|⟨hk,c,hc,sO⟩
 .exact wpAny_Name (wpAny_loadName_local I.ok.kind hk hn hm fin) hd
 .rcases hk with hk|hk
  .exact wpAny_Name (wpAny_loadName_cell I.ok.kind hk hc sO fin) hd
  .exact wpAny_Name (wpAny_loadName_free I.ok.kind hk hc sO fin kA) hd
theorem UH{i j pos}:PE X (.Constant (.int i) j pos) (tC<|.int i):=λ_ _ _ H _ I h=>wpAny_Constant_int ⟨.int i,H,I.tok _,⟨_,rfl⟩,h⟩
theorem zB2{b j pos}:PE X (.Constant (.bool b) j pos) (tC<|.bl b):=λ_ _ _ H _ I h=>Constant_bool ⟨.bl b,H,I,rfl,h⟩
theorem UG{j pos}:PE X (.Constant .none j pos) (tC .aP):=λ_ _ _ H _ I h=>Constant_none ⟨.aP,H,I,rfl,h⟩
theorem UE{x j pos}:PE X (.Constant (.str x) j pos) (tC<|.str x):=λ_ _ _ H _ I h=>Calls.Constant_str ⟨.str x,H,I.tok _,⟨_,rfl⟩,h⟩
def Gl(X:Cx)(x:Str):Prop:=X.env.kindOf x=some .globalImplicit
theorem GJ{E:Qc->Qd->Prop}{pins:Qa (Qg×Obj)}{s:Qd}{σ:St}{H:Hp}{x:Str}{u:Qc}{pos:Pos}{Q:Qc->Qd->Prop}(I:Inv X pins σ H s)(hg:Gl X x)(hm:X.mg x=some u)(h:Q u s)
  (hd:(x==("__debug__":Str))=false:=by decide):wpAny (model X.prog X.w) X.A (eval (.Name x pos) X.env) Q E s :=
 Calls.Name_function_global I.ok.kind hg (Calls.loadGlobal_global (by rw[I.ok.glob]; exact I.mod.glob.keeps I.bk) hm h) hd
theorem rD{E:Qc->Qd->Prop}{pins:Qa (Qg×Obj)}{s:Qd}{σ:St}{H:Hp}{x:Str}{u:Qc}{pos:Pos}{Q:Qc->Qd->Prop}(I:Inv X pins σ H s)(hg:Gl X x)(hm:X.mg x=none)(hv:bootBuiltins x=some u)(h:Q u s)
  (hn:x ≠ "__name__":=by decide) (hd:(x==("__debug__":Str))=false:=by decide):wpAny (model X.prog X.w) X.A (eval (.Name x pos) X.env) Q E s:=by
 have(mb,h1,h2):=I.mod.blt;exact Calls.Name_function_global I.ok.kind hg (Calls.loadGlobal_builtin (by rw[I.ok.glob]; exact I.mod.glob.keeps I.bk) hm (by rw[I.ok.blt]; exact h1.keeps I.bk) ((h2 x hn).trans hv) h) hd
theorem Xv{x:Str}{v:V}{u:Qc}{pos:Pos}(hg:Gl X x)(hm:X.mg x=some u)(r:aO v u)(hd:(x==("__debug__":Str))=false:=by decide):PE X (.Name x pos) (tC v):=
 λ_ _ _ H _ I h=>GJ I hg hm ⟨v,H,I,r,h⟩ hd
theorem Xu{x:Str}{v:V}{u:Qc}{pos:Pos}(hg:Gl X x)(hm:X.mg x=none)(hv:bootBuiltins x=some u)(r:aO v u)(hn:x ≠ "__name__":=by decide)(hd:(x==("__debug__":Str))=false:=by decide):PE X (.Name x pos) (tC v):=
 λ_ _ _ H _ I h=>rD I hg hm hv ⟨v,H,I,r,h⟩ hn hd
variable{a b:Expr}{ta tb:TE}{pos:Pos}
def PC(X:Cx)(op:CmpOp)(a b:Expr)(t:TE):Prop :=
 ∀ (pins:Qa (Qg×Obj)) (s:Qd) (σ:St) (H:Hp) (Q:VK),Inv X pins σ H s->t σ H Q->
  wpAny (model X.prog X.w) X.A (eval a X.env) (λv aG=>wpAny (model X.prog X.w) X.A (eval b X.env) (λu fX=>wpAny (model X.prog X.w) X.A (compareOp op v u) (EP X pins σ Q) X.xe fX) X.xe aG) X.xe s
theorem zr7(b:Expr){op:CmpOp}(h:op≠.In)(h2:op≠.NotIn):behindInMarks op b=false:=by
 have e1:(op==CmpOp.In)=false:=by cases op<;>first|rfl|exact absurd rfl h
 have e2:(op==CmpOp.NotIn)=false:=by cases op<;>first|rfl|exact absurd rfl h2
 cases b<;>simp[behindInMarks,e1,e2]
def tB(t:TE):TT:=λσ H Q=>t σ H λx H1=>∃ c,x=.bl c/\Q c H1
theorem zDN{op:CmpOp}{t:TE}(h:PC X op a b t)(h1:behindInMarks op b=false:=by first|exact zr7 _ (by decide) (by decide) | rfl):PT X (.Compare a [op] [b] pos) (tB t):=by
 intro pins s σ H Q I hw;refine wpAny_isTrue_Compare1 (aH (h pins s σ H _ I hw) λv s1 h1=>aH h1 λu s2 h2=>aH h2 λc s3 hZ=>?_) h1;have(x,H1,I1,r1,q1):=hZ;have(d,rfl,q):=q1;cases r1;exact wpAny_truthy_bool ⟨H1,I1,q⟩
theorem UD{e:Expr}{t:TE}(h:PE X e t)(he:∀ whole,isTrue e X.env whole=(do let v <-whole; standAt e.pos; holding [v] (truthy v)):=by intro _; rfl):PT X e (tB t):=by
 intro pins s σ H Q I hw;refine isTrue_plain (aH (h pins s σ H _ I hw) λv s1 hZ=>?_)<|he _;have(x,H1,I1,r1,q1):=hZ;have(d,rfl,q):=q1;cases r1;exact wpAny_truthy_bool ⟨H1,I1,q⟩
variable{tA nH:TT}{eh:Qa Expr}
def EA(t u:TT):TT:=λσ H Q=>t σ H λc H1=>if c=true then u σ H1 Q else Q false H1
def Iy(t u:TT):TT:=λσ H Q=>t σ H λc H1=>if c=true then Q true H1 else u σ H1 Q
def Ez(t:TT):TT:=λσ H Q=>t σ H λc H1=>Q (!c) H1
theorem Xt(ha:PT X a tA):PW X (.BoolOp .And [a] pos) tA:=by
 intro wh pins s σ H Q I h;refine isTrue_and<|aH (ha pins s σ H Q I h) λc s1 e=>?_;cases c with
 | true=>exact isTrue_and_nil e
 | false=>exact e
theorem UC(ha:PT X a tA):PW X (.BoolOp .Or [a] pos) tA:=by
 intro wh pins s σ H Q I h;refine isTrue_or<|aH (ha pins s σ H Q I h) λc s1 e=>?_;cases c with
 | false=>exact isTrue_or_nil e
 | true=>exact e
theorem UB(ha:PT X a tA)(hb:PW X (.BoolOp .And (b::eh) pos) nH):PW X (.BoolOp .And (a::b::eh) pos) (EA tA nH):=by
 intro wh pins s σ H Q I h;refine isTrue_and<|aH (ha pins s σ H _ I h) λc s1 hZ=>?_;have(H1,I1,q1):=hZ;cases c with
 | true=>exact hb wh pins s1 σ H1 Q I1 q1
 | false=>exact⟨H1,I1,q1⟩
theorem zB3(ha:PT X a tA)(hb:PW X (.BoolOp .Or (b::eh) pos) nH):PW X (.BoolOp .Or (a::b::eh) pos) (Iy tA nH):=by
 intro wh pins s σ H Q I h;refine isTrue_or<|aH (ha pins s σ H _ I h) λc s1 hZ=>?_;have(H1,I1,q1):=hZ;cases c with
 | true=>exact⟨H1,I1,q1⟩
 | false=>exact hb wh pins s1 σ H1 Q I1 q1
theorem UA(ha:PT X a tA):PT X (.UnaryOp .Not a pos) (Ez tA):=by
 intro pins s σ H Q I h;exact isTrue_not<|ha pins s σ H (λc H1=>Q (!c) H1) I h
def Fw(ta tb:TE):TE:=λσ H Q=>ta σ H λx H1=>∃ c,x=.bl c/\if c=true then tb σ H1 Q else Q (.bl false) H1
def Fv(ta:TE):TE:=λσ H Q=>ta σ H λx H1=>∃ c,x=.bl c/\Q (.bl (!c)) H1
theorem Uz{op}{t:TE}(h:PE X a t):PE X (.BoolOp op [a] pos) t:=λpins s σ H Q I hw=>BoolOp_one<|h pins s σ H Q I hw
theorem Uy(ha:PE X a ta)(hb:PE X (.BoolOp .And (b::eh) pos) tb):PE X (.BoolOp .And (a::b::eh) pos) (Fw ta tb):=by
 intro pins s σ H Q I h;refine BoolOp_and<|aH (ha pins s σ H _ I h) λv s1 hZ=>?_;have(x,H1,I1,r1,q1):=hZ;have(c,rfl,q1):=q1;cases r1;refine wpAny_truthy_bool ?_;cases c with
 | true=>exact hb pins s1 σ H1 Q I1 q1
 | false=>exact⟨.bl false,H1,I1,rfl,q1⟩
theorem Ux(ha:PE X a ta):PE X (.UnaryOp .Not a pos) (Fv ta):=by
 intro pins s σ H Q I h;refine UnaryOp_<|aH (ha pins s σ H _ I h) λv s1 hZ=>?_;have(x,H1,I1,r1,q1):=hZ;have(c,rfl,q1):=q1;cases r1;exact not_of<|wpAny_truthy_bool ⟨.bl (!c),H1,I1,rfl,q1⟩
def Iz(t:TT)(ta tb:TE):TE:=λσ H Q=>t σ H λc H1=>if c=true then ta σ H1 Q else tb σ H1 Q
theorem Zu{c:Expr}(hc:PT X c tA)(ha:PE X a ta)(hb:PE X b tb):PE X (.IfExp c a b pos) (Iz tA ta tb):=by
 intro pins s σ H Q I h;refine wpAny_IfExp<|aH (hc pins s σ H _ I h) λd s1 hZ=>?_;have(H1,I1,q1):=hZ;cases d with
 | true=>exact ha pins s1 σ H1 Q I1 q1
 | false=>exact hb pins s1 σ H1 Q I1 q1
end
def bu(K:qe)(H:Hp)(a:Qg)(xs:Qa V):Prop :=
 Rd H a (.lst xs)\/
  ∃ (o:Obj) (ah:Array Qc) (n:Nat),K.lookup a=some o/\o.cls=.type "list"/\o.dict=none/\o.data=.seq ah n/\ah.size<=sizeLine/\zW xs ah.toList
def br(K:qe)(H:Hp)(a:Qg)(xs:Qa V):Prop :=
 Rd H a (.tup xs)\/
  ∃ (o:Obj) (ah:Array Qc) (n:Nat),K.lookup a=some o/\o.cls=.type "tuple"/\o.data=.seq ah n/\ah.size<=sizeLine/\zW xs ah.toList
def zDO:Qc->Qb V
 | .none=>some .aP
 | .bool b=>some<|.bl b
 | .int i _=>some<|.int i
 | .str x _=>some<|.str x
 | .bytes b _=>some<|.jK b
 | .float b _=>some<|.vh b
 | .ref a=>some<|.ref a
 | .type n=>some<|.ty n
 | _=>none
theorem aO.abs{x:V}{u:Qc}(r:aO x u):zDO u=some x:=by
 cases x with
 | aP=>cases r; rfl
 | bl _=>cases r; rfl
 | int _=>have(t,rfl):=r; rfl
 | str _=>have(t,rfl):=r; rfl
 | jK _=>have(t,rfl):=r; rfl
 | vh _=>have(t,rfl):=r; rfl
 | ref _=>cases r; rfl
 | ty _=>cases r; rfl
theorem aO.inj{x y:V}{u:Qc}(r:aO x u)(q:aO y u):x=y:=qB (r.abs.symm.trans q.abs)
theorem zW.inj:∀ {xs ys:Qa V} {us:Qa Qc},zW xs us->zW ys us->xs=ys
 | _,_,_,.nil,.nil=>rfl
 | _,_,_,.cons r t,.cons r' t'=>by rw[r.inj r',zW.inj t t']
section
variable{X:Cx}{pins:Qa (Qg×Obj)}{σ:St}{H:Hp}{s:Qd}{a:Qg}{xs ys:Qa V}
theorem bu.of{K:qe}(h:H a=some (.lst xs)):bu K H a xs:=.inl (.inl h)
theorem Inv.list(I:Inv X pins σ H s)(h:bu X.K H a xs):∃ ah:Qa Qc,zW xs ah/\PlainL s.heap a ah.toArray/\xs.length<=sizeLine:=by
 rcases h with h|⟨o,ah,n,hk,hc,hd,hs,hz,r⟩
 .have(z,ah,n,r,e):=h.ok I.aE
  exact⟨ah,r,⟨_,n,e,rfl,rfl,rfl⟩,z⟩
 .refine⟨ah.toList,r,⟨o,n,I.cc a o hk,hc,hd,by simpa using hs⟩,?_⟩
  have e:=r.length;simp only[Array.length_toList]at e;omega
theorem Inv.tuple(I:Inv X pins σ H s)(h:br X.K H a xs):∃ ah:Qa Qc,zW xs ah/\IsTup s.heap a ah.toArray/\xs.length<=sizeLine:=by
 rcases h with h|⟨o,ah,n,hk,hc,hs,hz,r⟩
 .have(z,ah,r,p):=h.ok I.aE
  exact⟨ah,r,p.tup,z⟩
 .refine⟨ah.toList,r,⟨o,I.cc a o hk,hc,n,by simpa using hs⟩,?_⟩
  have e:=r.length;simp only[Array.length_toList]at e;omega
theorem Inv.l6(I:Inv X pins σ H s)(h:bu X.K H a xs)(h':bu X.K H a ys):xs=ys:=by
 obtain⟨ah,r,⟨o,n,e,_,_,d⟩,_⟩:=I.list h;obtain⟨its',r',⟨o',n',e',_,_,d'⟩,_⟩:=I.list h';rw[e]at e'; cases e';rw[d]at d';injection d' with d1 _;have:ah=its':=by simpa using congrArg Array.toList d1
 subst this;exact r.inj r'
theorem Inv.cS(I:Inv X pins σ H s)(h:br X.K H a xs)(h':br X.K H a ys):xs=ys:=by
 obtain⟨ah,r,⟨o,e,_,n,d⟩,_⟩:=I.tuple h;obtain⟨its',r',⟨o',e',_,n',d'⟩,_⟩:=I.tuple h';rw[e]at e'; cases e';rw[d]at d';injection d' with d1 _;have:ah=its':=by simpa using congrArg Array.toList d1
 subst this;exact r.inj r'
end
abbrev Cx.fV(X:Cx)(E:Qc->Qd->Prop):Cx:={X with xe:=E}
abbrev Cx.uI(X:Cx):Cx:=X.fV λ_ _=>False
theorem Cx.Ok.fV{X:Cx}(ok:X.Ok)(E:Qc->Qd->Prop):(X.fV E).Ok :=
 ⟨ok.mod,ok.kind,ok.glob,ok.blt,ok.above,ok.inj,ok.has,ok.xg,ok.hd,ok.frames,ok.yO,ok.AH,ok.bs,ok.nY,ok.kj,ok.mE,ok.eE,ok.sP⟩
theorem Cx.Ok.cE{X:Cx}{E:Qc->Qd->Prop}(ok:(X.fV E).Ok):X.Ok :=
 ⟨ok.mod,ok.kind,ok.glob,ok.blt,ok.above,ok.inj,ok.has,ok.xg,ok.hd,ok.frames,ok.yO,ok.AH,ok.bs,ok.nY,ok.kj,ok.mE,ok.eE,ok.sP⟩
section
variable{X:Cx}{pins:Qa (Qg×Obj)}{σ:St}{H:Hp}{s:Qd}{E:Qc->Qd->Prop}
theorem Inv.fV(I:Inv X pins σ H s)(E:Qc->Qd->Prop):Inv (X.fV E) pins σ H s:=⟨I.ok.fV E,I.os,I.bare,I.base,I.loc,I.cell,I.free,I.cj,I.pin,I.aE,I.len⟩
theorem Inv.cE(I:Inv (X.fV E) pins σ H s):Inv X pins σ H s:=⟨I.ok.cE,I.os,I.bare,I.base,I.loc,I.cell,I.free,I.cj,I.pin,I.aE,I.len⟩
theorem SP.cE{D:Ends}{f:Flow}{s':Qd}(h:SP (X.fV E) pins D f s'):SP X pins D f s':=by
 cases f with
 | next=>have(aJ,H',I,q):=h; exact⟨aJ,H',I.cE,q⟩
 | brk=>have(aJ,H',I,q):=h; exact⟨aJ,H',I.cE,q⟩
 | cont=>have(aJ,H',I,q):=h; exact⟨aJ,H',I.cE,q⟩
 | ret u=>have(v,aJ,H',I,r,q):=h; exact⟨v,aJ,H',I.cE,r,q⟩
theorem fm.uI{st:Qa Stmt}{t:TS}(h:fm X.uI st t):fm X st t:=λpins s σ H D I hw=>
 wpAny_mono (h pins s σ H D (I.fV _) hw) (λ_ _ q=>q.cE) λ_ _ z=>False.elim z
end
section
variable{X:Cx}{st:Stmt}{eh:Qa Stmt}{t u:TS}{e:Expr}{te:TE}{pos:Pos}
def Ff:TS:=λD σ H=>D.nx σ H
def xv(t u:TS):TS:=λD σ H=>t {D with nx:=u D} σ H
theorem XW:fm X [] Ff:=λ_ _ σ H _ I h=>wpAny_execs_nil ⟨σ,H,I,h⟩
theorem G7(h1:PS X st t)(h2:fm X eh u):fm X (st::eh) (xv t u):=by
 intro pins s σ H D I h;refine wpAny_execs_cons<|aH (h1 pins s σ H {D with nx:=u D} I h) λf s1 q=>?_;cases f with
 | next=>
  have(aJ,H',I',q):=q;exact h2 pins s1 aJ H' D I' q
 | ret v=>exact q
 | brk=>exact q
 | cont=>exact q
theorem ML(h1:PS X st t):fm X [st] t:=by
 intro pins s σ H D I h;refine wpAny_execs_cons<|aH (h1 pins s σ H D I h) λf s1 q=>?_;cases f with
 | next=>exact wpAny_execs_nil q
 | ret v=>exact q
 | brk=>exact q
 | cont=>exact q
def Fe:TS:=λD σ H=>D.ct σ H
theorem zmj:PS X (.Continue pos) Fe:=λ_ _ σ H _ I h=>wpAny_Continue ⟨σ,H,I,h⟩
theorem Inv.quiet{pins:Qa (Qg×Obj)}{σ:St}{H:Hp}{s:Qd}(I:Inv X pins σ H s):interactive X.env=false:=by simp[interactive,I.ok.kind]
def Fd(te:TE):TS:=λD σ H=>te σ H λ_ H1=>D.nx σ H1
theorem XU(he:PE X e te)(hs:swapsWith e none pos.line X.env=pure false:=by rfl):PS X (.Expr e pos) (Fd te):=by
 intro pins s σ H D I h;exact wpAny_Expr_any (aH (he pins s σ H _ I h) λv s1 ⟨x,H1,I1,r1,q1⟩=>⟨σ,H1,I1,q1⟩) I.quiet hs
def Bt(te:TE):TS:=λD σ H=>te σ H D.rt
theorem Uw(he:PE X e te):PS X (.Return (some e) pos) (Bt te):=by
 intro pins s σ H D I h;exact wpAny_Return_some<|aH (he pins s σ H _ I h) λv s1 ⟨x,H1,I1,r1,q1⟩=>⟨x,σ,H1,I1,r1,q1⟩
def Ey(c:TT)(t u:TS):TS:=λD σ H=>c σ H λb H1=>if b=true then t D σ H1 else u D σ H1
theorem zB4{c:Expr}{a b:Qa Stmt}{tc:TT}(hc:PT X c tc)(ha:fm X a t)(hb:fm X b u):PS X (.If c a b pos) (Ey tc t u):=by
 intro pins s σ H D I h;refine wpAny_If<|aH (hc pins s σ H _ I h) λd s1 hZ=>?_;have(H1,I1,q1):=hZ;cases d with
 | true=>exact ha pins s1 σ H1 D I1 q1
 | false=>exact hb pins s1 σ H1 D I1 q1
end
abbrev TG:=V->St->Hp->(St->Hp->Prop)->Prop
abbrev iH:=Qa V->St->Hp->(St->Hp->Prop)->Prop
def PG(X:Cx)(target:Expr)(t:TG):Prop :=
 ∀ (pins:Qa (Qg×Obj)) (s:Qd) (σ:St) (H:Hp) (v:V) (u:Qc) (Q:St->Hp->Prop),Inv X pins σ H s->aO v u->t v σ H Q->
  wpAny (model X.prog X.w) X.A (assign target X.env u) (λ_ s'=>∃ aJ H',Inv X pins aJ H' s'/\Q aJ H') X.xe s
def sX(X:Cx)(ts:Qa Expr)(t:iH):Prop :=
 ∀ (pins:Qa (Qg×Obj)) (s:Qd) (σ:St) (H:Hp) (vs:Qa V) (us:Qa Qc) (Q:St->Hp->Prop),Inv X pins σ H s->zW vs us->t vs σ H Q->
  wpAny (model X.prog X.w) X.A (assignInOrder ((assignEach ts X.env).map (·.2)) us) (λ_ s'=>∃ aJ H',Inv X pins aJ H' s'/\Q aJ H') X.xe s
abbrev Br:=V->V->V->Hp->(Hp->Prop)->Prop
def Ex(X:Cx)(t:Br):Prop :=
 ∀ (pins:Qa (Qg×Obj)) (s:Qd) (σ:St) (H:Hp) (o i v:V) (ov iv u:Qc) (Q:Hp->Prop),Inv X pins σ H s->aO o ov->aO i iv->aO v u->t o i v H Q->
  wpAny (model X.prog X.w) X.A (setItem ov iv u) (λ_ s'=>∃ H',Inv X pins σ H' s'/\Q H') X.xe s
section
variable{X:Cx}{pos:Pos}
def jT(i:Nat):TG:=λv σ H Q=>Q (σ.set i<|some v) H
theorem XS{i:Nat}{x:Str}(hN:X.N.Nodup)(hi:X.N[i]?=some x)(hx:Loc X.env.scope x)(hf:X.fn x=true\/X.env.scope.names.lookup x=some .local:=by first|exact .inl rfl|exact .inr rfl|assumption):PG X (.Name x pos) (jT i):=by
 intro pins s σ H v u Q I r h;exact wpAny_assign_Name<|CB I hN hi hx r (λs' I'=>⟨_,H,I',h⟩) hf
def Bq:iH:=λvs σ H Q=>vs=[]/\Q σ H
def xG(t:TG)(u:iH):iH:=λvs σ H Q=>∃ v r,vs=v::r/\t v σ H λaJ H'=>u r aJ H' Q
theorem XR:sX X [] Bq:=by
 intro pins s σ H vs us Q I r h;have(e,h):=h;subst e;cases r;exact assignInOrder_nil ⟨σ,H,I,h⟩
theorem Zt{e:Expr}{es:Qa Expr}{t:TG}{u:iH}(h1:PG X e t)(h2:sX X es u)
  (hs:(assignEach (e::es) X.env).map (·.2)=assign e X.env::(assignEach es X.env).map (·.2):=by rfl):sX X (e::es) (xG t u):=by
 intro pins s σ H vs us Q I r h;have(v,vr,e1,h):=h;subst e1;cases r with
 | cons r rr=>
  rw[hs];refine assignInOrder_cons<|aH (h1 pins s σ H _ _ _ I r h) λ_ s1 hZ=>?_;have(eS,H1,I1,q1):=hZ;exact h2 pins s1 eS H1 _ _ Q I1 rr q1
def Bp(K:qe)(n:Nat)(t:iH):TG:=λv σ H Q=>∃ a xs,v=.ref a/\br K H a xs/\xs.length=n/\t xs σ H Q
theorem Uv{es:Qa Expr}{k:Nat}{t:iH}{n:Nat}(hc:X.calm=true)(h:sX X es t)
  (hn:(assignEach es X.env).length=n:=by rfl) (w5:(assignEach es X.env).findIdx? (·.1)=none:=by rfl):PG X (.Tuple es k pos) (Bp X.K n t):=by
 intro pins s σ H v u Q I r hw;have(a,xs,e1,hq,hl,hw):=hw;subst e1;cases r;have(ah,rv,ht,hz):=I.tuple hq;refine assign_Tuple_tuple (I.ok.hd hc) ht (by simp[hn,<-hl,rv.length]) w5 λh' hx=>?_;have I1:Inv X pins σ H {s with heap:=h'}:=I.kept (t':=s.toks) λb o e=>hx b o (ql<|qj e) e;exact h pins _ σ H xs _ Q I1 (by simpa using rv) hw
def Ew(to ti:TE)(t:Br):TG:=λv σ H Q=>to σ H λo H1=>ti σ H1 λi H2=>t o i v H2 λH3=>Q σ H3
theorem Uu{o i:Expr}{to ti:TE}{t:Br}(ho:PE X o to)(hi:PE X i ti)(hs:Ex X t)
  (ha:∀ v,assign (.Subscript o i pos) X.env v=(do
   let ov <-holding [v] (eval o X.env)
   let iv <-holding [v,ov] (eval i X.env)
   standAt pos
   holding [v,ov,iv] (setItem ov iv v)
   release [v,ov,iv] []):=by intro _; rfl):PG X (.Subscript o i pos) (Ew to ti t):=by
 intro pins s σ H v u Q I r h;rw[ha];refine qc<|wpAny_holding<|aH (ho pins s σ H _ I h) λov s1 hZ=>?_;have(x,H1,I1,r1,q1):=hZ;refine qc<|wpAny_holding<|aH (hi pins s1 σ H1 _ I1 q1) λiv s2 hZ=>?_;have(y,H2,I2,r2,q2):=hZ;refine qc<|wpAny_standAt<|qc<|wpAny_holding<|aH (hs pins s2 σ H2 x y v ov iv u _ I2 r1 r2 r q2) λ_ s3 hZ=>?_;have(H3,I3,q3):=hZ;exact wpAny_release ⟨σ,H3,I3,q3⟩
def oH(te:TE)(g:TG):TS:=λD σ H=>te σ H λx H1=>g x σ H1 D.nx
theorem Ut{tg e:Expr}{te:TE}{g:TG}(he:PE X e te)(hg:PG X tg g)(hs:swapsWithSole [tg] e pos.line X.env=pure false:=by rfl)(hw:swappedStores [tg] e X.env=pure none:=by rfl)
  (h1:(assignEach [tg] X.env).map (·.2)=[assign tg X.env]:=by rfl):PS X (.Assign [tg] e pos) (oH te g):=by
 intro pins s σ H D I h;refine wpAny_Assign_stores (aH (he pins s σ H _ I h) λv s1 hZ=>?_) hs hw;have(x,H1,I1,r1,q1):=hZ;rw[h1];exact aH (hg pins s1 σ H1 x v _ I1 r1 q1) λ_ s2 q=>q
theorem Us{i:Nat}{x:Str}{e:Expr}{te:TE}{pos':Pos}(hN:X.N.Nodup)(hi:X.N[i]?=some x)(hx:Loc X.env.scope x)(he:PE X e te)(hs:swapsWith e (some<|.Name x pos') pos.line X.env=pure false:=by rfl)(hf:X.fn x=true\/X.env.scope.names.lookup x=some .local:=by first|exact .inl rfl|exact .inr rfl|assumption):
  PS X (.Assign [.Name x pos'] e pos) (oH te<|jT i):=by
 intro pins s σ H D I h;refine wpAny_Assign_Name (aH (he pins s σ H _ I h) λv s1 hZ=>?_) hs;have(y,H1,I1,r1,q1):=hZ;exact CB I1 hN hi hx r1 (λs2 I2=>⟨_,H1,I2,q1⟩) hf
def Eu(i j:Nat)(ta:TA):TS:=λD σ H=>ta σ H λvs H1=>∃ v w,vs=[v,w]/\D.nx ((σ.set i<|some v).set j<|some w) H1
theorem Ur{i j:Nat}{x y:Str}{a b:Expr}{ta:TA}{px py pt:Pos}{kt k2 uE}(hc:X.calm=true)(hN:X.N.Nodup)(hi:X.N[i]?=some x)(hj:X.N[j]?=some y)(e9:i≠j)
  (hx:X.env.scope.names.lookup x=some .local) (hy:X.env.scope.names.lookup y=some .local) (ha:PA X [a,b] ta)
  (hw:swappedStores [.Tuple [.Name x px,.Name y py] kt pt] (.Tuple [a,b] k2 uE) X.env=pure (some [x,y]))
  (hs:swapsWithSole [.Tuple [.Name x px,.Name y py] kt pt] (.Tuple [a,b] k2 uE) pos.line X.env=pure false:=by rfl):
  PS X (.Assign [.Tuple [.Name x px,.Name y py] kt pt] (.Tuple [a,b] k2 uE) pos) (Eu i j ta):=by
 intro pins s σ H D I h;rw[exec_Assign_arm];refine qc<|wpAny_standAt ?_;rw[hs];refine qc<|qd ?_;rw[if_neg (by decide)];refine qc<|Tuple_<|aH (ha _ pins s σ H _ I h) λus s1 hZ=>?_;have(vs,H1,I1,r1,q1):=hZ;have(v,w,e1,q1):=q1;subst e1;obtain⟨u1,u2,rfl,rv,j9⟩:∃ u1 u2,us=[u1,u2]/\aO v u1/\aO w u2:=by
  cases r1 with
  | cons p q=>
   cases q with
   | cons p' q'=>
    cases q';exact⟨_,_,rfl,p,p'⟩
 refine qD ?_ (by show 2<=sizeLine; decide);have I2:Inv X pins σ H1 {s1 with heap:=s1.heap.push {cls:=.type "tuple",data:=.seq [u1,u2].toArray}}:=I1.kept (t':=s1.toks) λb o e=>qf _ e;rw[hw];refine qc<|qd ?_;show wpAny (model X.prog X.w) X.A (do rule "assign.swapped-stores"; let items <-unpackItems (.ref s1.heap.objs.size) 2 none; assignInOrder [λv=>bindName X.env y v,λv=>bindName X.env x v] items.reverse; pure Flow.next) _ _ _;refine qc<|wpAny_rule<|qc<|unpackItems_tuple (items:=#[u1,u2]) (I.ok.hd hc) (IsTup.new s1.heap _) λh' wY=>?_;have I3:=I2.kept (h':=h') (t':=s1.toks) λb o e=>wY b o (ql<|qj e) e;show wpAny _ _ (assignInOrder [λv=>bindName X.env y v,λv=>bindName X.env x v] [u2,u1] >>= λ_=>pure Flow.next) _ _ _;refine qc<|assignInOrder_cons<|wpAny_bindName<|CB I3 hN hj (.inl hy) j9 (λs2 I4=>?_)<|.inr hy;refine assignInOrder_cons<|wpAny_bindName<|CB I4 hN hi (.inl hx) rv (λs3 I5=>assignInOrder_nil<|qd ?_)<|.inr hx;rw[List.set_comm _ _<|Ne.symm e9]at I5;exact⟨_,H1,I5,q1⟩
end
section
variable{X:Cx}{pos:Pos}
def Gc(c:TT)(tb:TS):TS:=λD σ H=>∃ W:Nat->St->Hp->Prop,(∃ m,W m σ H)/\∀ m σ H,W m σ H->
 c σ H λb H1=>if b=true then ∃ N:St->Hp->Prop,(∀ aJ H',N aJ H'->∃ m',m' < m/\W m' aJ H')/\tb {D with nx:=N,ct:=N,bk:=D.nx} σ H1 else D.nx σ H1
theorem Zr{c:Expr}{body:Qa Stmt}{tc:TT}{tb:TS}(hp:PassesOwn (model X.prog X.w) X.A X.env X.xe)(hc:PT X c tc)(hb:fm X body tb):PS X (.While c body [] pos) (Gc tc tb):=by
 intro pins s σ H D I h;obtain⟨W,⟨m0,w0⟩,turn⟩:=h;refine wpAny_While<|codeAny_whileLoop (λn s'=>∃ aJ H',Inv X pins aJ H' s'/\W n aJ H') ?_ m0 ⟨σ,H,I,w0⟩;rintro n s1 ⟨eS,H1,I1,w1⟩;refine wpAny_passesOwn hp<|aH (hc pins s1 eS H1 _ I1<|turn n eS H1 w1) λb s2 hZ=>?_;have(H2,I2,q2):=hZ;cases b with
 | true=>
  have(N,hN,q2):=q2;rw[if_pos rfl];refine wpAny_passesOwn hp<|aH (hb pins s2 eS H2 _ I2 q2) λf s3 q3=>?_;cases f with
  | next=>
   have(du,H3,I3,n3):=q3;have(m',hm,w3):=hN du H3 n3;exact⟨m',hm,du,H3,I3,w3⟩
  | cont=>
   have(du,H3,I3,n3):=q3;have(m',hm,w3):=hN du H3 n3;exact⟨m',hm,du,H3,I3,w3⟩
  | brk=>exact q3
  | ret v=>exact q3
 | false=>
  rw[if_neg qh];exact wpAny_execs_nil ⟨eS,H2,I2,q2⟩
end
structure It where
 go:Nat->Hp->Prop
 wJ:Nat->Hp->V->Hp->Prop
 stop:Nat->Hp->Prop
def fQ(X:Cx)(pins:Qa (Qg×Obj))(H:Hp)(b:Qg):Prop :=
 H b=none/\b≠X.env.locals/\b∉X.fs/\(b∈X.ex\/X.bp.heap.objs.size<=b)/\(∀ x c,X.env.cells.lookup x=some c->c≠b)/\∀ p∈X.pn++pins,p.1≠b
theorem Inv.dE{X:Cx}{pins:Qa (Qg×Obj)}{σ:St}{H H':Hp}{s:Qd}{b:Qg}(I:Inv X pins σ H s)(hb:s.heap.objs.size<=b)(hn:H' b=none):fQ X pins H' b:=by
 refine⟨hn,Nat.ne_of_gt<|qk I.lt hb,I.IV hb,.inr<|qC I.sz hb,λx c e z=>?_,λp hp z=>?_⟩
 .have(v,q):=I.cell x c e
  exact absurd (qk q.lt (by rw[z]; exact hb))<|Ë _
 .exact absurd (qk (qj (I.pin p hp).1) (by rw[z]; exact hb)) (Ë _)
structure Turn (P:Qe) (w:Qh) (K:qe) (tg:Expr) (J:It) (fp:Qa Qg) (it:Qg) (tn:Nat->Heap->Prop):Prop where
 mem:it∈fp
 obj:∀ i h,tn i h->∀ b∈fp,∃ o,h.get? b=some o/\∀ v,o.data≠.cell v
 keep:∀ i h h',tn i h->(∀ b∈fp,∀ o,h.get? b=some o->h'.get? b=some o)->tn i h'
 item:∀ (X:Cx),X.prog=P->X.w=w->X.K=K->X.calm=true->∀ (i:Nat) (pins:Qa (Qg×Obj)) (s:Qd) (σ:St) (H:Hp) (E:Qc->Qd->Prop),Inv X pins σ H s->(∀ b∈fp,fQ X pins H b)->tn i s.heap->J.go i H->
  wpAny (model P w) X.A (pyNext<|.ref it) (λr s1=>∃ u,r=some u/\
   wpAny (model P w) X.A (letOwnedTupleGo tg (.ref it) u) (λ_ s2=>∃ x H',Inv X pins σ H' s2/\aO x u/\J.wJ i H x H'/\tn (i+1) s2.heap/\∀ b∈fp,H' b=none) E s1) E s
 done:∀ (X:Cx),X.prog=P->X.w=w->X.K=K->X.calm=true->∀ (i:Nat) (pins:Qa (Qg×Obj)) (s:Qd) (σ:St) (H:Hp) (E:Qc->Qd->Prop),Inv X pins σ H s->(∀ b∈fp,fQ X pins H b)->tn i s.heap->J.stop i H->
  wpAny (model P w) X.A (pyNext<|.ref it) (λr s1=>r=none/\Inv X pins σ H s1) E s
 self:∀ (A:Qf) (i:Nat) (s:Qd) (Q:Qc->Qd->Prop) (E:Qc->Qd->Prop),tn i s.heap->Q (.ref it) s->wpAny (model P w) A (pyIter<|.ref it) Q E s
abbrev TI:=St->Hp->(It->Hp->Prop)->Prop
def J1(X:Cx)(pins:Qa (Qg×Obj))(σ:St)(tg:Expr)(R:It->Hp->Prop)(sF:Qc)(s2:Qd):Prop :=
 ∃ (it:Qg) (fp:Qa Qg) (tn:Nat->Heap->Prop) (J:It) (H':Hp),sF=.ref it/\Inv X pins σ H' s2/\Turn X.prog X.w X.K tg J fp it tn/\tn 0 s2.heap/\(∀ b∈fp,fQ X pins H' b)/\R J H'
def PI(X:Cx)(tg iter:Expr)(wi:TI):Prop :=
 ∀ (pins:Qa (Qg×Obj)) (s:Qd) (σ:St) (H:Hp) (R:It->Hp->Prop),Inv X pins σ H s->wi σ H R->
  wpAny (model X.prog X.w) X.A (eval iter X.env) (λv s1=>wpAny (model X.prog X.w) X.A (pyIter v) (J1 X pins σ tg R) X.xe s1) X.xe s
theorem xF{M:Model}{A:Qf}{E:Qc->Qd->Prop}{s:Qd}{tg:Expr}{it:Qg}{u:Qc}{o:Obj}{n:String}{vs:Array Qc}{Q:Unit->Qd->Prop}(ho:s.heap.get? it=some o)(hc:o.cls=.type n)(hd:o.data=.fields vs)
  (hn:["enumerate", "zip", "dict_itemiterator", "dict_reverseitemiterator", "odict_iterator", "itertools.zip_longest", "itertools.pairwise"].contains n=false) (hQ:Q () s):wpAny M A (letOwnedTupleGo tg (.ref it) u) Q E s:=by
 unfold letOwnedTupleGo;cases tg<;>first
  | exact qd hQ
  | (cases u<;>first
    | exact qd hQ
    | (refine qc<|wpAny_load ho ?_
       rw[hc,hd];show wpAny M A (if(["enumerate", "zip", "dict_itemiterator", "dict_reverseitemiterator", "odict_iterator", "itertools.zip_longest", "itertools.pairwise"].contains n && vs[0]?==some (rawInt _))=true then _ else _) Q E s;rw[if_neg (by intro h; rw[hn,Bool.false_and]at h; cases h)];exact qd hQ))
def J3(K:qe)(a:Qg):It :=
 ⟨λi H=>∃ xs x,bu K H a xs/\xs[i]?=some x,λi H x H'=>H'=H/\∀ xs,bu K H a xs->xs[i]?=some x,λi H=>∃ xs,bu K H a xs/\xs.length<=i⟩
def J2(K:qe)(a:Qg):It :=
 ⟨λi H=>∃ xs x,br K H a xs/\xs[i]?=some x,λi H x H'=>H'=H/\∀ xs,br K H a xs->xs[i]?=some x,λi H=>∃ xs,br K H a xs/\xs.length<=i⟩
def AN(lo:Int)(n:Nat):It:=⟨λi _=>i < n,λi H x H'=>H'=H/\x=.int (lo+i),λi _=>n<=i⟩
theorem Ol{P:Qe}{w:Qh}{K:qe}{tg:Expr}(a it:Qg):Turn P w K tg (J3 K a) [it] it (λi h=>h.IsListIter it a i) where
 mem:=by simp
 obj:=λi h st b hb=>by
  have e:b=it:=by simpa using hb
  subst e;have(o,e,c,d):=st;exact⟨o,e,λv z=>by rw[d]at z; cases z⟩
 keep:=λi h h' st k=>st.at λo e=>k it (by simp) o e
 item:=by
  intro X hP hw hK hc i pins s σ H E I hf st hg;subst hP hw hK;have(xs,x,hq,hx):=hg;have(ah,rv,p,hz):=I.list hq;have(u,hu,ru):=rv.get hx;have(f0,f1,f2,f3,f4,f5):=hf it (by simp);refine wpAny_pyNext_list_item st p.isList (x:=u) (by simpa using hu) λh' eF sb=>?_;have I1:Inv X pins σ H {s with heap:=h'}:=I.turned (t':=s.toks) (λb o hb e=>(sb.2 b hb).trans e) f0 f1 f3 f4 f5;have(o,e,c,d):=id eF;exact⟨u,rfl,xF (s:={s with heap:=h'}) e c d (by decide) ⟨x,H,I1,ru,⟨rfl,λys hy=>by rw[I.l6 hy hq]; exact hx⟩,eF,λb hb=>(hf b hb).1⟩⟩
 done:=by
  intro X hP hw hK hc i pins s σ H E I hf st hg;subst hP hw hK;have(xs,hq,hx):=hg;have(ah,rv,p,hz):=I.list hq;have(f0,f1,f2,f3,f4,f5):=hf it (by simp);have hl:=rv.length;exact wpAny_pyNext_list_end (I.ok.hd hc) st p.isList (by simp; omega) λh' eb=>⟨rfl,I.turned (t':=s.toks) (λb o hb e=>eb b o hb e) f0 f1 f3 f4 f5⟩
 self:=λ_ _ _ _ _ st h=>wpAny_pyIter_listiter st h
theorem O2{P:Qe}{w:Qh}{K:qe}{tg:Expr}(a it:Qg):Turn P w K tg (J2 K a) [it] it (λi h=>h.IsTupleIter it a i) where
 mem:=by simp
 obj:=λi h st b hb=>by
  have e:b=it:=by simpa using hb
  subst e;have(o,e,c,d):=st;exact⟨o,e,λv z=>by rw[d]at z; cases z⟩
 keep:=λi h h' st k=>st.at λo e=>k it (by simp) o e
 item:=by
  intro X hP hw hK hc i pins s σ H E I hf st hg;subst hP hw hK;have(xs,x,hq,hx):=hg;have(ah,rv,p,hz):=I.tuple hq;have(u,hu,ru):=rv.get hx;have(f0,f1,f2,f3,f4,f5):=hf it (by simp);refine wpAny_pyNext_tuple_item st (show s.heap.IsTuple a ah.toArray from p) (x:=u) (by simpa using hu) λh' eF sb=>?_;have I1:Inv X pins σ H {s with heap:=h'}:=I.turned (t':=s.toks) (λb o hb e=>(sb.2 b hb).trans e) f0 f1 f3 f4 f5;have(o,e,c,d):=id eF;exact⟨u,rfl,xF (s:={s with heap:=h'}) e c d (by decide) ⟨x,H,I1,ru,⟨rfl,λys hy=>by rw[I.cS hy hq]; exact hx⟩,eF,λb hb=>(hf b hb).1⟩⟩
 done:=by
  intro X hP hw hK hc i pins s σ H E I hf st hg;subst hP hw hK;have(xs,hq,hx):=hg;have(ah,rv,p,hz):=I.tuple hq;have(f0,f1,f2,f3,f4,f5):=hf it (by simp);have hl:=rv.length;exact wpAny_pyNext_tuple_end (I.ok.hd hc) st (show s.heap.IsTuple a ah.toArray from p) (by simp; omega) λh' eb=>⟨rfl,I.turned (t':=s.toks) (λb o hb e=>eb b o hb e) f0 f1 f3 f4 f5⟩
 self:=λ_ _ _ _ _ st h=>wpAny_pyIter_tupleiter st h
theorem zn1{P:Qe}{w:Qh}{K:qe}{tg:Expr}(it:Qg)(lo:Int)(n:Nat):Turn P w K tg (AN lo n) [it] it (λi h=>IsRangeIter h it (lo+(i:Nat) * 1) ((n:Int) - (i:Nat)) 1) where
 mem:=by simp
 obj:=λi h st b hb=>by
  have e:b=it:=by simpa using hb
  subst e;exact⟨_,st,λv z=>by
   have z':Data.fields _=Data.cell v:=z;cases z'⟩
 keep:=λi h h' st k=>k it (by simp) _ st
 item:=by
  intro X hP hw hK hc i pins s σ H E I hf st hg;subst hP hw hK;have(f0,f1,f2,f3,f4,f5):=hf it (by simp);have W:=Walks.range (prog:=X.prog) (w:=X.w) (I.ok.hd hc) it lo 1 n;refine W.item i s _ _ hg st λv h' tk hv eF kk=>?_;have(t,rfl):=hv;have I1:Inv X pins σ H {s with heap:=h',toks:=tk}:=I.turned (λb o hb e=>kk b o (by simpa using hb) e) f0 f1 f3 f4 f5;refine⟨_,rfl,xF (s:={s with heap:=h',toks:=tk}) (n := "range_iterator") eF rfl rfl (by decide) ⟨.int<|lo+i,H,I1,⟨t,?_⟩,⟨rfl,rfl⟩,eF,λb hb=>(hf b hb).1⟩⟩;rw[Int.mul_one]
 done:=by
  intro X hP hw hK hc i pins s σ H E I hf st hg;subst hP hw hK;have(f0,f1,f2,f3,f4,f5):=hf it (by simp);exact wpAny_pyNext_range_end (I.ok.hd hc) st (by have:n<=i:=hg; omega) λh' eb=>⟨rfl,I.turned (t':=s.toks) (λb o hb e=>eb b o hb e) f0 f1 f3 f4 f5⟩
 self:=λ_ _ _ _ _ st h=>wpAny_pyIter_rangeiter st h
section
variable{X:Cx}{tg:Expr}
def BC(K:qe)(tl:TE):TI:=λσ H R=>tl σ H λx H1=>∃ a,x=.ref a/\(∃ xs,bu K H1 a xs)/\R (J3 K a) H1
def Et(K:qe)(tl:TE):TI:=λσ H R=>tl σ H λx H1=>∃ a,x=.ref a/\(∃ xs,br K H1 a xs)/\R (J2 K a) H1
theorem XQ{l:Expr}{tl:TE}(hl:PE X l tl):PI X tg l (BC X.K tl):=by
 intro pins s σ H R I h;refine aH (hl pins s σ H _ I h) λv s1 hZ=>?_;have(x,H1,I1,r1,q1):=hZ;obtain⟨a,e,⟨xs,hq⟩,q⟩:=q1;subst e;cases r1;have(ah,rv,p,hz):=I1.list hq;refine wpAny_pyIter_list p.isList ?_;refine⟨s1.heap.objs.size,[s1.heap.objs.size],_,_,H1,rfl,I1.kept (t':=s1.toks) λb o e=>qf _ e,Ol a _,⟨_,qi _ rfl,rfl,rfl⟩,λb hb=>?_,q⟩;have e:b=s1.heap.objs.size:=by simpa using hb
 subst e;exact I1.dE (qg _)<|I1.aE.fresh<|qg _
theorem Uq{l:Expr}{tl:TE}(hl:PE X l tl):PI X tg l (Et X.K tl):=by
 intro pins s σ H R I h;refine aH (hl pins s σ H _ I h) λv s1 hZ=>?_;have(x,H1,I1,r1,q1):=hZ;obtain⟨a,e,⟨xs,hq⟩,q⟩:=q1;subst e;cases r1;have(ah,rv,p,hz):=I1.tuple hq;refine wpAny_pyIter_tuple (show s1.heap.IsTuple a ah.toArray from p) ?_;refine⟨s1.heap.objs.size,[s1.heap.objs.size],_,_,H1,rfl,I1.kept (t':=s1.toks) λb o e=>qf _ e,O2 a _,⟨_,qi _ rfl,rfl,rfl⟩,λb hb=>?_,q⟩;have e:b=s1.heap.objs.size:=by simpa using hb
 subst e;exact I1.dE (qg _)<|I1.aE.fresh<|qg _
theorem NT{pins:Qa (Qg×Obj)}{σ:St}{H:Hp}{s:Qd}{R:It->Hp->Prop}{E:Qc->Qd->Prop}{lo hi:Int}{t u v:Tok}{tk:Nat}(I:Inv X pins σ H s)(h1:-(2^62)<=lo)(h2:lo < 2^62)(h3:-(2^62)<=hi)(h4:hi < 2^62)
  (q:R (AN lo (hi - lo).toNat) H):wpAny (model X.prog X.w) X.A (pyIter<|.ref s.heap.objs.size) (J1 X pins σ tg R) E {s with heap:=s.heap.push {cls:=.type "range",data:=.fields #[.int lo t,.int hi u,.int 1 v]},toks:=tk}:=by
 refine wpAny_pyIter_range (IsRange.new ..) (small_one h1 h2 h3 h4) ?_;have I1:Inv X pins σ H {s with heap:=s.heap.push {cls:=.type "range",data:=.fields #[.int lo t,.int hi u,.int 1 v]},toks:=tk}:=I.kept λb o e=>qf _ e;refine⟨(s.heap.push {cls:=.type "range",data:=.fields #[.int lo t,.int hi u,.int 1 v]}).objs.size,[(s.heap.push {cls:=.type "range",data:=.fields #[.int lo t,.int hi u,.int 1 v]}).objs.size],_,_,H,rfl,
  I1.kept (t':=tk) λb o e=>qf _ e,zn1 _ lo (hi - lo).toNat,?_,λb hb=>?_,q⟩
 .have e1:lo+((0:Nat):Int) * 1=lo:=by simp
  have e2:(((hi - lo).toNat:Nat):Int) - ((0:Nat):Int)=Builtin.Range.rangeSize lo hi 1:=by rw[rangeSize_one]; split<;>omega
  show IsRangeIter _ _ (lo+((0:Nat):Int) * 1) ((((hi - lo).toNat:Nat):Int) - ((0:Nat):Int)) 1;rw[e1,e2];exact qi _ rfl
 .have e:b=(s.heap.push {cls:=.type "range",data:=.fields #[.int lo t,.int hi u,.int 1 v]}).objs.size:=by simpa using hb
  subst e;exact I1.dE (qg _)<|I1.aE.fresh<|qg _
def Fc(ta:TA):TI:=λσ H R=>ta σ H λvs H1=>∃ j:Int,vs=[.int j]/\-(2^62)<=j/\j < 2^62/\R (AN 0 j.toNat) H1
def E9(ta:TA):TI:=λσ H R=>ta σ H λvs H1=>∃ i j:Int,vs=[.int i,.int j]/\(-(2^62)<=i/\i < 2^62/\-(2^62)<=j/\j < 2^62)/\R (AN i (j - i).toNat) H1
theorem Z2{a:Expr}{ta:TA}{p pos:Pos}(hg:Gl X "range")(hm:X.mg "range"=none)(ha:PA X [a] ta)(hs:starEach [a] X.env=[(false,eval a X.env)]:=by rfl):PI X tg (.Call (.Name "range" p) [a] [] pos) (Fc ta):=by
 intro pins s σ H R I h;refine Call_<|rD I hg hm boot_range<|å (aH (ha pos pins s σ H _ I h) λus s1 hZ=>?_) hs rfl;have(vs,H1,I1,r1,q1):=hZ;have(j,e,q1,q2,q):=q1;subst e;cases r1 with
 | cons r rr=>
  cases rr;have(t,rfl):=r;exact call_range_1<|NT I1 (by omega) (by omega) q1 q2 (by simpa using q)
theorem Z1{a b:Expr}{ta:TA}{p pos:Pos}(hg:Gl X "range")(hm:X.mg "range"=none)(ha:PA X [a,b] ta)(hs:starEach [a,b] X.env=[(false,eval a X.env),(false,eval b X.env)]:=by rfl)(nN:starEach [b] X.env=[(false,eval b X.env)]:=by rfl):
  PI X tg (.Call (.Name "range" p) [a,b] [] pos) (E9 ta):=by
 intro pins s σ H R I h;refine Call_<|rD I hg hm boot_range<|å (aH (ha pos pins s σ H _ I h) λus s1 hZ=>?_) (by rw[hs,nN]) (by rw[nN]; rfl);have(vs,H1,I1,r1,q1):=hZ;obtain⟨i,j,e,⟨q1,q2,q3,q4⟩,q⟩:=q1;subst e;cases r1 with
 | cons r rr=>
  cases rr with
  | cons r' rr=>
   cases rr;have(t,rfl):=r;have(t',rfl):=r';exact call_range_2<|NT I1 q1 q2 q3 q4 q
def Bo(wi:TI)(g:TG)(tb:TS):TS:=λD σ H=>wi σ H λJ H1=>∃ W:Nat->Nat->St->Hp->Prop,(∃ m,W 0 m σ H1)/\∀ i m σ H,W i m σ H->
 (J.stop i H/\D.nx σ H)\/(J.go i H/\∃ N:St->Hp->Prop,(∀ aJ H',N aJ H'->∃ m',m' < m/\W (i+1) m' aJ H')/\∀ x H',J.wJ i H x H'->g x σ H' λft H2=>tb {D with nx:=N,ct:=N,bk:=D.nx} ft H2)
def we(fp:Qa Qg)(h:Heap):Qa (Qg×Obj):=fp.filterMap λb=>(h.get? b).map λo=>(b,o)
theorem uw{fp:Qa Qg}{h:Heap}{b:Qg}{o:Obj}(hb:b∈fp)(e:h.get? b=some o):(b,o)∈we fp h:=List.mem_filterMap.mpr ⟨b,hb,by rw[e]; rfl⟩
theorem Z0{fp:Qa Qg}{h:Heap}{p:Qg×Obj}(hp:p∈we fp h):p.1∈fp/\h.get? p.1=some p.2:=by
 have(b,hb,e):=List.mem_filterMap.mp hp;cases q:h.get? b with
 | none=>rw[q]at e; cases e
 | some o=>
  rw[q]at e;have e':(b,o)=p:=qB e;subst e';exact⟨hb,q⟩
theorem Inv.pinned{pins:Qa (Qg×Obj)}{σ:St}{H:Hp}{s:Qd}{fp:Qa Qg}(I:Inv X pins σ H s)(hf:∀ b∈fp,fQ X pins H b)(ho:∀ b∈fp,∃ o,s.heap.get? b=some o/\∀ v,o.data≠.cell v):Inv X (pins++we fp s.heap) σ H s :=
 I.cT λp hp=>(Ï.mp hp).elim (λz=>I.pin p<|qA _ z) λz=>by
  have(hb,e):=Z0 z;have(f0,f1,f2,_):=hf p.1 hb;have(o,e',d):=ho p.1 hb;rw[e]at e'; cases e';exact⟨e,f0,f1,f2,d⟩
theorem Inv.fE{pins pl:Qa (Qg×Obj)}{σ:St}{H:Hp}{s:Qd}(I:Inv X (pins++pl) σ H s):Inv X pins σ H s:=I.cT λp hp=>I.pin p<|qA _<|Ð _ hp
theorem Uo{iter:Expr}{body:Qa Stmt}{wi:TI}{g:TG}{tb:TS}{pos:Pos}(hp:PassesOwn (model X.prog X.w) X.A X.env X.xe)(hc:X.calm=true)(hi:PI X tg iter wi)(hg:PG X tg g)(hb:fm X body tb)
  (hs:∀ x,foldedSetIterable iter X.env x=pure x:=by intro _; rfl):PS X (.For tg iter body [] pos) (Bo wi g tb):=by
 intro pins s σ H D I h;refine wpAny_For (aH (hi pins s σ H _ I h) λv s1 h1=>aH h1 λsF s2 h2=>?_) hs;obtain⟨it,fp,tn,J,H2,e,I2,T,kQ,f2,W,⟨m0,w0⟩,turn⟩:=h2;subst e;have uC:∀ {H':Hp},(∀ b∈fp,H' b=none)->∀ b∈fp,fQ X pins H' b:=λhn b hb=>⟨hn b hb,(f2 b hb).2⟩;refine codeAny_forLoop_any (λn s'=>∃ i aJ H',Inv X pins aJ H' s'/\tn i s'.heap/\(∀ b∈fp,H' b=none)/\W i n aJ H') ?_ m0 ⟨0,σ,H2,I2,kQ,λb hb=>(f2 b hb).1,w0⟩;rintro n s3 ⟨i,du,H3,I3,rW,sQ,w3⟩;rcases turn i n du H3 w3 with⟨stop,qn⟩|⟨go,N,hN,step⟩
 .refine wpAny_passesOwn hp (aH (T.done X rfl rfl rfl hc i pins s3 du H3 X.xe I3 (uC sQ) rW stop) λr s4 hZ=>?_)
  have(hr,I4):=hZ;subst hr;exact wpAny_execs_nil ⟨du,H3,I4,qn⟩
 .refine wpAny_passesOwn hp (aH (T.item X rfl rfl rfl hc i pins s3 du H3 X.xe I3 (uC sQ) rW go) λr s4 hZ=>?_)
  have(u,hr,h4):=hZ;subst hr;refine wpAny_passesOwn hp<|aH h4 λ_ s5 hZ=>?_;have(x,H5,I5,r5,y5,lV,AE):=hZ;have AO:=I5.pinned (uC AE) (T.obj _ _ lV);refine wpAny_passesOwn hp<|aH (hg _ s5 du H5 x u _ AO r5<|step x H5 y5) λ_ s6 hZ=>?_;have(mQ,H6,I6,q6):=hZ;refine wpAny_passesOwn hp<|aH (hb _ s6 mQ H6 _ I6 q6) λf s7 q7=>?_;have again:∀ {kX:St} {H7:Hp},Inv X (pins++we fp s5.heap) kX H7 s7->N kX H7->∃ m,m < n/\∃ i aJ H',Inv X pins aJ H' s7/\tn i s7.heap/\(∀ b∈fp,H' b=none)/\W i m aJ H':=λ{kX H7} I7 n7=>by
   have(m',hm,w7):=hN kX H7 n7;refine⟨m',hm,i+1,kX,H7,I7.fE,T.keep _ _ _ lV λb hb o e=>(I7.pin (b,o)<|qA _<|qA _<|uw hb e).1,λb hb=>?_,w7⟩;have(o,e,d):=T.obj _ _ lV b hb;exact(I7.pin (b,o)<|qA _<|qA _<|uw hb e).2.1
  cases f with
  | next=>have(kX,H7,I7,n7):=q7; exact again I7 n7
  | cont=>have(kX,H7,I7,n7):=q7; exact again I7 n7
  | brk=>have(kX,H7,I7,q7):=q7; exact⟨kX,H7,I7.fE,q7⟩
  | ret v=>have(x7,kX,H7,I7,r7,q7):=q7; exact⟨x7,kX,H7,I7.fE,r7,q7⟩
end
abbrev R2:=V->V->Hp->VK->Prop
def bN(X:Cx)(f:Qc->Qc->Sem Qc)(r:R2):Prop :=
 ∀ (pins:Qa (Qg×Obj)) (s:Qd) (σ:St) (H:Hp) (x y:V) (v u:Qc) (Q:VK),Inv X pins σ H s->aO x v->aO y u->r x y H Q->
  wpAny (model X.prog X.w) X.A (f v u) (EP X pins σ Q) X.xe s
def El(X:Cx)(f:Qc->Sem Qc)(r:V->Hp->VK->Prop):Prop :=
 ∀ (pins:Qa (Qg×Obj)) (s:Qd) (σ:St) (H:Hp) (x:V) (v:Qc) (Q:VK),Inv X pins σ H s->aO x v->r x H Q->
  wpAny (model X.prog X.w) X.A (f v) (EP X pins σ Q) X.xe s
def fS(X:Cx)(f:Qc)(r:Qa V->Hp->VK->Prop):Prop :=
 ∀ (pins:Qa (Qg×Obj)) (s:Qd) (σ:St) (H:Hp) (xs:Qa V) (us:Qa Qc) (Q:VK),Inv X pins σ H s->zW xs us->r xs H Q->
  wpAny (model X.prog X.w) X.A (call f us) (EP X pins σ Q) X.xe s
def zDP(X:Cx)(r:V->Hp->(Bool->Hp->Prop)->Prop):Prop :=
 ∀ (pins:Qa (Qg×Obj)) (s:Qd) (σ:St) (H:Hp) (x:V) (v:Qc) (Q:Bool->Hp->Prop),Inv X pins σ H s->aO x v->r x H Q->
  wpAny (model X.prog X.w) X.A (truthy v) (TP X pins σ Q) X.xe s
def nG(r:R2)(ta tb:TE):TE:=λσ H Q=>ta σ H λx H1=>tb σ H1 λy H2=>r x y H2 Q
def DK(r:V->Hp->VK->Prop)(ta:TE):TE:=λσ H Q=>ta σ H λx H1=>r x H1 Q
def rI(C:Int->Int->Prop)(g:Int->Int->V):R2:=λx y H Q=>∃ i j,x=.int i/\y=.int j/\C i j/\Q (g i j) H
def iS(g:Int->Int->V):R2:=λx y H Q=>∃ i j,x=.int i/\y=.int j/\Q (g i j) H
def rU(g:Int->V):V->Hp->VK->Prop:=λx H Q=>∃ i,x=.int i/\Q (g i) H
section
variable{X:Cx}{a b c:Expr}{ta tb tc:TE}{pos:Pos}
theorem EF(ha:PE X a ta)(hb:PE X b tb){pins:Qa (Qg×Obj)}{s:Qd}{σ:St}{H:Hp}{R:V->V->Hp->Prop}(I:Inv X pins σ H s)
  (h:ta σ H λx H1=>tb σ H1 λy H2=>R x y H2) {Q:Qc->Qd->Prop} {f:Qc->Qc->Sem Qc}
  (hf:∀ v u s2 x y H2,Inv X pins σ H2 s2->aO x v->aO y u->R x y H2->wpAny (model X.prog X.w) X.A (f v u) Q X.xe s2):
  wpAny (model X.prog X.w) X.A (eval a X.env) (λv aG=>wpAny (model X.prog X.w) X.A (eval b X.env) (λu fX=>wpAny (model X.prog X.w) X.A (f v u) Q X.xe fX) X.xe aG) X.xe s:=by
 refine aH (ha pins s σ H _ I h) λv s1 hZ=>?_;have(x,H1,I1,r1,q1):=hZ;refine aH (hb pins s1 σ H1 _ I1 q1) λu s2 hZ=>?_;have(y,H2,I2,r2,q2):=hZ;exact hf v u s2 x y H2 I2 r1 r2 q2
theorem zB5{op:Operator}{r:R2}(ho:bN X (binaryOp op) r)(ha:PE X a ta)(hb:PE X b tb):PE X (.BinOp a op b pos) (nG r ta tb):=by
 intro pins s σ H Q I h;exact wpAny_BinOp<|EF ha hb I h λv u s2 x y H2 I2 rx ry q=>ho pins s2 σ H2 x y v u Q I2 rx ry q
theorem zB6{op:UnaryOp}{r:V->Hp->VK->Prop}(ho:El X (unaryOp op) r)(ha:PE X a ta):PE X (.UnaryOp op a pos) (DK r ta):=by
 intro pins s σ H Q I h;exact UnaryOp_<|aH (ha pins s σ H _ I h) λv s1 ⟨x,H1,I1,r1,q1⟩=>ho pins s1 σ H1 x v Q I1 r1 q1
theorem wQ{f:Qc->Qc->Sem Qc}{C:Int->Int->Prop}{g:Int->Int->Int}
  (rule:∀ (i j:Int) (t u:Tok) (s:Qd) (Q:Qc->Qd->Prop) (E:Qc->Qd->Prop),C i j->Q (.int (g i j) s.toks) {s with toks:=s.toks+1}->wpAny (model X.prog X.w) X.A (f (.int i t)<|.int j u) Q E s):
  bN X f (rI C λi j=>.int<|g i j):=by
 intro pins s σ H x y v u Q I rx ry h;have(i,j,rfl,rfl,hc,q):=h;have(t,rfl):=rx;have(t',rfl):=ry;exact rule i j t t' s _ _ hc ⟨.int<|g i j,H,I.tok _,⟨_,rfl⟩,q⟩
theorem RT{f:Qc->Qc->Sem Qc}{g:Int->Int->Int}
  (rule:∀ (i j:Int) (t u:Tok) (s:Qd) (Q:Qc->Qd->Prop) (E:Qc->Qd->Prop),Q (.int (g i j) s.toks) {s with toks:=s.toks+1}->wpAny (model X.prog X.w) X.A (f (.int i t)<|.int j u) Q E s):
  bN X f (iS λi j=>.int<|g i j):=by
 intro pins s σ H x y v u Q I rx ry h;have(i,j,rfl,rfl,q):=h;have(t,rfl):=rx;have(t',rfl):=ry;exact rule i j t t' s _ _ ⟨.int<|g i j,H,I.tok _,⟨_,rfl⟩,q⟩
theorem Ba{f:Qc->Qc->Sem Qc}{g:Int->Int->Bool}
  (rule:∀ (i j:Int) (t u:Tok) (s:Qd) (Q:Qc->Qd->Prop) (E:Qc->Qd->Prop),Q (.bool<|g i j) s->wpAny (model X.prog X.w) X.A (f (.int i t)<|.int j u) Q E s):
  bN X f (iS λi j=>.bl<|g i j):=by
 intro pins s σ H x y v u Q I rx ry h;have(i,j,rfl,rfl,q):=h;have(t,rfl):=rx;have(t',rfl):=ry;exact rule i j t t' s _ _ ⟨.bl<|g i j,H,I,rfl,q⟩
def A9(i j:Int):Prop:=0<=j/\j<=1000000/\i.natAbs < 2^64
def vC(i j:Int):Prop:=(-(2^64) < i/\i < 2^64)\/(-(2^64) < j/\j < 2^64)
theorem vC.ok{i j:Int}(h:vC i j):IntMulOk i j:=by
 rcases h with⟨h1,h2⟩|⟨h1,h2⟩
 .exact .of_left (intBits_le_64 h1 h2)
 .exact .of_right (intBits_le_64 h1 h2)
theorem dX:bN X (binaryOp .Add) (iS λi j=>.int<|i+j):=RT λ_ _ _ _ _ _ _ q=>add_int q
theorem pd:bN X (binaryOp .Sub) (iS λi j=>.int<|i - j):=RT λ_ _ _ _ _ _ _ q=>sub_int q
theorem lE:bN X (binaryOp .Mult) (rI vC λi j=>.int<|i * j):=wQ λ_ _ _ _ _ _ _ hc q=>mul_int q hc.ok
theorem lD:bN X (binaryOp .Mod) (rI (λ_ j=>0 < j) λi j=>.int<|i % j):=wQ λi j _ _ _ _ _ hc q=>by
 have h1:(0:Int) < j:=hc;exact mod_int' (by omega) (by rw[Int.fmod_eq_emod_of_nonneg i (by omega)]; exact q)
theorem UN:bN X (binaryOp .Pow) (rI A9 λi j=>.int<|i^j.toNat):=wQ λ_ _ _ _ _ _ _ hc q=>pow_int_small hc.1 hc.2.1 hc.2.2 q
theorem unI{f:Qc->Sem Qc}{g:Int->Int}
  (rule:∀ (i:Int) (t:Tok) (s:Qd) (Q:Qc->Qd->Prop) (E:Qc->Qd->Prop),Q (.int (g i) s.toks) {s with toks:=s.toks+1}->wpAny (model X.prog X.w) X.A (f<|.int i t) Q E s):
  El X f (rU λi=>.int<|g i):=by
 intro pins s σ H x v Q I rx h;have(i,rfl,q):=h;have(t,rfl):=rx;exact rule i t s _ _ ⟨.int<|g i,H,I.tok _,⟨_,rfl⟩,q⟩
theorem t5:El X (unaryOp .USub) (rU λi=>.int (-i)):=unI λ_ _ _ _ _ q=>neg_int q
end
def EE:V->V->Bool
 | .aP,.aP=>true | .aP,.int _=>true | .int _,.aP=>true | .aP,.bl _=>true | .bl _,.aP=>true | .aP,.str _=>true | .str _,.aP=>true
 | .int _,.int _=>true | .bl _,.bl _=>true | .str _,.str _=>true | .jK _,.jK _=>true
 | .int _,.str _=>true | .str _,.int _=>true | .bl _,.str _=>true | .str _,.bl _=>true
 | _,_=>false
def R8:R2:=λx y H Q=>EE x y=true/\Q (.bl<|decide<|x=y) H
def R7:R2:=λx y H Q=>EE x y=true/\Q (.bl (!decide (x=y))) H
theorem MK{i j:Int}:decide (V.int i=V.int j)=(i==j):=by
 rw[Bool.eq_iff_iff];simp
theorem LJ{i j:Bool}:decide (V.bl i=V.bl j)=(i==j):=by
 rw[Bool.eq_iff_iff];simp
theorem MH{i j:Str}:decide (V.str i=V.str j)=(i==j):=by
 rw[Bool.eq_iff_iff];simp
theorem MF{i j:Array UInt8}:decide (V.jK i=V.jK j)=(i.toList==j.toList):=by
 rw[Bool.eq_iff_iff];cases i;cases j;simp
section
variable{X:Cx}{a b c:Expr}{ta tb tc:TE}{pos:Pos}
theorem dA{pins:Qa (Qg×Obj)}{σ:St}{H:Hp}{s:Qd}{Q:VK}{k k':Bool}(I:Inv X pins σ H s)(q:Q (.bl k) H)(e:k=k'):EP X pins σ Q (.bool k') s:=by
 subst e;exact⟨.bl k,H,I,rfl,q⟩
theorem eB:bN X (compareOp .Eq) R8:=by
 intro pins s σ H x y v u Q I rx ry h;have(hs,q):=h;cases x with
 | aP=>
  cases rx;cases y with
  | aP=>cases ry; exact PySem.EqNone.eq_none_none<|dA I q (by simp)
  | bl j=>cases ry; exact PySem.EqNone.eq_none_bool<|dA I q (by simp)
  | int j=>have(t',rfl):=ry; exact PySem.EqNone.eq_none_int<|dA I q (by simp)
  | str j=>have(t',rfl):=ry; exact PySem.EqNone.eq_none_str<|dA I q (by simp)
  | _=>exact absurd (show false=true from hs) qh
 | bl i=>
  cases rx;cases y with
  | aP=>cases ry; exact PySem.EqNone.eq_bool_none<|dA I q (by simp)
  | bl j=>cases ry; exact eq_bool<|dA I q LJ
  | str j=>have(t',rfl):=ry; exact PySem.EqMixed.eq_bool_str<|dA I q (by simp)
  | _=>exact absurd (show false=true from hs) qh
 | int i=>
  have(t,rfl):=rx;cases y with
  | aP=>cases ry; exact PySem.EqNone.eq_int_none<|dA I q (by simp)
  | int j=>have(t',rfl):=ry; exact eq_int<|dA I q MK
  | str j=>have(t',rfl):=ry; exact PySem.EqMixed.eq_int_str<|dA I q (by simp)
  | _=>exact absurd (show false=true from hs) qh
 | str i=>
  have(t,rfl):=rx;cases y with
  | aP=>cases ry; exact PySem.EqNone.eq_str_none<|dA I q (by simp)
  | bl j=>cases ry; exact PySem.EqMixed.eq_str_bool<|dA I q (by simp)
  | int j=>have(t',rfl):=ry; exact PySem.EqMixed.eq_str_int<|dA I q (by simp)
  | str j=>have(t',rfl):=ry; exact eq_str<|dA I q MH
  | _=>exact absurd (show false=true from hs) qh
 | jK i=>
  have(t,rfl):=rx;cases y with
  | jK j=>have(t',rfl):=ry; exact PySem.W.eq_bytes<|dA I q MF
  | _=>exact absurd (show false=true from hs) qh
 | _=>cases y<;>exact absurd (show false=true from hs) qh
theorem rC:bN X (compareOp .NotEq) R7:=by
 intro pins s σ H x y v u Q I rx ry h;have(hs,q):=h;cases x with
 | aP=>
  cases rx;cases y with
  | aP=>cases ry; exact PySem.EqNone.ne_none_none<|dA I q (by simp)
  | bl j=>cases ry; exact PySem.EqNone.ne_none_bool<|dA I q (by simp)
  | int j=>have(t',rfl):=ry; exact PySem.EqNone.ne_none_int<|dA I q (by simp)
  | str j=>have(t',rfl):=ry; exact PySem.EqNone.ne_none_str<|dA I q (by simp)
  | _=>exact absurd (show false=true from hs) qh
 | bl i=>
  cases rx;cases y with
  | aP=>cases ry; exact PySem.EqNone.ne_bool_none<|dA I q (by simp)
  | bl j=>cases ry; exact ne_bool<|dA I q<|congrArg not LJ
  | str j=>have(t',rfl):=ry; exact PySem.EqMixed.ne_bool_str<|dA I q (by simp)
  | _=>exact absurd (show false=true from hs) qh
 | int i=>
  have(t,rfl):=rx;cases y with
  | aP=>cases ry; exact PySem.EqNone.ne_int_none<|dA I q (by simp)
  | int j=>have(t',rfl):=ry; exact ne_int<|dA I q<|congrArg not MK
  | str j=>have(t',rfl):=ry; exact PySem.EqMixed.ne_int_str<|dA I q (by simp)
  | _=>exact absurd (show false=true from hs) qh
 | str i=>
  have(t,rfl):=rx;cases y with
  | aP=>cases ry; exact PySem.EqNone.ne_str_none<|dA I q (by simp)
  | bl j=>cases ry; exact PySem.EqMixed.ne_str_bool<|dA I q (by simp)
  | int j=>have(t',rfl):=ry; exact PySem.EqMixed.ne_str_int<|dA I q (by simp)
  | str j=>have(t',rfl):=ry; exact ne_str<|dA I q<|congrArg not MH
  | _=>exact absurd (show false=true from hs) qh
 | jK i=>
  have(t,rfl):=rx;cases y with
  | jK j=>have(t',rfl):=ry; exact PySem.W.ne_bytes<|dA I q<|congrArg not MF
  | _=>exact absurd (show false=true from hs) qh
 | _=>cases y<;>exact absurd (show false=true from hs) qh
theorem jr:bN X (compareOp .Lt) (iS λi j=>.bl<|decide<|i < j):=Ba λ_ _ _ _ _ _ _ q=>lt_int q
theorem rB:bN X (compareOp .LtE) (iS λi j=>.bl<|decide<|i<=j):=Ba λ_ _ _ _ _ _ _ q=>le_int q
theorem E8:bN X (compareOp .Gt) (iS λi j=>.bl<|decide<|j < i):=Ba λ_ _ _ _ _ _ _ q=>gt_int q
theorem KZ:bN X (compareOp .GtE) (iS λi j=>.bl<|decide<|j<=i):=Ba λ_ _ _ _ _ _ _ q=>ge_int q
theorem WO:bN X (compareOp .IsNot) (λx y H Q=>y=.aP/\Q (.bl (!decide (x=.aP))) H):=by
 intro pins s σ H x y v u Q I rx ry h;have(rfl,q):=h;cases ry;refine isnot_none_gen<|dA I q ?_;cases x<;>first
  | (cases rx; rfl)
  | (have(t,rfl):=rx; rfl)
theorem LI(b:Expr){op:CmpOp}(h:op≠.In:=by decide)(h2:op≠.NotIn:=by decide):behindInMarks op b=false:=by
 have e1:(op==CmpOp.In)=false:=by cases op<;>first|rfl|exact absurd rfl h
 have e2:(op==CmpOp.NotIn)=false:=by cases op<;>first|rfl|exact absurd rfl h2
 cases b<;>simp[behindInMarks,e1,e2]
theorem WN{op:CmpOp}{r:R2}(ho:bN X (compareOp op) r)(ha:PE X a ta)(hb:PE X b tb)(hm:behindInMarks op b=false):PE X (.Compare a [op] [b] pos) (nG r ta tb):=by
 intro pins s σ H Q I h;exact wpAny_Compare1 (EF ha hb I h λv u s2 x y H2 I2 rx ry q=>ho pins s2 σ H2 x y v u Q I2 rx ry q) hm
def xE(t:TE):TT:=λσ H Q=>t σ H λx H'=>∃ k,x=.bl k/\Q k H'
theorem WM{op:CmpOp}{r:R2}(ho:bN X (compareOp op) r)(ha:PE X a ta)(hb:PE X b tb)(hm:behindInMarks op b=false):PT X (.Compare a [op] [b] pos) (xE<|nG r ta tb):=by
 intro pins s σ H Q I h;refine wpAny_isTrue_Compare1 (aH (ha pins s σ H _ I h) λv s1 ⟨x,H1,I1,r1,q1⟩=>aH (hb pins s1 σ H1 _ I1 q1) λu s2 ⟨y,H2,I2,r2,q2⟩=>
  aH (ho pins s2 σ H2 x y v u _ I2 r1 r2 q2) λc s3 ⟨z,H3,I3,r3,k,e,q3⟩=>?_) hm
 subst e;cases r3;exact wpAny_truthy_bool ⟨H3,I3,q3⟩
def xX(r r':R2)(ta tb tc:TE):TE:=λσ H Q=>ta σ H λx H1=>tb σ H1 λy H2=>r x y H2 λz H3=>∃ k,z=.bl k/\
 (if k=true then tc σ H3 λw' H4=>r' y w' H4 Q else Q (.bl false) H3)
theorem Zq{op iU:CmpOp}{r r':R2}(ho:bN X (compareOp op) r)(fO:bN X (compareOp iU) r')(ha:PE X a ta)(hb:PE X b tb)(hc:PE X c tc)
  (hm:lastMarks [op,iU] [b,c]=false:=by with_unfolding_all rfl):PE X (.Compare a [op,iU] [b,c] pos) (xX r r' ta tb tc):=by
 intro pins s σ H Q I h;refine Compare_chain (aH (ha pins s σ H _ I h) λv s1 ⟨x,H1,I1,r1,q1⟩=>chain_link (aH (hb pins s1 σ H1 _ I1 q1) λu s2 ⟨y,H2,I2,r2,q2⟩=>
  aH (ho pins s2 σ H2 x y v u _ I2 r1 r2 q2) λd s3 ⟨z,H3,I3,r3,k,e,q3⟩=>?_)) hm
 subst e;cases r3;refine wpAny_truthy_bool ?_;cases k with
 | false=>exact ite_ff ⟨.bl false,H3,I3,rfl,q3⟩
 | true=>exact ite_tt<|chain_last<|aH (hc pins s3 σ H3 _ I3 q3) λw' s4 ⟨z',H4,I4,r4,q4⟩=>fO pins s4 σ H4 y z' u w' Q I4 r2 r4 q4
theorem Zp{op iU:CmpOp}{r r':R2}(ho:bN X (compareOp op) r)(fO:bN X (compareOp iU) r')(ha:PE X a ta)(hb:PE X b tb)(hc:PE X c tc)
  (hm:lastMarks [op,iU] [b,c]=false:=by with_unfolding_all rfl):PT X (.Compare a [op,iU] [b,c] pos) (xE<|xX r r' ta tb tc):=by
 intro pins s σ H Q I h;refine isTrue_chain (aH (ha pins s σ H _ I h) λv s1 ⟨x,H1,I1,r1,q1⟩=>test_link (aH (hb pins s1 σ H1 _ I1 q1) λu s2 ⟨y,H2,I2,r2,q2⟩=>
  aH (ho pins s2 σ H2 x y v u _ I2 r1 r2 q2) λd s3 ⟨z,H3,I3,r3,k,e,q3⟩=>?_)) hm
 subst e;cases r3;refine wpAny_truthy_bool ?_;cases k with
 | false=>
  have(k',e',q'):=q3;cases e';exact ite_ff ⟨H3,I3,q'⟩
 | true=>
  refine ite_tt<|test_last<|aH (hc pins s3 σ H3 _ I3 q3) λw' s4 ⟨z',H4,I4,r4,q4⟩=>aH (fO pins s4 σ H4 y z' u w' _ I4 r2 r4 q4) λd' s5 hZ=>?_;have(z2,H5,I5,r5,k2,e2,q5):=hZ;subst e2;cases r5;exact wpAny_truthy_bool ⟨H5,I5,q5⟩
def ED(K:qe)(x:V)(H:Hp)(k:Bool):Prop :=
 match x with
 | .aP=>k=false
 | .bl b=>k=b
 | .int i=>k=(i != 0)
 | .str y=>y.length<=sizeLine/\k=((y.length:Int) != 0)
 | .jK y=>y.size<=sizeLine/\k=((y.size:Int) != 0)
 | .ref p=>(∃ xs,bu K H p xs/\k=!xs.isEmpty)\/(∃ xs,br K H p xs/\k=!xs.isEmpty)\/∃ kvs,H p=some (.dK kvs)/\k=!kvs.isEmpty
 | _=>False
theorem zn2{κ:Type}{kvs:Qa (κ×V)}{vs:Qa (κ×Qc)}(r:KV kvs vs):(!vs.isEmpty)=!kvs.isEmpty:=by
 cases r<;>rfl
theorem O1{xs:Qa V}{ah:Qa Qc}(r:zW xs ah):(!ah.toArray.isEmpty)=!xs.isEmpty:=by
 cases r<;>simp
theorem wc:(sizeLine:Nat) < 2^63:=by rw[sizeLine_eq]; decide
theorem UM:zDP X (λx H Q=>∃ k,ED X.K x H k/\Q k H):=by
 intro pins s σ H x v Q I rx h;have(k,e,q):=h;have hl:=wc;have hs:sizeLine=16777216:=sizeLine_eq;cases x with
 | aP=>
  cases rx;have e':k=false:=e;subst e';exact truthy_none ⟨H,I,q⟩
 | bl b=>
  cases rx;have e':k=b:=e;subst e';exact wpAny_truthy_bool ⟨H,I,q⟩
 | int i=>
  have(t,rfl):=rx;have e':k=(i != 0):=e;subst e';exact PySem.P.truthy_int ⟨H,I,q⟩
 | str y=>
  have(t,rfl):=rx;obtain⟨hy,e'⟩:y.length<=sizeLine/\k=((y.length:Int) != 0):=e;subst e';exact PySem.P.truthy_str (by omega) ⟨H,I.tok _,q⟩
 | jK y=>
  have(t,rfl):=rx;obtain⟨hy,e'⟩:y.size<=sizeLine/\k=((y.size:Int) != 0):=e;subst e';exact PySem.W.truthy_bytes (by omega) ⟨H,I.tok _,q⟩
 | ref p=>
  cases rx;have e':(∃ xs,bu X.K H p xs/\k=!xs.isEmpty)\/(∃ xs,br X.K H p xs/\k=!xs.isEmpty)\/∃ kvs,H p=some (.dK kvs)/\k=!kvs.isEmpty:=e;rcases e' with⟨xs,hx,e'⟩|⟨xs,hx,e'⟩|⟨kvs,hx,e'⟩
  .subst e'
   have(ah,r,pl,hz):=I.list hx;have hlen:=r.length;exact wpAny_truthy_list pl.isList (by simp only[List.size_toArray]; omega) ⟨H,I.tok _,by rw[O1 r]; exact q⟩
  .subst e'
   have(ah,r,pl,hz):=I.tuple hx;have hlen:=r.length;exact truthy_tuple pl (by simp only[List.size_toArray]; omega) ⟨H,I.tok _,by rw[O1 r]; exact q⟩
  .subst e'
   obtain⟨hz,hS,vs,r,m⟩:kvs.length<=sizeLine/\(p==sysModules)=false/\∃ vs,KV kvs vs/\s.heap.DictOf (eV X.prog X.w) p vs:=I.aE p _ hx;have hlen:kvs.length=vs.length:=Paired.length r;exact wpAny_truthy_dict hS m (by omega) ⟨H,I.tok _,by rw[zn2 r]; exact q⟩
 | _=>exact(show False from e).elim
theorem Zo(ha:PE X a ta)(he:∀ whole,isTrue a X.env whole=(do let v <-whole; standAt a.pos; holding [v] (truthy v))):
  PT X a (λσ H Q=>ta σ H λx H'=>∃ k,ED X.K x H' k/\Q k H'):=by
 intro pins s σ H Q I h;exact isTrue_plain (aH (ha pins s σ H _ I h) λv s1 ⟨x,H1,I1,r1,q1⟩=>UM pins s1 σ H1 x v Q I1 r1 q1)<|he _
theorem Dc:bN X (binaryOp .Add) (λx y H Q=>∃ i j,x=.str i/\y=.str j/\i.length+j.length<=sizeLine/\Q (.str<|i++j) H):=by
 intro pins s σ H x y v u Q I rx ry h;have(i,j,rfl,rfl,hz,q):=h;have(t,rfl):=rx;have(t',rfl):=ry;exact add_str (λt' tk=>⟨.str<|i++j,H,I.tok _,⟨_,rfl⟩,q⟩) hz
theorem jS{x:V}{us:Qa Qc}(r:zW [x] us):∃ u,us=[u]/\aO x u:=by
 cases r with
 | cons r1 r2=>cases r2; exact⟨_,rfl,r1⟩
theorem E7{x y:V}{us:Qa Qc}(r:zW [x,y] us):∃ u w',us=[u,w']/\aO x u/\aO y w':=by
 cases r with
 | cons r1 r2=>
  cases r2 with
  | cons r3 r4=>cases r4; exact⟨_,_,rfl,r1,r3⟩
theorem yo:fS X (.builtin "abs") (λxs H Q=>∃ i,xs=[.int i]/\Q (.int (if i < 0 then -i else i)) H):=by
 intro pins s σ H xs us Q I r h;have(i,rfl,q):=h;have(u,rfl,t,rfl):=jS r;exact call_abs_int λu tk=>⟨.int (if i < 0 then -i else i),H,I.tok _,⟨_,rfl⟩,q⟩
theorem Hi(hc:X.calm=true):fS X (.builtin "max") (λxs H Q=>∃ i j,xs=[.int i,.int j]/\Q (.int (if j > i then j else i)) H):=by
 intro pins s σ H xs us Q I r h;have(i,j,rfl,q):=h;obtain⟨u,w',rfl,⟨t,rfl⟩,⟨t',rfl⟩⟩:=E7 r;refine max_two_ints (I.ok.hd hc) λh' tk k=>⟨_,H,I.kept k,?_,q⟩
 by_cases hj:j > i
 .rw[if_pos hj,if_pos hj]; exact⟨_,rfl⟩
 .rw[if_neg hj,if_neg hj]; exact⟨_,rfl⟩
theorem Hh:fS X (.type "int") (λxs H Q=>(∃ i,xs=[.int i]/\Q (.int i) H)\/∃ k,xs=[.bl k]/\Q (.int (if k then 1 else 0)) H):=by
 intro pins s σ H xs us Q I r h;rcases h with⟨i,rfl,q⟩|⟨k,rfl,q⟩
 .have(u,rfl,t,rfl):=jS r
  exact call_int_int ⟨.int i,H,I,⟨_,rfl⟩,q⟩
 .have(u,rfl,r1):=jS r
  cases r1;exact call_int_bool ⟨.int (if k then 1 else 0),H,I.tok _,⟨_,rfl⟩,q⟩
end
structure jd (h:Heap) (x dx C:Qg) (mA:Str->Qb Qc):Prop where
 obj:h.get? x=some (PySem.W.instObj C dx)
 ns:h.Ns1 dx mA
 ne:dx≠x
theorem ZZ{h:Heap}{dx:Qg}{mA:Str->Qb Qc}(n:h.Ns1 dx mA):∃ od,h.get? dx=some od/\∀ name,PySem.W.lookIn name od=some (mA name):=by
 have(o,es,ep,ho,hd,hk,_,hm):=n;refine⟨o,ho,λname=>?_⟩;have e:=hm name;unfold nsFind findBy at e;rw[<-Array.find?_toList]at e;unfold PySem.W.lookIn;rw[hd];dsimp only;split
 .rename_i y q
  rw[q]at e;exact congrArg some e
 .rename_i q
  rw[q]at e;have a:es.toList.any (·.refKey)=false:=by
   rw[List.any_eq_false];intro y hy;have(z,t,JB):=hk y (Array.mem_toList_iff.mp hy);simp[DictEntry.refKey,JB]
  have a':¬es.toList.any (·.refKey)=true:=by rw[a]; exact qh
  rw[if_neg a'];exact congrArg some e
theorem jd.look{h:Heap}{x dx C:Qg}{mA:Str->Qb Qc}(I:jd h x dx C mA):∃ od,PySem.W.InstAt h x (PySem.W.instObj C dx) C (some od)/\∀ name,PySem.W.lookIn name od=some (mA name):=
 let ⟨od,ho,hl⟩:=ZZ I.ns
 ⟨od,⟨I.obj,rfl,rfl,ho⟩,hl⟩
section
variable{prog:Qe}{w:Qh}{A:Qf}{E:Qc->Qd->Prop}{s:Qd}{K:qe}{x dx C f:Qg}{mA:Str->Qb Qc}{name:Str}{v:Qc}
theorem WL{expr:Bool}{Q:Qc->Qd->Prop}(X:K.In s.heap)(I:jd s.heap x dx C mA)(hg:PySem.W.plainGet K C name=true)(hh:PySem.W.hasDictIn K C=true)
  (ha:PySem.W.findIn K (.ref C) name=some none) (hv:mA name=some v) (hv':PySem.W.handedIn v=true) (h:Q v {s with toks:=s.toks+1}):
  wpAny (model prog w) A (getAttr (.ref x) name expr) Q E s:=by
 have(od,J,hl):=I.look;exact PySem.W.get_value X J (PySem.W.plainGet_of hg).1 (PySem.W.findObj_own hh ha rfl (by rw[hl,hv])) hv' h
theorem WK{ns:Qa Str}{Q:Unit->Qd->Prop}(X:K.In s.heap)(I:jd s.heap x dx C mA)
  (hs:PySem.W.findIn K (.ref C) "__setattr__"=some (some<|.builtin "object.__setattr__")) (hp:PySem.W.plainOver K C=true) (ht:PySem.W.takerIn K C name=some none) (hh:PySem.W.hasDictIn K C=true)
  (hw:PySem.Within mA ns) (hsz:ns.length<=sizeLine)
  (h:∀ h',jd h' x dx C (λy=>if y=name then some v else mA y)->Heap.SameBut dx s.heap h'->Q () {s with heap:=h',toks:=s.toks+2}):
  wpAny (model prog w) A (setAttr (.ref x) name v) Q E s:=by
 have(od,J,hl):=I.look;refine PySem.W.set_plain X J hs<|PySem.W.osa_open (s:={s with toks:=s.toks+1}) (r:=none) X J hp ht λb=>?_;have(cd,hc,xa):=PySem.W.any_some hh;have hx:s.heap.get? x=some ⟨.ref C,some dx,.plain,#[]⟩:=I.obj;refine qc<|qd<|qc<|qc<|wpAny_loadPart hx<|qc<|PySem.W.Looks.here (s:={s with toks:=s.toks+1}) (PySem.W.looks_clsIn X hc) ?_;rw[xa];refine qd (a:=some dx)<|qc<|qd<|qc ?_;refine wpAny_nsSet1 (s:={s with toks:=s.toks+1}) I.ns λh' D5 nN=>?_;have(oD,esD,epD,hoD,hdD,hcD):=D5.count (PySem.Within.cons name v hw);refine qc<|wpAny_lookBehind hoD (by rw[hdD]; exact pastItsLine_dict<|qC hcD (by rw[qx]; omega)) ?_;exact qd<|h _ ⟨(nN.2 _<|Ne.symm I.ne).trans I.obj,D5,I.ne⟩ nN
theorem Zn{R:Result->Qd->Prop}{vs:Qa Qc}{kw:Qa (Str×Qc)}(X:K.In s.heap)(hm:PySem.W.makesIn K C=true)
  (hi:PySem.W.findIn K (.ref C) "__init__"=some (some<|.ref f)) (hf:PySem.W.typeIn K (.ref f)=some (.type "function"))
  (h:codeAny (model prog w) (A.under<|.builtin "type.__call__" ⟨.ref C::vs,kw⟩) (.call (.ref f) ⟨.ref (s.heap.objs.size+1)::vs,kw⟩) (PySem.W.InitBack (s.heap.objs.size+1) R)
   {s with heap:=(s.heap.push PySem.W.emptyDict).push (PySem.W.instObj C s.heap.objs.size)}):
  codeAny (model prog w) A (.call (.ref C) ⟨vs,kw⟩) R s:=by
 have(hh,g,d,t,os):=s;exact PySem.W.make_core (PySem.W.makes_of X hm) (PySem.W.looks_findIn X hi) (λself=>PySem.W.bind_fn X self hf) (.inl rfl) h
end
def fA(f:Str)(v:V):Qa (Str×V)->Qa (Str×V)
 | []=>[(f,v)]
 | (g,x)::r=>if g=f then(g,v)::r else(g,x)::fA f v r
theorem Pj(f g:Str)(v:V):∀ fs:Qa (Str×V),(fA f v fs).lookup g=if g=f then some v else fs.lookup g
 | []=>by
  show List.lookup g [(f,v)]=_
  by_cases h:g=f
  .have hb:(g==f)=true:=beq_iff_eq.mpr h
   simp only[List.lookup,hb,if_pos h]
  .have hb:(g==f)=false:=beq_eq_false_iff_ne.mpr h
   simp only[List.lookup,hb,if_neg h]
 | (k,x)::r=>by
  have ih:=Pj f g v r;rw[show fA f v ((k,x)::r)=(if k=f then(k,v)::r else(k,x)::fA f v r) from rfl]
  by_cases hk:k=f
  .rw[if_pos hk]
   by_cases h:g=k
   .have hb:(g==k)=true:=beq_iff_eq.mpr h
    simp only[List.lookup,hb,if_pos<|h.trans hk]
   .have hb:(g==k)=false:=beq_eq_false_iff_ne.mpr h
    simp only[List.lookup,hb,if_neg (λe:g=f=>h<|e.trans hk.symm)]
  .rw[if_neg hk]
   by_cases h:g=k
   .have hb:(g==k)=true:=beq_iff_eq.mpr h
    simp only[List.lookup,hb,if_neg (λe:g=f=>hk<|h.symm.trans e)]
   .have hb:(g==k)=false:=beq_eq_false_iff_ne.mpr h
    simp only[List.lookup,hb];exact ih
theorem Hg(f:Str)(v:V):∀ fs:Qa (Str×V),f∈(fA f v fs).map (·.1)/\∀ g,g∈fs.map (·.1)->g∈(fA f v fs).map (·.1)
 | []=>⟨by simp[fA],λg h=>by simp at h⟩
 | (k,x)::r=>by
  have(i1,i2):=Hg f v r;rw[show fA f v ((k,x)::r)=(if k=f then(k,v)::r else(k,x)::fA f v r) from rfl]
  by_cases hk:k=f
  .rw[if_pos hk]
   subst hk;exact⟨by simp,λg h=>by simpa using h⟩
  .rw[if_neg hk]
   refine⟨?_,λg h=>?_⟩
   .rw[List.map_cons]
    exact qq _ i1
   .rw[List.map_cons]at h ⊢
    rcases qy.mp h with e|e
    .exact qy.mpr (.inl e)
    .exact qq _ (i2 g e)
theorem Pg(f:Str)(v:V):∀ fs:Qa (Str×V),(fA f v fs).length<=fs.length+1
 | []=>by simp[fA]
 | (k,x)::r=>by
  have ih:=Pg f v r;rw[show fA f v ((k,x)::r)=(if k=f then(k,v)::r else(k,x)::fA f v r) from rfl]
  by_cases hk:k=f
  .rw[if_pos hk,qx,qx]; omega
  .rw[if_neg hk,qx,qx]; omega
theorem iK.some_of{v:V}{o:Qb Qc}(r:iK (some v) o):∃ u,o=some u/\aO v u:=by
 cases o with
 | none=>exact(show False from r).elim
 | some u=>exact⟨u,rfl,r⟩
theorem ZY{v:V}{u:Qc}(r:aO v u):PySem.W.handedIn u=true:=by
 cases v with
 | aP=>cases(show u=Value.none from r); rfl
 | bl b=>cases(show u=Value.bool b from r); rfl
 | int i=>have(t,e):=(show ∃ t,u=Value.int i t from r); cases e; rfl
 | str x=>have(t,e):=(show ∃ t,u=Value.str x t from r); cases e; rfl
 | jK b=>have(t,e):=(show ∃ t,u=Value.bytes b t from r); cases e; rfl
 | vh b=>have(t,e):=(show ∃ t,u=Value.float b t from r); cases e; rfl
 | ref a=>cases(show u=Value.ref a from r); rfl
 | ty n=>cases(show u=Value.type n from r); rfl
section
variable{P:Qe}{w:Qh}{K:qe}{H H':Hp}{h h':Heap}{a C dx:Qg}{fs fs':Qa (Str×V)}
theorem MD(aE:cK P w K H h)(e:H a=some (.ins C dx fs)):∃ mA,jd h a dx C mA/\(∀ f,iK (fs.lookup f)<|mA f)/\PySem.Within mA (fs.map (·.1))/\fs.length<=1000/\H dx=some (.own a):=by
 have(d,z,ne,ob,mA,n,r,q):=(show bW P w K H h a (.ins C dx fs) from aE a _ e);exact⟨mA,⟨ob,n,ne⟩,r,q,z,d⟩
end
structure n6 (K:qe) (C:Qg):Prop where
 pg:PySem.W.plainGet K C Str.empty=true
 hd:PySem.W.hasDictIn K C=true
 po:PySem.W.plainOver K C=true
 sa:PySem.W.findIn K (.ref C) "__setattr__"=some (some<|.builtin "object.__setattr__")
theorem n6.get{K:qe}{C:Qg}(c:n6 K C)(f:Str):PySem.W.plainGet K C f=true:=c.pg
def iC(K:qe)(C:Qg)(f:Str):Prop:=PySem.W.findIn K (.ref C) f=some none
theorem iC.yL{K:qe}{C:Qg}{f:Str}(n:iC K C f):PySem.W.takerIn K C f=some none:=by
 unfold PySem.W.takerIn;rw[show PySem.W.findIn K (.ref C) f=some none from n];rfl
section
variable{X:Cx}{pins:Qa (Qg×Obj)}{σ:St}{H:Hp}{s:Qd}{a C dx:Qg}{fs:Qa (Str×V)}{f:Str}{v:V}{A:Qf}{E:Qc->Qd->Prop}
theorem zn3{y:V}{u:Qc}{Q:Unit->Qd->Prop}(I:Inv X pins σ H s)(e:H a=some (.ins C dx fs))(c:n6 X.K C)(n:iC X.K C f)(hl:fs.length < 1000)(ry:aO y u)
  (h:∀ s',Inv X pins σ (upd H a<|.ins C dx<|fA f y fs) s'->Q () s'):wpAny (model X.prog X.w) A (setAttr (.ref a) f u) Q E s:=by
 have(mA,O,r,wi,_,ho):=MD I.aE e;have hz:(fs.map (·.1)).length<=sizeLine:=by rw[List.length_map,sizeLine_eq]; omega
 refine WK I.cc O c.sa c.po n.yL c.hd wi hz λh' O' sb=>h _ ?_;have hd:∃ o,h'.get? dx=some o:=let ⟨o,_,_,e',_⟩:=O'.ns; ⟨o,e'⟩;refine I.write (x:=a) (e:=dx) (by rw[e]; exact True.intro) (.inr ho) (λb q hb z=>(sb.2 b hb).trans z) hd ?_;refine⟨by rw[zD O.ne]; exact ho,?_,O.ne,O'.obj,_,O'.ns,λg=>?_,λg hg=>?_⟩
 .have:=Pg f y fs; omega
 .show iK ((fA f y fs).lookup g) (if g=f then some u else mA g)
  rw[Pj]
  by_cases q:g=f
  .rw[if_pos q,if_pos q]; exact ry
  .rw[if_neg q,if_neg q]; exact r g
 .by_cases q:g=f
  .rw[q]; exact(Hg f y fs).1
  .refine(Hg f y fs).2 g (wi g λz=>hg ?_)
   show(if g=f then some u else mA g)=none;rw[if_neg q]; exact z
theorem Inv.made(I:Inv X pins σ H s):Inv X pins σ (upd (upd H s.heap.objs.size<|.own<|s.heap.objs.size+1) (s.heap.objs.size+1)<|.ins C s.heap.objs.size [])
  {s with heap:=(s.heap.push PySem.W.emptyDict).push (PySem.W.instObj C s.heap.objs.size)}:=by
 have e1:(s.heap.push PySem.W.emptyDict).get? s.heap.objs.size=some PySem.W.emptyDict:=qi s.heap rfl;have e2:((s.heap.push PySem.W.emptyDict).push<|PySem.W.instObj C s.heap.objs.size).get? (s.heap.objs.size+1)=some (PySem.W.instObj C s.heap.objs.size):=by
  have:=qi (s.heap.push PySem.W.emptyDict) (o:=PySem.W.instObj C s.heap.objs.size) rfl
  rwa[Heap.size_push]at this
 have e3:(s.heap.push PySem.W.emptyDict).Ns s.heap.objs.size (λ_=>none):=⟨PySem.W.emptyDict,#[],_,e1,rfl,(λe he=>absurd he (by simp)),λ_=>rfl⟩;have I1:=I.laid (a:=s.heap.objs.size) (o:=.own (s.heap.objs.size+1)) (h':=s.heap.push PySem.W.emptyDict) (t':=s.toks) (λb u q=>qf _ q) (qg _) ⟨_,e1⟩;refine I1.laid (a:=s.heap.objs.size+1) (o:=.ins C s.heap.objs.size []) (t':=s.toks) (λb u q=>qf _ q) (Ć<|Heap.size_push _ _) ?_;have ne:s.heap.objs.size≠s.heap.objs.size+1:=ql (Ý _);refine⟨by rw[zD ne,zy],Ç _,ne,e2,λ_=>none,(Heap.Ns1.of_empty e3).at λo q=>qf _ q,λ_=>True.intro,λy hy=>absurd rfl hy⟩
theorem WJ{prog:Qe}{w:Qh}{env:Env}{e:Expr}{f:Str}{pos:Pos}{s:Qd}{Q:Qc->Qd->Prop}(hb:attributeBase e f env (eval e env)=eval e env)
  (h:wpAny (model prog w) A (eval e env) (λo aG=>wpAny (model prog w) A (getAttr o f true) Q E aG) E s):wpAny (model prog w) A (eval (.Attribute e f pos) env) Q E s :=
 Attribute_any_ h (by rw[arm_eval_Attribute,hb])
end
def A8(K:qe)(ta tv:TE)(f:Str):TS:=λD σ H=>tv σ H λy H1=>ta σ H1 λx H2=>∃ a C dx fs,x=.ref a/\H2 a=some (.ins C dx fs)/\n6 K C/\iC K C f/\fs.length < 1000/\
 D.nx σ (upd H2 a<|.ins C dx<|fA f y fs)
section
variable{X:Cx}{o e value:Expr}{f:Str}{pos pos' pH:Pos}{ta tv:TE}
theorem Ga(ha:PE X o ta)(hv:PE X value tv)(hs:swapsWith value (some<|.Attribute o f pos') pos.line X.env=pure false):PS X (.Assign [.Attribute o f pos'] value pos) (A8 X.K ta tv f):=by
 intro pins s σ H D I h;refine plainObj_wpAny_Assign_Attribute (aH (hv pins s σ H _ I h) λu s1 ⟨y,H1,I1,ry,q⟩=>aH (ha pins s1 σ H1 _ I1 q) λov s2 hZ=>?_) hs;have(x,H2,I2,rx,a,C,dx,fs,ex,ea,c,n,l,q2):=hZ;subst ex;obtain rfl:ov=Value.ref a:=rx;exact zn3 I2 ea c n l ry λs3 I3=>⟨σ,_,I3,q2⟩
end
section
variable{X:Cx}{pins:Qa (Qg×Obj)}{σ:St}{H:Hp}{s:Qd}{A:Qf}{E:Qc->Qd->Prop}{Q:Qc->Qd->Prop}{c:Qc}{b:Bool}
inductive dR (K:qe) (H:Hp):V->Qc->Prop where
 | aP:dR K H .aP (.type "NoneType")
 | bl (x:Bool):dR K H (.bl x) (.type "bool")
 | int (i:Int):dR K H (.int i) (.type "int")
 | str (x:Str):dR K H (.str x) (.type "str")
 | vh (x:UInt64):dR K H (.vh x) (.type "float")
 | lst {a:Qg} {xs:Qa V} (e:H a=some (.lst xs)):dR K H (.ref a) (.type "list")
 | aZ {a:Qg} {o:Obj} {xs:Qa V} (e:H a=some (.aZ o<|.lst xs)):dR K H (.ref a) (.type "list")
 | tup {a:Qg} {xs:Qa V} (e:aX K H a xs):dR K H (.ref a) (.type "tuple")
 | dK {a:Qg} {kvs:Qa (Key×V)} (e:H a=some (.dK kvs)):dR K H (.ref a) (.type "dict")
 | dT {a:Qg} {kvs:Qa (Qa Key×V)} (e:H a=some (.dT kvs)):dR K H (.ref a) (.type "dict")
 | ins {a C dx:Qg} {fs:Qa (Str×V)} (e:H a=some (.ins C dx fs)) (cl:n6 K C) (ha:PySem.W.findIn K (.ref C) "__class__"=some (some<|.builtin "object.__class__"))
   (hn:PySem.W.specialIn K (.builtin "object.__class__") "__get__"=some (some<|.builtin "getset_descriptor.__get__")) (Su:PySem.W.takesIn K (.builtin "object.__class__")=some true)
   (hm:PySem.W.mroIn K C (.type "object")=some true):dR K H (.ref a) (.ref C)
theorem ZX{x:V}{u t:Qc}(I:Inv X pins σ H s)(rx:aO x u)(ty:dR X.K H x t)(e:PySem.W.kitOne X.K t c=some b)(h:∀ tk,Q (.bool b) {s with toks:=tk}):
  wpAny (model X.prog X.w) A (call (.builtin "isinstance") [u,c]) Q E s:=by
 cases ty with
 | aP=>cases(show u=Value.none from rx); exact Ñ PySem.W.kitx_none I.cc True.intro e (λz=>nomatch z) h
 | bl y=>cases(show u=Value.bool y from rx); exact Ñ PySem.W.kitx_bool I.cc True.intro e (λz=>nomatch z) h
 | int i=>have(t,q):=(show ∃ t,u=Value.int i t from rx); cases q; exact Ñ PySem.W.kitx_int I.cc True.intro e (λz=>nomatch z) h
 | str y=>have(t,q):=(show ∃ t,u=Value.str y t from rx); cases q; exact Ñ PySem.W.kitx_str I.cc True.intro e (λz=>nomatch z) h
 | vh y=>have(t,q):=(show ∃ t,u=Value.float y t from rx); cases q; exact Ñ PySem.W.kitx_float I.cc True.intro e (λz=>nomatch z) h
 | @lst a xs ea=>
  cases(show u=Value.ref a from rx);have(_,_,n,_,h1):=(show bW X.prog X.w X.K H s.heap a (.lst xs) from I.aE a _ ea);exact Ñ PySem.W.kitx_list I.cc ⟨_,h1,rfl⟩ e (λz=>nomatch z) h
 | @aZ a ob xs ea=>
  cases(show u=Value.ref a from rx);have(_,_,_,n,_,h1):=(show bW X.prog X.w X.K H s.heap a (.aZ ob<|.lst xs) from I.aE a _ ea);exact Ñ PySem.W.kitx_list I.cc ⟨_,h1,rfl⟩ e (λz=>nomatch z) h
 | @tup a xs ea=>
  cases(show u=Value.ref a from rx);rcases ea with ea|⟨o,ah,n,hk,hc,_⟩
  case inr=>exact Ñ PySem.W.kitx_tuple I.cc ⟨o,I.cc a o hk,hc⟩ e (λz=>nomatch z) h
  have(_,_,_,p):=(show bW X.prog X.w X.K H s.heap a (.tup xs) from I.aE a _ ea);have(o,h1,h2,_):=p;exact Ñ PySem.W.kitx_tuple I.cc ⟨o,h1,h2⟩ e (λz=>nomatch z) h
 | @dK a kvs ea=>
  cases(show u=Value.ref a from rx);have(_,_,vs,_,p):=(show bW X.prog X.w X.K H s.heap a (.dK kvs) from I.aE a _ ea);have(o,es,ep,h1,h2,_):=p;exact Ñ PySem.W.kitx_dict I.cc ⟨o,h1,h2.1⟩ e (λz=>nomatch z) h
 | @dT a kvs ea=>
  cases(show u=Value.ref a from rx);have(_,_,xs,_,o,es,ep,h1,h2,_):=(show bW X.prog X.w X.K H s.heap a (.dT kvs) from I.aE a _ ea);exact Ñ PySem.W.kitx_dict I.cc ⟨o,h1,h2.1⟩ e (λz=>nomatch z) h
 | @ins a C dx fs ea cl ha hn Su hm=>
  cases(show u=Value.ref a from rx);have(mA,O,_):=MD I.aE ea;have(od,J,_):=O.look;exact Ñ (PySem.W.kitx_own (cl.get _) cl.hd ha hn Su hm) I.cc J e (λz=>nomatch z) h
end
structure aM (k:Nat) (A:Qf):Prop where
 hd:A.handled=none
 dp:A.depth+3 * k+5 < recursionLimit
 un:A.units+16 * k+200 < cLine
 gd:A.guards=some []
theorem aM.mono{j k:Nat}{A:Qf}(r:aM k A)(h:j<=k):aM j A:=⟨r.hd,by have:=r.dp; omega,by have:=r.un; omega,r.gd⟩
theorem aM.deeper{k:Nat}{A:Qf}(r:aM (k+1) A)(env:Env):aM k (A.deeper env):=
 ⟨r.hd,by have:=r.dp; show A.depth+1+3 * k+5 < _; omega,by have:=r.un; show A.units+3+16 * k+200 < _; omega,r.gd⟩
theorem zn5{A:Qf}{C:Qg}{us:Qa Qc}{kw:Qa (Str×Qc)}:(A.under<|.builtin "type.__call__" ⟨.ref C::us,kw⟩).depth=A.depth+1:=by
 first|rfl|simp[Around.under,Code.weight,Code.isCreation,Code.isGuard,Code.isCaller,Code.frames,Code.isFrame,guardIds]
theorem zn6{A:Qf}{C:Qg}{us:Qa Qc}{kw:Qa (Str×Qc)}:(A.under<|.builtin "type.__call__" ⟨.ref C::us,kw⟩).units=A.units+1:=by
 first|rfl|simp[Around.under,Code.cUnits,Code.frames,Code.isFrame]
theorem aM.make{k:Nat}{A:Qf}(r:aM (k+1) A)(C:Qg)(us:Qa Qc)(kw:Qa (Str×Qc)):aM k (A.under<|.builtin "type.__call__" ⟨.ref C::us,kw⟩):=
 ⟨r.hd,by have:=r.dp; rw[zn5]; omega,by have:=r.un; rw[zn6]; omega,by have:=r.gd; first|exact this|simpa [Around.under,Code.isGuard,guardIds] using this⟩
theorem aM.depth{k:Nat}{A:Qf}(r:aM k A):A.depth < recursionLimit:=by have:=r.dp; omega
theorem aM.units{k:Nat}{A:Qf}(r:aM k A):A.units+64 < cLine:=by have:=r.un; omega
def qN:TA:=λ_ H Q=>Q [] H
def m6(ta:TE)(tr:TA):TA:=λσ H Q=>ta σ H λx H1=>tr σ H1 λxs H2=>Q (x::xs) H2
section
variable{X:Cx}{e:Expr}{es:Qa Expr}{te:TE}{t:TA}{pos:Pos}
theorem UL:PA X [] qN:=λ_ _ _ _ H Q I h=>Calls.spliced_nil ⟨[],H,I,.nil,h⟩
theorem WI(ha:PE X e te)(hr:PA X es t)(hs:starEach (e::es) X.env=(false,eval e X.env)::starEach es X.env:=by rfl):PA X (e::es) (m6 te t):=by
 intro pos pins s σ H Q I h;rw[hs];show wpAny _ _ (spliced<|(false,eval e X.env)::backTo pos (starEach es X.env)) _ _ s;refine Calls.spliced_cons<|aH (ha pins s σ H _ I h) λu s1 hZ=>?_;have(x,H1,I1,r1,q1):=hZ;exact aH (hr pos pins s1 σ H1 _ I1 q1) λus s2 ⟨xs,H2,I2,r2,q2⟩=>⟨x::xs,H2,I2,.cons r1 r2,q2⟩
def EC(t:TA):TE:=λσ H Q=>t σ H λxs H1=>xs.length<=sizeLine/\∀ p,H1 p=none->Q (.ref p) (upd H1 p<|.tup xs)
def EB(t:TA):TE:=λσ H Q=>t σ H λxs H1=>xs.length<=sizeLine/\∀ p,H1 p=none->Q (.ref p) (upd H1 p<|.lst xs)
theorem UK{x1}(h:PA X es t):PE X (.Tuple es x1 pos) (EC t):=by
 intro pins s σ H Q I hq;refine wpAny_Tuple_spliced<|aH (h pos pins s σ H _ I hq) λus s1 ⟨xs,H1,I1,r,z,q⟩=>⟨by rw[<-r.length]; exact z,?_⟩;have hf:H1 s1.heap.objs.size=none:=I1.aE.fresh (qg _);refine⟨.ref s1.heap.objs.size,upd H1 s1.heap.objs.size<|.tup xs,I1.laid (t':=s1.toks) (λb u e=>qf _ e) (qg _) ?_,rfl,q _ hf⟩;exact⟨z,us,r,⟨_,qi _ rfl,rfl,⟨_,rfl⟩,.inl rfl⟩⟩
theorem UJ(h:PA X es t):PE X (.List es pos) (EB t):=by
 intro pins s σ H Q I hq;refine wpAny_List_spliced<|aH (h pos pins s σ H _ I hq) λus s1 ⟨xs,H1,I1,r,z,q⟩=>⟨by rw[<-r.length]; exact z,?_⟩;have hf:H1 s1.heap.objs.size=none:=I1.aE.fresh (qg _);refine⟨.ref s1.heap.objs.size,upd H1 s1.heap.objs.size<|.lst xs,I1.laid (t':=s1.toks) (λb u e=>qf _ e) (qg _) ?_,rfl,q _ hf⟩;exact⟨z,us,0,r,qi _ rfl⟩
end
abbrev Sp:=Qa V->Hp->VK->XK->Prop
abbrev jN:=Qa Env->Hp->Qd->XK->Qc->Qd->Prop
structure je (P:Qe) (w:Qh) (K:qe) (mg:Str->Qb Qc) (base:Heap) (A:Qf) (outer:Qa Env) (s:Qd) (H:Hp):Prop where
 frames:A.frames=some outer
 mod:Mod K mg base
 bs:∀ b o,base.get? b=some o->s.heap.get? b=some o/\H b=none
 nY:base.objs.size<=s.heap.objs.size
 eE:s.heap.FunFrames base outer
 sP:∀ b∈kE outer,H b=none
 aE:cK P w K H s.heap
 bare:AllBare s.gens
def CE(outer:Qa Env)(P:Qe)(w:Qh)(K:qe)(H:Hp)(s:Qd)(Q:VK)(u:Qc)(s':Qd):Prop :=
 ∃ v H',s'.os=s.os/\AllBare s'.gens/\Un (kE outer) [] H H' s.heap s'.heap/\cK P w K H' s'.heap/\aO v u/\Q v H'
def CR(CX:jN)(outer:Qa Env)(P:Qe)(w:Qh)(K:qe)(H:Hp)(s:Qd)(Q:VK)(E:XK)(r:Result)(s':Qd):Prop :=
 match r with
 | .ok (.ret u)=>CE outer P w K H s Q u s'
 | .ok _=>False
 | .error e=>CX outer H s E e s'
structure cL (P:Qe) (w:Qh) (K:qe) (mg:Str->Qb Qc) (base:Heap) (CX:jN) (k:Nat) (f:Qg) (fd:FuncData) (ps:Qa Str) (sp:Sp):Prop where
 len:∀ vs H Q E,sp vs H Q E->vs.length=ps.length
 run:∀ (A:Qf) (outer:Qa Env) (s:Qd) (H:Hp) (args:Args) (us:Qa Qc) (vs:Qa V) (Q:VK) (E:XK),aM k A->je P w K mg base A outer s H->BindsTo s fd args (ps.zip us)->zW vs us->sp vs H Q E->
  codeAny (model P w) A (.call (.ref f) args) (CR CX outer P w K H s Q E) s
theorem je.make{P:Qe}{w:Qh}{K:qe}{mg:Str->Qb Qc}{base:Heap}{A:Qf}{outer:Qa Env}{s:Qd}{H:Hp}(e:je P w K mg base A outer s H)(C:Qg)(us:Qa Qc)(kw:Qa (Str×Qc)):
  je P w K mg base (A.under<|.builtin "type.__call__" ⟨.ref C::us,kw⟩) outer s H:=⟨by first|exact e.frames | (simpa [Around.under,Code.envs,Code.isFrame,pushEnvs] using e.frames),e.mod,e.bs,e.nY,e.eE,e.sP,e.aE,e.bare⟩
section
variable{X:Cx}{pins:Qa (Qg×Obj)}{σ:St}{H:Hp}{s s':Qd}
theorem Inv.AJ(I:Inv X pins σ H s):je X.prog X.w X.K X.mg X.base X.A X.stack s H :=
 ⟨I.ok.frames,I.ok.mod,I.bs,qC I.ok.nY I.sz,I.stack,I.jw,I.aE,I.bare⟩
theorem Inv.after{Q:VK}{u:Qc}(I:Inv X pins σ H s)(h:CE X.stack X.prog X.w X.K H s Q u s'):EP X pins σ Q u s':=by
 have(v,H',os,bare,un,aE,r,q):=h;have(hh,g,d,t,r9):=s';obtain rfl:r9=s.os:=os;exact⟨v,H',I.call (h':=hh) (g':=g) (d':=d) (t':=t) (ch:=[]) un aE bare (λb z=>absurd z (by simp)),r,q⟩
end
def zB8(sp:Sp)(dvs:Qa V)(E:XK)(t:TA):TE:=λσ H Q=>t σ H λvs H1=>sp (vs++dvs) H1 Q E
def KY(C:Qg)(sp:Sp)(dvs:Qa V)(E:XK)(t:TA):TE:=λσ H Q=>t σ H λvs H1=>∀ x dx,H1 x=none->H1 dx=none->dx≠x->
 sp (.ref x::(vs++dvs)) (upd (upd H1 dx<|.own x) x<|.ins C dx []) (λv H2=>v=.aP/\Q (.ref x) H2) E
def m5(K:qe)(fd:FuncData)(ps:Qa Str)(ds:Qa Qc):Prop :=
 ∀ (s:Qd) (us:Qa Qc),K.In s.heap->(us++ds).length=ps.length->BindsTo s fd ⟨us,[]⟩ (ps.zip<|us++ds)
theorem m5.all{K:qe}{fd:FuncData}{ps:Qa Str}(h:∀ us:Qa Qc,us.length=ps.length->bindArgs fd ⟨us,[]⟩=pure (ps.zip us)):m5 K fd ps []:=λs us _ hl=>by
 rw[List.append_nil]at hl ⊢;exact .of_eq<|h us hl
def xW(CX:jN)(X:Cx)(E:XK):Prop:=∀ (pins:Qa (Qg×Obj)) (σ:St) (H:Hp) (s:Qd) (e:Qc) (s':Qd),Inv X pins σ H s->CX X.stack H s E e s'->X.xe e s'
section
variable{X:Cx}{CX:jN}{k:Nat}{f C:Qg}{fd:FuncData}{ps:Qa Str}{sp:Sp}{dvs:Qa V}{ds:Qa Qc}{E:XK}{x m:Str}{p pos apos:Pos}{e o:Expr}{es:Qa Expr}{ta:TE}{t:TA}
theorem zAa{pins:Qa (Qg×Obj)}{σ:St}{H:Hp}{s:Qd}{Q:VK}{us:Qa Qc}{vs:Qa V}(F:cL X.prog X.w X.K X.mg X.base CX k f fd ps sp)(hr:aM k X.A)(hb:m5 X.K fd ps ds)(hd:zW dvs ds)(hx:xW CX X E)
  (I:Inv X pins σ H s) (r:zW vs us) (h:sp (vs++dvs) H Q E):wpAny (model X.prog X.w) X.A (call (.ref f) us) (EP X pins σ Q) X.xe s:=by
 have r2:zW (vs++dvs) (us++ds):=r.append hd;have hl:(us++ds).length=ps.length:=by rw[<-r2.length]; exact F.len _ _ _ _ h
 refine wpAny_call<|codeAny_mono (F.run X.A X.stack s H ⟨us,[]⟩ (us++ds) (vs++dvs) Q E hr I.AJ (hb s us I.cc hl) r2 h) λr s' hq=>?_;cases r with
 | error e=>exact hx pins σ H s e s' I hq
 | ok fl=>
  cases fl with
  | ret u=>exact I.after hq
  | next=>exact False.elim hq
  | brk=>exact False.elim hq
  | cont=>exact False.elim hq
theorem WH(F:cL X.prog X.w X.K X.mg X.base CX k f fd ps sp)(hr:aM k X.A)(hg:Gl X x)(hm:X.mg x=some (.ref f))(hk:PySem.W.keepIn X.K (.ref f)=true)(hb:m5 X.K fd ps ds)(hd:zW dvs ds)(hx:xW CX X E)
  (ha:PA X (e::es) t) (dG:(x==("__debug__":Str))=false:=by decide) (he:starEach (e::es) X.env=(false,eval e X.env)::starEach es X.env:=by rfl) (eG:(backTo pos<|starEach es X.env).any (·.1)=false:=by rfl):
  PE X (.Call (.Name x p) (e::es) [] pos) (zB8 sp dvs E t):=by
 intro pins s σ H Q I h;refine wpAny_Call_Name_kw<|GJ I hg hm ?_ dG;refine PySem.W.callWith_K (h₀:=X.base) I.ok.mod.jD hk (aH (ha pos pins s σ H _ I h) λus s1 ⟨vs,H1,I1,r,q⟩=>⟨I1.cc,?_⟩) he eG;exact zAa F hr hb hd hx I1 r q
structure Mk (K:qe) (C f:Qg):Prop where
 makes:PySem.W.makesIn K C=true
 init:PySem.W.findIn K (.ref C) "__init__"=some (some<|.ref f)
 fn:PySem.W.isFn K (.ref f)=true
 kp:PySem.W.keepIn K (.ref C)=true
theorem Zm{pins:Qa (Qg×Obj)}{σ:St}{H:Hp}{s:Qd}{Q:VK}{us:Qa Qc}{vs:Qa V}(M:Mk X.K C f)(F:cL X.prog X.w X.K X.mg X.base CX k f fd ps sp)(hr:aM (k+1) X.A)(hb:m5 X.K fd ps ds)(hd:zW dvs ds)
  (hx:xW CX X E) (I:Inv X pins σ H s) (r:zW vs us)
  (h:∀ x dx,H x=none->H dx=none->dx≠x->sp (.ref x::(vs++dvs)) (upd (upd H dx<|.own x) x<|.ins C dx []) (λv H2=>v=.aP/\Q (.ref x) H2) E):
  wpAny (model X.prog X.w) X.A (call (.ref C) us) (EP X pins σ Q) X.xe s:=by
 have hq:=h (s.heap.objs.size+1) s.heap.objs.size (I.aE.fresh<|Nat.le_succ _) (I.aE.fresh<|qg _) (ql<|Ý _);have I2:=Inv.made (C:=C) I;have r2:zW (V.ref (s.heap.objs.size+1)::(vs++dvs)) (Value.ref (s.heap.objs.size+1)::(us++ds)):=.cons rfl (r.append hd);have hl:(Value.ref (s.heap.objs.size+1)::us++ds).length=ps.length:=by
  have e:=r2.length;rw[F.len _ _ _ _ hq]at e;exact e.symm
 refine wpAny_call<|Zn (f:=f) I.cc M.makes M.init (beq_iff_eq.mp M.fn)<|codeAny_mono (F.run _ X.stack _ _ ⟨Value.ref (s.heap.objs.size+1)::us,[]⟩ (Value.ref (s.heap.objs.size+1)::(us++ds)) _ _ E (hr.make C us [])
  (I2.AJ.make C us []) (hb _ (Value.ref (s.heap.objs.size+1)::us) I2.cc hl) r2 hq) λr s' uS=>?_
 cases r with
 | error e=>exact hx pins σ _ _ e s' I2 uS
 | ok fl=>
  cases fl with
  | ret u=>
   have(v,H',I3,rv,ev,q3):=I2.after uS;subst ev;exact⟨rv,⟨V.ref<|s.heap.objs.size+1,H',I3,rfl,q3⟩⟩
  | next=>exact False.elim uS
  | brk=>exact False.elim uS
  | cont=>exact False.elim uS
theorem WG(M:Mk X.K C f)(F:cL X.prog X.w X.K X.mg X.base CX k f fd ps sp)(hr:aM (k+1) X.A)(hg:Gl X x)(hm:X.mg x=some (.ref C))(hb:m5 X.K fd ps ds)(hd:zW dvs ds)(hx:xW CX X E)
  (ha:PA X (e::es) t) (dG:(x==("__debug__":Str))=false:=by decide) (he:starEach (e::es) X.env=(false,eval e X.env)::starEach es X.env:=by rfl) (eG:(backTo pos<|starEach es X.env).any (·.1)=false:=by rfl):
  PE X (.Call (.Name x p) (e::es) [] pos) (KY C sp dvs E t):=by
 intro pins s σ H Q I h;refine wpAny_Call_Name_kw<|GJ I hg hm ?_ dG;refine PySem.W.callWith_K (h₀:=X.base) I.ok.mod.jD M.kp (aH (ha pos pins s σ H _ I h) λus s1 ⟨vs,H1,I1,r,q⟩=>⟨I1.cc,?_⟩) he eG;exact Zm M F hr hb hd hx I1 r q
end
def PK(X:Cx)(jC:Qa Keyword)(t:TA):Prop :=
 ∀ (pos:Pos) (pins:Qa (Qg×Obj)) (s:Qd) (σ:St) (H:Hp) (Q:Qa V->Hp->Prop),Inv X pins σ H s->t σ H Q->wpAny (model X.prog X.w) X.A (evalAll<|(backToKw pos<|keywordEach jC X.env).map (·.2)) (AP X pins σ Q) X.xe s
section
variable{X:Cx}{CX:jN}{k:Nat}{f C:Qg}{fd:FuncData}{ps ks:Qa Str}{sp:Sp}{E:XK}{x m:Str}{p pos apos uO:Pos}{e o:Expr}{es:Qa Expr}{jC:Qa Keyword}{te ta:TE}{t tk:TA}{nm:Qb Str}
theorem zAb:PK X [] qN:=λ_ _ _ _ H Q I h=>wpAny_evalAll_nil ⟨[],H,I,.nil,h⟩
theorem WE(ha:PE X e te)(hr:PK X jC t):PK X (⟨nm,e,uO⟩::jC) (m6 te t):=by
 intro pos pins s σ H Q I h;show wpAny _ _ (evalAll<|(do let v <-eval e X.env; standAt pos; pure v)::(backToKw pos<|keywordEach jC X.env).map (·.2)) _ _ s;refine wpAny_evalAll_cons<|qc<|aH (ha pins s σ H _ I h) λu s1 ⟨x,H1,I1,r1,q1⟩=>qc<|wpAny_standAt<|qd ?_;exact aH (hr pos pins s1 σ H1 _ I1 q1) λus s2 ⟨xs,H2,I2,r2,q2⟩=>⟨x::xs,H2,I2,.cons r1 r2,q2⟩
variable{g:Qa Qc->Qa Qc->Qa Qc}{gV:Qa V->Qa V->Qa V}
end
structure bV (N P:Qa Str) (sc:Scope):Prop where
 kind:sc.kind=.function
 co:sc.isCoroutine=false
 gen:sc.isGenerator=false
 nd:N.Nodup
 pre:N.take P.length=P
 par:∀ x∈P,sc.names.lookup x=some .local\/sc.names.lookup x=some .cell
 uJ:∀ y∈sc.names,y.2≠.free
theorem Oj{kindOf:Str->Qb NameKind}{x:Str}:∀ {binds:Qa (Str×Qc)} {m:Str->Qb Qc},(∀ v,(x,v)∉binds)->bindL kindOf binds m x=m x
 | [],_,_=>rfl
 | (n,v)::r,m,h=>by
  unfold bindL;rw[Oj λw hw=>h w<|qq _ hw];split
  .have:x≠n:=by rintro rfl; exact h v qr
   simp[this]
  .rfl
theorem Oi{kindOf:Str->Qb NameKind}{x:Str}:∀ {binds:Qa (Str×Qc)} {m:Str->Qb Qc},(∀ v,(x,v)∉binds)->bindC kindOf binds m x=m x
 | [],_,_=>rfl
 | (n,v)::r,m,h=>by
  unfold bindC;rw[Oi λw hw=>h w<|qq _ hw];split
  .rfl
  .have:x≠n:=by rintro rfl; exact h v qr
   simp[this]
theorem Oh{kindOf:Str->Qb NameKind}{x:Str}{v:Qc}:∀ {P:Qa Str} {vs:Qa Qc} {i:Nat} {m:Str->Qb Qc},P.Nodup->P[i]?=some x->vs[i]?=some v->kindOf x=some .local->
  bindL kindOf (P.zip vs) m x=some v
 | [],_,_,_,_,h,_,_=>by simp at h
 | _::_,[],_,_,_,_,h,_=>by simp at h
 | p::P,w::vs,0,m,nd,h1,h2,hk=>by
  simp at h1 h2; subst h1; subst h2;show bindL kindOf ((p,w)::P.zip vs) m p=_;unfold bindL;rw[Oj λv hv=>(List.nodup_cons.mp nd).1 (List.of_mem_zip hv).1,if_pos hk];simp
 | p::P,w::vs,i+1,m,nd,h1,h2,hk=>by
  show bindL kindOf ((p,w)::P.zip vs) m x=_;unfold bindL;exact Oh (i:=i) (æ.mp nd).2 (by simpa using h1) (by simpa using h2) hk
theorem Og{kindOf:Str->Qb NameKind}{x:Str}{v:Qc}:∀ {P:Qa Str} {vs:Qa Qc} {i:Nat} {m:Str->Qb Qc},P.Nodup->P[i]?=some x->vs[i]?=some v->kindOf x≠some .local->
  bindC kindOf (P.zip vs) m x=some v
 | [],_,_,_,_,h,_,_=>by simp at h
 | _::_,[],_,_,_,_,h,_=>by simp at h
 | p::P,w::vs,0,m,nd,h1,h2,hk=>by
  simp at h1 h2; subst h1; subst h2;show bindC kindOf ((p,w)::P.zip vs) m p=_;unfold bindC;rw[Oi λv hv=>(List.nodup_cons.mp nd).1 (List.of_mem_zip hv).1,if_neg hk];simp
 | p::P,w::vs,i+1,m,nd,h1,h2,hk=>by
  show bindC kindOf ((p,w)::P.zip vs) m x=_;unfold bindC;exact Og (i:=i) (æ.mp nd).2 (by simpa using h1) (by simpa using h2) hk
def gQ(N:Qa Str)(vs:Qa V):St:=vs.map some++List.replicate (N.length - vs.length) none
def oG(CX:jN)(P:Qe)(w:Qh)(K:qe)(mg:Str->Qb Qc)(base:Heap)(N:Qa Str)(qual:Str)(scope:Scope)(f:Qg)(cd:Qc)(A:Qf)(outer:Qa Env)(s:Qd)(H:Hp)(E:XK):Cx where
 prog:=P
 w:=w
 K:=K
 mg:=mg
 base:=base
 A:=A.deeper (envOfC qual scope s.heap.objs.size f cd)
 N:=N
 bp:=s
 aA:=H
 env:=envOfC qual scope s.heap.objs.size f cd
 outer:=outer
 stack:=envOfC qual scope s.heap.objs.size f cd::outer
 ex:=[]
 calm:=true
 fn:=λ_=>true
 pn:=[]
 xe:=λe s'=>wpAny (model P w) (A.deeper<|envOfC qual scope s.heap.objs.size f cd) (leaving (envOfC qual scope s.heap.objs.size f cd) e) (λ_ wN=>CX outer H s E e wN) (λe' wN=>CX outer H s E e' wN) s'
theorem NS{sc:Scope}{n:Nat}{x:Str}(h:sc.names.lookup x=some .cell):∃ c,(cellsFrom n sc.names []).lookup x=some c:=by
 have q:=PySem.W.cellsFrom_some sc.names n [] (.inl h);exact Option.isSome_iff_exists.mp q
theorem ZW{CX:jN}{P:Qe}{w:Qh}{K:qe}{mg:Str->Qb Qc}{base:Heap}{N ps:Qa Str}{qual:Str}{scope:Scope}{f:Qg}{cd:Qc}{A:Qf}{outer:Qa Env}{s s1:Qd}{H:Hp}{E:XK}{us:Qa Qc}{vs:Qa V}
  (S:bV N ps scope) (hd:A.handled=none) (e0:je P w K mg base A outer s H) (hl:vs.length=ps.length) (r:zW vs us)
  (x:InCallC s s.heap.objs.size (bindL (envOfC qual scope s.heap.objs.size f cd).kindOf (ps.zip us) λ_=>none) (cellsFrom (s.heap.objs.size+1) scope.names []) (bindC (envOfC qual scope s.heap.objs.size f cd).kindOf (ps.zip us) λ_=>none) s1):
  Inv (oG CX P w K mg base N qual scope f cd A outer s H E) [] (gQ N vs) H s1:=by
 have eG:ps.length<=N.length:=by have:=congrArg List.length S.pre; rw[List.length_take]at this; omega
 have(h1,tk,rfl,hk):=x.done;have yZ:∀ b:Qg,b∉(oG CX P w K mg base N qual scope f cd A outer s H E).ex:=λb z=>absurd (show b∈([]:Qa Qg) from z) (by simp);refine⟨⟨e0.mod,S.kind,rfl,rfl,qg _,λy z c h1 h2=>?_,λy hy=>?_,λy c _ h=>?_,λ_=>hd,Around.frames_deeper e0.frames,.inr ⟨rfl,rfl⟩,λb z=>absurd z<|yZ b,e0.bs,e0.nY,λb _ _=>yZ b,λb z=>absurd z<|yZ b,e0.eE,e0.sP⟩,
  rfl,e0.bare,Un.kept hk,⟨_,x.toInCall.ns,λi y v h1 h2 h3=>?_⟩,λy c h=>⟨_,x.cell y c h⟩,e0.aE.fresh<|qg _,λy c h=>?_,λp hp=>absurd (show p∈([]:Qa (Qg×Obj)) from hp) (by simp),e0.aE.kept hk,?_⟩
 .exact name_of_addr x.apart (ó h1) (ó h2)
 .have hy:scope.names.lookup y=some .cell\/scope.names.lookup y=some .free:=hy
  rcases hy with hy|hy
  .exact NS hy
  .exact absurd rfl (S.uJ _<|ó hy)
 .exact Nat.le_of_lt (x.above y c<|ó h)
 .have hi:i < vs.length:=by
   unfold gQ at h2
   by_cases hi:i < vs.length
   .exact hi
   .rw[List.getElem?_append_right (by simpa using hi)]at h2
    rw[List.getElem?_replicate]at h2;split at h2<;>cases h2
  have ha:vs[i]?=some v:=by
   unfold gQ at h2;rw[List.getElem?_append_left (by simpa using hi),List.getElem?_map]at h2;cases e:vs[i]? with
   | none=>rw[e]at h2; cases h2
   | some a=>rw[e]at h2; cases h2; rfl
  have(u,hu,rv):=r.get ha;have hp:ps[i]?=some y:=by
   rw[<-S.pre,List.getElem?_take_of_lt (by omega)]; exact h1
  have Sg:ps.Nodup:=by rw[<-S.pre]; exact S.nd.sublist<|List.take_sublist _ _
  refine⟨u,rv,?_⟩;rcases S.par y (Ì hp)with k|k
  .exact .inl ⟨k,Oh Sg hp hu k⟩
  .have(c,e):=NS (n:=s.heap.objs.size+1) k
   refine .inr ⟨.inl k,c,e,?_⟩;have q:=x.cell y c e;rw[Og Sg hp hu (by show scope.names.lookup y≠_; rw[k]; decide)]at q;exact q
 .exact e0.aE.fresh (Nat.le_of_lt<|x.above y c<|ó h)
 .unfold gQ
  show _=N.length;rw[qw,List.length_map,List.length_replicate];omega
theorem zB9{CX:jN}{P:Qe}{w:Qh}{K:qe}{mg:Str->Qb Qc}{base:Heap}{k:Nat}{f:Qg}{name qual:Str}{params:Arguments}{body:Qa Stmt}{scope:Scope}{dV kV doc pm bT ct oc:Qc}{an od:Qb Qg}
  {pM:Array (Qb Qc)} {N ps:Qa Str} {sp:Sp} (lk:K.lookup f=some ⟨oc,od,.func<|PySem.W.fnOf name qual params body scope dV kV doc pm an bT ct,pM⟩) (kA:PySem.W.codeIn K bT qual=true) (S:bV N ps scope)
  (len:∀ vs H Q E,sp vs H Q E->vs.length=ps.length)
  (cH:∀ (A:Qf) (outer:Qa Env) (s:Qd) (H:Hp) (vs:Qa V) (Q:VK) (E:XK),aM k (A.deeper<|envOfC qual scope s.heap.objs.size f bT)->sp vs H Q E->
   ∃ t,fm (oG CX P w K mg base N qual scope f bT A outer s H E) body t/\t {nx:=λ_ H'=>Q .aP H',rt:=Q} (gQ N vs) H):
  cL P w K mg base CX (k+1) f (PySem.W.fnOf name qual params body scope dV kV doc pm an bT ct) ps sp:=by
 refine⟨len,λA outer s H args us vs Q E hr e0 hb r nM=>?_⟩;have hl:=len _ _ _ _ nM;have KX:K.In s.heap:=e0.mod.jD.keeps λb o e=>(e0.bs b o e).1;have lim:s.heap.NoLimit:=e0.mod.nolimit.keeps λb o e=>(e0.bs b o e).1;have An:∀ y∈ps.zip us,scope.names.lookup y.1=some .local\/(scope.names.lookup y.1=some .cell/\((cellsFrom (s.heap.objs.size+1) scope.names []).lookup y.1).isSome=true):=λ⟨n,v⟩ hy=>by
  rcases S.par n (List.of_mem_zip hy).1 with q|q
  .exact .inl q
  .exact .inr ⟨q,PySem.W.cellsFrom_some _ _ _<|.inl q⟩
 refine codeAny_call_function hr.depth (KX _ _ lk) rfl S.co S.gen rfl (PySem.W.codeRec_of KX kA)<|hb _ _ _ _ ?_;refine wpAny_newFunctionEnv_cells S.kind An λenv he s1 x=>?_;subst he;refine⟨lim.keeps x.toInCall.keep,codeAny_func ?_⟩;have(t,ht,hq):=cH A outer s H vs Q E (hr.deeper _) nM;have I:Inv (oG CX P w K mg base N qual scope f bT A outer s H E) [] (gQ N vs) H s1:=ZW S hr.hd e0 hl r x;refine wpAny_mono (ht [] s1 (gQ N vs) H _ I hq) (λfl s' hs=>?_) λe s' hs=>hs;have fin:∀ {aJ:St} {H':Hp} {v:V} {u:Qc},Inv (oG CX P w K mg base N qual scope f bT A outer s H E) [] aJ H' s'->aO v u->Q v H'->CE outer P w K H s Q u s' :=
  λ{aJ H' v u} J rv q=>⟨v,H',J.os,J.bare,J.base,J.aE,rv,q⟩
 cases fl with
 | ret u=>
  have(v,aJ,H',J,rv,q):=hs;exact fin J rv q
 | next=>
  have(aJ,H',J,q):=hs;exact fin (v:=V.aP) (u:=Value.none) J rfl q
 | brk=>
  have(_,_,_,q):=hs;exact False.elim q
 | cont=>
  have(_,_,_,q):=hs;exact False.elim q
section
variable{X:Cx}{x:Str}{p pos:Pos}{e:Expr}{es:Qa Expr}{t:TA}{id T:String}{r:Qa V->Hp->VK->Prop}
def rV(r:Qa V->Hp->VK->Prop)(t:TA):TE:=λσ H Q=>t σ H λvs H1=>r vs H1 Q
theorem Zl(hc:fS X (.builtin id) r)(hg:Gl X x)(hm:X.mg x=none)(hv:bootBuiltins x=some (.builtin id))(ha:PA X (e::es) t)(hn:x ≠ "__name__":=by decide)(dG:(x==("__debug__":Str))=false:=by decide)
  (he:starEach (e::es) X.env=(false,eval e X.env)::starEach es X.env:=by rfl) (eG:(backTo pos<|starEach es X.env).any (·.1)=false:=by rfl):PE X (.Call (.Name x p) (e::es) [] pos) (rV r t):=by
 intro pins s σ H Q I h;refine wpAny_Call_Name_kw<|rD I hg hm hv ?_ hn dG;exact PyProof.Rows.callWith_builtin1 (aH (ha pos pins s σ H _ I h) λus s1 ⟨vs,H1,I1,r1,q1⟩=>hc pins s1 σ H1 vs us Q I1 r1 q1) he eG
theorem ZV(hc:fS X (.type T) r)(hg:Gl X x)(hm:X.mg x=none)(hv:bootBuiltins x=some (.type T))(ha:PA X (e::es) t)(hn:x ≠ "__name__":=by decide)(dG:(x==("__debug__":Str))=false:=by decide)
  (he:starEach (e::es) X.env=(false,eval e X.env)::starEach es X.env:=by rfl) (eG:(backTo pos<|starEach es X.env).any (·.1)=false:=by rfl):PE X (.Call (.Name x p) (e::es) [] pos) (rV r t):=by
 intro pins s σ H Q I h;refine wpAny_Call_Name_kw<|rD I hg hm hv ?_ hn dG;exact å (aH (ha pos pins s σ H _ I h) λus s1 ⟨vs,H1,I1,r1,q1⟩=>hc pins s1 σ H1 vs us Q I1 r1 q1) he eG
end
end L2
variable{E:L2.Qc->L2.Qd->Prop}{K:L2.qe}{H:L2.Hp}{α:Type}{pins:L2.Qa (L2.Qg×Obj)}{Q:L2.Qc->L2.Qd->Prop}{i n:Nat}{s:L2.Qd}{w:L2.Qh}{pos:Pos}{A:L2.Qf}{kvs:L2.Qa (L2.Qa L2.Key×L2.V)}{js:L2.Qa Nat}{nt:Nat}{R:Result->L2.Qd->Prop}{p:Array Nat}{σ:L2.St}{a:L2.Qg}{x:Str}{prog:L2.Qe}{e:Expr}{es:Array DictEntry}{pn:L2.Qa Nat}{v:L2.V}{H':L2.Hp}{b:Int}{te:L2.TE}{hs:L2.Qa Int}{xs:L2.Qa L2.V}{β:Type}{j:Nat}{cl:L2.Qa (Str×L2.Qg)}{ps:L2.Qa Str}{r:L2.Qa L2.V->L2.Hp->L2.VK->Prop}{mg:Str->L2.Qb L2.Qc}{ns:L2.Qa Int}{fd:FuncData}{tg:Expr}{ta:L2.TE}{P:L2.Qe}{ifs elts:L2.Qa Expr}{h:Heap}{vs:L2.Qa L2.V}{f:Rat}{g:L2.TG}{M u:Nat}{o:Expr}{st:Stmt}{T:String}{N:L2.Qa Str}{tab:L2.Qa (Str×L2.Qa Str)}{fl:L2.Qa Str}{iter:Expr}{m:Nat}{y:Int}{dp B:Nat}{tv:L2.TE}{tt:L2.TT}{scope:Scope}{td:L2.TE}{it:L2.Qg}{apos:Pos}{tn:Nat->Heap->Prop}{RR:L2.Qc->L2.Qg->Result->L2.Qd->Prop}{ep:Nat}{sp:L2.Sp}{bj pH:Pos}{op:CmpOp}{sl:Array (L2.Qb L2.Qc)}{tb:L2.TE}{h':Heap}{env:Env}{pos':Pos}{us:L2.Qa L2.Qc}{ty:L2.TE}{wi:L2.TI}{ys:L2.Qa (L2.Qa L2.Key×L2.Qg×L2.Qc)}{cmp:Nat->Nat->(Bool->L2.Qd->Prop)->L2.Qd->Prop}{G:Array GenState->Array GenState->Prop}{qual:Str}{c:Int}{l:Nat}{κ:Type}{ws:L2.Qa (κ×L2.V)}{elt:Expr}{ao:L2.St}{aA aC:L2.Hp}{as:L2.Qa α}{tk:L2.TE}{pM:Array (L2.Qb L2.Qc)}{fp:L2.Qa L2.Qg}
namespace HT
open PySem PyProof.Rows
section
open PySem.SeqAt
open PySem.AutoSeq1 (wpAny_loadPart')
open PySem.MeetsSeq PySem.MeetsSeq2 PySem.MeetsSeq3
end
section
variable{prog:Program} {w:World} {A:Around} {E:Value->Shared->Prop} {s:Shared}
theorem p9{t b:Addr}{vs ws:List Value}{Q:Value->Shared->Prop}(ht:IsTup s.heap t vs.toArray)(hb:IsTup s.heap b ws.toArray)(hv:vs≠[])
  (h1:ws=[]->Q (.ref t) s) (h2:ws≠[]->Q (.ref s.heap.objs.size) {s with heap:=s.heap.push {cls:=.type "tuple",data:=.seq (vs++ws).toArray}})
  (hsz:vs.length+ws.length<=sizeLine):wpAny (model prog w) A (binaryOp .Add (.ref t)<|.ref b) Q E s:=by
 obtain⟨⟨cls,dd,data,sl⟩,ho,hc,n,hd⟩:=id ht;obtain⟨⟨JW,xb,data2,wM⟩,uX,Ax,n2,hd2⟩:=id hb;simp only at hc hd Ax hd2;subst hc hd Ax hd2;have e:vs.toArray++ws.toArray=(vs++ws).toArray:=by simp
 by_cases hw:ws=[]
 .exact concat_meets ⟨_,ho,rfl⟩ ⟨_,uX,rfl⟩ noFill_tuple_add seq_tuple_add PySem.F.slot_tuple_add PySem.F.entry_tuple_add (PySem.F.args_tuple_add_2 _ _)
   (tuple_addW1 t b vs.toArray ws.toArray n n2 dd xb sl wM (by simpa using hv) (by simp[hw])) ⟨ho,uX,h1 hw⟩
 .refine concat_meets ⟨_,ho,rfl⟩ ⟨_,uX,rfl⟩ noFill_tuple_add seq_tuple_add PySem.F.slot_tuple_add PySem.F.entry_tuple_add (PySem.F.args_tuple_add_2 _ _)
   (tuple_addW2 t b vs.toArray ws.toArray n n2 dd xb sl wM (by simpa using hv) (by simpa using hw) (by rw[List.size_toArray,List.size_toArray]; exact hsz)) ⟨ho,uX,?_⟩
  rw[e];exact h2 hw
def aV(n d:Nat):Option Int->Nat
 | none=>d
 | some v=>if v < 0 then(v+(n:Int)).toNat else min v.toNat n
theorem lX(n d:Nat):aV n d none=d:=rfl
theorem gD(n d k:Nat):aV n d (some (k:Int))=min k n:=by
 show(if(k:Int) < 0 then((k:Int)+(n:Int)).toNat else min (k:Int).toNat n)=min k n;rw[if_neg (by omega),Int.toNat_natCast]
theorem zAc(n d:Nat)(hd:d<=n)(o:Option Int):aV n d o<=n:=by
 cases o with
 | none=>exact hd
 | some v=>
  show(if v < 0 then(v+(n:Int)).toNat else min v.toNat n)<=n
  by_cases hv:v < 0
  .rw[if_pos hv]; omega
  .rw[if_neg hv]; exact Nat.min_le_right _ _
theorem MC(v:Int)(n d:Nat):(if v < 0 then max (v+(n:Int)) 0 else min v (n:Int))=((aV n d (some v):Nat):Int):=by
 show(if v < 0 then max (v+(n:Int)) 0 else min v (n:Int))=(((if v < 0 then(v+(n:Int)).toNat else min v.toNat n):Nat):Int)
 by_cases hv:v < 0
 .simp only[if_pos hv]; omega
 .simp only[if_neg hv]; omega
theorem zn7(lo hi:Option Int)(n:Nat):Builtin.Slice.sliceAdjust lo hi 1 (n:Int)=(((aV n 0 lo:Nat):Int),((aV n n hi:Nat):Int)):=by
 have h1:¬((1:Int) < 0):=by omega
 unfold Builtin.Slice.sliceAdjust;simp only[h1,if_false];refine Prod.ext ?_ ?_
 .cases lo with
  | none=>rfl
  | some v=>exact MC v n 0
 .cases hi with
  | none=>rfl
  | some v=>exact MC v n n
theorem zn8(i j:Nat):Builtin.Slice.slicePlaces (i:Int) (j:Int) 1=j - i:=by
 unfold Builtin.Slice.slicePlaces;have h1:(1:Int) > 0:=by omega
 simp only[h1,if_true,Int.ediv_one];split<;>omega
theorem O0{v:Value}{o:Option Int}{Q:Option Int->Shared->Prop}(p:IsPart v o)(h:Q o s):wpAny (model prog w) A (Builtin.Slice.slicePartIndex v) Q E s:=by
 cases p with
 | none=>exact slicePart_none h
 | int i t=>exact slicePart_int h
theorem Rh{sl:Addr}{vl vu:Value}{lo hi:Option Int}{n:Nat}{Q:Int×Int×Nat->Shared->Prop}(hs:s.heap.IsSliceOf sl vl vu .none)(pl:IsPart vl lo)(pu:IsPart vu hi)
  (h:Q (((aV n 0 lo:Nat):Int),1,aV n n hi - aV n 0 lo) s):wpAny (model prog w) A (Builtin.Slice.sliceApplied (.ref sl)<|pure (n:Int)) Q E s:=by
 have(os,uU,Ea,Au):=id hs;unfold Builtin.Slice.sliceApplied Builtin.Slice.sliceFields;refine wpAny_bind<|wpAny_bind<|wpAny_field uU Au (x:=vl) rfl<|wpAny_bind<|wpAny_field uU Au (x:=vu) rfl<|wpAny_bind<|wpAny_field uU Au (x:=.none) rfl<|wpAny_pure ?_;refine wpAny_bind<|slicePart_none ?_;show wpAny _ _ (if((1:Int)==0)=true then _ else _) _ _ s;rw[if_neg (by decide)];refine wpAny_bind<|O0 pl<|wpAny_bind<|O0 pu<|wpAny_bind<|wpAny_pure ?_;show wpAny _ _ (match Builtin.Slice.sliceAdjust lo hi 1 (n:Int)with | (lo,hi)=>pure (lo,(1:Int),Builtin.Slice.slicePlaces lo hi 1)) _ _ s;rw[zn7 lo hi n];show wpAny _ _ (pure (((aV n 0 lo:Nat):Int),(1:Int),Builtin.Slice.slicePlaces ((aV n 0 lo:Nat):Int) ((aV n n hi:Nat):Int) 1)) _ _ s;rw[zn8];exact wpAny_pure h
theorem Zk(xs:Array Value)(i k:Nat):((List.range k).filterMap λ(m:Nat)=>xs[((i:Int)+(m:Int) * 1).toNat]?).toArray=((xs.toList.drop i).take k).toArray:=by
 have e:(λ(m:Nat)=>xs[((i:Int)+(m:Int) * 1).toNat]?)=λm=>xs[i+m]?:=by
  funext m
  have:((i:Int)+(m:Int) * 1).toNat=i+m:=by omega
  rw[this]
 rw[e];have:=pick_run xs i k;rw[List.filterMap_map]at this;have e2:((λx=>xs[x]?) ∘ λx=>i+x)=λm=>xs[i+m]?:=rfl;rw[e2]at this;rw[this]
theorem dP{t sl:Addr}{items:Array Value}{vl vu:Value}{lo hi:Option Int}{Q:Value->Shared->Prop}(ht:IsTup s.heap t items)(hs:s.heap.IsSliceOf sl vl vu .none)(pl:IsPart vl lo)(pu:IsPart vu hi)
  (hw:¬(aV items.size 0 lo=0/\aV items.size items.size hi=items.size))
  (h:Q (.ref s.heap.objs.size) {s with heap:=s.heap.push {cls:=.type "tuple",data:=.seq ((items.toList.drop<|aV items.size 0 lo).take<|aV items.size items.size hi - aV items.size 0 lo).toArray}})
  (hsz:items.size<=sizeLine):wpAny (model prog w) A (getItem (.ref t)<|.ref sl) Q E s:=by
 have jE:sizeOk (.seq ((items.toList.drop<|aV items.size 0 lo).take<|aV items.size items.size hi - aV items.size 0 lo).toArray):=by
  show((items.toList.drop<|aV items.size 0 lo).take<|aV items.size items.size hi - aV items.size 0 lo).toArray.size<=sizeLine;rw[List.size_toArray,List.length_take,List.length_drop,Array.length_toList];omega
 have hj:aV items.size items.size hi<=items.size:=zAc _ _ (Nat.le_refl _) hi;have(os,uU,Ea,Au):=id hs;have JH:s.TypeIs (.ref sl) "slice":=⟨os,uU,Ea⟩;unfold getItem
 try with_reducible refine wpAny_holding ?_
 first|refine wpAny_bind (wpAny_pure ?_) | skip
 refine wpAny_bind<|wpAny_sequenceKey ht.typeIs (by decide) ?_;refine wpAny_bind (wpAny_callSpecial?_slot (name:=Str.ofString "__getitem__") ht.typeIs PyProof.Rows.slot_tuple_getitem
  (wpAny_call_entry PyProof.Rows.slot_tuple_getitem ht.typeIs entry_tuple_getitem ?_<|args_tuple_getitem _ _))
 show wpAny _ _ (Builtin.Tuple.tupleItemsOf (.ref t) >>= _) _ _ s;refine wpAny_bind<|tupleItemsOf_ ht ?_;refine wpAny_bind<|wpAny_typeOf JH ?_;rw[if_pos (by decide)];refine wpAny_bind<|Rh hs pl pu ?_;have Jy:¬((((aV items.size 0 lo:Nat):Int)==0 && (1:Int)==1 && (aV items.size items.size hi - aV items.size 0 lo)==items.size)=true):=by
  intro q;rw[Bool.and_eq_true,Bool.and_eq_true]at q;have q1:((aV items.size 0 lo:Nat):Int)=0:=eq_of_beq q.1.1;have q2:aV items.size items.size hi - aV items.size 0 lo=items.size:=eq_of_beq q.2;exact hw ⟨by omega,by omega⟩
 show wpAny _ _ (if(((aV items.size 0 lo:Nat):Int)==0 && (1:Int)==1 && (aV items.size items.size hi - aV items.size 0 lo)==items.size)=true then _ else _) _ _ s;rw[if_neg Jy,Zk]
 first
  | exact wpAny_bind (m:=Builtin.Tuple.tupleExact _)<|wpAny_newObj_type (wpAny_pure ⟨_,rfl,wpAny_pure h⟩) jE
  | exact wpAny_bind (m:=Builtin.Tuple.tupleExact _)<|wpAny_newObj_type (wpAny_bind<|wpAny_pure<|wpAny_pure ⟨_,rfl,wpAny_pure h⟩) jE
  | exact wpAny_bind<|wpAny_bind (m:=Builtin.Tuple.tupleExact _)<|wpAny_newObj_type (wpAny_pure<|wpAny_pure ⟨_,rfl,wpAny_pure h⟩) jE
  | exact wpAny_bind<|wpAny_bind (m:=Builtin.Tuple.tupleExact _)<|wpAny_newObj_type (wpAny_pure ⟨_,rfl,wpAny_pure h⟩) jE
end
end HT
namespace L2
open PySem PySem.Spec PyProof.Rows
abbrev TO:=St->Hp->(Qb Int->Hp->Prop)->Prop
def PO(X:Cx)(e:Qb Expr)(t:TO):Prop :=
 ∀ (pins:Qa (Qg×Obj)) (s:Qd) (σ:St) (H:Hp) (Q:Qb Int->Hp->Prop),Inv X pins σ H s->t σ H Q->
  wpAny (model X.prog X.w) X.A (evalPart e X.env) (λu s'=>∃ o H',Inv X pins σ H' s'/\IsPart u o/\Q o H') X.xe s
def GI:TO:=λ_ H Q=>Q none H
def E6(t:TE):TO:=λσ H Q=>t σ H λx H1=>∃ i,x=.int i/\Q (some i) H1
theorem zn9:∀ {us:Qa Qc},zW (ns.map V.int) us->IntsAre us ns:=by
 induction ns with
 | nil=>intro us r; rw[List.map_nil]at r; cases r; exact .nil
 | cons n ns ih=>
  intro us r;rw[List.map_cons]at r;cases r with
  | cons r1 r2=>
   have(t,e):=r1;subst e;exact .cons n t<|ih r2
section
variable{X:Cx}{lo hi:Qb Expr}{tl th:TO}{p2:Pos}
theorem WD:PO X none GI:=by
 intro pins s σ H Q I h;rw[evalPart_none];exact qd ⟨none,H,I,.none,h⟩
theorem WC(h:PE X e te):PO X (some e) (E6 te):=by
 intro pins s σ H Q I hw;rw[evalPart_some];refine aH (h pins s σ H _ I hw) λu s1 hZ=>?_;have(x,H1,I1,r1,q1):=hZ;have(i,rfl,q):=q1;have(t,rfl):=r1;exact⟨some i,H1,I1,.int i t,q⟩
def xk(X:Cx)(r:V->Qb Int->Qb Int->Hp->VK->Prop):Prop :=
 ∀ (pins:Qa (Qg×Obj)) (s:Qd) (σ:St) (H:Hp) (x:V) (v vl vu:Qc) (lo hi:Qb Int) (sl:Qg) (Q:VK),Inv X pins σ H s->aO x v->s.heap.IsSliceOf sl vl vu .none->IsPart vl lo->IsPart vu hi->r x lo hi H Q->
  ∃ T id,typeLookup (.type T) "__getitem__"=pure (some<|.builtin id)/\s.TypeIs v T/\wpAny (model X.prog X.w) X.A (getItem v<|.ref sl) (EP X pins σ Q) X.xe s
def Iw(r:V->Qb Int->Qb Int->Hp->VK->Prop)(te:TE)(tl th:TO):TE:=λσ H Q=>te σ H λx H1=>tl σ H1 λl H2=>th σ H2 λu H3=>r x l u H3 Q
theorem Zj{r:V->Qb Int->Qb Int->Hp->VK->Prop}(hr:xk X r)(he:PE X e te)(hl:PO X lo tl)(hu:PO X hi th):PE X (.Subscript e (.Slice lo hi none p2) pos) (Iw r te tl th):=by
 intro pins s σ H Q I h;refine Subscript_<|aH (he pins s σ H _ I h) λv s1 hZ=>?_;have(x,H1,I1,r1,q1):=hZ;refine wpAny_Slice<|aH (hl pins s1 σ H1 _ I1 q1) λvl s2 ⟨l,H2,I2,pl,q2⟩=>aH (hu pins s2 σ H2 _ I2 q2) λvu s3 hZ=>?_;have(u,H3,I3,pu,q3):=hZ;rw[evalPart_none];refine qd ?_;have I4:Inv X pins σ H3 {s3 with heap:=s3.heap.push {cls:=.type "slice",data:=.fields #[vl,vu,.none]}}:=I3.kept (t':=s3.toks) λb ob q=>qf _ q;have(T,id,hT,ht,hg):=hr pins {s3 with heap:=s3.heap.push {cls:=.type "slice",data:=.fields #[vl,vu,.none]}} σ H3 x v vl vu l u s3.heap.objs.size Q I4 r1 (Heap.IsSliceOf.new ..) pl pu q3;show wpAny (model X.prog X.w) X.A (subscriptTail e (.Slice lo hi none p2) v<|.ref s3.heap.objs.size) (EP X pins σ Q) X.xe {s3 with heap:=s3.heap.push {cls:=.type "slice",data:=.fields #[vl,vu,.none]}};exact tail_any (ops:=[.ref s3.heap.objs.size,v]) ht hT hg (by with_unfolding_all rfl)
def kK(xs:Qa V)(lo hi:Qb Int):Qa V:=(xs.drop<|HT.aV xs.length 0 lo).take (HT.aV xs.length xs.length hi - HT.aV xs.length 0 lo)
theorem Pf(xs:Qa V)(lo hi:Qb Int):(kK xs lo hi).length<=xs.length:=by
 unfold kK;rw[List.length_take,List.length_drop];omega
def zDQ(K:qe):V->Qb Int->Qb Int->Hp->VK->Prop:=λx lo hi H Q=>∃ a xs,x=.ref a/\br K H a xs/\
 ¬(HT.aV xs.length 0 lo=0/\HT.aV xs.length xs.length hi=xs.length)/\∀ p,H p=none->Q (.ref p) (upd H p<|.tup<|kK xs lo hi)
theorem zAd:xk X (zDQ X.K):=by
 intro pins s σ H x v vl vu lo hi sl Q I rx hs pl pu h;have(a,xs,rfl,hx,hw,q):=h;cases rx;have(ah,r,ht,hz):=I.tuple hx;have hlen:ah.toArray.size=xs.length:=by rw[List.size_toArray]; exact r.length.symm
 refine⟨"tuple",_,PyProof.Rows.slot_tuple_getitem.lookup,ht.typeIs,?_⟩;refine HT.dP ht hs pl pu (by rw[hlen]; exact hw) ?_ (by rw[hlen]; exact hz);rw[hlen];refine⟨.ref s.heap.objs.size,_,I.laid (t':=s.toks) (o:=.tup (kK xs lo hi)) (λb ob q=>qf _ q) (qg _) ?_,rfl,q _<|I.aE.fresh<|qg _⟩;exact⟨qC (Pf xs lo hi) hz,_,(r.drop<|HT.aV xs.length 0 lo).take<|HT.aV xs.length xs.length hi - HT.aV xs.length 0 lo,nu.new _ _⟩
def E5(K:qe):R2:=λx y H Q=>∃ a b xs ys,x=.ref a/\y=.ref b/\br K H a xs/\br K H b ys/\xs≠[]/\xs.length+ys.length<=sizeLine/\
 (ys=[]->Q (.ref a) H)/\(ys≠[]->∀ p,H p=none->Q (.ref p) (upd H p<|.tup<|xs++ys))
theorem zW.gF(r:zW xs us):us=[]↔xs=[]:=by
 cases r with
 | nil=>simp
 | cons _ _=>simp
theorem WB:bN X (binaryOp .Add) (E5 X.K):=by
 intro pins s σ H x y v u Q I rx ry h;have(a,b,xs,ys,rfl,rfl,ha,hb,hx,hz,q1,q2):=h;cases rx;cases ry;have(ah,r1,p1,_):=I.tuple ha;have(eC,r2,p2,_):=I.tuple hb;refine HT.p9 p1 p2 (λz=>hx<|r1.gF.mp z) (λz=>⟨.ref a,H,I,rfl,q1<|r2.gF.mp z⟩) (λz=>?_) (by rw[<-r1.length,<-r2.length]; exact hz);refine⟨.ref s.heap.objs.size,_,I.laid (t':=s.toks) (o:=.tup (xs++ys)) (λb ob q=>qf _ q) (qg _) ?_,rfl,q2 (λw=>z<|r2.gF.mpr w) _<|I.aE.fresh<|qg _⟩;exact⟨by rw[qw]; exact hz,_,r1.append r2,nu.new _ _⟩
end
def d4(n:Nat)(i:Int):Qb Nat:=if 0<=i then(if i < n then some i.toNat else none)else if -(n:Int)<=i then some (i+n).toNat else none
def bU(xs:Qa α)(i:Int):Qb α:=(d4 xs.length i).bind λj=>xs[j]?
theorem MB{i:Int}(h:d4 n i=some j):seqIndex? i n=some j/\j < n/\-(n:Int)<=i/\i < n:=by
 unfold d4 at h
 by_cases h0:0<=i
 .rw[if_pos h0]at h
  by_cases h1:i < n
  .rw[if_pos h1]at h
   have e:i.toNat=j:=qB h;exact⟨by rw[seqIndex_of h0 h1,e],by omega,by omega,h1⟩
  .rw[if_neg h1]at h; cases h
 .rw[if_neg h0]at h
  by_cases h1:-(n:Int)<=i
  .rw[if_pos h1]at h
   have e:(i+n).toNat=j:=qB h;exact⟨by rw[seqIndex_neg (by omega) h1,e],by omega,h1,by omega⟩
  .rw[if_neg h1]at h; cases h
theorem GH{xs:Qa α}{i:Int}{v:α}(h:bU xs i=some v):∃ j,seqIndex? i xs.length=some j/\xs[j]?=some v/\j < xs.length/\-(xs.length:Int)<=i/\i < xs.length:=by
 unfold bU at h;cases e:d4 xs.length i with
 | none=>rw[e]at h; cases h
 | some j=>
  rw[e]at h;have(h1,h2,h3,h4):=MB e;exact⟨j,h1,h,h2,h3,h4⟩
theorem WA{xs:Qa α}{v:α}(h:xs[j]?=some v):bU xs (j:Int)=some v:=by
 have hj:j < xs.length:=(qm.mp h).1;have e:d4 xs.length (j:Int)=some j:=by
  unfold d4;rw[if_pos (by omega),if_pos (by omega)]; simp
 unfold bU; rw[e]; exact h
def Mz(b:Expr):Prop:=∀ o i,subscripted b false o i=operate [o,i] (getItem o i)
def vq(X:Cx)(r:R2):Prop :=
 ∀ (value slice:Expr) (pins:Qa (Qg×Obj)) (s:Qd) (σ:St) (H:Hp) (x y:V) (v u:Qc) (Q:VK),Inv X pins σ H s->aO x v->aO y u->r x y H Q->
  subscripted slice false v u=operate [v,u] (getItem v u)->wpAny (model X.prog X.w) X.A (subscriptTail value slice v u) (EP X pins σ Q) X.xe s
def TU(X:Cx)(id:String)(r:V->Qa V->Hp->VK->Prop):Prop :=
 ∀ (pins:Qa (Qg×Obj)) (s:Qd) (σ:St) (H:Hp) (x:V) (xs:Qa V) (v:Qc) (us:Qa Qc) (Q:VK),Inv X pins σ H s->aO x v->zW xs us->r x xs H Q->
  wpAny (model X.prog X.w) X.A (call (.builtin id)<|v::us) (EP X pins σ Q) X.xe s
section
variable{X:Cx}{a b:Expr}
theorem zCa{r:R2}(hr:vq X r)(ha:PE X a ta)(hb:PE X b tb)(hs:Mz b):PE X (.Subscript a b pos) (nG r ta tb):=by
 intro pins s σ H Q I h;exact Subscript_<|EF ha hb I h λv u s2 x y H2 I2 rx ry q=>hr a b pins s2 σ H2 x y v u Q I2 rx ry q<|hs _ _
def Ie(K:qe):R2:=λx y H Q=>∃ p xs i v,x=.ref p/\y=.int i/\bu K H p xs/\bU xs i=some v/\Q v H
def Ic(K:qe):R2:=λx y H Q=>∃ p xs i v,x=.ref p/\y=.int i/\br K H p xs/\bU xs i=some v/\Q v H
def RP:R2:=λx y H Q=>∃ z i c,x=.str z/\y=.int i/\z.length<=sizeLine/\bU z.cps.toList i=some c/\Q (.str ⟨#[c]⟩) H
theorem Wz:vq X (Ie X.K):=by
 intro value slice pins s σ H x y v u Q I rx ry h hs;have(p,xs,i,z,rfl,rfl,hq,he,q):=h;cases rx;have(t,rfl):=ry;have(ah,r,pl,hz):=I.list hq;have(j,h1,h2,h3,h4,h5):=GH he;have(w,ew,j9):=r.get h2;have hl:=r.length;have hn:=wc;have fin:EP X pins σ Q w s:=⟨z,H,I,j9,q⟩
 by_cases h0:0<=i
 .have hj:i.toNat=j:=by
   rw[seqIndex_of h0 h5]at h1;exact qB h1
  exact item_listR pl.isList h0 (by omega) (by rw[hj]; simpa using ew) fin hs
 .have hj:(i+(ah.toArray.size:Int)).toNat=j:=by
   rw[seqIndex_neg (by omega) h4]at h1;rw[List.size_toArray,<-hl];exact qB h1
  exact subscriptTail_builtinR (x:=w) pl.isList.typeIs slot_list_getitem.lookup
   (wpAny_getItem_list_neg (Q:=λr s'=>r=w/\EP X pins σ Q r s') pl.isList (by omega) (by rw[List.size_toArray]<;>omega) (by omega) (by rw[hj]; simpa using ew) ⟨rfl,fin⟩) hs
theorem zAg:vq X (Ic X.K):=by
 intro value slice pins s σ H x y v u Q I rx ry h hs;have(p,xs,i,z,rfl,rfl,hq,he,q):=h;cases rx;have(t,rfl):=ry;have(ah,r,pl,hz):=I.tuple hq;have(j,h1,h2,h3,h4,h5):=GH he;have(w,ew,j9):=r.get h2;have hl:=r.length;have hn:=wc;have fin:EP X pins σ Q w s:=⟨z,H,I,j9,q⟩;exact subscriptTail_builtinR (x:=w) pl.typeIs slot_tuple_getitem.lookup
  (getItem_tuple (j:=j) (Q:=λr s'=>r=w/\EP X pins σ Q r s') pl (by omega) (by omega) (by rw[List.size_toArray,<-hl]; exact h1) (by simpa using ew) ⟨rfl,fin⟩) hs
theorem FR:vq X RP:=by
 intro value slice pins s σ H x y v u Q I rx ry h hs;have(z,i,c,rfl,rfl,hz,he,q):=h;have(t,rfl):=rx;have(t',rfl):=ry;have(j,h1,h2,h3,h4,h5):=GH he;have hl:z.cps.toList.length=z.length:=by simp[Str.length]
 rw[hl]at h1 h4 h5;have hn:=wc;exact tail_any (typeIs_str s z t) slot_str_getitem.lookup (getItem_str (c:=c) (by
  have e1:decide (i < -(2^63:Int))=false:=decide_eq_false (by omega);have e2:decide (i>=2^63)=false:=decide_eq_false (by omega);rw[e1,e2,Bool.or_false]) (by rw[h1]; simpa using h2) ⟨.str ⟨#[c]⟩,H,I.tok _,⟨_,rfl⟩,q⟩) hs
theorem zob(ah:Qa Qc)(n j:Nat)(u:Qc):Obj.mapSeq (·.setIfInBounds j u) {cls:=.type "list",data:=.seq ah.toArray n}={cls:=.type "list",data:=.seq (ah.set j u).toArray n}:=by
 simp[Obj.mapSeq]
theorem Inv.lst{p:Qg}(I:Inv X pins σ H s)(h:H p=some (.lst xs)):
  ∃ (ah:Qa Qc) (n:Nat),zW xs ah/\s.heap.get? p=some {cls:=.type "list",data:=.seq ah.toArray n}/\xs.length<=sizeLine:=by
 have(z,ah,n,r,e):=I.aE p _ h;exact⟨ah,n,r,e,z⟩
theorem Inv.uM{p:Qg}{ys:Qa V}{ah its':Qa Qc}{n':Nat}{f:Obj->Obj}(I:Inv X pins σ H s)(h:H p=some (.lst xs))
  (ho:s.heap.get? p=some {cls:=.type "list",data:=.seq ah.toArray n}) (hf:f {cls:=.type "list",data:=.seq ah.toArray n}={cls:=.type "list",data:=.seq its'.toArray n'}) (r:zW ys its') (hz:ys.length<=sizeLine) (t:Nat):
  Inv X pins σ (upd H p<|.lst ys) {s with heap:=s.heap.update p f,toks:=t}:=by
 have e:(s.heap.update p f).get? p=some {cls:=.type "list",data:=.seq its'.toArray n'}:=by
  rw[Heap.get?_update_self f ho (by rw[hf]<;>rfl),hf]
 refine I.write (x:=p) (e:=p) (by rw[h]; trivial) (.inl rfl) (λb u hb q=>(Î _ _<|Ne.symm hb).trans q) ⟨_,e⟩ ?_;exact⟨hz,its',n',r,e⟩
def KW:V->V->V->Hp->(Hp->Prop)->Prop:=λo i v H Q=>∃ p xs k j,o=.ref p/\i=.int k/\H p=some (.lst xs)/\d4 xs.length k=some j/\Q (upd H p<|.lst<|xs.set j v)
theorem G6:Ex X KW:=by
 intro pins s σ H o i v ov iv u Q I ro ri rv h;have(p,xs,k,j,rfl,rfl,hp,hj,q):=h;cases ro;have(t,rfl):=ri;have(ah,n,r,ho,hz):=I.lst hp;have(h1,h2,h3,h4):=MB hj;have hl:=r.length;have hn:=wc;have I':Inv X pins σ (upd H p<|.lst<|xs.set j v) {s with heap:=s.heap.update p (Obj.mapSeq (·.setIfInBounds j u))}:=
  I.uM hp ho (zob ah n j u) (r.set rv j) (by rw[List.length_set]; exact hz) s.toks
 by_cases h0:0<=k
 .have hk:k.toNat=j:=by
   rw[seqIndex_of h0 h4]at h1;exact qB h1
  exact PySem.W.ki_setAt ho h0 (by omega) (by rw[List.size_toArray,<-hl]; exact h4) (by rw[hk]; exact⟨_,I',q⟩)
 .have hk:(k+(ah.toArray.size:Int)).toNat=j:=by
   rw[seqIndex_neg (by omega) h3]at h1;rw[List.size_toArray,<-hl];exact qB h1
  exact PySem.W.ki_setBack ho (by omega) (by rw[List.size_toArray,<-hl]; exact h3) (by omega) (by rw[hk]; exact⟨_,I',q⟩)
theorem zk9(lo hi:Qb Int)(n:Nat):(sliceBounds lo hi none n).1=((HT.aV n 0 lo:Nat):Int)/\(sliceBounds lo hi none n).2.1=((HT.aV n n hi:Nat):Int)/\(sliceBounds lo hi none n).2.2=1:=by
 refine⟨?_,?_,rfl⟩
 .cases lo with
  | none=>simp[sliceBounds,HT.aV]
  | some i=>
   simp only[sliceBounds,HT.aV,Option.getD_none,show(1:Int) > 0 by decide,if_true]
   by_cases h:i < 0
   .simp only[h,if_true]<;>omega
   .simp only[h,if_false]<;>omega
 .cases hi with
  | none=>simp[sliceBounds,HT.aV]
  | some i=>
   simp only[sliceBounds,HT.aV,Option.getD_none,show(1:Int) > 0 by decide,if_true]
   by_cases h:i < 0
   .simp only[h,if_true]<;>omega
   .simp only[h,if_false]<;>omega
theorem zj1(ah:Qa Qc)(lo hi:Qb Int):slicePick ah.toArray lo hi none=((ah.drop<|HT.aV ah.length 0 lo).take<|HT.aV ah.length ah.length hi - HT.aV ah.length 0 lo).toArray:=by
 have(h1,h2,h3):=zk9 lo hi ah.toArray.size;unfold slicePick;rw[h1,h2,h3];simp only[sliceRange_one,pick_run,List.size_toArray]<;>rfl
def Ib(K:qe):V->Qb Int->Qb Int->Hp->VK->Prop:=λx lo hi H Q=>∃ a xs,x=.ref a/\bu K H a xs/\∀ p,H p=none->Q (.ref p) (upd H p<|.lst<|kK xs lo hi)
theorem Wy:xk X (Ib X.K):=by
 intro pins s σ H x v vl vu lo hi sl Q I rx hs pl pu h;have(a,xs,rfl,hx,q):=h;cases rx;have(ah,r,ht,hz):=I.list hx;have hlen:=r.length;refine⟨"list",_,slot_list_getitem.lookup,ht.isList.typeIs,?_⟩;refine wpAny_getItem_list_slice ht.isList hs pl pu .none (by simp) ?_ (by rw[List.size_toArray]<;>omega);rw[zj1,<-hlen];refine⟨.ref s.heap.objs.size,_,I.laid (t':=s.toks) (o:=.lst (kK xs lo hi)) (λb ob q=>qf _ q) (qg _) ?_,rfl,q _<|I.aE.fresh<|qg _⟩;exact⟨qC (Pf xs lo hi) hz,_,0,(r.drop<|HT.aV xs.length 0 lo).take<|HT.aV xs.length xs.length hi - HT.aV xs.length 0 lo,qi _ rfl⟩
def m3:V->Bool
 | .aP=>true
 | .bl _=>true
 | .int _=>true
 | .str _=>true
 | _=>false
def sS:V->V->Bool
 | .aP,.aP=>true
 | .bl a,.bl b=>a==b
 | .bl a,.int b=>(if a then 1 else 0)==b
 | .int a,.bl b=>a==(if b then 1 else 0)
 | .int a,.int b=>a==b
 | .str a,.str b=>a==b
 | _,_=>false
theorem zAi{y x:V}{u v:Qc}(ry:aO y u)(rx:aO x v)(fy:m3 y=true)(fx:m3 x=true):SeqAt.EqAt A s u v (sS y x):=by
 cases y with
 | aP=>
  cases ry;cases x with
  | aP=>cases rx; exact SeqAt.EqAt.same _
  | bl b=>cases rx; exact SeqAt.EqAt.none_bool b
  | int b=>have(t,rfl):=rx; exact SeqAt.EqAt.none_int b t
  | str b=>have(t,rfl):=rx; exact SeqAt.EqAt.none_str b t
  | _=>exact absurd (show false=true from fx) qh
 | bl a=>
  cases ry;cases x with
  | aP=>cases rx; exact SeqAt.EqAt.bool_none a
  | bl b=>cases rx; exact SeqAt.EqAt.bool_bool a b
  | int b=>have(t,rfl):=rx; exact SeqAt.EqAt.bool_int a b t
  | str b=>have(t,rfl):=rx; exact SeqAt.EqAt.bool_str a b t
  | _=>exact absurd (show false=true from fx) qh
 | int a=>
  have(t',rfl):=ry;cases x with
  | aP=>cases rx; exact SeqAt.EqAt.int_none a t'
  | bl b=>cases rx; exact SeqAt.EqAt.int_bool a t' b
  | int b=>have(t,rfl):=rx; exact SeqAt.EqAt.int_int a t' b t
  | str b=>have(t,rfl):=rx; exact SeqAt.EqAt.int_str a t' b t
  | _=>exact absurd (show false=true from fx) qh
 | str a=>
  have(t',rfl):=ry;cases x with
  | aP=>cases rx; exact SeqAt.EqAt.str_none a t'
  | bl b=>cases rx; exact SeqAt.EqAt.str_bool a t' b
  | int b=>have(t,rfl):=rx; exact SeqAt.EqAt.str_int a t' b t
  | str b=>have(t,rfl):=rx; exact SeqAt.EqAt.str_str a t' b t
  | _=>exact absurd (show false=true from fx) qh
 | _=>exact absurd (show false=true from fy) qh
def i8(x:V)(u:Qc):Bool:=match u with
 | .none=>sS .aP x
 | .bool b=>sS (.bl b) x
 | .int i _=>sS (.int i) x
 | .str z _=>sS (.str z) x
 | _=>false
theorem LH{x y:V}{u:Qc}(r:aO y u)(f:m3 y=true):i8 x u=sS y x:=by
 cases y with
 | aP=>cases r; rfl
 | bl b=>cases r; rfl
 | int i=>have(t,rfl):=r; rfl
 | str z=>have(t,rfl):=r; rfl
 | _=>exact absurd (show false=true from f) qh
theorem yg{x:V}:∀ {xs:Qa V} {us:Qa Qc},zW xs us->xs.all m3=true->us.any (i8 x)=xs.any λy=>sS y x
 | _,_,.nil,_=>rfl
 | y::xs,u::us,.cons r t,f=>by
  rw[List.all_cons,Bool.and_eq_true]at f;rw[List.any_cons,List.any_cons,LH r f.1,yg t f.2]
theorem yr{x:V}{v:Qc}(rx:aO x v)(fx:m3 x=true):∀ {xs:Qa V} {us:Qa Qc},zW xs us->xs.all m3=true->∀ u∈us,SeqAt.EqAt A s u v<|i8 x u
 | _,_,.nil,_=>λu hu=>by cases hu
 | y::xs,u::us,.cons r t,f=>λu' hu=>by
  rw[List.all_cons,Bool.and_eq_true]at f;rcases qy.mp hu with rfl|hu
  .rw[LH r f.1]; exact zAi r rx f.1 fx
  .exact yr rx fx t f.2 u' hu
def Jf(x:V)(xs:Qa V):Bool:=xs.any λy=>sS y x
def yQ(K:qe)(neg:Bool):R2:=λx y H Q=>∃ p xs,y=.ref p/\(bu K H p xs\/br K H p xs)/\m3 x=true/\xs.all m3=true/\Q (.bl (if neg then !Jf x xs else Jf x xs)) H
theorem ZU:bN X (compareOp .In) (yQ X.K false):=by
 intro pins s σ H x y v u Q I rx ry h;have(p,xs,rfl,hq,fx,fs,q):=h;cases ry;rcases hq with hq|hq
 .have(ah,r,pl,hz):=I.list hq
  refine SeqAt.in_listAt (i8 x) pl.isList (λw hw=>yr rx fx r fs w (by simpa using hw)) ⟨.bl _,H,I,rfl,?_⟩;rw[show ah.toArray.any (i8 x)=ah.any (i8 x) by simp,yg r fs];exact q
 .have(ah,r,pl,hz):=I.tuple hq
  refine SeqAt.in_tupleAt (i8 x) pl (λw hw=>yr rx fx r fs w (by simpa using hw)) ⟨.bl _,H,I,rfl,?_⟩;rw[show ah.toArray.any (i8 x)=ah.any (i8 x) by simp,yg r fs];exact q
theorem zla:bN X (compareOp .NotIn) (yQ X.K true):=by
 intro pins s σ H x y v u Q I rx ry h;have(p,xs,rfl,hq,fx,fs,q):=h;cases ry;rcases hq with hq|hq
 .have(ah,r,pl,hz):=I.list hq
  refine SeqAt.notIn_listAt (i8 x) pl.isList (λw hw=>yr rx fx r fs w (by simpa using hw)) ⟨.bl _,H,I,rfl,?_⟩;rw[show ah.toArray.any (i8 x)=ah.any (i8 x) by simp,yg r fs];exact q
 .have(ah,r,pl,hz):=I.tuple hq
  refine SeqAt.notIn_tupleAt (i8 x) pl (λw hw=>yr rx fx r fs w (by simpa using hw)) ⟨.bl _,H,I,rfl,?_⟩;rw[show ah.toArray.any (i8 x)=ah.any (i8 x) by simp,yg r fs];exact q
theorem zlb:fS X (.builtin "len") (λxs H Q=>∃ p ys,xs=[.ref p]/\(bu X.K H p ys\/br X.K H p ys)/\Q (.int ys.length) H):=by
 intro pins s σ H xs us Q I r h;have(p,ys,rfl,hq,q):=h;have(u,rfl,rx):=jS r;cases rx;have hn:=wc;rcases hq with hq|hq
 .have(ah,r',pl,hz):=I.list hq
  have hlen:=r'.length;exact Calls.call_len_list pl.isList (by simp only[List.size_toArray]<;>omega) ⟨.int ys.length,H,I.tok _,⟨s.toks+1,by rw[List.size_toArray,hlen]⟩,q⟩
 .have(ah,r',pl,hz):=I.tuple hq
  have hlen:=r'.length;exact len_tuple pl (by simp only[List.size_toArray]<;>omega) ⟨.int ys.length,H,I.tok _,⟨s.toks+1,by rw[List.size_toArray,hlen]⟩,q⟩
theorem zlc:fS X (.type "list") (λxs H Q=>∃ p ys,xs=[.ref p]/\(bu X.K H p ys\/br X.K H p ys)/\∀ l,H l=none->Q (.ref l) (upd H l<|.lst ys)):=by
 intro pins s σ H xs us Q I r h;have(p,ys,rfl,hq,q):=h;have(u,rfl,rx):=jS r;cases rx;have fin:∀ (ah:Qa Qc),zW ys ah->ys.length<=sizeLine->∀ (h':Heap) (c':Nat),(∀ b o',s.heap.get? b=some o'->h'.get? b=some o')->
   h'.get? s.heap.objs.size=some {cls:=.type "list",dict:=none,data:=.seq ah.toArray c',slots:=#[]}->EP X pins σ Q (.ref s.heap.objs.size) {s with heap:=h'}:=λah r' hz h' c' kp e=>
  ⟨.ref s.heap.objs.size,_,I.laid (t':=s.toks) kp (qg _) (show bW X.prog X.w X.K _ h' _ (.lst ys) from⟨hz,ah,c',r',e⟩),rfl,q _<|I.aE.fresh<|qg _⟩
 rcases hq with hq|hq
 .have(ah,r',pl,hz):=I.list hq
  have hlen:=r'.length;have(o,ho,hc,n,hd):=pl.isList;exact call_list_seq p (.inl rfl) ho hc hd (λh' c' kp e=>fin ah r' hz h' c' kp e) (by simp only[List.size_toArray]<;>omega)
 .have(ah,r',pl,hz):=I.tuple hq
  have hlen:=r'.length;have(o,ho,hc,n,hd):=pl;exact call_list_seq p (.inr rfl) ho hc hd (λh' c' kp e=>fin ah r' hz h' c' kp e) (by simp only[List.size_toArray]<;>omega)
theorem zj2:fS X (.type "tuple") (λxs H Q=>∃ p ys,xs=[.ref p]/\((bu X.K H p ys/\∀ l,H l=none->Q (.ref l) (upd H l<|.tup ys))\/(br X.K H p ys/\Q (.ref p) H))):=by
 intro pins s σ H xs us Q I r h;have(p,ys,rfl,h):=h;have(u,rfl,rx):=jS r;cases rx;rcases h with⟨hq,q⟩|⟨hq,q⟩
 .have(ah,r',pl,hz):=I.list hq
  have hlen:=r'.length;refine call_tuple_list pl.isList (λh' kp=>?_) (by simp only[List.size_toArray]<;>omega);have I1:Inv X pins σ H {s with heap:=h'}:=I.kept (t':=s.toks) kp;have I2:Inv X pins σ (upd H h'.objs.size<|.tup ys) {s with heap:=h'.push {cls:=.type "tuple",data:=.seq ah.toArray}}:=
   I1.laid (t':=s.toks) (λb o e=>qf _ e) (qg _) (show bW X.prog X.w X.K _ _ _ (.tup ys) from⟨hz,ah,r',nu.new _ _⟩)
  exact⟨.ref h'.objs.size,_,I2,rfl,q _<|I1.aE.fresh<|qg _⟩
 .have(ah,r',pl,hz):=I.tuple hq
  exact call_tuple_same pl ⟨.ref p,H,I,rfl,q⟩
def yG(K:qe)(T:String)(x:V)(H:Hp):Prop:=match x with
 | .str _=>T = "str"
 | .int _=>T = "int"
 | .ref p=>(T = "list"/\∃ xs,bu K H p xs)\/(T = "tuple"/\∃ o,K.lookup p=some o/\o.cls=.type "tuple"/\o.dict=none)\/
   (T = "dict"/\((∃ kvs,H p=some (.dK kvs))\/∃ kvs,H p=some (.dT kvs)))\/(T = "set"/\∃ S n,H p=some (.set S n))
 | _=>False
theorem LG{x:V}{v:Qc}(I:Inv X pins σ H s)(r:aO x v)(ty:yG X.K T x H):
  s.TypeIs v T/\∀ a,v=.ref a->∃ ob,s.heap.get? a=some ob/\ob.dict=none:=by
 cases x with
 | str z=>
  have(t,rfl):=r;cases(show T = "str" from ty);exact⟨typeIs_str s z t,λ_ e=>nomatch e⟩
 | int i=>
  have(t,rfl):=r;cases(show T = "int" from ty);exact⟨typeIs_int s i t,λ_ e=>nomatch e⟩
 | ref p=>
  cases r;rcases ty with⟨rfl,xs,hq⟩|⟨rfl,o,hk,hc,hd⟩|⟨rfl,hk⟩|⟨rfl,S,n,hk⟩
  .have(ah,_,pl,_):=I.list hq
   refine⟨pl.isList.typeIs,λa e=>?_⟩;cases e;have(o,n,e,c,hd,_):=pl;exact⟨o,e,hd⟩
  .refine⟨⟨o,I.cc p o hk,hc⟩,λa e=>?_⟩
   cases e;exact⟨o,I.cc _ o hk,hd⟩
  .have z:∃ o,s.heap.get? p=some o/\o.ExactDict:=by
    rcases hk with⟨kvs,hk⟩|⟨kvs,hk⟩
    .have(_,_,_,_,o,_,_,e,ex,_):=I.aE p _ hk
     exact⟨o,e,ex⟩
    .have(_,_,_,_,o,_,_,e,ex,_):=I.aE p _ hk
     exact⟨o,e,ex⟩
   have(o,e,ex):=z;refine⟨⟨o,e,ex.1⟩,λa e2=>?_⟩;cases e2;exact⟨o,e,ex.2.1⟩
  .have(o,_,_,_,e,ex,_):=I.aE p _ hk
   refine⟨⟨o,e,ex.1⟩,λa e2=>?_⟩;cases e2;exact⟨o,e,ex.2.1⟩
 | _=>exact False.elim ty
def Ia(K:qe)(T:String)(r:V->Qa V->Hp->VK->Prop)(to:TE):TE:=λσ H Q=>to σ H λx H1=>yG K T x H1/\r x [] H1 Q
def DL(K:qe)(T:String)(r:V->Qa V->Hp->VK->Prop)(to:TE)(t:TA):TE:=λσ H Q=>to σ H λx H1=>yG K T x H1/\t σ H1 λxs H2=>r x xs H2 Q
variable{es:Qa Expr}{to:TE}{t:TA}{name:Str}{id:String}{r:V->Qa V->Hp->VK->Prop}
theorem zAk(pa:PlainAttrs T)(slot:Slot T name id)(pU:typeOf (.builtin id)=pure (.type "method_descriptor"))(hm:TU X id r)(ho:PE X o to)
  (cI:attributeBase o name X.env (eval o X.env)=eval o X.env:=by rfl) (cG:(apos.endLine==bj.line)=true:=by rfl):PE X (.Call (.Attribute o name apos) [] [] bj) (Ia X.K T r to):=by
 intro pins s σ H Q I h;refine wpAny_Call_method0_late cI cG<|aH (ho pins s σ H _ I h) λv s1 hZ=>?_;have(x,H1,I1,r1,ty,q1):=hZ;have(h1,h2):=LG I1 r1 ty;exact⟨T,id,pa,slot,pU,h1,h2,ê rfl<|PySem.evalArgs_none<|hm pins s1 σ H1 x [] v [] Q I1 r1 .nil q1⟩
theorem zCc(pa:PlainAttrs T)(slot:Slot T name id)(pU:typeOf (.builtin id)=pure (.type "method_descriptor"))(hm:TU X id r)(ho:PE X o to)(ha:PA X (e::es) t)
  (cI:attributeBase o name X.env (eval o X.env)=eval o X.env:=by rfl)
  (uZ:((backTo bj<|starEach (e::es) X.env).all (λx=>!x.1) && (backToKw bj<|keywordEach [] X.env).all (λx=>x.1.isSome)
   && decide ((e::es).length+([]:Qa Keyword).length+(if([]:Qa Keyword).isEmpty then 0 else 1) < 30))=true:=by rfl)
  (cG:(apos.endLine==bj.line)=true:=by rfl) (hs:starEach (e::es) X.env=(false,eval e X.env)::starEach es X.env:=by rfl) (uT:(backTo bj<|starEach es X.env).any (·.1)=false:=by rfl):
  PE X (.Call (.Attribute o name apos) (e::es) [] bj) (DL X.K T r to t):=by
 intro pins s σ H Q I h;refine wpAny_Call_method_late cI uZ cG rfl<|aH (ho pins s σ H _ I h) λv s1 hZ=>?_;have(x,H1,I1,r1,ty,q1):=hZ;have(h1,h2):=LG I1 r1 ty;refine⟨T,id,pa,slot,pU,h1,h2,?_⟩;have hA:=ha bj pins s1 σ H1 _ I1 q1;rw[hs]at hA ⊢;refine ê (by show(false || (backTo bj<|starEach es X.env).any (·.1))=false; rw[uT]<;>rfl)<|Calls.evalArgs_plain ?_;exact aH hA λus s2 ⟨vs,H2,I2,r2,q2⟩=>hm pins s2 σ H2 x vs v us Q I2 r1 r2 q2
end
def xm(X:Cx)(id:String)(r:V->Qa V->Hp->VK->Prop):Prop :=
 ∀ (pins:Qa (Qg×Obj)) (s:Qd) (σ:St) (H:Hp) (x:V) (xs:Qa V) (v:Qc) (us:Qa Qc) (Q:VK),Inv X pins σ H s->aO x v->zW xs us->r x xs H Q->
  wpAny (model X.prog X.w) X.A (call (.builtin id)<|v::us) (EP X pins σ Q) X.xe s
theorem zW.one{x:V}(h:zW [x] us):∃ u,us=[u]/\aO x u:=by
 cases h with
 | cons r t=>cases t; exact⟨_,rfl,r⟩
theorem zW.two{x y:V}(h:zW [x,y] us):∃ u v,us=[u,v]/\aO x u/\aO y v:=by
 cases h with
 | cons r t=>
  have(v,rfl,q):=zW.one t;exact⟨_,v,rfl,r,q⟩
theorem zW.rep(h:zW xs us):∀ k:Nat,zW (List.replicate k xs).flatten (List.replicate k us).flatten
 | 0=>.nil
 | k+1=>by
  rw[List.replicate_succ,List.replicate_succ,List.flatten_cons,List.flatten_cons];exact zW.append h<|zW.rep h k
theorem Hf(ah:Qa Qc):∀ (k:Nat) (acc:Qa Qc),
  List.foldl (λx1 x2=>x1++x2) acc.toArray (List.replicate k ah.toArray)=(acc++(List.replicate k ah).flatten).toArray
 | 0,acc=>by simp
 | k+1,acc=>by
  have e:acc.toArray++ah.toArray=(acc++ah).toArray:=by simp
  have e2:(acc++ah)++(List.replicate k ah).flatten=acc++(List.replicate (k+1) ah).flatten:=by
   rw[List.replicate_succ,List.flatten_cons,List.append_assoc]
  rw[<-e2,<-Hf ah k (acc++ah),<-e,List.replicate_succ,List.foldl_cons]
section
variable{X:Cx}{l b:Qg}{ys zs:Qa V}
theorem Inv.Ad{ah its':Qa Qc}{f:Array Qc->Array Qc}{t':Nat}(I:Inv X pins σ H s)(hH:H l=some (.lst xs))
  (e:s.heap.get? l=some {cls:=.type "list",data:=.seq ah.toArray n}) (hf:f ah.toArray=its'.toArray) (hv:zW ys its') (hz:ys.length<=sizeLine):
  Inv X pins σ (upd H l<|.lst ys) {s with heap:=s.heap.update l (Obj.mapSeq f),toks:=t'}:=by
 have q:=PySem.IsL.update e f;rw[hf]at q;refine I.write (x:=l) (e:=l) (by rw[hH]; exact trivial) (.inl rfl) (λb' u hb hu=>(Î s.heap (Obj.mapSeq f)<|Ne.symm hb).trans hu) ⟨_,q⟩ ?_;exact⟨hz,its',_,hv,q⟩
theorem Inv.Ae{ah:Qa Qc}{t':Nat}(I:Inv X pins σ H s)(hv:zW ys ah)(hz:ys.length<=sizeLine):
  Inv X pins σ (upd H s.heap.objs.size<|.lst ys) {s with heap:=s.heap.push {cls:=.type "list",data:=.seq ah.toArray},toks:=t'}:=
 I.laid (λ_ _ q=>qf _ q) (qg _) ⟨hz,ah,0,hv,qi _ rfl⟩
theorem Inv.fresh(I:Inv X pins σ H s):H s.heap.objs.size=none:=I.aE.fresh (qg _)
theorem Inv.ko(I:Inv X pins σ H s)(hH:H l=some (.lst xs)):xs.length<=sizeLine/\∃ (ah:Qa Qc) (n:Nat),zW xs ah/\xs.length=ah.length/\s.heap.get? l=some {cls:=.type "list",data:=.seq ah.toArray n}:=by
 have(z,ah,n,r,e):=I.aE l _ hH;exact⟨z,ah,n,r,r.length,e⟩
theorem NR(h:n<=sizeLine):Builtin.List.listTooLong n=false:=by
 unfold Builtin.List.listTooLong;exact decide_eq_false (by omega)
end
section
variable{X:Cx}
def My:V->Qa V->Hp->VK->Prop:=λx vs H Q=>∃ l xs y,x=.ref l/\vs=[y]/\H l=some (.lst xs)/\xs.length < sizeLine/\Q .aP (upd H l<|.lst<|xs++[y])
theorem zN:xm X "list.append" My:=by
 intro pins s σ H x vs v us Q I rx rv h;have(l,xs,y,rfl,rfl,hH,hz,q):=h;cases rx;have(u,rfl,ru):=rv.one;have(z,ah,n,r,hl,e):=I.ko hH;refine call_meets F.slot_list_append ⟨_,e,rfl⟩ F.entry_list_append (F.args_list_append_2 _ _) (PySem.list_append l ah.toArray n u (by rw[List.size_toArray]; omega)) ⟨e,?_⟩;refine⟨.aP,_,I.Ad (its':=ah++[u]) hH e (by simp) (r.append<|.cons ru .nil) ?_,rfl,q⟩;rw[qw,List.length_singleton];omega
def Wx:V->Qa V->Hp->VK->Prop:=λx vs H Q=>∃ l b xs zs,x=.ref l/\vs=[.ref b]/\H l=some (.lst xs)/\H b=some (.lst zs)/\xs.length+zs.length<=sizeLine/\Q .aP (upd H l<|.lst<|xs++zs)
theorem zB0:xm X "list.extend" Wx:=by
 intro pins s σ H x vs v us Q I rx rv h;have(l,b,xs,zs,rfl,rfl,hH,hB,hz,q):=h;cases rx;have(u,rfl,ru):=rv.one;cases ru;have(z,ah,n,r,hl,e):=I.ko hH;have(z2,eC,n2,r2,hl2,e2):=I.ko hB;have hsz:ah.toArray.size+eC.toArray.size<=sizeLine:=by rw[List.size_toArray,List.size_toArray]; omega
 have mw:¬(!ah.toArray.isEmpty && Builtin.List.listTooLong (ah.toArray.size+eC.toArray.size))=true:=by
  rw[NR hsz,Bool.and_false];exact qh
 refine call_meets F.slot_list_extend ⟨_,e,rfl⟩ F.entry_list_extend (F.args_list_extend_2 _ _)
  (AutoSeq1.list_extend_list_list_0 l ah.toArray n b eC.toArray n2 mw (by rw[List.size_toArray]; omega) (by omega)) ⟨e,e2,?_⟩
 refine⟨.aP,_,I.Ad (its':=ah++eC) hH e (by simp) (r.append r2) ?_,rfl,q⟩;rw[qw];omega
def RO:R2:=λx y H Q=>∃ l b xs zs,x=.ref l/\y=.ref b/\H l=some (.lst xs)/\H b=some (.lst zs)/\xs.length+zs.length<=sizeLine/\∀ p,H p=none->Q (.ref p) (upd H p<|.lst<|xs++zs)
theorem zAl:bN X (binaryOp .Add) RO:=by
 intro pins s σ H x y v u Q I rx ry h;have(l,b,xs,zs,rfl,rfl,hH,hB,hz,q):=h;cases rx;cases ry;have(z,ah,n,r,hl,e):=I.ko hH;have(z2,eC,n2,r2,hl2,e2):=I.ko hB;refine PySem.P.add_list e e2 ?_ (by rw[List.size_toArray,List.size_toArray]; omega);have ea:ah.toArray++eC.toArray=(ah++eC).toArray:=by simp
 rw[ea];exact⟨.ref _,_,I.Ae (t':=s.toks) (r.append r2) (by rw[qw]; omega),rfl,q _ I.fresh⟩
def RN:R2:=λx y H Q=>∃ l k xs,x=.ref l/\y=.int k/\H l=some (.lst xs)/\-(2^63)<=k/\k < 2^63/\xs.length * k.toNat<=sizeLine/\
 ∀ p,H p=none->Q (.ref p) (upd H p<|.lst (List.replicate k.toNat xs).flatten)
theorem Gs(xs:Qa α)(k:Nat):(List.replicate k xs).flatten.length=k * xs.length:=by
 induction k with
 | zero=>simp
 | succ k ih=>rw[List.replicate_succ,List.flatten_cons,qw,ih,Nat.succ_mul,Nat.add_comm]
theorem zAm:bN X (binaryOp .Mult) RN:=by
 intro pins s σ H x y v u Q I rx ry h;have(l,k,xs,rfl,rfl,hH,h1,h2,hz,q):=h;cases rx;have(t,rfl):=ry;have(z,ah,n,r,hl,e):=I.ko hH;have hlen:ah.toArray.size * k.toNat<=sizeLine:=by rw[List.size_toArray,<-hl]; exact hz
 have JF:¬ah.toArray.size * k.toNat > (2^63 - 1) / 8:=by
  have:(sizeLine:Nat)<=(2^63 - 1) / 8:=by decide
  omega
 have As:¬(!Builtin.List.listFitsIndex k)=true:=by
  rw[fitsIndex_both h1 h2];exact qh
 have mw:¬Builtin.List.listTooLong (ah.toArray.size * k.toNat)=true:=by
  rw[NR hlen];exact qh
 have Jz:List.foldl (λx1 x2=>x1++x2) #[] (List.replicate (if ah.toArray.isEmpty=true then 0 else k.toNat) ah.toArray)=(List.replicate k.toNat ah).flatten.toArray:=by
  have f0:∀ m:Nat,List.foldl (λx1 x2=>x1++x2) #[] (List.replicate m ah.toArray)=(List.replicate m ah).flatten.toArray:=λm=>by
   have:=Hf ah m [];rw[List.nil_append]at this;exact this
  rw[f0];cases ah with
  | nil=>simp
  | cons a r'=>rw[if_neg (by simp)]
 refine wpAny_binaryOp_repeat_ref (T := "list") (U := "int") (by decide) ⟨_,e,rfl⟩ (λs'=>typeIs_int s' k t) noFill_list_mul F.fills_int_mul F.slot_int_rmul repeat_list F.slot_int_index.lookup
  (call_meets F.slot_int_rmul (typeIs_int s k t) F.entry_int_rmul (F.args_int_rmul_2 _ _) (int___rmul___int_list k t l ah.toArray n)
   ⟨e,rfl,⟨_,e,rfl⟩,call_meets F.slot_list_mul ⟨_,e,rfl⟩ F.entry_list_mul (F.args_list_mul_2 _ _) (AutoListH.list___mul___list_int_3 l ah.toArray n k t As JF mw) ⟨e,?_⟩⟩)
 rw[Jz];exact⟨.ref _,_,I.Ae (t':=s.toks) (r.rep k.toNat) (by rw[Gs,Nat.mul_comm]; exact hz),rfl,q _ I.fresh⟩
end
section
end
section
variable{X:Cx}
end
section
variable[DecidableEq κ]
def iz(kvs:Qa (κ×V))(k:κ):Qb V:=(kvs.find? λkv=>decide<|kv.1=k).map (·.2)
def eJ(kvs:Qa (κ×V))(k:κ)(v:V):Qa (κ×V):=
 if(kvs.any λkv=>decide<|kv.1=k)=true then kvs.map (λkv=>if kv.1=k then(kv.1,v)else kv)else kvs++[(k,v)]
theorem G5{p:κ×V}{r:Qa (κ×V)}{k:κ}(e:p.1=k):iz (p::r) k=some p.2:=by simp[iz,List.find?_cons,e]
theorem G4{p:κ×V}{r:Qa (κ×V)}{k:κ}(e:¬p.1=k):iz (p::r) k=iz r k:=by simp[iz,List.find?_cons,e]
theorem NQ(k:κ):∀ kvs:Qa (κ×V),(kvs.any λkv=>decide<|kv.1=k)=(iz kvs k).isSome
 | []=>rfl
 | p::r=>by
  rw[List.any_cons]
  by_cases e:p.1=k
  .simp only[G5 e,decide_eq_true e,Bool.true_or,Option.isSome_some]
  .rw[G4 e,decide_eq_false e,Bool.false_or]; exact NQ k r
theorem CY(kvs:Qa (κ×V))(k:κ)(v:V):(eJ kvs k v).length<=kvs.length+1:=by
 unfold eJ;split
 .rw[List.length_map]; omega
 .rw[qw,qx,List.length_nil]; omega
theorem iK.ku{o:Qb V}{u:Qb Qc}(r:iK o u):o.isSome=u.isSome:=by
 cases o with
 | none=>cases u with
  | none=>rfl
  | some _=>exact(show False from r).elim
 | some _=>cases u with
  | none=>exact(show False from r).elim
  | some _=>rfl
theorem iK.getD{o:Qb V}{u:Qb Qc}{d:V}{d':Qc}(r:iK o u)(rd:aO d d'):aO (o.getD d) (u.getD d'):=by
 cases o with
 | none=>cases u with
  | none=>exact rd
  | some _=>exact(show False from r).elim
 | some _=>cases u with
  | none=>exact(show False from r).elim
  | some _=>exact r
theorem KV.val{kvs:Qa (κ×V)}{vs:Qa (κ×Qc)}(r:KV kvs vs)(k:κ):iK (iz kvs k) (valueAt vs k):=by
 unfold KV at r
 induction r with
 | nil=>exact True.intro
 | @cons p q ps qs h t ih=>
  have(h1,h2):=h
  by_cases e:p.1=k
  .have e':q.1=k:=h1.symm.trans e
   have b:valueAt (q::qs) k=some q.2:=by simp[valueAt,List.find?_cons,e']
   rw[G5 e,b]; exact h2
  .have e':¬q.1=k:=λz=>e<|h1.trans z
   have b:valueAt (q::qs) k=valueAt qs k:=by simp[valueAt,List.find?_cons,e']
   rw[G4 e,b]; exact ih
theorem KV.any{kvs:Qa (κ×V)}{vs:Qa (κ×Qc)}(r:KV kvs vs)(k:κ):(kvs.any λkv=>decide<|kv.1=k)=vs.any λkv=>decide (kv.1=k):=by
 unfold KV at r
 induction r with
 | nil=>rfl
 | cons h t ih=>rw[List.any_cons,List.any_cons,ih,h.1]
theorem KV.l5{kvs:Qa (κ×V)}{vs:Qa (κ×Qc)}(r:KV kvs vs)(k:κ){y:V}{u:Qc}(ry:aO y u):
  KV (kvs.map λkv=>if kv.1=k then(kv.1,y)else kv) (vs.map λkv=>if kv.1=k then(kv.1,u)else kv):=by
 unfold KV at r ⊢
 induction r with
 | nil=>exact .nil
 | @cons p q ps qs h t ih=>
  rw[List.map_cons,List.map_cons];refine .cons ?_ ih;have(h1,h2):=h
  by_cases e:p.1=k
  .rw[if_pos e,if_pos<|h1.symm.trans e]; exact⟨h1,ry⟩
  .rw[if_neg e,if_neg λz=>e<|h1.trans z]; exact⟨h1,h2⟩
theorem KV.put{kvs:Qa (κ×V)}{vs:Qa (κ×Qc)}(r:KV kvs vs)(k:κ){y:V}{u:Qc}(ry:aO y u):KV (eJ kvs k y) (stored vs k u):=by
 unfold eJ stored;rw[r.any k]
 by_cases e:(vs.any λkv=>decide<|kv.1=k)=true
 .rw[if_pos e,if_pos e]; exact r.l5 k ry
 .rw[if_neg e,if_neg e]; exact Paired.snoc r ⟨rfl,ry⟩
theorem KV.length{kvs:Qa (κ×V)}{vs:Qa (κ×Qc)}(r:KV kvs vs):kvs.length=vs.length:=Paired.length r
end
theorem BB{k:Key}{u:Qc}(r:aO (kV k) u):(eV P w).is k u=true:=by
 cases k with
 | inl i=>have(t,e):=(show ∃ t,u=Value.int i t from r); subst e; exact zmg P w i t
 | inr x=>have(t,e):=(show ∃ t,u=Value.str x t from r); subst e; exact zmh P w x t
theorem He:∀ {ks:Qa Key} {us:Qa Qc},zW (ks.map kV) us->ItemsAre (eV P w) ks us
 | [],_,r=>by rw[List.map_nil]at r; cases r; exact .nil
 | k::ks,_,r=>by
  rw[List.map_cons]at r;cases r with
  | cons h t=>exact .cons (BB h)<|He t
abbrev KT(K:qe)(H:Hp):Qa (Qa Key×V)->Qa (Qa Key×Qg×Qc)->Prop:=Paired λp q=>p.1=q.1/\aX K H q.2.1 (p.1.map kV)/\aO p.2 q.2.2
theorem KT.val{xs:Qa (Qa Key×Qg×Qc)}(r:KT K H kvs xs)(k:Qa Key):iK (iz kvs k) ((atKey xs k).map (·.2)):=by
 induction r with
 | nil=>exact True.intro
 | @cons p q ps qs h t ih=>
  have(h1,_,h2):=h
  by_cases e:p.1=k
  .have e':q.1=k:=h1.symm.trans e
   have b:atKey (q::qs) k=some q.2:=by simp[atKey,List.find?_cons,e']
   rw[G5 e,b]; exact h2
  .have e':¬q.1=k:=λz=>e<|h1.trans z
   have b:atKey (q::qs) k=atKey qs k:=by simp[atKey,List.find?_cons,e']
   rw[G4 e,b]; exact ih
theorem KT.l5{xs:Qa (Qa Key×Qg×Qc)}(r:KT K H kvs xs)(k:Qa Key){y:V}{u:Qc}(ry:aO y u):
  KT K H (kvs.map λkv=>if kv.1=k then(kv.1,y)else kv) (xs.map<|putAt k u):=by
 induction r with
 | nil=>exact .nil
 | @cons p q ps qs h t ih=>
  rw[List.map_cons,List.map_cons];refine .cons ?_ ih;have(h1,h2,h3):=h;unfold putAt
  by_cases e:p.1=k
  .rw[if_pos e,if_pos<|h1.symm.trans e]; exact⟨h1,h2,ry⟩
  .rw[if_neg e,if_neg λz=>e<|h1.trans z]; exact⟨h1,h2,h3⟩
theorem KT.put{xs:Qa (Qa Key×Qg×Qc)}(r:KT K H kvs xs)(k:Qa Key){b:Qg}{y:V}{u:Qc}(hb:aX K H b (k.map kV))(ry:aO y u):
  KT K H (eJ kvs k y) (storedH xs k b u):=by
 have e:(kvs.any λkv=>decide<|kv.1=k)=(atKey xs k).isSome:=by
  rw[NQ,(r.val k).ku,Option.isSome_map]
 unfold eJ storedH;rw[e]
 by_cases q:(atKey xs k).isSome=true
 .rw[if_pos q,if_pos q]; exact r.l5 k ry
 .rw[if_neg q,if_neg q]; exact Paired.snoc r ⟨rfl,hb,ry⟩
theorem KT.keeps{xs:Qa (Qa Key×Qg×Qc)}(r:KT K H kvs xs)(ht:∀ b ys,H b=some (.tup ys)->H' b=some (.tup ys)):KT K H' kvs xs :=
 Paired.pQ r λ_ _ z=>⟨z.1,z.2.1.keeps ht,z.2.2⟩
section
theorem E4{u:HO}(ok:cK P w K H h)(e:Rd H a u):bW P w K H h a u:=e.ok ok
theorem xD{kvs:Qa (Key×V)}(ok:cK P w K H h)(e:Rd H a (.dK kvs)):kvs.length<=sizeLine/\(a==sysModules)=false/\∃ vs,KV kvs vs/\h.DictOf (eV P w) a vs :=
 show bW P w K H h a (.dK kvs) from E4 ok e
theorem zCf{kvs:Qa (Key×V)}(ok:cK P w K H h)(e:H a=some (.dK kvs)):kvs.length<=sizeLine/\(a==sysModules)=false/\∃ vs,KV kvs vs/\h.DictOf (eV P w) a vs:=xD ok (.inl e)
theorem rH{ks:Qa Key}(jD:K.In h)(ok:cK P w K H h)(e:aX K H a (ks.map kV)):(tupleKind<|eV P w).is h ks a:=by
 rcases e with e|⟨o,ah,n,hk,hc,hs,_,r,_⟩
 case inr=>exact⟨o,ah,n,jD a o hk,hc,hs,by simpa using He r⟩
 obtain⟨_,ah,r,o,h1,h2,⟨n,h3⟩,_⟩:=(show bW P w K H h a (.tup<|ks.map kV) from ok a _ e);exact⟨o,ah.toArray,n,h1,h2,h3,by simpa using He r⟩
theorem rA(jD:K.In h)(ok:cK P w K H h)(e:Rd H a (.dT kvs)):kvs.length<=sizeLine/\(a==sysModules)=false/\
  ∃ xs,KT K H kvs xs/\h.DictOfH (tupleKind<|eV P w) a xs:=by
 have(z,y,xs,r,o,es,ep,h1,h2,h3,h4,h5):=(show bW P w K H h a (.dT kvs) from E4 ok e);refine⟨z,y,xs,r,o,es,ep,h1,h2,h3,h4,λx hx=>?_,h5⟩;have all:∀ {l:Qa (Qa Key×V)} {m:Qa (Qa Key×Qg×Qc)},KT K H l m->∀ x∈m,(tupleKind<|eV P w).is h x.1 x.2.1:=by
  intro l m q
  induction q with
  | nil=>intro x hx; exact nomatch hx
  | @cons p q ps qs hq t ih=>
   intro x hx;rcases qy.mp hx with e|hx
   .subst e
    exact rH jD ok (by rw[<-hq.1]; exact hq.2.1)
   .exact ih x hx
 exact all r x hx
theorem Fs(jD:K.In h)(ok:cK P w K H h)(e:H a=some (.dT kvs)):kvs.length<=sizeLine/\(a==sysModules)=false/\
  ∃ xs,KT K H kvs xs/\h.DictOfH (tupleKind<|eV P w) a xs:=rA jD ok (.inl e)
end
def tG(K:qe)(H:Hp)(a:Qg)(y:V)(r:Qb V):Prop :=
 (∃ kvs k,Rd H a (.dK kvs)/\y=kV k/\r=iz kvs k)\/∃ kvs k b,Rd H a (.dT kvs)/\y=.ref b/\aX K H b (k.map kV)/\r=iz kvs k
def qM(K:qe)(H:Hp)(a:Qg)(y v:V)(H':Hp):Prop :=
 (∃ kvs k,H a=some (.dK kvs)/\y=kV k/\kvs.length < sizeLine/\H'=upd H a (.dK<|eJ kvs k v))\/
 ∃ kvs k b,H a=some (.dT kvs)/\y=.ref b/\aX K H b (k.map kV)/\kvs.length < sizeLine/\H'=upd H a (.dT<|eJ kvs k v)
theorem qM.k{kvs:Qa (Key×V)}{k:Key}(e:H a=some (.dK kvs))(hl:kvs.length < sizeLine):qM K H a (kV k) v (upd H a<|.dK<|eJ kvs k v):=.inl ⟨kvs,k,e,rfl,hl,rfl⟩
theorem qM.t{b:Qg}{k:Qa Key}(e:H a=some (.dT kvs))(eb:aX K H b (k.map kV))(hl:kvs.length < sizeLine):
  qM K H a (.ref b) v (upd H a<|.dT<|eJ kvs k v):=.inr ⟨kvs,k,b,e,rfl,eb,hl,rfl⟩
section
variable{X:Cx}{y:V}{u r:Qc}{o:Qb V}
theorem Inv.AK(I:Inv X pins σ H s):sysModules < s.heap.objs.size:=by
 have h:mainGlobals < s.heap.objs.size:=(I.mod.glob.keeps I.bk).lt;exact Þ (by decide) h
theorem ZT(hu:A.units+1 < cLine)(I:Inv X pins σ H s)(g:tG X.K H a y (some v))(ry:aO y u)(h:∀ w' s',Inv X pins σ H s'->aO v w'->Q w' s'):
  wpAny (model X.prog X.w) A (getItem (.ref a) u) Q E s:=by
 rcases g with⟨kvs,k,e,ey,l⟩|⟨kvs,k,b,e,ey,eb,l⟩
 .subst ey
  have(z,hd,vs,rel,dd):=xD I.aE e;have(w',hw,j9):=iK.some_of (v:=v) (o:=valueAt vs k) (by rw[l]; exact rel.val k);exact wpAny_getItem_of (BB ry) dd.mapOf hw<|h w' _ (I.tok _) j9
 .subst ey
  cases(show u=Value.ref b from ry);have(z,hd,xs,rel,dd):=rA I.cc I.aE e;have(w',hw,j9):=iK.some_of (v:=v) (o:=(atKey xs k).map (·.2)) (by rw[l]; exact rel.val k);have(p,hp,Ai):=qv.mp hw;refine wpAny_getItem_heap (tupleKind_room_in1 hu) (rH I.cc I.aE eb) dd hp ?_;rw[Ai];exact h w' _ (I.tok _) j9
theorem Cb{t':Nat}{ob:HO}(I:Inv X pins σ H s)(mu:AM (H a))(hs:Heap.SameBut a s.heap h')(he:∃ q,h'.get? a=some q)(new:bW X.prog X.w X.K (upd H a ob) h' a ob):
  Inv X pins σ (upd H a ob) {s with heap:=h',toks:=t'}:=
 I.write (x:=a) (e:=a) mu (.inl rfl) (λb q hb z=>(hs.2 b hb).trans z) he new
theorem zAn{kvs:Qa (Key×V)}{vs:Qa (Key×Qc)}(z:kvs.length<=sizeLine)(hd:(a==sysModules)=false)(rel:KV kvs vs)(dd:h'.DictOf (eV P w) a vs):
  bW P w K H' h' a (.dK kvs):=⟨z,hd,vs,rel,dd⟩
theorem ZS{Q:Unit->Qd->Prop}(hu:A.units+1 < cLine)(I:Inv X pins σ H s)(g:qM X.K H a y v H')(ry:aO y u)(rv:aO v r)(h:∀ s',Inv X pins σ H' s'->Q () s'):
  wpAny (model X.prog X.w) A (setItem (.ref a) u r) Q E s:=by
 rcases g with⟨kvs,k,e,ey,l,eH⟩|⟨kvs,k,b,e,ey,eb,l,eH⟩
 .subst ey eH
  have(z,hd,vs,rel,dd):=zCf I.aE e;have hz:vs.length<=sizeLine:=by rw[<-rel.length]; exact z
  have hl:(eJ kvs k v).length<=sizeLine:=by have:=CY kvs k v; omega
  refine wpAny_setItem_pairs (hsz:=hz) (BB ry) dd λh' sU hs=>h _ ?_;have he:∃ q,h'.get? a=some q:=let ⟨q,_,_,hq,_⟩:=sU; ⟨q,hq⟩;exact Cb I (by rw[e]; exact True.intro) hs he<|zAn hl hd (rel.put k rv) sU
 .subst ey eH
  cases(show u=Value.ref b from ry);have(z,hd,xs,rel,dd):=Fs I.cc I.aE e;have hz:xs.length<=sizeLine:=by rw[<-Paired.length rel]; exact z
  have hl:(eJ kvs k v).length<=sizeLine:=by have:=CY kvs k v; omega
  refine wpAny_setItem_heap (hsz:=hz) (tupleKind_room_in1 hu) (rH I.cc I.aE eb) dd λh' sU hs=>h _ ?_;have(q,es,ep,hq,h2,h3,h4,_,h5):=sU;refine Cb I (by rw[e]; exact True.intro) hs ⟨q,hq⟩ ⟨hl,hd,_,(rel.put k eb rv).keeps λc ys ec=>?_,q,es,ep,hq,h2,h3,h4,h5⟩;rw[zD<|oM ec e λz=>nomatch z];exact ec
end
section
variable{X:Cx}{kvs:Qa (Key×V)}{k:Key}{u:Qc}
end
def H0(i:Expr):Prop:=∀ ov iv,subscripted i false ov iv=operate [ov,iv] (getItem ov iv)
theorem Ww{value slice:Expr}{id:String}
  (hl:typeLookup (.type T) "__getitem__"=pure (some<|.builtin id)) (hs:H0 slice)
  (h:wpAny (model prog w) A (eval value env) (λo aG=>wpAny (model prog w) A (eval slice env) (λi fX=>fX.TypeIs o T/\wpAny (model prog w) A (getItem o i) Q E fX) E aG) E s):
  wpAny (model prog w) A (eval (.Subscript value slice pos) env) Q E s:=by
 refine Subscript_<|wpAny_mono h (λo aG Jh=>wpAny_mono Jh (λi fX uQ=>?_) λ_ _ x=>x) λ_ _ x=>x;have(hT,uQ):=uQ;unfold subscriptTail;refine qc ?_;rw[getitemInPython_of_ne hT.not_modules];refine qc<|wpAny_specialOf hT hl ?_;have fin:wpAny (model prog w) A (subscripted slice false o i) (λr yN=>wpAny (model prog w) A (letTemporaryGo value o r >>= λ_=>pure r) Q E yN) E fX:=by
  rw[hs o i];exact wpAny_operating (wpAny_mono uQ (λr yN Jg=>qc<|wpAny_letTemporaryGo<|qd Jg) λ_ _ x=>x)
 first
  | exact qd<|qc fin
  | exact qc<|qd<|qc fin
  | exact qc fin
theorem zmu{X:Cx}{y:V}{o:Qb V}(I:Inv X pins σ H s)(g:tG X.K H a y o):s.TypeIs (.ref a) "dict":=by
 rcases g with⟨kvs,k,e,_,_⟩|⟨kvs,k,b,e,_,_,_⟩
 .have(_,_,vs,_,dd):=xD I.aE e
  exact dd.typeIs
 .have(_,_,xs,_,dd):=rA I.cc I.aE e
  exact dd.typeIs
def Fq(K:qe)(td ty:TE):TE:=λσ H Q=>td σ H λx H1=>ty σ H1 λy H2=>∃ a v,x=.ref a/\tG K H2 a y (some v)/\Q v H2
def Fp(K:qe)(td ty tv:TE):TS:=λD σ H=>tv σ H λv H1=>td σ H1 λx H2=>ty σ H2 λy H3=>∃ a H4,x=.ref a/\qM K H3 a y v H4/\D.nx σ H4
section
variable{X:Cx}{i value:Expr}
theorem Wv(hu:X.A.units+1 < cLine)(ho:PE X o td)(hi:PE X i ty)(hs:H0 i):PE X (.Subscript o i pos) (Fq X.K td ty):=by
 intro pins s σ H Q I h;refine Ww PySem.F.slot_dict_getitem.lookup hs<|aH (ho pins s σ H _ I h) λu s1 ⟨x,H1,I1,rx,q1⟩=>aH (hi pins s1 σ H1 _ I1 q1) λiv s2 hZ=>?_;have(y,H2,I2,ry,a,v,ex,g,q2):=hZ;subst ex;obtain rfl:u=Value.ref a:=rx;exact⟨zmu I2 g,ZT hu I2 g ry λw' s3 I3 j9=>⟨v,H2,I3,j9,q2⟩⟩
theorem Wu(hu:X.A.units+1 < cLine)(ho:PE X o td)(hi:PE X i ty)(hv:PE X value tv)(hs:swapsWith value (some<|.Subscript o i pos') pos.line X.env=pure false):
  PS X (.Assign [.Subscript o i pos'] value pos) (Fp X.K td ty tv):=by
 intro pins s σ H D I h;refine wpAny_Assign_Subscript (aH (hv pins s σ H _ I h) λr s1 ⟨v,H1,I1,rv,q1⟩=>aH (ho pins s1 σ H1 _ I1 q1) λu s2 ⟨x,H2,I2,rx,q2⟩=>aH (hi pins s2 σ H2 _ I2 q2) λiv s3 hZ=>?_) hs;have(y,H3,I3,ry,a,H4,ex,g,q3):=hZ;subst ex;obtain rfl:u=Value.ref a:=rx;exact ZS hu I3 g ry rv λs4 I4=>⟨σ,H4,I4,q3⟩
end
theorem CA(h:Heap)(hb:sysModules < h.objs.size):bW P w K H (h.push {cls:=.type "dict",data:=.dict #[]}) h.objs.size (.dT []):=
 ⟨Ç _,beq_eq_false_iff_ne.mpr<|Ne.symm<|ql hb,[],.nil,_,#[],0,qi _ rfl,⟨rfl,rfl,rfl⟩,rfl,rfl,Ø⟩
def FQ:TE:=λ_ H Q=>∀ p,H p=none->Q (.ref p) (upd H p<|.dT [])
section
variable{X:Cx}
theorem ZG:PE X (.Dict [] [] pos) FQ:=λpins s σ H Q I h=>
 wpAny_Dict_empty ⟨.ref s.heap.objs.size,_,I.laid (a:=s.heap.objs.size) (o:=.dT []) (t':=s.toks) (λ_ _ q=>qf _ q) (qg _)<|CA s.heap I.AK,rfl,h _<|I.aE.fresh<|qg _⟩
end
structure M2 (X:Cx) (o:Expr) (m:Str) (apos:Pos) (e f:Expr) (bj:Pos):Prop where
 base:attributeBase o m X.env (eval o X.env)=eval o X.env
 few:((backTo bj<|starEach [e,f] X.env).all (λx=>!x.1) && (backToKw bj<|keywordEach [] X.env).all (λx=>x.1.isSome)
  && decide (([e,f]:Qa Expr).length+([]:Qa Keyword).length+(if([]:Qa Keyword).isEmpty then 0 else 1) < 30))=true
 line:(apos.endLine==bj.line)=true
 trees:backTo bj (starEach [e,f] X.env)=[(false,eval e X.env),(false,eval f X.env)]
def J4(H:Hp)(a:Qg):Prop:=(∃ kvs,Rd H a<|.dK kvs)\/∃ kvs,Rd H a<|.dT kvs
theorem zAp{X:Cx}(I:Inv X pins σ H s)(d:J4 H a):
  s.TypeIs (.ref a) "dict"/\(∀ b,Value.ref a=.ref b->∃ ob,s.heap.get? b=some ob/\ob.dict=none)/\(a==sysModules)=false:=by
 rcases d with⟨kvs,e⟩|⟨kvs,e⟩
 .have(_,hd,vs,_,dd):=xD I.aE e
  refine⟨dd.typeIs,λb q=>?_,hd⟩;cases q;have(ob,_,_,h1,h2,_):=dd;exact⟨ob,h1,h2.2.1⟩
 .have(_,hd,xs,_,dd):=rA I.cc I.aE e
  refine⟨dd.typeIs,λb q=>?_,hd⟩;cases q;have(ob,_,_,h1,h2,_):=dd;exact⟨ob,h1,h2.2.1⟩
section
variable{X:Cx}{y d:V}{u r:Qc}{o:Qb V}
theorem zAq(hu:A.units+1 < cLine)(I:Inv X pins σ H s)(g:tG X.K H a y o)(ry:aO y u)(rd:aO d r)(h:∀ w' s',Inv X pins σ H s'->aO (o.getD d) w'->Q w' s'):
  wpAny (model X.prog X.w) A (call (.builtin "dict.get") [.ref a,u,r]) Q E s:=by
 rcases g with⟨kvs,k,e,ey,l⟩|⟨kvs,k,b,e,ey,eb,l⟩
 .subst ey
  have(z,hd,vs,rel,dd):=xD I.aE e;refine call_meetsIn PySem.F.slot_dict_get dd.typeIs PySem.F.entry_dict_get (PySem.F.args_dict_get_3 _ _ _) (meets_dict_get_default (eV X.prog X.w) a (BB ry) hd r) ⟨_,dd.mapOf,h _ _ (I.tok _) ?_⟩;rw[l];exact(rel.val k).getD rd
 .subst ey
  cases(show u=Value.ref b from ry);have(z,hd,xs,rel,dd):=rA I.cc I.aE e;refine call_meetsIn PySem.F.slot_dict_get dd.typeIs PySem.F.entry_dict_get (PySem.F.args_dict_get_3 _ _ _) (meetsH_dict_get_default (tupleKind<|eV X.prog X.w) a b hd r) ⟨tupleKind_room_in1 hu,k,xs,rH I.cc I.aE eb,dd,h _ _ (I.tok _) ?_⟩;rw[l];exact(rel.val k).getD rd
end
def FO(K:qe)(td ty tx:TE):TE:=λσ H Q=>td σ H λx H1=>∃ a,x=.ref a/\J4 H1 a/\ty σ H1 λy H2=>tx σ H2 λz H3=>∃ o,tG K H3 a y o/\Q (o.getD z) H3
section
variable{X:Cx}{f:Expr}{tx:TE}
theorem ZF(hu:X.A.units+1 < cLine)(ho:PE X o td)(he:PE X e ty)(hf:PE X f tx)(m:M2 X o "get" apos e f bj):PE X (.Call (.Attribute o "get" apos) [e,f] [] bj) (FO X.K td ty tx):=by
 intro pins s σ H Q I h;refine wpAny_Call_method m.base m.few m.line PySem.F.plainAttrs_dict PySem.F.slot_dict_get PySem.F.type_dict_get<|aH (ho pins s σ H _ I h) λu s1 hZ=>?_;have(x,H1,I1,rx,a,ex,d,q1):=hZ;subst ex;obtain rfl:u=Value.ref a:=rx;have(t1,t2,_):=zAp I1 d;refine⟨t1,t2,?_⟩;rw[m.trees];refine ê rfl<|Calls.evalArgs_plain<|Calls.spliced_cons (aH (he pins s1 σ H1 _ I1 q1) λiv s2 ⟨y,H2,I2,ry,q2⟩=>
  Calls.spliced_cons (aH (hf pins s2 σ H2 _ I2 q2) λfv s3 ⟨z,H3,I3,rz,ov,g,q3⟩=>Calls.spliced_nil ?_))
 exact zAq hu I3 g ry rz λw' s4 I4 j9=>⟨_,H3,I4,j9,q3⟩
end
section
variable{X:Cx}{kvs:Qa (Key×V)}
end
section
variable{X:Cx}{y:V}{u:Qc}
end
end L2
namespace T7
open PySem PySem.W PySem.Calls PyProof.Rows
theorem zii{P:Params}{h:Heap}:∀ (ns:List Int) (vs:List Value),WellAll P h vs (ns.map WData.int)->IntsAre vs ns:=by
 intro ns
 induction ns with
 | nil=>
  intro vs w;rw[List.map_nil]at w;cases w;exact .nil
 | cons n ns ih=>
  intro vs w;rw[List.map_cons]at w;cases w with
  | cons a b=>
   cases a;exact .cons _ _<|ih _ b
theorem ZR{l:OpenLaw}{n:Nat}(hn:l.most=some n){P:Params}{h:Heap}{args:List WData}{vals:List Value}
  (pW:l.row.toRowW.claim.pre args=true) (Jk:WellAll P h vals args):
  ∃ a vs ns,vals=[Value.ref a]/\args=[WData.list<|ns.map WData.int]/\h.get? a=some {cls:=.type "list",data:=.seq vs.toArray}/\IntsAre vs ns/\ns.length<=n:=by
 have Ag:WShape.hasAll [] args [.list .int]=true:=(pre_splitW pW).1;have hc:l.pre.holds [] {args:=args}=true:=(pre_splitW pW).2;have(d,r,rfl,h1,h2):=hasAllW_cons Ag;obtain rfl:=hasAllW_nil h2;have(xs,rfl,h3):=hasW_list h1;have(ns,rfl):=items_int h3;have hlen:ns.length<=n:=by
  unfold OpenLaw.pre at hc;have h4:(WTm.not<|.lt (.lit<|.int (n:Int))<|.len<|.arg 0).holds [] {args:=[.list<|ns.map .int]}=true:=by
   have h4:=(holds_andW hc).1;rw[hn]at h4;exact h4
  have h5:=condW_of h4 (w_not<|w_lt w_lit<|w_len_list<|w_arg rfl);rw[List.length_map]at h5;refine Nat.le_of_not_lt λq=>?_;have q':(n:Int) < ((ns.length:Nat):Int):=by omega
  first
   | (rw[decide_eq_true q']at h5; exact absurd h5 (by decide))
   | (simp at h5; omega)
 cases Jk with
 | cons w1 w2=>
  cases w2;cases w1 with
  | list ho u6=>exact⟨_,_,ns,rfl,rfl,ho,zii ns _ u6,hlen⟩
theorem ZQ(l:OpenLaw)(args:List WData):l.row.toRowW.claim.post args (.bool true) args=true :=
 postW_of (r:=l.row.toRowW) (X:=(true==true))
  (show WShape.has [] (.bool true) .bool=true by first|rfl|decide|simp[WShape.has,WShape.arms,WShape.armsAll])
  (show(WTm.eq .res<|.lit<|.bool true).value [] {args:=args,res:=some (.bool true),after:=args}=some (.bool<|true==true) from w_eq_bool (w_res rfl) w_lit) rfl
theorem ik{l:OpenLaw}{n:Nat}{q:Program}{loose:List Str}{XP:(Str->Option Value)->Heap->Prop}{YP:World->Heap->Prop}{d:DefRec}
  (hn:l.most=some n) (Av:d.params.defaults=[])
  (call:∀ (w:World) (bp aG:Shared) (mg mb:Str->Option Value) (fa:Addr) (o:Obj) (pm cd doc:Value) (a:Addr) (vs:List Value) (ns:List Int),
   Ground q loose [] XP w bp mg mb aG.heap->YP w aG.heap->
   aG.heap.get? fa=some o->o.data=.func (docDef d.name d.params d.body d.scope pm cd doc)->aG.heap.CodeRec cd d.name->mg d.name=some (.ref fa)->
   aG.heap.get? a=some {cls:=.type "list",data:=.seq vs.toArray}->IntsAre vs ns->ns.length<=n->aG.gens=#[]->
   codeAny (model l.prog w) callerA (.call (.ref fa) ⟨[.ref a],[]⟩) (λr s'=>r=.ok (.ret<|.bool true)/\OldK aG.heap s'.heap/\s'.os=aG.os/\AllBare s'.gens) aG):
  WalkO q loose XP YP l.row.toRowW d [] (λf vs=>PySem.call f vs):=by
 intro w bp aG mg mb G Y fa o pm cd doc dV kV ho hd kA hD Ak hg args vals as pW hlay hrd Jk hlo;obtain rfl:dV=.none:=Dflts.none hD Av;obtain rfl:kV=.none:=Dflts.noKw hD;have(a,vs,ns,rfl,rfl,uV,hints,hlen):=ZR hn pW Jk;refine enter_call<|codeAny_mono (call w bp aG mg mb fa o pm cd doc a vs ns G Y ho (fd_plain hd) kA Ak uV hints hlen hg) λr s' hq=>?_;have(rfl,h2,h3,h4):=hq;exact⟨.inl ⟨.bool true,.bool true,[],rfl,λ_=>rfl,.bool true,ZQ l _,λ_=>⟨List.Pairwise.nil,λ_ hm=>(nomatch hm)⟩⟩,h2,h3,h4⟩
section
variable{prog:Program} {w:World} {A:Around} {E:Value->Shared->Prop} {s:Shared} {K:Frag}
end
end T7
namespace L2
open PySem PySem.Spec PyProof.Rows
theorem Of:∀ {vs:Qa Qc} {ns:Qa Int},IntsAre vs ns->zW (ns.map V.int) vs
 | _,_,.nil=>.nil
 | _,_,.cons n t h=>.cons ⟨t,rfl⟩<|Of h
def A7(H:Hp):Prop:=∀ b,H b=none\/∃ o xs,H b=some (.aZ o<|.lst xs)
theorem ZE{mb:Str->Qb Qc}{CX:jN}{k:Nat}{fa:Qg}{aG:Qd}{vs:Qa Qc}
  (KX:K.In aG.heap) (Sy:aG.heap.Ns mainGlobals mg) (hb:aG.heap.Ns builtinsNs mb) (hbb:∀ x:Str,x ≠ "__name__"->mb x=bootBuiltins x) (JA:aG.heap.NoLimit) (hg:aG.gens=#[])
  (ha:aG.heap.get? a=some {cls:=.type "list",data:=.seq vs.toArray}) (hi:IntsAre vs ns) (hl:ns.length<=sizeLine) (hr:aM k callerA)
  (F:∀ base:Heap,K.In base->base.Ns mainGlobals mg->cL P w K mg base CX k fa fd [x] sp) (Az:∀ (s:Qd) (u:Qc),BindsTo s fd ⟨[u],[]⟩ [(x,u)])
  (nM:∀ H:Hp,A7 H->bu K H a (ns.map V.int)->sp [.ref a] H (λv _=>v=.bl true) λ_ _ _=>False)
  (JL:∀ H e s',CX [] H aG (λ_ _ _=>False) e s'->False):
  codeAny (model P w) callerA (.call (.ref fa) ⟨[.ref a],[]⟩) (λr s'=>r=.ok (.ret<|.bool true)/\OldK aG.heap s'.heap/\s'.os=aG.os/\AllBare s'.gens) aG:=by
 have rv:=Of hi;have I0:=hi.length;have core:∀ H:Hp,A7 H->bu K H a (ns.map V.int)->cK P w K H aG.heap->(∀ b,H b≠none->b=a)->(H a≠none->K.lookup a=none)->
   codeAny (model P w) callerA (.call (.ref fa) ⟨[.ref a],[]⟩) (λr s'=>r=.ok (.ret<|.bool true)/\OldK aG.heap s'.heap/\s'.os=aG.os/\AllBare s'.gens) aG:=by
  intro H hO hS aE hA hK;have jL:∀ {b:Qg} {o:Obj},aG.heap.get? b=some o->H b=none->(oJ aG.heap H).get? b=some o:=λe n=>zr6 e n;have yZ:∀ {b:Qg} {o:Obj} {es:Array DictEntry} {ep:Nat},aG.heap.get? b=some o->o.data=.dict es ep->H b=none:=λ{b o es ep} e d=>by
   cases q:H b with
   | none=>rfl
   | some u=>
    have e':b=a:=hA b (by rw[q]; simp);subst e';rw[ha]at e; cases e;have d':Data.seq vs.toArray _=Data.dict es ep:=d;cases d'
  have DP:∀ {b:Qg} {m:Str->Qb Qc},aG.heap.Ns b m->(oJ aG.heap H).Ns b m:=λ{b m} ⟨o,es,ep,e,d,r⟩=>⟨o,es,ep,jL e<|yZ e d,d,r⟩;have SQ:K.In (oJ aG.heap H):=λb o e=>jL (KX b o e) (by
   cases q:H b with
   | none=>rfl
   | some u=>
    have e':b=a:=hA b (by rw[q]; simp);subst e';rw[hK (by rw[q]; simp)]at e; cases e)
  have hM:Mod K mg (oJ aG.heap H):=⟨SQ,DP Sy,⟨mb,DP hb,hbb⟩,let ⟨mc,h1,h2⟩:=JA; ⟨mc,DP h1,h2⟩⟩;have e0:je P w K mg (oJ aG.heap H) callerA [] aG H:=⟨rfl,hM,λb o e=>Xx e,Ć<|Z3 _ _,trivial,λb hb=>absurd (show b∈([]:Qa Qg) from hb) (by simp),aE,.of_eq hg⟩;refine codeAny_mono ((F _ SQ<|DP Sy).run callerA [] aG H ⟨[.ref a],[]⟩ [.ref a] [.ref a] _ _ hr e0 (Az aG<|.ref a) (.cons rfl .nil)<|nM H hO hS) λr s' h=>?_;cases r with
  | error e=>exact(JL H e s' h).elim
  | ok fl=>
   cases fl with
   | next=>exact False.elim h
   | brk=>exact False.elim h
   | cont=>exact False.elim h
   | ret u=>
    have(v,H',os,bare,un,Jw,r',q):=h;have q':v=.bl true:=q;subst q';obtain rfl:u=Value.bool true:=r';refine⟨rfl,OldK.of_keep λb o e=>?_,os,bare⟩;cases q:H b with
    | none=>exact un.keep b o e q (by intro z; exact absurd (show b∈([]:Qa Qg) from z) (by simp)) (by simp)
    | some u=>
     rcases hO b with z|⟨ob,xs,z⟩
     .rw[q]at z; cases z
     .have z2:=un.eP b ob _ z
      have(e1,_):=aE b _ z;have(e2,_):=Jw b _ z2;rw[e]at e1; cases e1;exact e2
 cases hk:K.lookup a with
 | some o=>
  have e:=KX a o hk;rw[ha]at e;cases e;refine core (λ_=>none) (λ_=>.inl rfl) (.inr ⟨_,vs.toArray,_,hk,rfl,rfl,rfl,by rw[List.size_toArray,I0]; exact hl,by simpa using rv⟩) (λb u z=>by have z':(none:Qb HO)=some u:=z; cases z') (λb z=>absurd rfl z) λz=>absurd rfl z
 | none=>
  refine core (λb=>if b=a then some (.aZ {cls:=.type "list",data:=.seq vs.toArray}<|.lst<|ns.map V.int)else none) (λb=>?_) (.inl<|.inr ⟨{cls:=.type "list",data:=.seq vs.toArray},if_pos rfl⟩) (λb u z=>?_) (λb z=>?_) λ_=>hk
  .by_cases hb:b=a
   .exact .inr ⟨_,_,if_pos hb⟩
   .exact .inl (if_neg hb)
  .by_cases hb:b=a
   .have z':=(if_pos hb).symm.trans z
    cases z';subst hb;exact⟨ha,by rw[List.length_map]; exact hl,vs,_,rv,ha⟩
   .have z':=(if_neg hb).symm.trans z
    cases z'
  .by_cases hb:b=a
   .exact hb
   .exact absurd (if_neg hb) z
theorem pG{l:PySem.W.OpenLaw}{k:Nat}{q:Qe}{loose:Qa Str}{XP:(Str->Qb Qc)->Heap->Prop}{YP:Qh->Heap->Prop}{d:DefRec}{K:Params->qe}{CX:Qh->jN}{sp:Qh->Sp}
  (hn:l.most=some n) (D5:n<=sizeLine) (Av:d.params.defaults=[]) (hr:aM k callerA)
  (hY:∀ (w:Qh) (h:Heap),YP w h->(K w.params).In h)
  (F:∀ (w:Qh) (mg:Str->Qb Qc) (fa:Qg) (h:Heap),(K w.params).In h->h.Ns mainGlobals mg->mg d.name=some (.ref fa)->
   ∃ fd:FuncData,(∀ (s:Qd) (u:Qc),BindsTo s fd ⟨[u],[]⟩ [(x,u)])/\
    ∀ base:Heap,(K w.params).In base->base.Ns mainGlobals mg->cL l.prog w (K w.params) mg base (CX w) k fa fd [x] (sp w))
  (nM:∀ (w:Qh) (H:Hp) (a:Qg) (ns:Qa Int),ns.length<=n->A7 H->bu (K w.params) H a (ns.map V.int)->sp w [.ref a] H (λv _=>v=.bl true) λ_ _ _=>False)
  (JL:∀ (w:Qh) (H:Hp) (s:Qd) (e:Qc) (s':Qd),CX w [] H s (λ_ _ _=>False) e s'->False):
  PySem.W.WalkO q loose XP YP l.row.toRowW d [] (λf vs=>PySem.call f vs):=by
 refine T7.ik hn Av λw bp aG mg mb fa o pm cd doc a vs ns G Y ho hd kA Ak uV hints hlen hg=>?_;have KX:=hY w _ Y;have(fd,hb,hF):=F w mg fa _ KX G.T.g Ak;exact ZE KX G.T.g G.T.b G.T.builtins G.T.nolimit hg uV hints (qC hlen D5) hr hF hb (λH hO hS=>nM w H a ns hlen hO hS) λH e s'=>JL w H aG e s'
def ui(s:Stmt):Arguments:=match s with
 | .FunctionDef _ a _ _ _ _ _ _ _ _=>a
 | _=>{posonlyargs:=[],args:=[],vararg:=none,kwonlyargs:=[],kw_defaults:=[],kwarg:=none,defaults:=[]}
def lL(s:Stmt):Qa Stmt:=match s with
 | .FunctionDef _ _ b _ _ _ _ _ _ _=>b
 | _=>[]
def fU(s:Stmt):Scope:=match s with
 | .FunctionDef _ _ _ _ _ _ sc _ _ _=>sc
 | _=>{kind:=.function,names:=[],isGenerator:=false,isCoroutine:=false}
abbrev jg:jN:=λ_ _ _ _ _ _=>False
abbrev E0:XK:=λ_ _ _=>False
theorem KU{X:Cx}:xW jg X E0:=λ_ _ _ _ _ _ _ h=>h.elim
structure kH (K:qe) (x qual:Str) (st:Stmt) (f:Qg) (fd:FuncData):Prop where
 ex:∃ (oc:Qc) (od:Qb Qg) (kV doc pm:Qc) (an:Qb Qg) (bT ct:Qc) (pM:Array (Qb Qc)),
  fd=PySem.W.fnOf x qual (ui st) (lL st) (fU st) .none kV doc pm an bT ct/\K.lookup f=some ⟨oc,od,.func fd,pM⟩/\PySem.W.codeIn K bT qual=true
 kp:PySem.W.keepIn K (.ref f)=true
section
variable{base:Heap}
theorem kH.ok{f:Qg}{k:Nat}(F:kH K x qual st f fd)(S:bV N ps (fU st))(len:∀ vs H Q E,sp vs H Q E->vs.length=ps.length)
  (cH:∀ (bT:Qc) (A:Qf) (outer:Qa Env) (s:Qd) (H:Hp) (vs:Qa V) (Q:VK) (E:XK),aM k (A.deeper<|envOfC qual (fU st) s.heap.objs.size f bT)->sp vs H Q E->
   ∃ t,fm (oG jg P w K mg base N qual (fU st) f bT A outer s H E).uI (lL st) t/\t {nx:=λ_ H'=>Q .aP H',rt:=Q} (gQ N vs) H):cL P w K mg base jg (k+1) f fd ps sp:=by
 have(oc,od,kV,doc,pm,an,bT,ct,pM,rfl,lk,kA):=F.ex;refine zB9 lk kA S len λA outer s H vs Q E hr nM=>?_;have(t,h,q):=cH bT A outer s H vs Q E hr nM;exact⟨t,h.uI,q⟩
theorem kH.binds{f:Qg}(F:kH K x qual st f fd)
  (h:∀ (kV doc pm:Qc) (an:Qb Qg) (bT ct:Qc) (us:Qa Qc),us.length=ps.length->bindArgs (PySem.W.fnOf x qual (ui st) (lL st) (fU st) .none kV doc pm an bT ct) ⟨us,[]⟩=pure (ps.zip us)):m5 K fd ps []:=by
 have(oc,od,kV,doc,pm,an,bT,ct,pM,rfl,lk,kA):=F.ex;exact .all<|h kV doc pm an bT ct
theorem LP{f:Qg}{oc:Qc}{od an:Qb Qg}{kV doc pm bT ct:Qc}(l:K.lookup f=some ⟨oc,od,.func<|PySem.W.fnOf x qual (ui st) (lL st) (fU st) .none kV doc pm an bT ct,pM⟩)
  (c:PySem.W.codeIn K bT qual=true) (k:PySem.W.keepIn K (.ref f)=true):kH K x qual st f (PySem.W.fnOf x qual (ui st) (lL st) (fU st) .none kV doc pm an bT ct):=⟨⟨oc,od,kV,doc,pm,an,bT,ct,pM,rfl,l,c⟩,k⟩
end
theorem xC{k:Nat}(hr:aM k A):A.units+1 < cLine:=Å (Nat.add_le_add_left (by decide:1<=64) _) hr.units
section
variable{X:Cx}
theorem pv(i:Nat)(hN:X.N[i]?=some x:=by rfl)(hv:Ej X.env.scope x:=by first|exact Or.inl rfl|exact Or.inr (Or.inl rfl) | exact Or.inr<|Or.inr rfl)(hd:(x==("__debug__":Str))=false:=by decide)
  (kA:(x==("__classdict__":Str))=false:=by decide):PE X (.Name x pos) (iA i):=UI hN hv hd kA
end
def cN(H H':Hp):Prop:=∀ b o,H b=some o->H' b=some o
theorem cN.refl(H:Hp):cN H H:=λ_ _ h=>h
theorem cN.seq(e:cN H H')(h:bu K H a xs):bu K H' a xs:=by
 rcases h with (h|⟨o,h⟩) | h
 .exact .inl (.inl<|e _ _ h)
 .exact .inl (.inr ⟨o,e _ _ h⟩)
 .exact .inr h
section
variable{X:Cx}
end
section
variable[DecidableEq κ]
end
end L2
set_option maxHeartbeats 4000000
namespace L2
open PySem PySem.Spec PyProof.Rows
inductive aW (X:Cx):Qa (Str×Qg)->Qa Str->Qa Nat->Prop where
 | nil:aW X [] [] []
 | cons {x:Str} {c:Qg} {j:Nat} {cl:Qa (Str×Qg)} {xs:Qa Str} {js:Qa Nat} (hN:X.N[j]?=some x) (hk:X.env.scope.names.lookup x=some .cell\/X.env.scope.names.lookup x=some .free)
   (hc:X.env.cells.lookup x=some c) (t:aW X cl xs js):aW X ((x,c)::cl) (x::xs) (j::js)
def zX(X:Cx)(scope:Scope)(cl:Qa (Str×Qg))(Nc:Qa Str)(C:Qg)(s:Qd)(H:Hp)(ex:Qa Qg):Cx :=
 {X with bp:=s,aA:=H,env:=compEnvC scope (cellsFrom (C+1) scope.names cl) C X.env,N:=Nc,outer:=X.stack,stack:=X.stack,ex:=ex,fn:=λx=>scope.names.lookup x==some .cell,pn:=[],xe:=λ_ _=>False}
def c0(nt:Nat)(js:Qa Nat)(σ:St):St:=List.replicate nt none++js.map λj=>σ.getD j none
def Wk(a b:St):Prop:=a.length=b.length/\∀ (i:Nat) (v:V),a[i]?=some (some v)->b[i]?=some (some v)
theorem zAr{a:St}{x:Qb V}(h:a[i]?=some none):Wk a (a.set i x):=by
 refine⟨by simp,λj v e=>?_⟩;have ne:i≠j:=by intro z; rw[z,e]at h; cases h
 rw[qF ne];exact e
theorem Gr(h:i < nt):(c0 nt js σ)[i]?=some none:=by
 unfold c0;rw[List.getElem?_append_left (by simpa using h),List.getElem?_replicate,if_pos h]
theorem rR{X:Cx}{xs:Qa Str}(f:aW X cl xs js):∀ x c,cl.lookup x=some c->X.env.cells.lookup x=some c:=by
 induction f with
 | nil=>intro x c e; cases e
 | @cons y d j cl xs js hN hk hc t ih=>
  intro x c e;rw[List.lookup_cons]at e
  by_cases q:x=y
  .subst q
   rw[beq_self_eq_true]at e;injection e with e1;rw[<-e1];exact hc
  .rw[beq_eq_false_iff_ne.mpr q]at e
   exact ih x c e
theorem Oe{X:Cx}{xs:Qa Str}(f:aW X cl xs js):∀ x,x∈xs->∃ c,cl.lookup x=some c:=by
 induction f with
 | nil=>intro x m; cases m
 | @cons y d j cl xs js hN hk hc t ih=>
  intro x m;rw[List.lookup_cons]
  by_cases q:x=y
  .subst q
   rw[beq_self_eq_true];exact⟨d,rfl⟩
  .rw[beq_eq_false_iff_ne.mpr q]
   rcases qy.mp m with z|z
   .exact absurd z q
   .exact ih x z
theorem ZD{X:Cx}{xs:Qa Str}(f:aW X cl xs js):∀ (i:Nat) (x:Str) (σ:St) (v:V),xs[i]?=some x->(js.map λj=>σ.getD j none)[i]?=some (some v)->
  ∃ j:Nat,X.N[j]?=some x/\σ[j]?=some (some v)/\(X.env.scope.names.lookup x=some .cell\/X.env.scope.names.lookup x=some .free)/\(∃ c,X.env.cells.lookup x=some c):=by
 induction f with
 | nil=>intro i x σ v e; simp at e
 | @cons y d j cl xs js hN hk hc t ih=>
  intro i x σ v e1 e2;cases i with
  | zero=>
   simp only[List.getElem?_cons_zero,Option.some.injEq]at e1;subst e1;refine⟨j,hN,?_,hk,d,hc⟩;simp only[List.map_cons,List.getElem?_cons_zero,Option.some.injEq]at e2;rw[qE]at e2;cases q:σ[j]? with
   | none=>rw[q]at e2; cases e2
   | some o=>rw[q]at e2; simp at e2; rw[e2]
  | succ i=>
   exact ih i x σ v (by simpa using e1) (by simpa using e2)
theorem HG:∀ {names:Qa (Str×NameKind)} {x:Str} {k:NameKind},
  (names.map λ(n,k)=>if(k==NameKind.free && env.scope.kind==.function && env.kindOf n==some .cell)then(n,NameKind.cell)else(n,k)).lookup x=some k->
  ∃ k0,names.lookup x=some k0/\(x,k0)∈names/\(k=k0\/(k0=.free/\k=.cell)):=by
 intro names
 induction names with
 | nil=>intro x k e; cases e
 | cons p r ih=>
  intro x k e;have(n,kn):=p
  by_cases q:x=n
  .subst q
   refine⟨kn,by rw[List.lookup_cons,beq_self_eq_true],qr,?_⟩;rw[List.map_cons]at e;change List.lookup x ((if(kn==NameKind.free && env.scope.kind==.function && env.kindOf x==some .cell)=true then(x,NameKind.cell)else(x,kn))::_)=_ at e
   by_cases hh:(kn==NameKind.free && env.scope.kind==.function && env.kindOf x==some .cell)=true
   .rw[if_pos hh,List.lookup_cons,beq_self_eq_true]at e
    injection e with e1;refine .inr ⟨?_,e1.symm⟩;simp only[Bool.and_eq_true]at hh;exact by simpa using hh.1.1
   .rw[if_neg hh,List.lookup_cons,beq_self_eq_true]at e
    injection e with e1;exact .inl e1.symm
  .rw[List.map_cons]at e
   change List.lookup x ((if(kn==NameKind.free && env.scope.kind==.function && env.kindOf n==some .cell)=true then(n,NameKind.cell)else(n,kn))::_)=_ at e;have e':(r.map λ(n,k)=>if(k==NameKind.free && env.scope.kind==.function && env.kindOf n==some .cell)then(n,NameKind.cell)else(n,k)).lookup x=some k:=by
    by_cases hh:(kn==NameKind.free && env.scope.kind==.function && env.kindOf n==some .cell)=true
    .rw[if_pos hh,List.lookup_cons,beq_eq_false_iff_ne.mpr q]at e
     exact e
    .rw[if_neg hh,List.lookup_cons,beq_eq_false_iff_ne.mpr q]at e
     exact e
   have(k0,h1,h2,h3):=ih e';refine⟨k0,by rw[List.lookup_cons,beq_eq_false_iff_ne.mpr q]; exact h1,qq _ h2,h3⟩
theorem ZP{X:Cx}{xs:Qa Str}(f:aW X cl xs js):js.length=xs.length:=by
 induction f with
 | nil=>rfl
 | cons _ _ _ _ ih=>simp[ih]
structure qJ (scope:Scope) (xs:Qa Str):Prop where
 kind:scope.kind=.function
 cell:∀ y∈scope.names,y.2=.cell->scope.names.lookup y.1=some .cell
 names:∀ y∈scope.names,y.2=.local->scope.names.lookup y.1=some .local
 free:∀ y∈scope.names,y.2=.free->y.1∈xs
 fk:∀ x∈xs,scope.names.lookup x=some .free
theorem nj:∀ (ns:Qa (Str×NameKind)) (n:Nat) (acc:Qa (Str×Qg)),cellsFrom n ns acc=cellsFrom n ns []++acc
 | [],_,_=>rfl
 | (x,k)::r,n,acc=>by
  unfold cellsFrom;split
  .rw[nj r (n+1)<|(x,n)::acc,nj r (n+1) [(x,n)],List.append_assoc]
   rfl
  .exact nj r n acc
theorem FL:∀ (ns:Qa (Str×NameKind)) (n:Nat) {x:Str} {c:Qg},(x,c)∈cellsFrom n ns []->(x,NameKind.cell)∈ns
 | [],_,_,_,h=>by cases h
 | (y,k)::r,n,x,c,h=>by
  unfold cellsFrom at h;split at h
  .rename_i hk
   rw[nj,List.mem_append]at h;rcases h with h|h
   .exact qq _ (FL r _ h)
   .cases qu.mp h
    cases eq_of_beq hk;exact qr
  .exact qq _ (FL r _ h)
theorem BO:∀ (ns:Qa (Str×NameKind)) (n:Nat) {x:Str},(x,NameKind.cell)∈ns->∃ c,(cellsFrom n ns []).lookup x=some c
 | [],_,_,h=>by cases h
 | (y,k)::r,n,x,h=>by
  unfold cellsFrom;rcases qy.mp h with e|h'
  .cases e
   rw[if_pos (by rfl:(NameKind.cell==NameKind.cell)=true),nj,List.lookup_append];cases(cellsFrom (n+1) r []).lookup y with
   | none=>exact⟨n,by rw[List.lookup_cons,beq_self_eq_true]; rfl⟩
   | some c=>exact⟨c,rfl⟩
  .split
   .have(c,e):=BO r (n+1) h'
    rw[nj,List.lookup_append,e];exact⟨c,rfl⟩
   .exact BO r n h'
theorem wu{ns:Qa (Str×NameKind)}{acc:Qa (Str×Qg)}{c:Qg}(h:(cellsFrom n ns acc).lookup x=some c):(cellsFrom n ns []).lookup x=some c\/(acc.lookup x=some c/\(cellsFrom n ns []).lookup x=none):=by
 rw[nj,List.lookup_append]at h;cases e:(cellsFrom n ns []).lookup x with
 | none=>rw[e]at h; exact .inr ⟨h,rfl⟩
 | some d=>rw[e]at h; exact .inl h
theorem KG{ns:Qa (Str×NameKind)}{acc:Qa (Str×Qg)}{c:Qg}(h:(cellsFrom n ns []).lookup x=some c):(cellsFrom n ns acc).lookup x=some c:=by
 rw[nj,List.lookup_append,h];rfl
theorem NP{M:Model}{globals:Qg}{bs:Qg}{Q:Env->Qd->Prop}
  (hQ:∀ h1,h1.Ns s.heap.objs.size (λ_=>none)->(∀ b o,s.heap.get? b=some o->h1.get? b=some o)->CellsOk h1 (s.heap.objs.size+1) (cellsFrom (s.heap.objs.size+1) scope.names [])->
   Q (newEnv scope s.heap.objs.size globals (cellsFrom (s.heap.objs.size+1) scope.names cl) qual none .none (some env) bs) {s with heap:=h1}):
  wpAny M A (newFunctionEnv scope globals cl [] qual none .none (some env) bs) Q E s:=by
 simp only[newFunctionEnv,Option.isSome_some,if_true];refine qc<|wpAny_alloc ?_;refine qc<|wpAny_layCells _ (λname kind cells=>by cases hkc:kind==NameKind.cell<;>simp[hkc]) _ _ _ _ ?_;have ok:=cellsFrom_ok scope.names (s.heap.push {cls:=.type "dict",data:=.dict #[]}) (s.heap.objs.size+1) [] ⟨λ_ _ hm=>(nomatch hm),List.Pairwise.nil⟩ (by rw[Heap.size_push]; exact qg _);rw[Heap.size_push]at ok;rw[show({s with heap:=s.heap.push {cls:=.type "dict",data:=.dict #[]}}:Qd).heap.objs.size=s.heap.objs.size+1 from Heap.size_push ..];rw[List.forIn_nil];exact qc<|qd<|qd<|hQ _ ((Heap.Ns.new s.heap<|.type "dict").keeps<|pushCells_keeps _ _) (λb o e=>pushCells_keeps _ _ b o<|qf _ e) ok
section
variable{X:Cx}{xs:Qa Str}{ts:Qa Str}{C:Qg}
theorem Gq{hx:Heap}(I:Inv X pins σ H s)(S:qJ scope xs)(f:aW X cl xs js)(ck:CellsOk hx (C+1) (cellsFrom (C+1) scope.names []))(hC:s.heap.objs.size<=C)(hf:∀ b∈fp,fQ X pins H b)(hl:∀ b∈fp,b < s.heap.objs.size):
  (zX X scope cl (ts++xs) C s H fp).Ok where
 mod:=I.ok.mod
 kind:=S.kind
 glob:=I.ok.glob
 blt:=I.ok.blt
 above:=hC
 inj:=λx y c e1 e2=>by
  have no:∀ {x y:Str},(cellsFrom (C+1) scope.names []).lookup x=some c->cl.lookup y=some c->False:=λz1 z2=>by
   have(v,o,q,_):=I.cell _ c (rR f _ c z2);have q1:=qj q;have q2:=(ck.empty _ _<|mem_of_lookup z1).2;exact Ë _<|qk q1<|qC hC<|qC (Nat.le_succ C) q2
  rcases wu e1 with z1|⟨z1,_⟩<;>rcases wu e2 with z2|⟨z2,_⟩
  .exact name_of_addr ck.apart (mem_of_lookup z1) (mem_of_lookup z2)
  .exact(no z1 z2).elim
  .exact(no z2 z1).elim
  .exact I.ok.inj x y c (rR f x c z1) (rR f y c z2)
 has:=λx h=>by
  have z:∃ k0,scope.names.lookup x=some k0/\(x,k0)∈scope.names/\(k0=NameKind.free\/k0=NameKind.cell):=by
   rcases h with h|h
   .have(k0,h1,h2,h3):=HG (env:=X.env) (names:=scope.names) h
    rcases h3 with h3|h3
    .exact⟨k0,h1,h2,.inr h3.symm⟩
    .exact⟨k0,h1,h2,.inl h3.1⟩
   .have(k0,h1,h2,h3):=HG (env:=X.env) (names:=scope.names) h
    rcases h3 with h3|h3
    .exact⟨k0,h1,h2,.inl h3.symm⟩
    .cases h3.2
  have(k0,_,h2,h3):=z;show ∃ c,(cellsFrom (C+1) scope.names cl).lookup x=some c;rcases h3 with h3|h3
  .have(c,e):=Oe f x (S.free _ h2 h3)
   rw[nj,List.lookup_append,e];cases(cellsFrom (C+1) scope.names []).lookup x with
   | none=>exact⟨c,rfl⟩
   | some d=>exact⟨d,rfl⟩
  .subst h3
   have(c,e):=BO scope.names (C+1) h2;exact⟨c,KG e⟩
 xg:=λx c h e=>by
  have(d,q):=BO scope.names (C+1) (mem_of_lookup<|eq_of_beq h);have e':(cellsFrom (C+1) scope.names cl).lookup x=some c:=e;rw[KG q]at e';cases e';have:=(ck.empty _ _<|mem_of_lookup q).2;show s.heap.objs.size<=c;omega
 hd:=I.ok.hd
 frames:=I.ok.frames
 yO:=.inl rfl
 AH:=λb hb=>⟨ql<|qk (hl b hb) hC,λx c e=>by
  rcases wu e with z|⟨z,_⟩
  .have q1:=(ck.empty _ _<|mem_of_lookup z).2
   exact Nat.ne_of_gt<|qk (hl b hb)<|qC hC<|qC (Nat.le_succ C) q1
  .exact(hf b hb).2.2.2.2.1 x c (rR f x c z)⟩
 bs:=I.bs
 nY:=qC I.ok.nY I.sz
 kj:=λb o e hb=>by
  rcases(hf b hb).2.2.2.1 with z|z
  .exact I.ok.kj b o e z
  .exact absurd (qk (qj (I.ok.bs b o e).1) z) (Ë _)
 mE:=λb hb z=>by
  rcases qy.mp (I.fG b z)with q|q
  .exact(hf b hb).2.1 q
  .exact(hf b hb).2.2.1 q
 eE:=I.stack
 sP:=I.jw
theorem NN{m:Str->Qb Qc}{h1:Heap}{tk:Nat}(I:Inv X pins σ H s)(S:qJ scope xs)(f:aW X cl xs js)(iF:ts.length=nt)(hC:s.heap.objs.size<=C)(hf:∀ b∈fp,fQ X pins H b)(hl:∀ b∈fp,b < s.heap.objs.size)
  (hk:∀ b o,s.heap.get? b=some o->h1.get? b=some o) (hn:h1.Ns C m) (ck:CellsOk h1 (C+1) (cellsFrom (C+1) scope.names [])):Inv (zX X scope cl (ts++xs) C s H fp) [] (c0 nt js σ) H {s with heap:=h1,toks:=tk} where
 ok:=Gq I S f ck hC hf hl
 os:=rfl
 bare:=I.bare
 base:=Un.kept hk
 loc:=by
  refine⟨m,hn,λi x v e1 e2 e3=>?_⟩;have hi:nt<=i:=by
   rcases ß i nt with z|z
   .rw[Gr z]at e2; cases e2
   .exact z
  have Ef:xs[i - nt]?=some x:=by
   have z:(ts++xs)[i]?=some x:=e1;rw[List.getElem?_append_right (by omega),iF]at z;exact z
  have e2':(js.map λj=>σ.getD j none)[i - nt]?=some (some v):=by
   unfold c0 at e2;rw[List.getElem?_append_right (by simpa using hi),List.length_replicate]at e2;exact e2
  have(j,hN,hσ,SE,c,hc):=ZD f (i - nt) x σ v Ef e2';have(m0,_,Am):=I.loc;have(u,r,lk):=Am j x v hN hσ (.inr SE);refine⟨u,r,.inr ⟨?_,?_⟩⟩
  .rcases e3 with z|z|z
   .have hx:x∈xs:=Ì Ef
    have(k0,h1,h2,h3):=HG (env:=X.env) (names:=scope.names) z;have q:=S.fk x hx;rw[h1]at q;cases q;rcases h3 with h3|h3
    .cases h3
    .cases h3.2
   .exact .inl z
   .exact .inr z
  .have(c',kC):=Oe f x (Ì Ef)
   have no:(cellsFrom (C+1) scope.names []).lookup x=none:=by
    cases e:(cellsFrom (C+1) scope.names []).lookup x with
    | none=>rfl
    | some d=>
     have z:=S.cell _ (FL _ _<|mem_of_lookup e) rfl;rw[S.fk x<|List.mem_of_getElem? Ef]at z;cases z
   refine⟨c',?_,?_⟩
   .show(cellsFrom (C+1) scope.names cl).lookup x=some c'
    rw[nj,List.lookup_append,no,kC];rfl
   have q:=rR f x c' kC;rcases lk with⟨l1,_⟩|⟨_,c'',l2,l3⟩
   .exfalso
    have Sl:X.env.scope.names.lookup x=some .local:=l1;rcases SE with z|z<;>rw[z]at Sl<;>cases Sl
   .rw[q]at l2
    cases l2;exact l3.keeps hk
 cell:=λx c e=>by
  rcases wu e with z|⟨z,_⟩
  .exact⟨_,(ck.empty _ _<|mem_of_lookup z).1⟩
  .have(v,z):=I.cell x c (rR f x c z)
   exact⟨v,z.keeps hk⟩
 free:=I.aE.fresh hC
 cj:=λx c e=>by
  rcases wu e with z|⟨z,_⟩
  .exact I.aE.fresh (by have:=(ck.empty _ _<|mem_of_lookup z).2; omega)
  .exact I.cj x c (rR f x c z)
 pin:=λp hp=>by cases hp
 aE:=I.aE.kept hk
 len:=by
  show(c0 nt js σ).length=(ts++xs).length;unfold c0;rw[qw,qw,List.length_replicate,List.length_map,iF];rw[ZP f]
theorem Od{o:HO}(x:cK P w K H h)(hn:H a=none)(new:bW P w K (upd H a o) h a o):cK P w K (upd H a o) h:=λb u e=>by
 by_cases hb:b=a
 .subst hb; rw[zy]at e; cases e; exact new
 .rw[zD hb]at e
  exact(x b u e).eM (λ_ _ _ q=>q) (λc q=>(zD<|gR q hn).trans q) λc ys q=>(zD<|gR q hn).trans q
theorem NM{fs ex:Qa Qg}{H1:Hp}{h1:Heap}{o:HO}(u:Un fs ex H H1 h h1)(hn:H1 a=none)(ha:h.objs.size<=a):Un fs ex H (upd H1 a o) h h1 where
 keep:=u.keep
 slot:=u.slot
 free:=λb ob q n hx=>(zD<|ql<|qk (qj q) ha).trans (u.free b ob q n hx)
 there:=u.there
 fF:=λb ys q=>(zD<|gR (u.fF b ys q) hn).trans (u.fF b ys q)
 eP:=λb ob ys q=>(zD<|gR (u.eP b ob ys q) hn).trans (u.eP b ob ys q)
 fW:=λb ps q=>by
  have(more,e):=u.fW b ps q;exact⟨more,(zD<|gR e hn).trans e⟩
def lA(X:Cx)(ifs:Qa Expr)(t:TT):Prop :=
 ∀ (pins:Qa (Qg×Obj)) (s:Qd) (σ:St) (H:Hp) (Q:Bool->Hp->Prop),Inv X pins σ H s->t σ H Q->
  wpAny (model X.prog X.w) X.A (forIn ifs true λc r=>if r=true then do let ok <-isTrue c X.env (eval c X.env); pure (ForInStep.yield ok)else pure (ForInStep.yield r)) (TP X pins σ Q) X.xe s
def HZ:TT:=λ_ H Q=>Q true H
theorem ZC{X:Cx}:lA X [] HZ:=λ_ _ _ H _ I h=>wpAny_tests_nil ⟨H,I,h⟩
theorem ZA{X:Cx}{c:Expr}{t:TT}(h:PT X c t):lA X [c] t:=λpins s σ H Q I q=>wpAny_tests_one<|h pins s σ H Q I q
theorem tE{t:Sem α}{Q Q':α->Qd->Prop}{M:Model}(h:wpAny M A t Q (λ_ _=>False) s)(hQ:∀ a s,Q a s->Q' a s):wpAny M A t Q' E s:=wpAny_mono h hQ λ_ _ x=>x.elim
theorem zoh{target:Expr}{it acc:Qc}(I:Nat->Qd->Prop)
  (turn:∀ n s,I n s->∀ E,wpAny (model prog w) A (pyNext it) (λr s1=>match r with
   | none=>R (.ok .next) s1
   | some v=>wpAny (model prog w) A (letOwnedTupleGo target it v) (λ_ s2=>wpAny (model prog w) A (assign target env v) (λ_ s3=>
     wpAny (model prog w) A (forIn ifs true λc r=>if r=true then do let ok <-isTrue c env (eval c env); pure (ForInStep.yield ok)else pure (ForInStep.yield r)) (λok s4=>
      (ok=true->wpAny (model prog w) A (eval elt env) (λx s5=>wpAny (model prog w) A (call (.builtin "list.append") [acc,x]) (λ_ s6=>∃ m,m < n/\I m s6) E s5) E s4)/\
      (ok=false->∃ m,m < n/\I m s4)) E s3) E s2) E s1) E s)
  (n:Nat) (h:I n s):codeAny (model prog w) A (.compLoop (.ListComp elt [⟨target,iter,ifs,0⟩] scope pos) 0 it acc env) R s:=by
 refine codeAny_loop rfl I (λn s hI=>?_) n h;show wpAny _ A ((compTurn _ 0 it acc env).onRaise (λx=>do noteFrame x env; theTreesLotGoes x)) _ _ s;refine wpAny_noted ?_;rw[compTurn_list];refine qc<|wpAny_standAt<|qc<|wpAny_mono (turn n s hI _) (λr s1 h1=>?_) λ_ _ z=>z;cases r with
 | none=>exact qd h1
 | some v=>
  refine qc<|wpAny_mono h1 (λ_ s2 h2=>?_) λ_ _ z=>z;refine qc<|wpAny_mono h2 (λ_ s3 h3=>?_) λ_ _ z=>z;refine qc<|wpAny_mono h3 (λok s4 h4=>?_) λ_ _ z=>z;cases ok with
  | false=>exact qd ⟨rfl,h4.2 rfl⟩
  | true=>
   refine qc<|qc<|wpAny_mono (h4.1 rfl) (λx s5 h5=>?_) λ_ _ z=>z;exact qc<|wpAny_mono h5 (λ_ s6 h6=>qd<|qd ⟨rfl,h6⟩) λ_ _ z=>z
def RM(J:It)(jO:St)(g:TG)(tt:TT)(te:TE)(Z:Qa V->Hp->Prop)(H1:Hp):Prop :=
 ∃ W:Nat->Nat->Qa V->Hp->Prop,(∃ m,W 0 m [] H1)/\∀ i m ys H,W i m ys H->
  (J.stop i H/\Z ys H)\/(J.go i H/\ys.length < sizeLine/\∃ N:Qa V->Hp->Prop,(∀ pF H',N pF H'->∃ m',m' < m/\W (i+1) m' pF H')/\
   ∀ x H',J.wJ i H x H'->g x jO H' λft H2=>tt ft H2 λb H3=>if b=true then te ft H3 λy H4=>N (ys++[y]) H4 else N ys H3)
def GW(jO:St)(g:TG):Prop:=∀ x H (Q:St->Hp->Prop),g x jO H Q->g x jO H λft H2=>Wk jO ft/\Q ft H2
theorem OZ{J:It}{Z:Qa V->Hp->Prop}
  (hc:X.calm=true) (I:Inv X pins σ H s) (S:qJ scope xs) (f:aW X cl xs js) (iF:ts.length=nt) (T:Turn X.prog X.w X.K tg J fp it tn) (st:tn 0 s.heap) (hf:∀ b∈fp,fQ X pins H b)
  (hg:∀ C s H ex,PG (zX X scope cl (ts++xs) C s H ex) tg g) (ht:∀ C s H ex,lA (zX X scope cl (ts++xs) C s H ex) ifs tt) (he:∀ C s H ex,PE (zX X scope cl (ts++xs) C s H ex) elt te)
  (gw:GW (c0 nt js σ) g) (h:RM J (c0 nt js σ) g tt te Z H)
  (JI:∀ (D C:Qg) (m:Str->Qb Qc) (s':Qd) (ys:Qa V) (H':Hp),Z ys H'->H' D=none->Inv X pins σ (upd H' D<|.lst ys) s'->s'.heap.Ns C m->upd H' D (.lst ys) C=none->C≠X.env.locals->
   (∀ x c,X.env.cells.lookup x=some c->c≠C)->X.bp.heap.objs.size<=C->(∀ p∈X.pn++pins,p.1≠C)->RR (.ref D) C (.ok .next) s'):
  wpAny (model X.prog X.w) X.A (newList []) (λacc s3=>wpAny (model X.prog X.w) X.A (newFunctionEnv scope X.env.globals cl [] X.env.qual none .none<|some X.env) (λmJ s4=>
   codeAny (model X.prog X.w) X.A (.compStart (.ListComp elt [⟨tg,iter,ifs,0⟩] scope pos) 0 (.ref it) acc {mJ with scope:=relabel scope X.env}) (RR acc mJ.locals) s4) E s3) E s:=by
 refine qD<|NP λh1 sL i4 ck=>?_;dsimp only at sL i4 ck ⊢;generalize JJ:s.heap.push {cls:=.type "list",dict:=none,data:=.seq ([]:Qa Qc).toArray}=G at sL i4 ck ⊢;have nR:G.objs.size=s.heap.objs.size+1:=by rw[<-JJ,Heap.size_push]
 have hC:s.heap.objs.size<=G.objs.size:=by rw[nR]; exact Nat.le_succ _
 have SR:s.heap.objs.size≠G.objs.size:=by rw[nR]; exact ql<|Ý _
 have hl:∀ b∈fp,b < s.heap.objs.size:=λb hb=>by
  have(o,e,_):=T.obj _ _ st b hb;exact qj e
 have old:∀ b o,s.heap.get? b=some o->h1.get? b=some o:=λb o e=>
  i4 b o (JJ▸qf _ e)
 have hD1:h1.get? s.heap.objs.size=some {cls:=.type "list",data:=.seq ([]:Qa Qc).toArray}:=i4 _ _ (JJ▸qi _ rfl);have J0:Inv (zX X scope cl (ts++xs) G.objs.size s H fp) [] (c0 nt js σ) H {s with heap:=h1}:=NN (tk:=s.toks) I S f iF hC hf hl old sL ck;obtain⟨W,⟨m0,w0⟩,turn⟩:=h;have kR:tn 0 h1:=T.keep _ _ _ st λb hb o e=>old b o e;have JK:H s.heap.objs.size=none:=I.aE.fresh (qg _);have AU:∀ b∈fp,s.heap.objs.size≠b:=λb hb z=>absurd (hl b hb) (by rw[<-z]; exact Ë _);have vg:∀ {H':Hp} {pl:Qa (Qg×Obj)},(∀ b∈fp,H' b=none)->(∀ p∈pl,p.1=s.heap.objs.size)->∀ b∈fp,fQ (zX X scope cl (ts++xs) G.objs.size s H fp) pl H' b:=λ{H' pl} hn hp b hb=>by
  refine⟨hn b hb,ql<|qk (hl b hb) hC,λz=>?_,.inl hb,λx c e=>((Gq I S f ck hC hf hl (ts:=ts)).AH b hb).2 x c e,λp Jt z=>?_⟩
  .rcases qy.mp (I.fG b z)with q|q
   .exact(hf b hb).2.1 q
   .exact(hf b hb).2.2.1 q
  .rcases Ï.mp Jt with q|q
   .cases q
   .exact AU b hb ((hp p q).symm.trans z)
 have loop:codeAny (model X.prog X.w) X.A (.compLoop (.ListComp elt [⟨tg,iter,ifs,0⟩] scope pos) 0 (.ref it) (.ref s.heap.objs.size)<|compEnvC scope (cellsFrom (G.objs.size+1) scope.names cl) G.objs.size X.env) (RR (.ref s.heap.objs.size) G.objs.size)
   {s with heap:=h1}:=by
  refine zoh (λn s'=>∃ i ys ah nn H',Inv (zX X scope cl (ts++xs) G.objs.size s H fp) [] (c0 nt js σ) H' s'/\tn i s'.heap/\(∀ b∈fp,H' b=none)/\H' s.heap.objs.size=none/\
   s'.heap.get? s.heap.objs.size=some {cls:=.type "list",data:=.seq (List.toArray ah) nn}/\zW ys ah/\ys.length<=sizeLine/\W i n ys H') ?_ m0
   ⟨0,[],[],0,H,J0,kR,λb hb=>(hf b hb).1,JK,hD1,.nil,Ç _,w0⟩
  rintro n s3 ⟨i,ys,ah,nn,H3,I3,rW,sQ,d3,o3,r3,z3,w3⟩ E';have nX:s.heap.objs.size≠(zX X scope cl (ts++xs) G.objs.size s H fp).env.locals:=SR;have T1:Inv (zX X scope cl (ts++xs) G.objs.size s H fp) [(s.heap.objs.size,{cls:=.type "list",data:=.seq ah.toArray nn})] (c0 nt js σ) H3 s3:=I3.cT λp hp=>by
   have e:p=(s.heap.objs.size,{cls:=.type "list",data:=.seq ah.toArray nn}):=by simpa using hp
   subst e;refine⟨o3,d3,nX,λz=>?_,λv z=>by cases z⟩;have(_,ob,e,_):=I.stack.mem z;exact absurd (qj e)<|Ë _
  have IK:∀ p∈[(s.heap.objs.size,({cls:=.type "list",data:=.seq ah.toArray nn}:Obj))],p.1=s.heap.objs.size:=λp hp=>by
   have e:p=(s.heap.objs.size,{cls:=.type "list",data:=.seq ah.toArray nn}):=by simpa using hp
   rw[e]
  rcases turn i n ys H3 w3 with⟨stop,qz⟩|⟨go,hsz,N,hN,step⟩
  .refine aH (T.done (zX X scope cl (ts++xs) G.objs.size s H fp) rfl rfl rfl hc i _ s3 _ H3 E' T1 (vg sQ IK) rW stop) λr s4 hZ=>?_
   have(hr,I4):=hZ;subst hr;have o4:s4.heap.get? s.heap.objs.size=some {cls:=.type "list",data:=.seq ah.toArray nn}:=(I4.pin _<|qA _ qr).1;have(m4,n4,_):=I4.loc;have hk4:cK X.prog X.w X.K (upd H3 s.heap.objs.size<|.lst ys) s4.heap:=Od I4.aE d3 ⟨z3,ah,nn,r3,o4⟩;have un4:Un (kE X.stack) fp H (upd H3 s.heap.objs.size<|.lst ys) s.heap s4.heap:=NM I4.base d3 (qg _);refine JI _ _ m4 s4 ys H3 qz d3 (I.sW I4.os un4 hk4 I4.bare λb hb=>⟨(hf b hb).2.2.2.1,(hf b hb).2.1,(hf b hb).2.2.2.2.1,λp hp=>(hf b hb).2.2.2.2.2 p hp⟩) n4 ?_ ?_ ?_ ?_ ?_
   .rw[zD<|Ne.symm SR]
    exact I4.free
   .exact λz=>absurd I.lt (by rw[<-z]; exact Nat.not_lt.mpr hC)
   .intro x c e z
    have(v,ob,q,_):=I.cell x c e;exact absurd (qj q) (by rw[z]; exact Nat.not_lt.mpr hC)
   .exact qC I.sz hC
   .intro p hp z
    have q:=(I.pin p hp).1;exact absurd (qj q) (by rw[z]; exact Nat.not_lt.mpr hC)
  .refine aH (T.item (zX X scope cl (ts++xs) G.objs.size s H fp) rfl rfl rfl hc i _ s3 _ H3 E' T1 (vg sQ IK) rW go) λr s4 hZ=>?_
   have(u,hr,h4):=hZ;subst hr;refine aH h4 λ_ s5 hZ=>?_;have(x,H5,I5,r5,y5,lV,AE):=hZ;have AO:=I5.pinned (vg AE IK) (T.obj _ _ lV);refine tE (hg _ _ _ _ _ s5 _ H5 x u _ AO r5<|gw _ _ _<|step x H5 y5) λ_ s6 hZ=>?_;have(mQ,H6,I6,yD,q6):=hZ;refine tE (ht _ _ _ _ _ s6 mQ H6 _ I6 q6) λok s7 hZ=>?_;have(H7,I7,q7):=hZ;have after:∀ {H8:Hp} {s8:Qd},Inv (zX X scope cl (ts++xs) G.objs.size s H fp) ([(s.heap.objs.size,({cls:=.type "list",data:=.seq ah.toArray nn}:Obj))]++we fp s5.heap) mQ H8 s8->
     tn (i+1) s8.heap/\(∀ b∈fp,H8 b=none)/\H8 s.heap.objs.size=none/\s8.heap.get? s.heap.objs.size=some {cls:=.type "list",data:=.seq ah.toArray nn}/\
      Inv (zX X scope cl (ts++xs) G.objs.size s H fp) [] (c0 nt js σ) H8 s8:=λ{H8 s8} I8=>by
    have dd:=I8.pin (s.heap.objs.size,({cls:=.type "list",data:=.seq ah.toArray nn}:Obj)) (qA _<|Ð _ qr);refine⟨T.keep _ _ _ lV λb hb o e=>(I8.pin (b,o)<|qA _<|qA _<|uw hb e).1,λb hb=>?_,dd.2.1,dd.1,?_⟩
    .have(o,e,d):=T.obj _ _ lV b hb
     exact(I8.pin (b,o)<|qA _<|qA _<|uw hb e).2.1
    .exact(I8.weak yD.1 yD.2).cT λp hp=>by cases hp
   refine⟨λaE=>?_,λaE=>?_⟩
   .subst aE
    rw[if_pos rfl]at q7;refine tE (he _ _ _ _ _ s7 mQ H7 _ I7 q7) λv s8 hZ=>?_;have(y,H8,I8,ry,q8):=hZ;have(st8,fr8,d8,o8,I8'):=after I8;have(m',hm,w8):=hN _ _ q8;refine call_meets F.slot_list_append ⟨_,o8,rfl⟩ F.entry_list_append (F.args_list_append_2 _ _) (PySem.list_append s.heap.objs.size ah.toArray nn v (by rw[List.size_toArray,<-r3.length]; omega)) ⟨o8,?_⟩;have(_,f1,_,f3,f4,_):=(⟨d8,nX,trivial,.inr<|qg _,λx c e=>by
     rcases wu e with z|⟨z,_⟩
     .exact Nat.ne_of_gt (qk (Å hC<|Ý _) (ck.empty _ _<|mem_of_lookup z).2)
     .have(v0,ob,q,_):=I.cell x c (rR f x c z)
      exact Nat.ne_of_gt (qj q) |>.symm,trivial⟩:H8 s.heap.objs.size=none/\s.heap.objs.size≠(zX X scope cl (ts++xs) G.objs.size s H fp).env.locals/\True/\(s.heap.objs.size∈fp\/s.heap.objs.size<=s.heap.objs.size)/\
      (∀ x c,(cellsFrom (G.objs.size+1) scope.names cl).lookup x=some c->c≠s.heap.objs.size)/\True)
    have q:=PySem.IsL.update o8 (λx=>x.push v);have hp:ah.toArray.push v=(ah++[v]).toArray:=by simp
    rw[hp]at q;refine⟨m',hm,i+1,ys++[y],ah++[v],_,H8,I8'.turned (t':=s8.toks) (it:=s.heap.objs.size) (λb o hb e=>(Î s8.heap _<|Ne.symm hb).trans e) d8 f1 f3 f4 (λp hp=>by cases hp),?_,fr8,d8,q,r3.append<|.cons ry .nil,?_,w8⟩
    .exact T.keep _ _ _ st8 λb hb o e=>(Î s8.heap _<|AU b hb).trans e
    .rw[qw,List.length_singleton]
     omega
   .subst aE
    rw[if_neg qh]at q7;have(IC,JP,d7,o7,J5):=after I7;have(m',hm,w7):=hN _ _ q7;exact⟨m',hm,i+1,ys,ah,nn,H7,J5,IC,JP,d7,o7,r3,z3,w7⟩
 exact codeAny_compStart_list loop<|T.self _ _ _ _ _ kR loop
def yM(wi:TI)(nt:Nat)(js:Qa Nat)(g:TG)(tt:TT)(te:TE):TE:=λσ H Q=>wi σ H λJ H1=>
 RM J (c0 nt js σ) g tt te (λys H2=>∀ D,H2 D=none->Q (.ref D) (upd H2 D<|.lst ys)) H1
theorem zCh(nt:Nat)(ts:Qa Str)(iF:ts.length=nt)(hc:X.calm=true)(S:qJ scope xs)(f:aW X cl xs js)(fJ:closureFor scope X.env=pure cl)
  (hi:PI X tg iter wi) (hg:∀ C s H ex,PG (zX X scope cl (ts++xs) C s H ex) tg g) (gw:∀ σ:St,GW (c0 nt js σ) g) (ht:∀ C s H ex,lA (zX X scope cl (ts++xs) C s H ex) ifs tt)
  (he:∀ C s H ex,PE (zX X scope cl (ts++xs) C s H ex) elt te) (hs:∀ x,foldedSetIterable iter X.env x=pure x:=by intro _; rfl):
  PE X (.ListComp elt [⟨tg,iter,ifs,0⟩] scope pos) (yM wi nt js g tt te):=by
 intro pins s σ H Q I h;rw[eval_ListComp];refine wpAny_comprehension_free (use:=none) rfl hs fJ S.kind S.names<|aH (hi pins s σ H _ I h) λv s1 h1=>aH h1 λsF s2 h2=>?_;have(it,fp,tn,J,H2,e,I2,T,kQ,f2,q):=h2;subst e;refine OZ (RR:=λacc C=>compPost (model X.prog X.w) X.A X.xe none (EP X pins σ Q) acc C) hc I2 S f iF T kQ f2 hg ht he (gw σ) q ?_;intro D C m s' ys H' z hD I' hn u9 p4 pZ nR u7;refine⟨m,hn,λh' mr=>⟨.ref D,_,I'.turned (it:=C) (λb o hb e=>mr.extBut b o hb e) u9 p4 (.inr nR) pZ u7,rfl,z D hD⟩⟩
end
section
variable{X:Cx}
def vJ(_ j:Int):Prop:=0 < j/\j.natAbs.log2 < 9000
theorem Cz:bN X (binaryOp .FloorDiv) (rI vJ λi j=>.int<|i / j):=wQ λi j _ _ _ _ _ hc q=>by
 have h1:(0:Int) < j:=hc.1;exact floordiv_int (by omega) (by rw[Int.fdiv_eq_ediv_of_nonneg i (by omega)]; exact q)<|.inl<|PyProof.noPylong_of_log2 hc.2
def tO(_ j:Int):Prop:=j≠0/\j.natAbs.log2 < 9000
theorem wA:bN X (binaryOp .FloorDiv) (rI tO λi j=>.int<|i.fdiv j):=wQ λi j _ _ _ _ _ hc q=>
 floordiv_int hc.1 q (.inl<|PyProof.noPylong_of_log2 hc.2)
theorem uu{k:Nat}(hk:0 < k)(h:n < 2^k):n.log2 < k:=by
 by_cases hn:n=0
 .subst hn; exact hk
 .exact(Nat.log2_lt hn).mpr h
theorem Wt{i j:Int}(h:0 < j)(h2:j<=2^128):vJ i j:=⟨h,Þ (uu (k:=129) (by decide) (by omega)) (by decide)⟩
def HY(K:qe):Qa V->Hp->VK->Prop:=λxs H Q=>∃ x t T b,xs=[x,.ty T]/\dR K H x t/\PySem.W.kitOne K t (.type T)=some b/\Q (.bl b) H
theorem Zz:fS X (.builtin "isinstance") (HY X.K):=by
 intro pins s σ H xs us Q I r h;have(x,t,T,b,rfl,ty,e,q):=h;have(u,u',rfl,rx,rt):=E7 r;cases rt;exact ZX I rx ty e λtk=>⟨.bl b,H,I.tok tk,rfl,q⟩
end
theorem Gp(h:i < nt):∀ σ:St,GW (c0 nt js σ) (jT i):=λσ x H Q q=>⟨zAr<|Gr h,q⟩
def SameBut(p:Qg)(H H':Hp):Prop:=∀ b o,b≠p->H b=some o->H' b=some o
theorem zZ{p:Qg}(h:H p=none)(o:HO):cN H (upd H p o):=λb u q=>by rw[zD<|gR q h]; exact q
def Bl(mg:Str->Qb Qc)(xs:Qa Str):Prop:=∀ x,x∈xs->mg x=none
theorem Bl.nil:Bl mg []:=λ_ h=>by cases h
theorem Bl.cons{xs:Qa Str}(h:mg x=none)(t:Bl mg xs):Bl mg (x::xs):=λy m=>by
 rcases qy.mp m with e|e
 .rw[e]; exact h
 .exact t y e
def dY:Expr->Bool
 | .Starred _ _=>false
 | _=>true
theorem ju{es:Qa Expr}(h:dY e=true):starEach (e::es) env=(false,eval e env)::starEach es env:=by
 cases e<;>first|rfl|cases h
theorem rQ:∀ {es:Qa Expr},es.all dY=true->(backTo pos<|starEach es env).any (·.1)=false
 | [],_=>rfl
 | e::es,h=>by
  rw[List.all_cons,Bool.and_eq_true]at h;rw[ju h.1];show(false || (backTo pos<|starEach es env).any (·.1))=false;rw[Bool.false_or];exact rQ h.2
section
variable{X:Cx}{es:Qa Expr}{t:TA}{id:String}{p:Pos}
theorem zDR(ha:PE X e te)(hr:PA X es t)(hs:dY e=true:=by rfl):PA X (e::es) (m6 te t):=WI ha hr (ju hs)
theorem zCi(hc:fS X (.builtin id) r)(hg:Gl X x)(hm:X.mg x=none)(hv:bootBuiltins x=some (.builtin id))(ha:PA X (e::es) t)(hn:x ≠ "__name__":=by decide)(dG:(x==("__debug__":Str))=false:=by decide)
  (he:dY e=true:=by rfl) (eG:es.all dY=true:=by rfl):PE X (.Call (.Name x p) (e::es) [] pos) (rV r t):=Zl hc hg hm hv ha hn dG (ju he) (rQ eG)
theorem zCj(hc:fS X (.type T) r)(hg:Gl X x)(hm:X.mg x=none)(hv:bootBuiltins x=some (.type T))(ha:PA X (e::es) t)(hn:x ≠ "__name__":=by decide)(dG:(x==("__debug__":Str))=false:=by decide)
  (he:dY e=true:=by rfl) (eG:es.all dY=true:=by rfl):PE X (.Call (.Name x p) (e::es) [] pos) (rV r t):=ZV hc hg hm hv ha hn dG (ju he) (rQ eG)
end
structure J9 (P:Qe) (w:Qh) (K:qe) (mg:Str->Qb Qc) (base:Heap) (x:Str) (k:Nat) (ps:Qa Str) (sp:Sp):Prop where
 ex:∃ (f:Qg) (fd:FuncData),cL P w K mg base jg k f fd ps sp/\m5 K fd ps []/\PySem.W.keepIn K (.ref f)=true/\mg x=some (.ref f)
def HX(sp:Sp)(t:TA):TE:=λσ H Q=>t σ H λvs H1=>sp vs H1 Q E0
section
variable{X:Cx}{k:Nat}{p:Pos}{es:Qa Expr}{t:TA}
theorem zAv(C:J9 X.prog X.w X.K X.mg X.base x k ps sp)(hr:aM k X.A)(hg:Gl X x)(ha:PA X (e::es) t)(dG:(x==("__debug__":Str))=false:=by decide)
  (he:dY e=true:=by rfl) (eG:es.all dY=true:=by rfl):PE X (.Call (.Name x p) (e::es) [] pos) (HX sp t):=by
 have(f,fd,F,hb,hk,hm):=C.ex;intro pins s σ H Q I h;refine WH (dvs:=[]) (E:=E0) F hr hg hm hk hb .nil KU ha dG (ju he) (rQ eG) pins s σ H Q I ?_;show t σ H λvs H1=>sp (vs++[]) H1 Q E0;have z:(λ(vs:Qa V) (H1:Hp)=>sp (vs++[]) H1 Q E0)=λvs H1=>sp vs H1 Q E0:=by
  funext vs H1
  rw[List.append_nil]
 rw[z];exact h
end
def Fo(t:TS):TS:=λD σ H=>∃ J:St->Hp->Prop,t {D with nx:=J} σ H/\∀ aJ H',J aJ H'->D.nx aJ H'
theorem Ws{X:Cx}{t:TS}(h:PS X st t):PS X st (Fo t):=by
 intro pins s σ H D I ⟨J,q,z⟩;refine aH (h pins s σ H _ I q) λf s' r=>?_;cases f with
 | next=>have(aJ,H',I',j):=r; exact⟨aJ,H',I',z _ _ j⟩
 | brk=>exact r
 | cont=>exact r
 | ret u=>exact r
theorem NL(x y:Int)(hx:0<=x)(hy:0 < y):Int.gcd y (x % y)=Int.gcd x y:=by
 have(a,rfl):=Int.eq_ofNat_of_zero_le hx;have(b,rfl):=Int.eq_ofNat_of_zero_le (à hy);rw[<-Int.natCast_emod];show Nat.gcd b (a % b)=Nat.gcd a b;rw[Nat.gcd_comm a b,Nat.gcd_comm b<|a % b];exact(Nat.gcd_rec b a).symm
theorem Gn(x y:Int):Int.gcd (if x < 0 then -x else x) y=Int.gcd x y:=by
 split
 .exact Int.neg_gcd
 .rfl
structure Wr (p:Prop):Prop where
 run:p
theorem rn{xs:Qa Str}(h:Bl mg xs)(m:x∈xs):mg x=none:=h x m
theorem yf{X:Cx}{C:Qg}{ex:Qa Qg}(h:decide N.Nodup=true):(zX X scope cl N C s H ex).N.Nodup:=of_decide_eq_true h
def gZ(X:Cx)(js:Qa Nat):Qa Str:=js.map λj=>X.N.getD j ""
def iy(X:Cx)(js:Qa Nat):Qa (Str×Qg):=(gZ X js).map λx=>(x,(X.env.cells.lookup x).getD 0)
def jv:Expr->Qa Str
 | .Name x _=>[x]
 | .Tuple es _ _=>es.flatMap λe=>match e with
  | .Name x _=>[x]
  | .Tuple fs _ _=>fs.filterMap λe=>match e with
   | .Name x _=>some x
   | _=>none
  | _=>[]
 | _=>[]
def Er(nt:Nat)(g:TG):Prop:=∀ (js:Qa Nat) (σ eS:St),Wk (c0 nt js σ) eS->∀ x H (Q:St->Hp->Prop),g x eS H Q->g x eS H λft H2=>Wk (c0 nt js σ) ft/\Q ft H2
def vB(nt:Nat)(g:iH):Prop:=∀ (js:Qa Nat) (σ eS:St),Wk (c0 nt js σ) eS->∀ x H (Q:St->Hp->Prop),g x eS H Q->g x eS H λft H2=>Wk (c0 nt js σ) ft/\Q ft H2
theorem Zy(h:i < nt):Er nt (jT i):=by
 intro js σ eS w x H Q q;refine⟨⟨by rw[List.length_set]; exact w.1,λj v e=>?_⟩,q⟩;have ne:i≠j:=by
  rintro rfl;rw[Gr h]at e;cases e
 rw[qF ne];exact w.2 j v e
theorem G3:vB nt Bq:=λjs σ eS w x H Q q=>⟨q.1,w,q.2⟩
theorem ZO{gs:iH}(h1:Er nt g)(h2:vB nt gs)(mono:∀ v σ H (Q Q':St->Hp->Prop),(∀ aJ H',Q aJ H'->Q' aJ H')->g v σ H Q->g v σ H Q'):vB nt (xG g gs):=by
 intro js σ eS w x H Q q;have(v,r,e,k):=q;refine⟨v,r,e,mono _ _ _ _ _ (λaJ H' hZ=>?_)<|h1 js σ eS w v H _ k⟩;have(w',q'):=hZ;exact h2 js σ aJ w' r H' Q q'
theorem Gm{gs:iH}(h:vB nt gs):Er nt (Bp K n gs):=by
 intro js σ eS w x H Q q;have(a,xs,e,s,l,k):=q;exact⟨a,xs,e,s,l,h js σ eS w xs H Q k⟩
theorem Fn(h:Er nt g):∀ σ:St,GW (c0 nt js σ) g:=λσ x H Q q=>h js σ _ ⟨rfl,λ_ _ e=>e⟩ x H Q q
theorem ZN:∀ v σ H (Q Q':St->Hp->Prop),(∀ aJ H',Q aJ H'->Q' aJ H')->jT i v σ H Q->jT i v σ H Q':=λv σ H Q Q' h q=>h _ _ q
theorem Hd{gs:iH}(h:i < nt)(h2:vB nt gs):vB nt (xG (jT i) gs):=ZO (Zy h) h2 ZN
section
variable{X:Cx}{p:Pos}{a b c:Expr}{es eh:Qa Expr}{t:TA}{rd:R2}{id:String}{tA nH:TT}{IB body:Qa Stmt}{ts us:TS}{gs:iH}
theorem aa(hN:X.N[i]?=some x:=by rfl)(hv:Ej X.env.scope x:=by first|exact Or.inl rfl|exact Or.inr (Or.inl rfl) | exact Or.inr<|Or.inr rfl)(hd:(x==("__debug__":Str))=false:=by decide)
  (kA:(x==("__classdict__":Str))=false:=by decide):Wr (PE X (.Name x pos)<|iA i):=⟨pv i hN hv hd kA⟩
theorem zn{n:Int}:Wr (PE X (.Constant (.int n) j pos)<|tC<|.int n):=⟨UH⟩
theorem qU{n:Bool}:Wr (PE X (.Constant (.bool n) j pos)<|tC<|.bl n):=⟨zB2⟩
theorem jR:Wr (PE X (.Constant .none j pos)<|tC .aP):=⟨UG⟩
theorem cR{n:Str}:Wr (PE X (.Constant (.str n) j pos)<|tC<|.str n):=⟨UE⟩
theorem oZ{u:Qc}(hv:bootBuiltins x=some u)(r:aO v u)(hg:Gl X x:=by exact rfl)(hm:X.mg x=none:=by exact rn ‹Bl _ _› (by decide))(hn:x ≠ "__name__":=by decide)(hd:(x==("__debug__":Str))=false:=by decide):Wr (PE X (.Name x pos)<|tC v):=⟨Xu hg hm hv r hn hd⟩
theorem zO{op:Operator}(ho:bN X (binaryOp op) rd)(ha:Wr (PE X a ta))(hb:Wr (PE X b tb)):Wr (PE X (.BinOp a op b pos)<|nG rd ta tb):=⟨zB5 ho ha.run hb.run⟩
theorem tD{op:UnaryOp}{r:V->Hp->VK->Prop}(ho:El X (unaryOp op) r)(ha:Wr (PE X a ta)):Wr (PE X (.UnaryOp op a pos)<|DK r ta):=⟨zB6 ho ha.run⟩
theorem w_not(ha:Wr (PE X a ta)):Wr (PE X (.UnaryOp .Not a pos)<|Fv ta):=⟨Ux ha.run⟩
theorem xM(ho:bN X (compareOp op) rd)(ha:Wr (PE X a ta))(hb:Wr (PE X b tb))(hm:behindInMarks op b=false:=by first|exact LI _|rfl):Wr (PE X (.Compare a [op] [b] pos)<|nG rd ta tb):=⟨WN ho ha.run hb.run hm⟩
theorem zK(ho:bN X (compareOp op) rd)(ha:Wr (PE X a ta))(hb:Wr (PE X b tb))(hm:behindInMarks op b=false:=by first|exact LI _|rfl):Wr (PT X (.Compare a [op] [b] pos)<|xE<|nG rd ta tb):=⟨WM ho ha.run hb.run hm⟩
theorem W7{iU:CmpOp}{R6:R2}{tc:TE}(ho:bN X (compareOp op) rd)(fO:bN X (compareOp iU) R6)(ha:Wr (PE X a ta))(hb:Wr (PE X b tb))(hc:Wr (PE X c tc))(hm:lastMarks [op,iU] [b,c]=false:=by rfl):
  Wr (PE X (.Compare a [op,iU] [b,c] pos)<|xX rd R6 ta tb tc):=⟨Zq ho fO ha.run hb.run hc.run hm⟩
theorem BA{op}(h:Wr (PE X a te)):Wr (PE X (.BoolOp op [a] pos) te):=⟨Uz h.run⟩
theorem Bz(ha:Wr (PE X a ta))(hb:Wr (PE X (.BoolOp .And (b::eh) pos) tb)):Wr (PE X (.BoolOp .And (a::b::eh) pos)<|Fw ta tb):=⟨Uy ha.run hb.run⟩
theorem wq(ha:Wr (PT X a tA)):Wr (PW X (.BoolOp .And [a] pos) tA):=⟨Xt ha.run⟩
theorem jY(ha:Wr (PT X a tA)):Wr (PW X (.BoolOp .Or [a] pos) tA):=⟨UC ha.run⟩
theorem wa(ha:Wr (PT X a tA))(hb:Wr (PW X (.BoolOp .And (b::eh) pos) nH)):Wr (PW X (.BoolOp .And (a::b::eh) pos)<|EA tA nH):=⟨UB ha.run hb.run⟩
theorem g8(ha:Wr (PT X a tA))(hb:Wr (PW X (.BoolOp .Or (b::eh) pos) nH)):Wr (PW X (.BoolOp .Or (a::b::eh) pos)<|Iy tA nH):=⟨zB3 ha.run hb.run⟩
theorem gu(h:Wr (PW X e tA)):Wr (PT X e tA):=⟨h.run.pt⟩
theorem jX(ha:Wr (PT X a tA)):Wr (PT X (.UnaryOp .Not a pos)<|Ez tA):=⟨UA ha.run⟩
theorem jt(h:Wr (PE X e te))(he:∀ whole,isTrue e X.env whole=(do let v <-whole; standAt e.pos; holding [v] (truthy v)):=by intro _; rfl):Wr (PT X e<|tB te):=⟨UD h.run he⟩
def RL(K:qe)(ta:TE):TT:=λσ H Q=>ta σ H λx H'=>∃ k,ED K x H' k/\Q k H'
theorem Fk(hc:Wr (PT X c tA))(ha:Wr (PE X a ta))(hb:Wr (PE X b tb)):Wr (PE X (.IfExp c a b pos)<|Iz tA ta tb):=⟨Zu hc.run ha.run hb.run⟩
theorem zj:Wr (PA X [] qN):=⟨UL⟩
theorem ae(ha:Wr (PE X e te))(hr:Wr (PA X es t))(hs:dY e=true:=by rfl):Wr (PA X (e::es)<|m6 te t):=⟨zDR ha.run hr.run hs⟩
theorem dC{x1}(h:Wr (PA X es t)):Wr (PE X (.Tuple es x1 pos)<|EC t):=⟨UK h.run⟩
theorem gz(h:Wr (PA X es t)):Wr (PE X (.List es pos)<|EB t):=⟨UJ h.run⟩
theorem bz(hc:fS X (.builtin id) r)(hv:bootBuiltins x=some (.builtin id))(ha:Wr (PA X (e::es) t))(hg:Gl X x:=by exact rfl)(hm:X.mg x=none:=by exact rn ‹Bl _ _› (by decide))(hn:x ≠ "__name__":=by decide)(dG:(x==("__debug__":Str))=false:=by decide)
  (he:dY e=true:=by rfl) (eG:es.all dY=true:=by rfl):Wr (PE X (.Call (.Name x p) (e::es) [] pos)<|rV r t):=⟨zCi hc hg hm hv ha.run hn dG he eG⟩
theorem ji(hc:fS X (.type T) r)(hv:bootBuiltins x=some (.type T))(ha:Wr (PA X (e::es) t))(hg:Gl X x:=by exact rfl)(hm:X.mg x=none:=by exact rn ‹Bl _ _› (by decide))(hn:x ≠ "__name__":=by decide)(dG:(x==("__debug__":Str))=false:=by decide)
  (he:dY e=true:=by rfl) (eG:es.all dY=true:=by rfl):Wr (PE X (.Call (.Name x p) (e::es) [] pos)<|rV r t):=⟨zCj hc hg hm hv ha.run hn dG he eG⟩
theorem zz{k:Nat}(ha:Wr (PA X (e::es) t))(C:J9 X.prog X.w X.K X.mg X.base x k ps sp:=by assumption)(hr:aM k X.A:=by exact aM.mono ‹aM _ _› (by decide))(hg:Gl X x:=by exact rfl)(dG:(x==("__debug__":Str))=false:=by decide)
  (he:dY e=true:=by rfl) (eG:es.all dY=true:=by rfl):Wr (PE X (.Call (.Name x p) (e::es) [] pos)<|HX sp t):=⟨zAv C hr hg ha.run dG he eG⟩
theorem zF(hr:vq X rd)(ha:Wr (PE X a ta))(hb:Wr (PE X b tb))(hs:Mz b:=by exact λ_ _=>rfl):Wr (PE X (.Subscript a b pos)<|nG rd ta tb):=⟨zCa hr ha.run hb.run hs⟩
theorem Gk:Wr (PO X none GI):=⟨WD⟩
theorem ye(h:Wr (PE X e te)):Wr (PO X (some e)<|E6 te):=⟨WC h.run⟩
theorem Ca{r:V->Qb Int->Qb Int->Hp->VK->Prop}{lo hi:Qb Expr}{tl th:TO}{p2:Pos}(hr:xk X r)(he:Wr (PE X e te))(hl:Wr (PO X lo tl))(hu:Wr (PO X hi th)):Wr (PE X (.Subscript e (.Slice lo hi none p2) pos)<|Iw r te tl th):=⟨Zj hr he.run hl.run hu.run⟩
theorem lJ{ta:TA}(ha:Wr (PA X [a] ta))(hg:Gl X "range":=by exact rfl)(hm:X.mg "range"=none:=by exact rn ‹Bl _ _› (by decide))(hs:dY a=true:=by rfl):Wr (PI X tg (.Call (.Name "range" p) [a] [] pos)<|Fc ta):=⟨Z2 hg hm ha.run<|ju hs⟩
theorem Zx{ta:TA}(ha:Wr (PA X [a,b] ta))(hg:Gl X "range":=by exact rfl)(hm:X.mg "range"=none:=by exact rn ‹Bl _ _› (by decide))(hs:dY a=true:=by rfl)(nN:dY b=true:=by rfl):Wr (PI X tg (.Call (.Name "range" p) [a,b] [] pos)<|E9 ta):=
 ⟨Z1 hg hm ha.run ((ju hs).trans (by rw[ju nN]; rfl))<|ju nN⟩
theorem zu(hN:X.N.Nodup:=by first|assumption|exact yf rfl)(hi:X.N[i]?=some x:=by rfl)(hx:Loc X.env.scope x:=by first|exact Or.inl rfl|exact Or.inr rfl)(hf:X.fn x=true\/X.env.scope.names.lookup x=some .local:=by first|exact .inl rfl|exact .inr rfl|assumption):Wr (PG X (.Name x pos)<|jT i):=⟨XS hN hi hx hf⟩
theorem hW:Wr (sX X [] Bq):=⟨XR⟩
theorem cA(h1:Wr (PG X e g))(h2:Wr (sX X es gs))(hs:(assignEach (e::es) X.env).map (·.2)=assign e X.env::(assignEach es X.env).map (·.2):=by rfl):Wr (sX X (e::es)<|xG g gs):=⟨Zt h1.run h2.run hs⟩
theorem FK{ti:TE}{yI:Br}(ho:Wr (PE X o ta))(hi:Wr (PE X e ti))(hs:Ex X yI)
  (hh:∀ v,assign (.Subscript o e pos) X.env v=(do
   let ov <-holding [v] (eval o X.env)
   let iv <-holding [v,ov] (eval e X.env)
   standAt pos
   holding [v,ov,iv] (setItem ov iv v)
   release [v,ov,iv] []):=by intro _; rfl):Wr (PG X (.Subscript o e pos)<|Ew ta ti yI):=⟨Uu ho.run hi.run hs hh⟩
theorem t4:Wr (lA X [] HZ):=⟨ZC⟩
theorem BN(h:Wr (PT X c tA)):Wr (lA X [c] tA):=⟨ZA h.run⟩
theorem vA(hi:Wr (PI X tg iter wi))(hg:∀ {C s H ex},Wr<|PG (zX X scope (iy X js) (jv tg++gZ X js) C s H ex) tg g)(ht:∀ {C s H ex},Wr<|lA (zX X scope (iy X js) (jv tg++gZ X js) C s H ex) ifs tt)
  (he:∀ {C s H ex},Wr<|PE (zX X scope (iy X js) (jv tg++gZ X js) C s H ex) elt te)
  (f:aW X (iy X js) (gZ X js) js:=by repeat (first|exact aW.nil|refine aW.cons rfl (by first|exact Or.inl rfl|exact Or.inr rfl) rfl ?_)) (fJ:closureFor scope X.env=pure (iy X js):=by rfl) (S:qJ scope (gZ X js):=by exact⟨rfl,of_decide_eq_true rfl,of_decide_eq_true rfl,of_decide_eq_true rfl,of_decide_eq_true rfl⟩) (iF:(jv tg).length=nt:=by rfl) (hc:X.calm=true:=by rfl) (gw:∀ σ:St,GW (c0 nt js σ) g:=by first|exact Gp (by decide) | exact Fn<|Gm (by repeat (first|exact G3|refine Hd (by decide) ?_))) (hs:∀ x,foldedSetIterable iter X.env x=pure x:=by intro _; rfl):
  Wr (PE X (.ListComp elt [⟨tg,iter,ifs,0⟩] scope pos)<|yM wi nt js g tt te):=⟨zCh nt (jv tg) iF hc S f fJ hi.run (λC s H ex=>hg.run) gw (λC s H ex=>ht.run) (λC s H ex=>he.run) hs⟩
def RK(K:qe):Qa V->Hp->VK->Prop:=λxs H Q=>∃ p ys,xs=[.ref p]/\(bu K H p ys\/br K H p ys)/\Q (.int ys.length) H
def Mx(K:qe):Qa V->Hp->VK->Prop:=λxs H Q=>∃ p ys,xs=[.ref p]/\(bu K H p ys\/br K H p ys)/\∀ l,H l=none->Q (.ref l) (upd H l<|.lst ys)
def N7(K:qe):Qa V->Hp->VK->Prop:=λxs H Q=>∃ p ys,xs=[.ref p]/\((bu K H p ys/\∀ l,H l=none->Q (.ref l) (upd H l<|.tup ys))\/(br K H p ys/\Q (.ref p) H))
theorem oK(hK:X.K=K:=by rfl):fS X (.builtin "isinstance") (HY K):=hK▸Zz
theorem cQ(hK:X.K=K:=by rfl):fS X (.builtin "len") (RK K):=hK▸zlb
theorem N6(hK:X.K=K:=by rfl):fS X (.type "list") (Mx K):=hK▸zlc
theorem um(hK:X.K=K:=by rfl):fS X (.type "tuple") (N7 K):=hK▸zj2
theorem zQ(hK:X.K=K:=by rfl):vq X (Ie K):=hK▸Wz
theorem zR(hK:X.K=K:=by rfl):vq X (Ic K):=hK▸zAg
theorem RJ(hK:X.K=K:=by rfl):bN X (compareOp .In) (yQ K false):=hK▸ZU
theorem W6(hK:X.K=K:=by rfl):bN X (compareOp .NotIn) (yQ K true):=hK▸zla
theorem Fj(hK:X.K=K:=by rfl):xk X (Ib K):=hK▸Wy
theorem Gj{l:Expr}{tl:TE}(hl:Wr (PE X l tl))(hK:X.K=K:=by rfl):Wr (PI X tg l<|BC K tl):=hK▸⟨XQ hl.run⟩
theorem tZ{l:Expr}{tl:TE}(hl:Wr (PE X l tl))(hK:X.K=K:=by rfl):Wr (PI X tg l<|Et K tl):=hK▸⟨Uq hl.run⟩
theorem hV{k:Nat}(h:Wr (sX X es gs))(hK:X.K=K:=by rfl)(hc:X.calm=true:=by rfl)(hn:(assignEach es X.env).length=n:=by rfl)(w5:(assignEach es X.env).findIdx? (·.1)=none:=by rfl):Wr (PG X (.Tuple es k pos)<|Bp K n gs):=hK▸⟨Uv hc h.run hn w5⟩
theorem zCn(ha:Wr (PE X a ta))(hK:X.K=K:=by rfl)(he:∀ whole,isTrue a X.env whole=(do let v <-whole; standAt a.pos; holding [v] (truthy v)):=by intro _; rfl):Wr (PT X a<|RL K ta):=hK▸⟨Zo ha.run he⟩
theorem cY:Wr (fm X [] Ff):=⟨XW⟩
theorem aD(h1:Wr (PS X st ts))(h2:Wr (fm X IB us)):Wr (fm X (st::IB)<|xv ts us):=⟨G7 h1.run h2.run⟩
theorem zE(h1:Wr (PS X st ts)):Wr (fm X [st] ts):=⟨ML h1.run⟩
theorem zok:Wr (PS X (.Continue pos) Fe):=⟨zmj⟩
theorem dW(he:Wr (PE X e te))(hs:swapsWith e none pos.line X.env=pure false:=by rfl):Wr (PS X (.Expr e pos)<|Fd te):=⟨XU he.run hs⟩
theorem zS(he:Wr (PE X e te)):Wr (PS X (.Return (some e) pos)<|Bt te):=⟨Uw he.run⟩
theorem bM{sa sb:Qa Stmt}(hc:Wr (PT X c tA))(ha:Wr (fm X sa ts))(hb:Wr (fm X sb us)):Wr (PS X (.If c sa sb pos)<|Ey tA ts us):=⟨zB4 hc.run ha.run hb.run⟩
theorem xV(h:Wr (PS X st ts)):Wr (PS X st<|Fo ts):=⟨Ws h.run⟩
theorem Mw(hc:Wr (PT X c tA))(hb:Wr (fm X body ts))(hp:PassesOwn (model X.prog X.w) X.A X.env X.xe:=by first|exact PassesOwn.never|exact PassesOwn.leaving):Wr (PS X (.While c body [] pos)<|Gc tA ts):=⟨Zr hp hc.run hb.run⟩
theorem dJ(hi:Wr (PI X tg iter wi))(hg:Wr (PG X tg g))(hb:Wr (fm X body ts))(hp:PassesOwn (model X.prog X.w) X.A X.env X.xe:=by first|exact PassesOwn.never|exact PassesOwn.leaving)(hc:X.calm=true:=by rfl)(hs:∀ x,foldedSetIterable iter X.env x=pure x:=by intro _; rfl):
  Wr (PS X (.For tg iter body [] pos)<|Bo wi g ts):=⟨Uo hp hc hi.run hg.run hb.run hs⟩
theorem zL(he:Wr (PE X e te))(hN:X.N.Nodup:=by first|assumption|exact yf rfl)(hi:X.N[i]?=some x:=by rfl)(hx:Loc X.env.scope x:=by first|exact Or.inl rfl|exact Or.inr rfl)(hs:swapsWith e (some<|.Name x pos') pos.line X.env=pure false:=by rfl)(hf:X.fn x=true\/X.env.scope.names.lookup x=some .local:=by first|exact .inl rfl|exact .inr rfl|assumption):
  Wr (PS X (.Assign [.Name x pos'] e pos)<|oH te<|jT i):=⟨Us hN hi hx he.run hs hf⟩
theorem rl(he:Wr (PE X e te))(hg:Wr (PG X tg g))(hs:swapsWithSole [tg] e pos.line X.env=pure false:=by rfl)(hw:swappedStores [tg] e X.env=pure none:=by rfl)(h1:(assignEach [tg] X.env).map (·.2)=[assign tg X.env]:=by rfl):
  Wr (PS X (.Assign [tg] e pos)<|oH te g):=⟨Ut he.run hg.run hs hw h1⟩
theorem Fi{y:Str}{ta:TA}{px py pt:Pos}{kt k2 uE}(ha:Wr (PA X [a,b] ta))(hc:X.calm=true:=by rfl)(hN:X.N.Nodup:=by first|assumption|exact yf rfl)(hi:X.N[i]?=some x:=by rfl)(hj:X.N[j]?=some y:=by rfl)(e9:i≠j:=by decide)
  (hx:X.env.scope.names.lookup x=some .local:=by rfl) (hy:X.env.scope.names.lookup y=some .local:=by rfl)
  (hw:swappedStores [.Tuple [.Name x px,.Name y py] kt pt] (.Tuple [a,b] k2 uE) X.env=pure (some [x,y]):=by rfl)
  (hs:swapsWithSole [.Tuple [.Name x px,.Name y py] kt pt] (.Tuple [a,b] k2 uE) pos.line X.env=pure false:=by rfl):
  Wr (PS X (.Assign [.Tuple [.Name x px,.Name y py] kt pt] (.Tuple [a,b] k2 uE) pos)<|Eu i j ta):=⟨Ur hc hN hi hj e9 hx hy ha.run hw hs⟩
end
theorem kH.okW{base:Heap}{f:Qg}{k:Nat}(F:kH K x qual st f fd)(S:bV N ps (fU st))(len:∀ vs H Q E,sp vs H Q E->vs.length=ps.length)
  (cH:∀ (bT:Qc) (A:Qf) (outer:Qa Env) (s:Qd) (H:Hp) (vs:Qa V) (Q:VK) (E:XK),aM k (A.deeper<|envOfC qual (fU st) s.heap.objs.size f bT)->sp vs H Q E->
   ∃ t,Wr (fm (oG jg P w K mg base N qual (fU st) f bT A outer s H E).uI (lL st) t)/\t {nx:=λ_ H'=>Q .aP H',rt:=Q} (gQ N vs) H):cL P w K mg base jg (k+1) f fd ps sp :=
 F.ok S len λbT A outer s H vs Q E hr h=>let ⟨t,w,q⟩:=cH bT A outer s H vs Q E hr h; ⟨t,w.run,q⟩
mutual
inductive DV (K:qe) (H:Hp):V->PyData->Prop
 | aP:DV K H .aP .none
 | bl (b:Bool):DV K H (.bl b) (.bool b)
 | int (i:Int):DV K H (.int i) (.int i)
 | str (x:Str):DV K H (.str x) (.str x)
 | lst {a:Qg} {xs:Qa V} {ds:Qa PyData} (h:bu K H a xs) (t:gX K H xs ds):DV K H (.ref a) (.list ds)
 | tup {a:Qg} {xs:Qa V} {ds:Qa PyData} (h:br K H a xs) (t:gX K H xs ds):DV K H (.ref a) (.tuple ds)
inductive gX (K:qe) (H:Hp):Qa V->Qa PyData->Prop
 | nil:gX K H [] []
 | cons {v:V} {d:PyData} {vs:Qa V} {ds:Qa PyData} (h:DV K H v d) (t:gX K H vs ds):gX K H (v::vs) (d::ds)
end
theorem cN.IF(e:cN H H')(h:br K H a xs):br K H' a xs:=by
 rcases h with (h|⟨o,h⟩) | h
 .exact .inl (.inl<|e _ _ h)
 .exact .inl (.inr ⟨o,e _ _ h⟩)
 .exact .inr h
mutual
theorem DV.same(e:cN H H'):∀ {v:V} {d:PyData},DV K H v d->DV K H' v d
 | _,_,.aP=>.aP
 | _,_,.bl b=>.bl b
 | _,_,.int i=>.int i
 | _,_,.str x=>.str x
 | _,_,.lst h t=>.lst (e.seq h)<|gX.same e t
 | _,_,.tup h t=>.tup (e.IF h)<|gX.same e t
theorem gX.same(e:cN H H'):∀ {v:Qa V} {d:Qa PyData},gX K H v d->gX K H' v d
 | _,_,.nil=>.nil
 | _,_,.cons h t=>.cons (DV.same e h)<|gX.same e t
end
section
variable{X:Cx}
mutual
theorem DV.reads(I:Inv X pins σ H s):∀ {v:V} {d:PyData} {u:Qc},DV X.K H v d->aO v u->∃ as,Reads s.heap u d as
 | _,_,_,.aP,r=>by cases r; exact⟨_,.none⟩
 | _,_,_,.bl b,r=>by cases r; exact⟨_,.bool b⟩
 | _,_,_,.int i,r=>by have(t,rfl):=r; exact⟨_,.int i t⟩
 | _,_,_,.str x,r=>by have(t,rfl):=r; exact⟨_,.str x t⟩
 | _,_,_,.lst h t,r=>by
  cases r;obtain⟨ah,rv,⟨o,n,e1,e2,e3,e4⟩,hz⟩:=I.list h;have(as,q):=gX.reads I t rv;exact⟨_,.list e1 e2 e4 q⟩
 | _,_,_,.tup h t,r=>by
  cases r;obtain⟨ah,rv,⟨o,e1,e2,n,e4⟩,hz⟩:=I.tuple h;have(as,q):=gX.reads I t rv;exact⟨_,.tuple e1 e2 e4 q⟩
theorem gX.reads(I:Inv X pins σ H s):∀ {v:Qa V} {d:Qa PyData} {u:Qa Qc},gX X.K H v d->zW v u->∃ as,ReadsAll s.heap u d as
 | _,_,_,.nil,r=>by cases r; exact⟨_,.nil⟩
 | _,_,_,.cons h t,r=>by
  cases r with
  | cons r1 r2=>
   have(a1,q1):=DV.reads I h r1;have(a2,q2):=gX.reads I t r2;exact⟨_,.cons q1 q2⟩
end
end
section
variable{X:Cx}{p:Pos}{a b c:Expr}{es eh:Qa Expr}{t:TA}{rd:R2}{id:String}{tA nH:TT}{IB body:Qa Stmt}{ts us:TS}{gs:iH}
theorem KE{y:Str}{py lW:Pos}(hi:Wr (PI X tg iter wi))(hg:∀ {C s H ex},Wr<|PG (zX X scope (iy X js) (jv tg++gZ X js) C s H ex) tg g)(ht:∀ {C s H ex},Wr<|lA (zX X scope (iy X js) (jv tg++gZ X js) C s H ex) ifs tt)
  (he:∀ {C s H ex},Wr<|PE (zX X scope (iy X js) (jv tg++gZ X js) C s H ex) elt te)
  (hN:X.N.Nodup:=by first|assumption|exact yf rfl) (ie:X.N[i]?=some y:=by rfl) (hy:Loc X.env.scope y:=by first|exact Or.inl rfl|exact Or.inr rfl)
  (f:aW X (iy X js) (gZ X js) js:=by repeat (first|exact aW.nil|refine aW.cons rfl (by first|exact Or.inl rfl|exact Or.inr rfl) rfl ?_)) (fJ:closureFor scope X.env=pure (iy X js):=by rfl) (S:qJ scope (gZ X js):=by exact⟨rfl,of_decide_eq_true rfl,of_decide_eq_true rfl,of_decide_eq_true rfl,of_decide_eq_true rfl⟩) (iF:(jv tg).length=nt:=by rfl) (hc:X.calm=true:=by rfl) (gw:∀ σ:St,GW (c0 nt js σ) g:=by first|exact Gp (by decide) | exact Fn<|Gm (by repeat (first|exact G3|refine Hd (by decide) ?_))) (hs:∀ x,foldedSetIterable iter X.env x=pure x:=by intro _; rfl)
  (Jp:swapsWith (.ListComp elt [⟨tg,iter,ifs,0⟩] scope pos) (some<|.Name y py) lW.line X.env=pure true:=by rfl)
  (hf:X.fn y=true\/X.env.scope.names.lookup y=some .local:=by first|exact .inl rfl|exact .inr rfl|assumption):
  Wr (PS X (.Assign [.Name y py] (.ListComp elt [⟨tg,iter,ifs,0⟩] scope pos) lW)<|oH (yM wi nt js g tt te)<|jT i):=by
 refine⟨?_⟩;intro pins s σ H D I h;rw[exec_Assign_Name_used _ _ _ _ Jp];refine qc<|wpAny_standAt<|qc ?_;show wpAny _ X.A (do let _ <-comprehension (.ListComp elt [⟨tg,iter,ifs,0⟩] scope pos) scope X.env _ (newList []) false (eval iter X.env) (some<|assign (.Name y py) X.env)) _ _ s;refine qc<|wpAny_mono (wpAny_comprehension_free (use:=some (assign (.Name y py) X.env)) (Q:=λ_ s'=>SP X pins D .next s') rfl hs fJ S.kind S.names
  (aH (hi.run pins s σ H _ I h) λv s1 h1=>aH h1 λsF s2 h2=>?_)) (λ_ s' hq=>qd<|qd hq) λ_ _ e=>e
 have(it,fp,tn,J,H2,e,I2,T,kQ,f2,q):=h2;subst e;refine OZ (RR:=λacc C=>compPost (model X.prog X.w) X.A X.xe (some<|assign (.Name y py) X.env) (λ_ s'=>SP X pins D .next s') acc C) hc I2 S f iF T kQ f2 (λC s H ex=>hg.run) (λC s H ex=>ht.run) (λC s H ex=>he.run) (gw σ) q ?_;intro D' C m s' ys H' z hD I' hn u9 p4 pZ nR u7;show wpAny _ _ (assign (.Name y py) X.env<|.ref D') _ _ _;refine wpAny_assign_Name<|Hj (v:=.ref D') I' hN ie hy rfl (λwN J7 hZ=>?_) hf;have(a,sb,ha):=hZ;have ne:C≠a:=by
  rcases ha with rfl|ha
  .exact p4
  .exact(pZ _ _ ha).symm
 exact⟨m,hn.sameBut sb ne,λh' mr=>⟨_,_,J7.turned (it:=C) (λb o hb e=>mr.extBut b o hb e) u9 p4 (.inr nR) pZ u7,z D' hD⟩⟩
theorem dF{name:Str}{r:V->Qa V->Hp->VK->Prop}(K:qe)(hK:X.K=K)(pa:PlainAttrs T)(slot:Slot T name id)(pU:typeOf (.builtin id)=pure (.type "method_descriptor"))(hm:xm X id r)(ho:Wr (PE X o te))(ha:Wr (PA X (e::es) t))
  (cI:attributeBase o name X.env (eval o X.env)=eval o X.env:=by rfl)
  (uZ:((backTo bj<|starEach (e::es) X.env).all (λx=>!x.1) && (backToKw bj<|keywordEach [] X.env).all (λx=>x.1.isSome)
   && decide ((e::es).length+([]:Qa Keyword).length+(if([]:Qa Keyword).isEmpty then 0 else 1) < 30))=true:=by rfl)
  (cG:(apos.endLine==bj.line)=true:=by rfl) (hs:dY e=true:=by rfl) (eG:es.all dY=true:=by rfl):
  Wr (PE X (.Call (.Attribute o name apos) (e::es) [] bj)<|DL K T r te t):=hK▸⟨zCc pa slot pU hm ho.run ha.run cI uZ cG (ju hs)<|rQ eG⟩
theorem KD{name:Str}{r:V->Qa V->Hp->VK->Prop}(K:qe)(hK:X.K=K)(pa:PlainAttrs T)(slot:Slot T name id)(pU:typeOf (.builtin id)=pure (.type "method_descriptor"))(hm:xm X id r)(ho:Wr (PE X o te))
  (cI:attributeBase o name X.env (eval o X.env)=eval o X.env:=by rfl) (cG:(apos.endLine==bj.line)=true:=by rfl):
  Wr (PE X (.Call (.Attribute o name apos) [] [] bj)<|Ia K T r te):=hK▸⟨zAk pa slot pU hm ho.run cI cG⟩
theorem tY{u:Qc}(hg:Gl X x)(hm:X.mg x=some u)(r:aO v u)(hd:(x==("__debug__":Str))=false:=by decide):Wr (PE X (.Name x pos)<|tC v):=⟨Xv hg hm r hd⟩
theorem M1:∀ {ys:Qa Str} {us:Qa Qc},zW (ys.map V.str) us->StrsAre us ys
 | [],_,r=>by cases r; exact .nil
 | y::ys,_,r=>by
  cases r with
  | cons r1 r2=>
   have(t,rfl):=r1;exact .cons y t<|M1 r2
def KC(K:qe):V->Qa V->Hp->VK->Prop:=λx vs H Q=>∃ sep a ys,x=.str sep/\vs=[.ref a]/\bu K H a (ys.map V.str)/\(ys.map (·.length)).sum+ys.length * sep.length<=16777216/\Q (.str<|Txt.join sep ys) H
theorem MZ(K:qe)(hK:X.K=K:=by rfl):xm X "str.join" (KC K):=by
 intro pins s σ H x vs v us Q I rx rv h;have(sep,a,ys,rfl,rfl,hS,hz,q):=h;have(t,rfl):=rx;have(u,rfl,ru):=rv.one;cases ru;subst hK;have(ah,r,pl,_):=I.list hS;exact join_list pl.isList (by simpa using M1 r) hz λt' k=>⟨.str _,H,I.tok _,⟨_,rfl⟩,q⟩
def vz(x:Str)(n:Int):Str:=if n < 1 then Str.empty else if(n==1 || x.length==0)=true then x else⟨(List.replicate n.toNat x.cps).foldl (·++·) #[]⟩
theorem zol:bN X (binaryOp .Mult) (λx y H Q=>∃ z n,x=.str z/\y=.int n/\0<=n/\n<=1/\Q (.str<|vz z n) H):=by
 intro pins s σ H x y v u Q I rx ry h;have(z,n,rfl,rfl,h0,h1,q):=h;have(t,rfl):=rx;have(t',rfl):=ry;rcases(by omega:n=0\/n=1)with rfl|rfl
 .exact PySem.P.mul_str_none (by decide) (by decide) ⟨.str _,H,I.tok _,⟨_,rfl⟩,q⟩
 .refine PySem.P.mul_str (by decide) (λ_ z=>by simp at z) (λ_ z=>by simp at z) ?_
  rw[if_neg (by decide),if_pos (by rfl)];exact⟨.str _,H,I,⟨_,rfl⟩,q⟩
end
structure Kp (H H':Hp):Prop where
 tup:∀ b xs,H b=some (.tup xs)->H' b=some (.tup xs)
 aZ:∀ b o u,H b=some (.aZ o u)->H' b=some (.aZ o u)
theorem Kp.refl(H:Hp):Kp H H:=⟨λ_ _ h=>h,λ_ _ _ h=>h⟩
theorem Kp.trans{H1 H2:Hp}(a:Kp H H1)(b:Kp H1 H2):Kp H H2:=⟨λx y h=>b.tup x y<|a.tup x y h,λx y z h=>b.aZ x y z<|a.aZ x y z h⟩
theorem cN.kp(s:cN H H'):Kp H H':=⟨λ_ _ h=>s _ _ h,λ_ _ _ h=>s _ _ h⟩
end L2
namespace HT
open PySem PyProof.Rows
open PySem.SeqAt
open PySem.MeetsSeq PySem.MeetsSeq2 PySem.MeetsSeq3
section
variable{prog:Program} {w:World} {A:Around} {E:Value->Shared->Prop} {s:Shared}
theorem dQ{t sl:Addr}{items:Array Value}{vl vu:Value}{lo hi:Option Int}{Q:Value->Shared->Prop}(ht:IsTup s.heap t items)(hs:s.heap.IsSliceOf sl vl vu .none)(pl:IsPart vl lo)(pu:IsPart vu hi)
  (hw:aV items.size 0 lo=0/\aV items.size items.size hi=items.size) (h:Q (.ref t) s):wpAny (model prog w) A (getItem (.ref t)<|.ref sl) Q E s:=by
 have(os,uU,Ea,Au):=id hs;have JH:s.TypeIs (.ref sl) "slice":=⟨os,uU,Ea⟩;unfold getItem
 try with_reducible refine wpAny_holding ?_
 first|refine wpAny_bind (wpAny_pure ?_) | skip
 refine wpAny_bind<|wpAny_sequenceKey ht.typeIs (by decide) ?_;refine wpAny_bind (wpAny_callSpecial?_slot (name:=Str.ofString "__getitem__") ht.typeIs PyProof.Rows.slot_tuple_getitem
  (wpAny_call_entry PyProof.Rows.slot_tuple_getitem ht.typeIs entry_tuple_getitem ?_<|args_tuple_getitem _ _))
 show wpAny _ _ (Builtin.Tuple.tupleItemsOf (.ref t) >>= _) _ _ s;refine wpAny_bind<|tupleItemsOf_ ht ?_;refine wpAny_bind<|wpAny_typeOf JH ?_;rw[if_pos (by decide)];refine wpAny_bind<|Rh hs pl pu ?_;have Jj:(((aV items.size 0 lo:Nat):Int)==0 && (1:Int)==1 && (aV items.size items.size hi - aV items.size 0 lo)==items.size)=true:=by
  rw[hw.1,hw.2];simp
 show wpAny _ _ (if(((aV items.size 0 lo:Nat):Int)==0 && (1:Int)==1 && (aV items.size items.size hi - aV items.size 0 lo)==items.size)=true then _ else _) _ _ s;rw[if_pos Jj];refine wpAny_bind (m:=Builtin.Tuple.tupleIsExact _)<|wpAny_bind<|wpAny_typeOf ht.typeIs<|wpAny_pure ?_;rw[if_pos (by decide)];exact wpAny_bind<|wpAny_rule<|wpAny_pure ⟨_,rfl,wpAny_pure h⟩
end
end HT
namespace L2
open PySem PySem.Spec PyProof.Rows
section
variable{X:Cx}
end
section
variable{X:Cx}
end
section
variable{X:Cx}
end
section
variable{X:Cx}
theorem zW.at:∀ {xs:Qa V} {us:Qa Qc} {i:Nat} {u:Qc},zW xs us->us[i]?=some u->∃ x,xs[i]?=some x/\aO x u
 | _,_,0,_,.cons r _,e=>by
  cases(show some _=some _ from e);exact⟨_,rfl,r⟩
 | _,_,i+1,_,.cons _ t,e=>zW.at (i:=i) t e
 | _,_,0,_,.nil,e=>by cases e
 | _,_,_+1,_,.nil,e=>by cases e
theorem N5{p:Qg}(I:Inv X pins σ H s)(hh:A.handled=none)(hq:bu X.K H p xs\/br X.K H p xs)
  (h:∀ (it:Qg) (fp wr:Qa Qg) (n:Nat) (P:Nat->Qc->Prop) (St:Nat->Heap->Prop) (s2:Qd),Walks X.prog X.w A it fp wr n P St->St 0 s2.heap->(∀ b∈fp,b < s2.heap.objs.size)->n=xs.length->(∀ i v,P i v->∃ x,xs[i]?=some x/\aO x v)->
   (∀ h' tk,(∀ b o,b∉wr->s2.heap.get? b=some o->h'.get? b=some o)->Inv X pins σ H {s2 with heap:=h',toks:=tk})->Q (.ref it) s2):
  wpAny (model X.prog X.w) A (pyIter<|.ref p) Q E s:=by
 rcases hq with hq|hq
 .have(ah,r,pl,hz):=I.list hq
  have hp:p < s.heap.objs.size:=by
   have(o,n,e,_):=pl;exact qj e
  have ne:p≠s.heap.objs.size:=ql hp;refine wpAny_pyIter_list pl.isList<|h s.heap.objs.size [s.heap.objs.size,p] [s.heap.objs.size] ah.toArray.size _ _ _ (Walks.list hh _ p ne ah.toArray) ⟨⟨_,qi _ rfl,rfl,rfl⟩,?_⟩ (λb hb=>?_) (by rw[List.size_toArray]; exact r.length.symm) (λi v e=>zW.at r (by simpa using e)) λh' tk hk=>?_
  .have(o,n,e,c,d,f):=pl
   exact⟨o,qf _ e,c,n,f⟩
  .rw[Heap.size_push]
   rcases qy.mp hb with z|z
   .rw[z]; exact Ý _
   .rw[qu.mp z]; exact ù hp
  .exact I.kept λb u e=>hk b u (λz=>absurd (qj e) (by rw[qu.mp z]; exact Ë _))<|qf _ e
 .have(ah,r,pl,hz):=I.tuple hq
  have hp:p < s.heap.objs.size:=by
   have(o,e,_):=pl;exact qj e
  have ne:p≠s.heap.objs.size:=ql hp;refine wpAny_pyIter_tuple (show s.heap.IsTuple p ah.toArray from pl)<|h s.heap.objs.size [s.heap.objs.size,p] [s.heap.objs.size] ah.toArray.size _ _ _ (Walks.tuple hh _ p ne ah.toArray) ⟨⟨_,qi _ rfl,rfl,rfl⟩,?_⟩ (λb hb=>?_) (by rw[List.size_toArray]; exact r.length.symm) (λi v e=>zW.at r (by simpa using e)) λh' tk hk=>?_
  .have(o,e,c,n,f):=pl
   exact⟨o,qf _ e,c,n,f⟩
  .rw[Heap.size_push]
   rcases qy.mp hb with z|z
   .rw[z]; exact Ý _
   .rw[qu.mp z]; exact ù hp
  .exact I.kept λb u e=>hk b u (λz=>absurd (qj e) (by rw[qu.mp z]; exact Ë _))<|qf _ e
theorem ZM(bs:Qa Bool):(List.range bs.length).all (λi=>bs.getD i false)=bs.all id:=by
 rw[Bool.eq_iff_iff,List.all_eq_true,List.all_eq_true];constructor
 .intro h b hb
  have(i,hi,e):=ą hb;have:=h i (Í.mpr hi);rw[qE,qo hi,e]at this;exact this
 .intro h i hi
  have ie:=Í.mp hi;rw[qE,qo ie];exact h _<|List.getElem_mem ie
def RI(K:qe):Qa V->Hp->VK->Prop:=λxs H Q=>∃ (p:Qg) (bs:Qa Bool),xs=[.ref p]/\(bu K H p (bs.map V.bl)\/br K H p (bs.map V.bl))/\Q (.bl<|bs.all id) H
theorem zCp(K:qe)(hK:X.K=K)(hc:X.calm=true):fS X (.builtin "all") (RI K):=by
 subst hK;intro pins s σ H xs us Q I r h;have(p,bs,rfl,hq,q):=h;have(u,rfl,ru):=jS r;cases ru;refine call_all_walk<|N5 I (I.ok.hd hc) hq λit fp wr n P St s2 W st D8 hn hP hI=>⟨it,fp,wr,n,P,St,λi=>bs.getD i false,rfl,W,st,?_,λh' tk hk=>?_⟩
 .intro i v s' Q' E' hv hQ'
  have(x,ex,rx):=hP i v hv;rw[List.getElem?_map]at ex;cases eb:bs[i]? with
  | none=>rw[eb]at ex; cases ex
  | some b=>
   rw[eb]at ex;cases ex;cases rx;have ew:bs.getD i false=b:=by rw[qE,eb]; rfl
   have SJ:Q' (bs.getD i false) s':=hQ';rw[ew]at SJ;exact wpAny_truthy_bool SJ
 .rw[hn,List.length_map,ZM]
  exact⟨.bl _,H,hI h' tk hk,rfl,q⟩
end
section
variable{wr:Qa Qg}{P:Nat->Qc->Prop}{St:Nat->Heap->Prop}
theorem W5(W:Walks prog w A.in1 it fp wr n P St)(bt:Nat->Nat->Bool)(cm:CmpOf prog w A.in1 .Gt P bt)(B:Qg)(nB:B∉fp)(kw:Qa (Str×Qc)):
  ∀ (left j:Nat) (s:Qd) (vb:Qc) (c:Nat),n - (j+1)=left->j+1<=n->St (j+1) s.heap->P (argBest bt j) vb->s.heap.get? B=some {cls:=.type "list",dict:=none,data:=.seq #[vb,vb] c,slots:=#[]}->
  (∀ v h' tk,P (argBest bt<|n - 1) v->(∀ b o,b∉wr->b≠B->s.heap.get? b=some o->h'.get? b=some o)->R (.ok<|.ret v) {s with heap:=h',toks:=tk})->
  codeAny (model prog w) A (.builtin "max.loop" ⟨[.ref it,.none,.ref B],kw⟩) R s:=by
 have wB:B∉wr:=λz=>nB<|W.sub _ z;have nm:(toString "max"++toString ".loop":String) = "max.loop":=by decide
 intro left
 induction left with
 | zero=>
  intro j s vb c e1 e2 st pb oB fin;have ej:j+1=n:=by omega
  refine codeAny_builtin PySem.F.entry_max_loop ?_;rw[Around.under_plainId PySem.F.plain_max_loop _];show wpAny _ A.in1 (seqItems? (.ref B) >>= _) _ _ s;refine qc<|wpAny_seqItems oB rfl ?_;show wpAny _ A.in1 (tryCatch (pyNext<|.ref it) _ >>= _) _ _ s;refine qc<|wpAny_tryCatch<|W.done s _ _ (ej▸st) λh1 tk kp=>?_;have sf:=kp B _ wB oB;show wpAny _ A.in1 (updateSeq B (λ_=>#[]) >>= _) _ _ _;refine qc<|wpAny_updateSeq sf rfl<|qc<|wpAny_letGo<|qd ?_;exact fin vb _ tk (by rw[<-ej]; exact pb) λb o hb hB e=>(Î _ _<|Ne.symm hB).trans<|kp b o hb e
 | succ left ih=>
  intro j s vb c e1 e2 st pb oB fin;have lt:j+1 < n:=by omega
  refine codeAny_builtin PySem.F.entry_max_loop ?_;rw[Around.under_plainId PySem.F.plain_max_loop _];show wpAny _ A.in1 (seqItems? (.ref B) >>= _) _ _ s;refine qc<|wpAny_seqItems oB rfl ?_;show wpAny _ A.in1 (tryCatch (pyNext<|.ref it) _ >>= _) _ _ s;refine qc<|wpAny_tryCatch<|W.item (j+1) s _ _ lt st λv h1 tk pv kR kp=>?_;have sf:=kp B _ wB oB;show wpAny _ A.in1 (tryCatch (holding [v,v]<|richCompare .Gt v vb >>= _) _ >>= _) _ _ _;refine qc<|wpAny_tryCatch<|wpAny_holding<|qc<|cm (j+1) (argBest bt j) v vb _ _ _ pv pb ?_;refine qc<|wpAny_holding<|wpAny_truthy_bool<|qc<|wpAny_letGo<|qd ?_;cases hb:bt (j+1) (argBest bt j)with
  | true=>
   rw[if_pos rfl];refine qc<|wpAny_updateSeq sf rfl<|qc<|wpAny_letGo ?_;rw[nm];refine qd ⟨plainId_quiet õ _,ih (j+1) _ v _ (by omega) lt (W.frame _ _ _ kR λb AA o e=>?_) (by rw[argBest,hb,if_pos rfl]; exact pv) (Ù _ sf rfl) λv2 h2 pI p2 k2=>?_⟩
   .exact(Î _ _ (λz:B=b=>nB (by rw[z]; exact AA))).trans e
   .exact fin v2 h2 pI p2 λb o hw hB e=>k2 b o hw hB<|(Î _ _<|Ne.symm hB).trans<|kp b o hw e
  | false=>
   rw[if_neg qh];refine qc<|wpAny_letGo ?_;rw[nm];refine qd ⟨plainId_quiet õ _,ih (j+1) _ vb c (by omega) lt kR (by rw[argBest,hb,if_neg qh]; exact pb) sf λv2 h2 pI p2 k2=>?_⟩;exact fin v2 h2 pI p2 λb o hw hB e=>k2 b o hw hB<|kp b o hw e
end
section
theorem ZL(a d:Qc):argsOk "max" ⟨[a],[(Str.ofString "default",d)]⟩:=by unfold argsOk; kernel_rfl
theorem ZK{x d:Qc}
  (h:wpAny (model prog w) A.in1 (pyIter x) (λsF s2=>∃ it fp wr n P St bt,sF=.ref it/\Walks prog w A.in1 it fp wr n P St/\St 0 s2.heap/\(∀ b∈fp,b < s2.heap.objs.size)/\CmpOf prog w A.in1 .Gt P bt/\
   (n=0->∀ h' tk,(∀ b o,b∉wr->s2.heap.get? b=some o->h'.get? b=some o)->Q d {s2 with heap:=h',toks:=tk})/\
   (0 < n->∀ v h' tk,P (argBest bt<|n - 1) v->(∀ b o,b∉wr->s2.heap.get? b=some o->h'.get? b=some o)->Q v {s2 with heap:=h',toks:=tk})) E s):
  wpAny (model prog w) A (call (.builtin "max") [x] [(Str.ofString "default",d)]) Q E s:=by
 have nm:(toString "max"++toString ".loop":String) = "max.loop":=by decide
 refine kmk_tree PySem.F.kind_max PySem.F.plain_max PySem.F.entry_max (ZL _ _) ?_;show wpAny _ A.in1 (Builtin.Builtins.bindParams "max" ["key", "default"] 0 ⟨[],[(Str.ofString "default",d)]⟩ >>= _) _ _ s;refine qc<|wpAny_of_eq (show Builtin.Builtins.bindParams "max" ["key", "default"] 0 ⟨[],[(Str.ofString "default",d)]⟩=pure [none,some d] from rfl) ?_;refine qc<|qd<|qc<|wpAny_mono h (λsF s2 h2=>?_) λ_ _ e=>e;have(it,fp,wr,n,P,St,bt,rfl,W,st,D8,cm,q0,q1):=h2;refine qc<|qD ?_;have nB:s2.heap.objs.size∉fp:=λz=>Ë _<|D8 _ z;have wB:s2.heap.objs.size∉wr:=λz=>nB<|W.sub _ z;rw[nm];refine qd ⟨plainId_quiet õ _,?_⟩;have eF:=W.frame _ _ (s2.heap.push {cls:=.type "list",data:=.seq #[]}) st λb _ o e=>qf _ e;refine codeAny_builtin PySem.F.entry_max_loop ?_;rw[Around.under_plainId PySem.F.plain_max_loop _];show wpAny _ A.in1 (seqItems? (.ref _) >>= _) _ _ _;refine qc<|wpAny_seqItems (qi _ rfl) rfl ?_;show wpAny _ A.in1 (tryCatch (pyNext<|.ref it) _ >>= _) _ _ _
 by_cases hn:n=0
 .subst hn
  refine qc<|wpAny_tryCatch<|W.done _ _ _ eF λh1 tk kp=>?_;refine qc<|wpAny_rule<|qd ?_;exact q0 rfl h1 tk λb o hb e=>kp b o hb<|qf _ e
 .have lt:0 < n:=Nat.pos_of_ne_zero hn
  refine qc<|wpAny_tryCatch<|W.item 0 _ _ _ lt eF λv h1 tk pv kR kp=>?_;have sf:=kp _ _ wB (qi s2.heap (o:={cls:=.type "list",data:=.seq #[]}) rfl);show wpAny _ A.in1 (updateSeq s2.heap.objs.size (λ_=>#[v,v]) >>= _) _ _ _;refine qc<|wpAny_updateSeq sf rfl ?_;rw[nm];refine qd ⟨plainId_quiet õ _,W5 W bt cm _ nB _ _ 0 _ v _ rfl lt (W.frame _ _ _ kR λb AA o e=>?_) pv (Ù _ sf rfl) λv2 h2 pI p2 k2=>?_⟩
  .exact(Î _ _ (λz:s2.heap.objs.size=b=>nB (by rw[z]; exact AA))).trans e
  .exact q1 lt v2 h2 pI p2 λb o hw e=>k2 b o hw (ql<|qj e)<|(Î _ _<|Ne.symm<|ql<|qj e).trans<|kp b o hw<|qf _ e
end
def LO(X:Cx)(f:Qc)(ks:Qa Str)(r:Qa V->Qa V->Hp->VK->Prop):Prop :=
 ∀ (pins:Qa (Qg×Obj)) (s:Qd) (σ:St) (H:Hp) (xs zs:Qa V) (us ws:Qa Qc) (Q:VK),Inv X pins σ H s->zW xs us->zW zs ws->r xs zs H Q->
  wpAny (model X.prog X.w) X.A (call f us<|ks.zip ws) (EP X pins σ Q) X.xe s
def RH(r:Qa V->Qa V->Hp->VK->Prop)(t tk:TA):TE:=λσ H Q=>t σ H λvs H1=>tk σ H1 λzs H2=>r vs zs H2 Q
section
variable{X:Cx}
theorem zAw:Wr (PK X [] qN):=⟨zAb⟩
theorem W4{jC:Qa Keyword}{t:TA}{nm:Qb Str}{uO:Pos}(ha:Wr (PE X e te))(hr:Wr (PK X jC t)):Wr (PK X (⟨nm,e,uO⟩::jC)<|m6 te t):=⟨WE ha.run hr.run⟩
theorem zCr{id:String}{ks:Qa Str}{r:Qa V->Qa V->Hp->VK->Prop}{p:Pos}{es:Qa Expr}{jC:Qa Keyword}{t tk:TA}(hc:LO X (.builtin id) ks r)(hv:bootBuiltins x=some (.builtin id))
  (ha:Wr (PA X (e::es) t)) (hk:Wr (PK X jC tk)) (hg:Gl X x:=by exact rfl) (hm:X.mg x=none:=by exact rn ‹Bl _ _› (by decide)) (hn:x ≠ "__name__":=by decide) (dG:(x==("__debug__":Str))=false:=by decide) (he:dY e=true:=by rfl) (eG:es.all dY=true:=by rfl)
  (u6:(backToKw pos<|keywordEach jC X.env).all (·.1.isSome)=true:=by rfl) (hks:(backToKw pos<|keywordEach jC X.env).filterMap (·.1)=ks:=by rfl) (hkw:(backToKw pos<|keywordEach jC X.env).any (·.1.isNone)=false:=by rfl):
  Wr (PE X (.Call (.Name x p) (e::es) jC pos)<|RH r t tk):=by
 refine⟨?_⟩;intro pins s σ H Q I h;refine wpAny_Call_Name_kw<|rD I hg hm hv ?_ hn dG;have e1:backTo pos (starEach (e::es) X.env)=(false,eval e X.env)::backTo pos (starEach es X.env):=by rw[ju he]; rfl
 have e2:(backTo pos<|starEach (e::es) X.env).any (·.1)=false:=rQ (by rw[List.all_cons,he,eG]; rfl);refine callWith_kw (aH (ha.run pos pins s σ H _ I h) λus s1 ⟨vs,H1,I1,r1,q1⟩=>aH (hk.run pos pins s1 σ H1 _ I1 q1) λws s2 hZ=>?_) e1 e2 u6 hkw;have(zs,H2,I2,r2,q2):=hZ;rw[hks];exact hc pins s2 σ H2 vs zs us ws Q I2 r1 r2 q2
theorem OD(val:Nat->Int):∀ k,argBest (λi j=>decide<|val i > val j) k<=k/\∀ i,i<=k->val i<=val (argBest (λi j=>decide<|val i > val j) k)
 | 0=>⟨qg _,λi hi=>by cases Nat.le_zero.mp hi; exact Ó _⟩
 | k+1=>by
  have(h1,h2):=OD val k;unfold argBest
  by_cases c:val (k+1) > val (argBest (λi j=>decide<|val i > val j) k)
  .rw[if_pos<|decide_eq_true c]
   refine⟨qg _,λi hi=>?_⟩;rcases ß i (k+1)with z|z
   .have:=h2 i (by omega)
    omega
   .have:i=k+1:=by omega
    subst this;exact Ó _
  .rw[if_neg (by rw[decide_eq_false c]; exact qh)]
   refine⟨by omega,λi hi=>?_⟩;rcases ß i (k+1)with z|z
   .exact h2 i (by omega)
   .have:i=k+1:=by omega
    subst this;omega
def KA(K:qe):Qa V->Qa V->Hp->VK->Prop:=λxs zs H Q=>∃ (p:Qg) (ns:Qa Int) (d m:Int),xs=[.ref p]/\zs=[.int d]/\(bu K H p (ns.map V.int)\/br K H p (ns.map V.int))/\
 ((ns=[]/\m=d)\/(m∈ns/\∀ x∈ns,x<=m))/\Q (.int m) H
theorem zAx(K:qe)(hK:X.K=K)(hc:X.calm=true):LO X (.builtin "max") ["default"] (KA K):=by
 subst hK;intro pins s σ H xs zs us ws Q I r rz h;have(p,ns,d,m,rfl,rfl,hq,hm,q):=h;have(u,rfl,ru):=jS r;have(wd,rfl,rd):=jS rz;cases ru;have(td,rfl):=rd;have val:∀ {i:Nat} {v:Qc},(∃ x,(ns.map V.int)[i]?=some x/\aO x v)->∃ t,v=.int (ns.getD i 0) t/\ns[i]?=some (ns.getD i 0):=λ{i v} hx=>by
  have(x,ex,rx):=hx;rw[List.getElem?_map]at ex;cases eb:ns[i]? with
  | none=>rw[eb]at ex; cases ex
  | some b=>
   rw[eb]at ex;cases ex;have(t,rfl):=rx;have ew:ns.getD i 0=b:=by rw[qE,eb]; rfl
   exact⟨t,by rw[ew],by rw[ew]⟩
 refine ZK<|N5 I (I.ok.hd hc) hq λit fp wr n P St s2 W st D8 hn hP hI=>⟨it,fp,wr,n,P,St,_,rfl,W,st,D8,CmpOf.ints_gt (λi=>ns.getD i 0) (λi v hv=>let ⟨t,e,_⟩:=val (hP i v hv); ⟨t,e⟩),λhz h' tk hk=>?_,λhz v h' tk hv hk=>?_⟩
 .rw[hn,List.length_map]at hz
  have e:m=d:=by
   rcases hm with z|z
   .exact z.2
   .rw[List.eq_nil_of_length_eq_zero hz]at z
    cases z.1
  exact⟨.int m,H,hI h' tk hk,⟨td,by rw[e]⟩,q⟩
 .rw[List.length_map]at hn
  have(t,rfl,ei):=val (hP _ v hv);have(b1,b2):=OD (λi=>ns.getD i 0) (n - 1);have e:m=ns.getD (argBest (λi j=>decide<|ns.getD i 0 > ns.getD j 0)<|n - 1) 0:=by
   rcases hm with z|⟨z1,z2⟩
   .rw[z.1]at hn
    simp at hn;omega
   .have le1:=z2 _ (Ì ei)
    have(k,hk,ek):=ą z1;have le2:=b2 k (by omega);have Ee:ns.getD k 0=m:=by rw[qE,qo hk,ek]; rfl
    have le2':ns.getD k 0<=ns.getD (argBest (λi j=>decide<|ns.getD i 0 > ns.getD j 0)<|n - 1) 0:=le2;omega
  exact⟨.int m,H,hI h' tk hk,⟨t,by rw[e]⟩,q⟩
end
section
theorem Hs{t:Qg}{items:Array Qc}{x:Qc}(hi:s.heap.IsTupleIter it t i)(ht:s.heap.IsTuple t items)(hx:items[i]?=some x)
  (q:∀ h',h'.IsTupleIter it t (i+1)->Heap.SameBut it s.heap h'->Q x {s with heap:=h'}):wpAny (model prog w) A (Builtin.SmallTypes.nextOf<|.ref it) Q E s:=by
 have(oi,e1,e2,e3):=id hi;have(ot,f1,f2,nt,f3):=ht;unfold Builtin.SmallTypes.nextOf;refine qc (wpAny_callSpecial?_slot (name:=Str.ofString "__next__") hi.typeIs slot_tupleiter_next
  (wpAny_call_entry slot_tupleiter_next hi.typeIs entry_tupleiter_next ?_<|args_tupleiter_next _))
 show wpAny _ _ (field (.ref it) 0 >>= _) _ _ s;refine qc<|wpAny_field e1 e3 (x:=.ref t) rfl ?_;show wpAny _ _ (if(Value.ref t==Value.none)=true then _ else _) _ _ s;rw[if_neg (show ¬((Value.ref t==Value.none)=true) from qh)];show wpAny _ _ (field (.ref it) 1 >>= _) _ _ s;refine qc<|wpAny_field e1 e3 (x:=.int i 0) rfl ?_;show wpAny _ _ (seqItems? (.ref t) >>= _) _ _ s;refine qc<|wpAny_seqItems f1 f3 ?_;simp only[Int.toNat_natCast,hx];refine qc<|wpAny_setField e1 e3 (by simp)<|qd ⟨x,rfl,qd<|q _ ?_<|Õ ..⟩;refine⟨_,Ù _ e1<|û<|ć e3 _,(Obj.cls_mapFields ..).trans e2,?_⟩;rw[Obj.data_mapFields e3];simp[rawInt]
theorem OC{t:Qg}{items:Array Qc}(hh:A.handled=none)(hi:s.heap.IsTupleIter it t i)(ht:s.heap.IsTuple t items)(hx:items[i]?=none)
  (q:∀ h' e,Heap.ExtBut it s.heap h'->(∃ o,h'.get? e=some o/\o.cls=.type "StopIteration")->E (.ref e) {s with heap:=h'}):wpAny (model prog w) A (Builtin.SmallTypes.nextOf<|.ref it) Q E s:=by
 have(oi,e1,e2,e3):=id hi;have(ot,f1,f2,nt,f3):=ht;unfold Builtin.SmallTypes.nextOf;refine qc (wpAny_callSpecial?_slot (name:=Str.ofString "__next__") hi.typeIs slot_tupleiter_next
  (wpAny_call_entry slot_tupleiter_next hi.typeIs entry_tupleiter_next ?_<|args_tupleiter_next _))
 show wpAny _ _ (field (.ref it) 0 >>= _) _ _ s;refine qc<|wpAny_field e1 e3 (x:=.ref t) rfl ?_;show wpAny _ _ (if(Value.ref t==Value.none)=true then _ else _) _ _ s;rw[if_neg (show ¬((Value.ref t==Value.none)=true) from qh)];show wpAny _ _ (field (.ref it) 1 >>= _) _ _ s;refine qc<|wpAny_field e1 e3 (x:=.int i 0) rfl ?_;show wpAny _ _ (seqItems? (.ref t) >>= _) _ _ s;refine qc<|wpAny_seqItems f1 f3 ?_;simp only[Int.toNat_natCast,hx];refine qc<|wpAny_rule<|qc<|wpAny_setField e1 e3 (by simp) ?_;show wpAny _ _ (newExc (.type "StopIteration") [] >>= _) _ _ _;refine qc ?_;simp only[newExc,newTuple];refine qc<|qD ?_ (by show(0:Nat)<=sizeLine; exact Ç _);refine qc (m:=firstArgMember _ _)<|wpAny_of_eq (a:=Value.none) (by first|rfl | (simp only[firstArgMember]; rfl)) ?_;refine qD ?_ (by first|trivial|size_fits);simp only[raiseNew];refine qc (wpAny_handled ?_)
 first|rw[show A.in1.handled=none from hh] | rw[hh]
 refine qc<|qd<|wpAny_throw ?_;exact q _ _ (((Õ ..).extBut.push _).push _) ⟨_,qi _ rfl,rfl⟩
end
theorem Pe(hh:A.handled=none)(it t:Qg)(ne:t≠it)(items:Array Qc):
  Draws prog w A it [it,t] items.size (λi v=>items[i]?=some v) (λi h=>h.IsTupleIter it t i/\h.IsTuple t items) where
 live:=λ_ _ st=>let ⟨o,ho,_⟩:=st.1; ⟨o,ho⟩
 frame:=λ_ _ _ st hk=>by
  obtain⟨⟨o,a1,a2,a3⟩,⟨o2,b1,b2⟩⟩:=st;exact⟨⟨o,hk it (by simp) o a1,a2,a3⟩,⟨o2,hk t (by simp) o2 b1,b2⟩⟩
 item:=λi s Q E hi st q=>by
  refine Hs st.1 st.2 (x:=items[i]) (by simp[hi]) λh' JC mr=>?_;exact q _ h' s.toks (by simp[hi]) ⟨JC,st.2.extBut mr.extBut ne⟩ mr
 done:=λs Q E st q=>OC hh st.1 st.2 (by simp) q
theorem ZJ(t:Qg)(items:Array Qc)(n:Nat)(gk:Qb Qg)(sl:Array (Qb Qc)):
  Meets (Builtin.«enumerate.__new__» ⟨[.type "enumerate",.ref t],[]⟩) (λ_ R s=>s.heap.get? t=some {cls:=.type "tuple",dict:=gk,data:=.seq items n,slots:=sl}/\
   R (.ok<|.ret<|.ref (s.heap.push {cls:=.type "tuple_iterator",data:=.fields #[.ref t,.int 0 0]}).objs.size)
    {s with heap:=(s.heap.push {cls:=.type "tuple_iterator",data:=.fields #[.ref t,.int 0 0]}).push {cls:=.type "enumerate",data:=.fields #[.none,.bool false,.ref s.heap.objs.size,rawInt 0,.none,.none]}}):=
 .of_wp λprog w A R s h=>by
  have(hp,g,d,tk,os):=s;have(hl,h):=h;have Jq:=sub_enumerate;have hT:Heap.IsTuple (Shared.heap ⟨hp,g,d,tk,os⟩) t items:=⟨_,hl,rfl,n,rfl⟩
  wp_walk using PySem.AutoSeq1.wpAny_loadPart' hl
  refine wpAny_stack_any λst=>qd ?_;split
  .rename_i c _ _ _ _ _
   cases(c==Value.type "enumerate")
   .wp_walk using PySem.AutoSeq1.wpAny_loadPart' hl,wpAny_pyIter_tuple hT
    exact⟨_,rfl,h⟩
   .wp_walk using PySem.AutoSeq1.wpAny_loadPart' hl,wpAny_pyIter_tuple hT
    exact⟨_,rfl,h⟩
  .wp_walk using PySem.AutoSeq1.wpAny_loadPart' hl,wpAny_pyIter_tuple hT
   exact⟨_,rfl,h⟩
section
theorem zom{t:Qg}{items:Array Qc}(hT:s.heap.IsTuple t items)
  (h:∀ h',IsEnum h' (s.heap.objs.size+1) s.heap.objs.size 0 .none->h'.IsTupleIter s.heap.objs.size t 0->(∀ b o,s.heap.get? b=some o->h'.get? b=some o)->Q (.ref<|s.heap.objs.size+1) {s with heap:=h'}):
  wpAny (model prog w) A (call (.type "enumerate") [.ref t]) Q E s:=by
 obtain⟨⟨c,gk,dt,sl⟩,hl,hc,n,hd⟩:=hT;replace hc:c=.type "tuple":=hc;replace hd:dt=.seq items n:=hd;subst hc hd;refine callType_new F.called_enumerate (by decide) (F.typeCall_enumerate_1 _) (F.newCall_enumerate_1 _) (λobj=>F.args_object_init_2 obj _) F.entry_enumerate_new
  (ZJ t items n gk sl) ⟨hl,?_⟩
 have hz:(s.heap.push {cls:=.type "tuple_iterator",data:=.fields #[.ref t,.int 0 0]}).objs.size=s.heap.objs.size+1:=Heap.size_push ..;show _/\_;rw[hz];have he:IsEnum ((s.heap.push {cls:=.type "tuple_iterator",data:=.fields #[.ref t,.int 0 0]}).push
   {cls:=.type "enumerate",data:=.fields #[.none,.bool false,.ref s.heap.objs.size,rawInt 0,.none,.none]}) (s.heap.objs.size+1) s.heap.objs.size 0 .none:=by
  have z:=qi (s.heap.push {cls:=.type "tuple_iterator",data:=.fields #[.ref t,.int 0 0]})
   (o:={cls:=.type "enumerate",data:=.fields #[.none,.bool false,.ref s.heap.objs.size,rawInt 0,.none,.none]}) rfl
  rw[hz]at z;exact z
 exact⟨⟨_,he,rfl⟩,h _ he ⟨_,qf _<|qi _ rfl,rfl,rfl⟩ λb o x=>qf _<|qf _ x⟩
end
section
variable{X:Cx}
theorem Inv.dM{t':Nat}{wr:Qa Qg}(I:Inv X pins σ H s)(k:∀ b o,b∉wr->s.heap.get? b=some o->h'.get? b=some o)(hf:∀ b∈wr,fQ X pins H b):Inv X pins σ H {s with heap:=h',toks:=t'}:=by
 have km:∀ b u,H b=some u->b∉wr:=λb u e z=>by rw[(hf b z).1]at e; cases e
 refine I.step (g':=s.gens) (d':=s.drawn) (ch:=wr) (λb hb=>?_) (λb o _ _ hc e _=>k b o hc e) (λb o _ _ hc e _=>⟨o.slots,k b o hc e⟩) (λ_ _ _ _ n=>n)
  (λb o hc e=>⟨o,k b o hc e⟩) (λ_ _ e=>e) (λ_ _ _ e=>e) (λb ps e=>⟨#[],by rw[e]; simp⟩) (λm hm=>?_) (λb u e=>?_) I.bare
 .have(_,z1,_,z3,z4,z5):=hf b hb
  exact⟨z3,z1,z4,z5⟩
 .have(o,es,ep,ho,r):=hm
  exact⟨o,es,ep,k _ o (λz=>(hf _ z).2.1 rfl) ho,r⟩
 .refine(I.aE b u e).eM (λc v hc q=>k c v ?_ q) (λ_ q=>q) λ_ _ q=>q
  rcases hc with z|z
  .rw[z]; exact km b u e
  .exact km c _ z
theorem Inv.lR{o:HO}(I:Inv X pins σ H s)(f:fQ X pins H a)(ha:X.bp.heap.objs.size<=a)(new:bW X.prog X.w X.K (upd H a o) s.heap a o):Inv X pins σ (upd H a o) s:=by
 have(f0,f1,f2,f3,f4,f5):=f;refine⟨I.ok,I.os,I.bare,NM I.base f0 ha,I.loc,I.cell,?_,λx c e=>?_,λp hp=>?_,Od I.aE f0 new,I.len⟩
 .rw[zD<|Ne.symm f1]
  exact I.free
 .rw[zD<|f4 x c e]
  exact I.cj x c e
 .have(p1,p2,p3):=I.pin p hp
  refine⟨p1,?_,p3⟩;rw[zD<|f5 p hp];exact p2
end
def TX(K:qe)(a:Qg):It :=
 ⟨λi H=>∃ xs x,br K H a xs/\xs[i]?=some x,λi H x H'=>∃ T,H T=none/\x=.ref T/\∀ xs v,br K H a xs->xs[i]?=some v->H'=upd H T (.tup [.int i,v]),λi H=>∃ xs,br K H a xs/\xs.length=i⟩
theorem zrA{k:Nat}(e it t:Qg)(D9:e≠it)(Sw:t≠e)(Sv:t≠it):
  Turn P w K (.Tuple elts k pos) (TX K t) [e,it] e (λi h=>(∃ old,IsEnum h e it i old)/\h.IsTupleIter it t i) where
 mem:=by simp
 obj:=λi h st b hb=>by
  obtain⟨⟨old,he⟩,⟨o,ho,_,hd⟩⟩:=st;rcases qy.mp hb with z|z
  .subst z
   exact⟨_,he,λv q=>by
    have q':Data.fields _=Data.cell v:=q;cases q'⟩
  .rw[qu.mp z]
   exact⟨o,ho,λv q=>by rw[hd]at q; cases q⟩
 keep:=λi h h' st kk=>by
  obtain⟨⟨old,he⟩,⟨o,ho,hc,hd⟩⟩:=st;exact⟨⟨old,kk e (by simp) _ he⟩,⟨o,kk it (by simp) _ ho,hc,hd⟩⟩
 item:=by
  intro X hP hw hK hc i pins s σ H E I hf st hg;subst hP hw hK;have(xs,x,hq,hx):=hg;have(ah,rv,ht,hz):=I.tuple hq;have hi:i < ah.toArray.size:=by
   rw[List.size_toArray,<-rv.length];exact(qm.mp hx).1
  have W:=WalksT.enumerateD (Pe (prog:=X.prog) (w:=X.w) (A:=X.A.in1) (I.ok.hd hc) it t Sv ah.toArray) e D9 (by simp[D9,Ne.symm Sw]) (by simp);refine W.item i s _ _ hi ⟨st.1,st.2,ht⟩ λT vals h1 tk hP hT kU mid kk=>?_;refine⟨_,rfl,W.go elts k pos i T {s with heap:=h1,toks:=tk} _ _ mid λh2 kQ nL=>?_⟩;have(tt,u,hu,rfl):=hP;have apart:=W.apart _ _ _ mid;have I2:Inv X pins σ H {s with heap:=h2,toks:=tk}:=I.dM (wr:=[e,it]) (λb o hb q=>nL b o hb<|kk b o hb q) hf;have fT:fQ X pins H T:=I.dE hT (I.aE.fresh hT);have ru:aO x u:=by
   have(u',eu,r):=rv.get hx;have:u'=u:=by
    have z:ah[i]?=some u:=by simpa using hu
    rw[eu]at z;exact qB z
   rw[<-this];exact r
  have(oT,g1,g2,nT,g3):=kU;have I3:Inv X pins σ (upd H T<|.tup [.int i,x]) {s with heap:=h2,toks:=tk}:=I2.lR fT (qC I.sz hT) ⟨by show 2<=sizeLine; decide,[.int i tt,u],.cons ⟨tt,rfl⟩<|.cons ru .nil,oT,nL T oT apart g1,g2,⟨nT,g3⟩,.inr ⟨_,_,_,rfl⟩⟩;refine⟨.ref T,_,I3,rfl,⟨T,I.aE.fresh hT,rfl,λwK v uS hv=>?_⟩,⟨?_,kQ.2.1⟩,λb hb=>?_⟩
  .have:=I.cS hq uS
   subst this;rw[hx]at hv;cases hv;rfl
  .exact kQ.1
  .have ne:b≠T:=λz=>apart (by rw[<-z]; exact hb)
   rw[zD ne];exact(hf b hb).1
 done:=by
  intro X hP hw hK hc i pins s σ H E I hf st hg;subst hP hw hK;have(xs,hq,hl):=hg;have(ah,rv,ht,hz):=I.tuple hq;have hi:i=ah.toArray.size:=by
   rw[List.size_toArray,<-rv.length];exact hl.symm
  have W:=WalksT.enumerateD (Pe (prog:=X.prog) (w:=X.w) (A:=X.A.in1) (I.ok.hd hc) it t Sv ah.toArray) e D9 (by simp[D9,Ne.symm Sw]) (by simp);refine W.done s _ _ ?_ λh1 tk kk=>⟨rfl,I.dM (wr:=[e,it]) kk hf⟩;rw[<-hi];exact⟨st.1,st.2,ht⟩
 self:=λ_ _ _ _ _ st h=>by
  obtain⟨⟨old,he⟩,_⟩:=st;exact wpAny_pyIter_enum he h
section
variable{X:Cx}{k:Nat}
def Kz(K:qe)(ta:TA):TI:=λσ H R=>ta σ H λvs H1=>∃ a,vs=[.ref a]/\(∃ xs,br K H1 a xs)/\R (TX K a) H1
theorem W3{a:Expr}{ta:TA}{p:Pos}(ha:Wr (PA X [a] ta))(hK:X.K=K:=by rfl)(hg:Gl X "enumerate":=by exact rfl)(hm:X.mg "enumerate"=none:=by exact rn ‹Bl _ _› (by decide))(hs:dY a=true:=by rfl):
  Wr (PI X (.Tuple elts k pH) (.Call (.Name "enumerate" p) [a] [] pos)<|Kz K ta):=by
 subst hK;refine⟨?_⟩;intro pins s σ H R I h;refine Call_<|rD I hg hm boot_enumerate<|å (aH (ha.run pos pins s σ H _ I h) λus s1 hZ=>?_) (ju hs) rfl;have(vs,H1,I1,r1,q1):=hZ;obtain⟨t,e,⟨xs,hq⟩,q⟩:=q1;subst e;have(u,rfl,ru):=jS r1;cases ru;have(ah,rv,ht,hz):=I1.tuple hq;have tl:t < s1.heap.objs.size:=by
  have(o,e,_):=ht;exact qj e
 refine zom (show s1.heap.IsTuple t ah.toArray from ht) λh' he hit kk=>?_;have I2:Inv X pins σ H1 {s1 with heap:=h'}:=I1.kept (t':=s1.toks) kk;refine wpAny_pyIter_enum he ?_;refine⟨s1.heap.objs.size+1,[s1.heap.objs.size+1,s1.heap.objs.size],_,_,H1,rfl,I2,zrA (s1.heap.objs.size+1) s1.heap.objs.size t (Nat.succ_ne_self _) (ql<|ù tl)<|ql tl,⟨⟨_,he⟩,hit⟩,λb hb=>?_,q⟩;rcases qy.mp hb with z|z
 .subst z
  exact I1.dE (Nat.le_succ _)<|I1.aE.fresh<|Nat.le_succ _
 .rw[qu.mp z]
  exact I1.dE (qg _)<|I1.aE.fresh<|qg _
end
section
variable{X:Cx}
end
section
variable{X:Cx}{i v:Expr}{k:Nat}
theorem pj:Wr (PE X (.Dict [] [] pos) FQ):=⟨ZG⟩
theorem oY(hr:aM k X.A)(ho:Wr (PE X o td))(hi:Wr (PE X i ty))(hs:H0 i:=by intro _ _; rfl):Wr (PE X (.Subscript o i pos)<|Fq X.K td ty):=⟨Wv (xC hr) ho.run hi.run hs⟩
theorem tX(hr:aM k X.A)(ho:Wr (PE X o td))(hi:Wr (PE X i ty))(hv:Wr (PE X v tv))(hs:swapsWith v (some<|.Subscript o i pos') pos.line X.env=pure false:=by rfl):
  Wr (PS X (.Assign [.Subscript o i pos'] v pos)<|Fp X.K td ty tv):=⟨Wu (xC hr) ho.run hi.run hv.run hs⟩
end
end L2
namespace L2
open PySem PySem.W PyProof.Rows
section
def eT(lt:Nat->Nat->Bool)(n:Nat):KasT α->(α->Prop)->Prop
 | .ret a,Q=>Q a
 | .ask i j k,Q=>i < n/\j < n/\eT lt n (k<|lt i j) Q
theorem eT.bind{lt:Nat->Nat->Bool}{f:α->KasT β}{Q:β->Prop}:∀ {t:KasT α},eT lt n t (λa=>eT lt n (f a) Q)->eT lt n (t.bind f) Q
 | .ret _,h=>h
 | .ask _ _ _,⟨h1,h2,h3⟩=>⟨h1,h2,eT.bind h3⟩
theorem eT.wp{lt:Nat->Nat->Bool}{Q:α->Prop}{Q':α->Qd->Prop}(hc:∀ i j (C:Bool->Qd->Prop),i < n->j < n->C (lt i j) s->cmp i j C s)(hQ:∀ a,Q a->Q' a s):
  ∀ {t:KasT α},eT lt n t Q->t.kasWp cmp Q' s
 | .ret _,h=>hQ _ h
 | .ask i j k,⟨h1,h2,h3⟩=>hc i j _ h1 h2<|eT.wp hc hQ h3
end
section
variable{rk:Nat->Int}
def KR(rk:Nat->Int)(p:Array Nat)(i:Nat):Int:=rk (p.getD i 0)
def jA(rk:Nat->Int)(i j:Nat):Bool:=decide (rk i < rk j)
def Pm(n:Nat)(p:Array Nat):Prop:=p.Perm (List.range n).toArray
theorem Pm.size(h:Pm n p):p.size=n:=by
 have:=h.size_eq;simpa using this
theorem Pm.lt(h:Pm n p)(hi:i < n):p.getD i 0 < n:=by
 have hs:=h.size;have ie:i < p.size:=by omega
 have e:p.getD i 0=p[i]:=by simp[Array.getD,ie]
 rw[e];have m:p[i]∈(List.range n).toArray:=(h.mem_iff).mp (Array.getElem_mem ie);simpa using m
theorem yq{q:Array Nat}(h:p[i]?=q[j]?):KR rk p i=KR rk q j:=by
 have e:∀ (x:Array Nat) (k:Nat),x.getD k 0=(x[k]?).getD 0:=λx k=>by simp
 unfold KR;rw[e,e,h]
theorem BM(hj:j<=p.size)(k:Nat):KR rk (kas_rev p i j) k=if i<=k/\k < j then KR rk p (i+j - 1 - k)else KR rk p k:=by
 have e:=getElem?_mirror_all (xs:=p) (i:=i) hj k;unfold kas_rev
 by_cases h:i<=k/\k < j
 .rw[if_pos h]at e ⊢
  exact yq e
 .rw[if_neg h]at e ⊢
  exact yq e
theorem OB{src d:Nat}(hs:src < p.size)(hd:d<=src)(k:Nat):KR rk (bubble p src d) k=if k=src - d then KR rk p src else if src - d < k/\k<=src then KR rk p (k - 1)else KR rk p k:=by
 have e:=getElem?_bubble hs d hd k
 by_cases h1:k=src - d
 .rw[if_pos h1]at e ⊢; exact yq e
 .rw[if_neg h1]at e ⊢
  by_cases h2:src - d < k/\k<=src
  .rw[if_pos h2]at e ⊢; exact yq e
  .rw[if_neg h2]at e ⊢; exact yq e
theorem Pm.rev(h:Pm n p)(i j:Nat):Pm n (kas_rev p i j):=(mirror_perm p i j _).trans h
theorem Pm.bubble(h:Pm n p)(i d:Nat):Pm n (PyProof.Rows.bubble p i d):=(bubble_perm p i d).trans h
def Up(rk:Nat->Int)(p:Array Nat)(m:Nat):Prop:=∀ i j,i<=j->j < m->KR rk p i<=KR rk p j
def Dn(rk:Nat->Int)(p:Array Nat)(m:Nat):Prop:=∀ i j,i<=j->j < m->KR rk p j<=KR rk p i
theorem Up.more(h:Up rk p m)(h1:1<=m)(hm:KR rk p (m - 1)<=KR rk p m):Up rk p (m+1):=λi j e9 hj=>by
 by_cases e:j=m
 .subst e
  by_cases e2:i=j
  .subst e2; exact Ó _
  .exact ü (h i (j - 1) (by omega) (by omega)) hm
 .exact h i j e9 (by omega)
theorem Dn.more(h:Dn rk p m)(h1:1<=m)(hm:KR rk p m<=KR rk p (m - 1)):Dn rk p (m+1):=λi j e9 hj=>by
 by_cases e:j=m
 .subst e
  by_cases e2:i=j
  .subst e2; exact Ó _
  .exact ü hm (h i (j - 1) (by omega) (by omega))
 .exact h i j e9 (by omega)
theorem Ab(c:rk i < rk j):jA rk i j=true:=decide_eq_true c
theorem Ac(c:¬rk i < rk j):jA rk i j=false:=decide_eq_false c
theorem N4(hp:Pm n p){Q:Nat->Prop}:∀ (f m:Nat),1<=m->m+f<=n->Up rk p m->(∀ m',m<=m'->m'<=m+f->Up rk p m'->(m' < m+f->KR rk p m' < KR rk p (m' - 1))->Q m')->eT (jA rk) n (kas_asc p f m) Q:=by
 intro f
 induction f with
 | zero=>exact λm _ _ hu h=>h m (qg _) (qg _) hu λz=>absurd z<|Ë _
 | succ f ih=>
  intro m h1 hf hu h;refine⟨hp.lt (by omega),hp.lt (by omega),?_⟩
  by_cases c:rk (p.getD m 0) < rk (p.getD (m - 1) 0)
  .rw[Ab c]
   dsimp only;rw[if_pos rfl];exact h m (qg _) (by omega) hu λ_=>c
  .rw[Ac c]
   dsimp only;rw[if_neg qh];exact ih (m+1) (by omega) (by omega) (hu.more h1<|Int.not_lt.mp c) λm' a b c2 d=>h m' (by omega) (by omega) c2 λz=>d (by omega)
def AS(rk:Nat->Int)(p:Array Nat)(m q:Nat):Prop:=q+1<=m/\∀ i,m - (q+1)<=i->i < m->KR rk p i=KR rk p (m - 1)
theorem RG(h:1<=m):AS rk p m 0:=⟨h,λi a b=>by
 have:i=m - 1:=by omega
 rw[this]⟩
theorem MY{q:Nat}(hm:m<=p.size)(h:AS rk p m q)(k:Nat):KR rk (kas_rev p (m - (q+1)) m) k=KR rk p k:=by
 rw[BM hm];split
 .rw[h.2 _ (by omega) (by have:=h.1; omega),h.2 k (by omega) (by omega)]
 .rfl
theorem Dn.congr{p':Array Nat}(h:Dn rk p m)(e:∀ k,KR rk p' k=KR rk p k):Dn rk p' m:=λi j e9 hj=>by
 rw[e,e];exact h i j e9 hj
theorem zrB{Q:Array Nat×Nat×Nat->Prop}:∀ (f:Nat) (p:Array Nat) (m q:Nat),Pm n p->1<=m->m+f<=n->Dn rk p m->AS rk p m q->
  (∀ p' m' q',Pm n p'->1<=m'->m'<=m+f->Dn rk p' m'->AS rk p' m' q'->Q (p',m',q'))->eT (jA rk) n (kas_desc f p m q) Q:=by
 intro f
 induction f with
 | zero=>exact λp m q hp h1 _ hd he h=>h p m q hp h1 (qg _) hd he
 | succ f ih=>
  intro p m q hp h1 hf hd he h;have hs:=hp.size;refine⟨hp.lt (by omega),hp.lt (by omega),?_⟩
  by_cases c:rk (p.getD m 0) < rk (p.getD (m - 1) 0)
  .rw[Ab c]
   dsimp only;rw[if_pos rfl];have hd2:Dn rk p (m+1):=hd.more h1 (à c);have one:∀ x:Array Nat,AS rk x (m+1) 0:=λx=>RG (by omega)
   by_cases hq:q > 0
   .rw[if_pos hq]
    have e:=MY (by omega) he;exact ih _ (m+1) 0 (hp.rev _ _) (by omega) (by omega) (hd2.congr e) (one _) λp' m' q' a b c d e=>h p' m' q' a b (by omega) d e
   .rw[if_neg hq]
    exact ih p (m+1) 0 hp (by omega) (by omega) hd2 (one _) λp' m' q' a b c d e=>h p' m' q' a b (by omega) d e
  .rw[Ac c]
   dsimp only;rw[if_neg qh];refine⟨hp.lt (by omega),hp.lt (by omega),?_⟩
   by_cases c2:rk (p.getD (m - 1) 0) < rk (p.getD m 0)
   .rw[Ab c2]
    dsimp only;rw[if_pos rfl];exact h p m q hp h1 (by omega) hd he
   .rw[Ac c2]
    dsimp only;rw[if_neg qh];have eq:KR rk p m=KR rk p (m - 1):=Int.le_antisymm (Int.not_lt.mp c2) (Int.not_lt.mp c);refine ih p (m+1) (q+1) hp (by omega) (by omega) (hd.more h1<|Int.le_of_eq eq) ⟨by have:=he.1; omega,λi a b=>?_⟩ λp' m' q' a b c d e=>h p' m' q' a b (by omega) d e;rw[show m+1 - 1=m by omega,eq]
    by_cases im:i=m
    .rw[im,eq]
    .exact he.2 i (by omega) (by omega)
def Run(rk:Nat->Int)(n:Nat)(r:Nat×Array Nat):Prop:=Pm n r.2/\r.1<=n/\Up rk r.2 r.1
theorem OY(hp:Pm n p)(h1:1<=m)(hm:m<=n)(hd:Dn rk p m){Q:Nat×Array Nat->Prop}(h:∀ r,Run rk n r->Q r):eT (jA rk) n (kas_tail3 m n p) Q:=by
 have hs:=hp.size;refine eT.bind<|N4 (hp.rev 0 m) (n - m) m h1 (by omega) (λi j e9 hj=>?_) λm' a b c _=>h (m',_) ⟨hp.rev 0 m,by show m'<=n; omega,c⟩;rw[BM (by omega),BM (by omega),if_pos ⟨by omega,by omega⟩,if_pos ⟨by omega,hj⟩];exact hd _ _ (by omega) (by omega)
theorem PZ(hp:Pm n p)(h1:1<=m)(hm:m+1<=n)(hd:Dn rk p (m+1)){Q:Nat×Array Nat->Prop}(h:∀ r,Run rk n r->Q r):eT (jA rk) n (kas_descPart m n p) Q:=by
 refine eT.bind<|zrB (n - (m+1)) p (m+1) 0 hp (by omega) (by omega) hd (RG (by omega)) λp' m' q' pX a b d e=>?_;have hs:=pX.size;show eT (jA rk) n (if q' > 0 then _ else _) Q;split
 .exact OY (pX.rev _ _) a (by omega) (d.congr<|MY (by omega) e) h
 .exact OY pX a (by omega) d h
theorem zon(hp:Pm n p)(h1:1<=n){Q:Nat×Array Nat->Prop}(h:∀ r,Run rk n r->Q r):eT (jA rk) n (kas_count n p) Q:=by
 have hs:=hp.size;refine eT.bind<|N4 hp (n - 1) 1 (qg _) (by omega) (λi j e9 hj=>by
  have:i=j:=by omega
  subst this; exact Ó _) λm a b u l=>?_
 by_cases e:m=n
 .rw[if_pos (by simpa using e)]
  exact h _ ⟨hp,by show m<=n; omega,u⟩
 rw[if_neg (by simpa using e)];have l:=l (by omega)
 by_cases m1:m > 1
 .rw[if_pos m1]
  refine⟨hp.lt (by omega),hp.lt (by omega),?_⟩
  by_cases c:rk (p.getD 0 0) < rk (p.getD (m - 1) 0)
  .rw[Ab c]
   dsimp only;rw[if_pos rfl];exact h _ ⟨hp,by show m<=n; omega,u⟩
  .rw[Ac c]
   dsimp only;rw[if_neg qh];have all:∀ i,i < m->KR rk p i=KR rk p 0:=λi hi=>Int.le_antisymm (ü (u i (m - 1) (by omega) (by omega))<|Int.not_lt.mp c)<|u 0 i (by omega) hi;have ek:∀ k,KR rk (kas_rev p 0 m) k=KR rk p k:=λk=>by
    rw[BM (by omega)];split
    .rw[all _ (by omega),all k (by omega)]
    .rfl
   refine PZ (hp.rev 0 m) (by omega) (by omega) (Dn.congr (p:=p) (λi j e9 hj=>?_) ek) h
   by_cases jm:j=m
   .subst jm
    by_cases ij:i=j
    .subst ij; exact Ó _
    .rw[all i (by omega),<-all (j - 1) (by omega)]
     exact à l
   .rw[all i (by omega),all j (by omega)]
    exact Ó _
 .rw[if_neg m1]
  have:m=1:=by omega
  subst this;refine PZ hp (by omega) (by omega) (λi j e9 hj=>?_) h
  by_cases ij:i=j
  .subst ij; exact Ó _
  .have e1:i=0:=by omega
   have e2:j=1:=by omega
   subst e1; subst e2;exact à l
theorem zoo{k:Nat}(hp:Pm n p)(hk:k < n){Q:Nat->Prop}(h:∀ l,l<=k->(∀ i,i < l->KR rk p i<=KR rk p k)->(∀ i,l<=i->i < k->KR rk p k<=KR rk p i)->Q l)(hu:Up rk p k):
  ∀ (f l r:Nat),l<=r->r<=k->r - l<=f->(∀ i,i < l->KR rk p i<=KR rk p k)->(∀ i,r<=i->i < k->KR rk p k<=KR rk p i)->eT (jA rk) n (kas_place p k f l r) Q:=by
 intro f
 induction f with
 | zero=>exact λl r a b c d e=>h l (by omega) d λi hi=>e i (by omega)
 | succ f ih=>
  intro l r a b c d e;unfold kas_place
  by_cases g:l>=r
  .rw[if_pos g]
   exact h l (by omega) d λi hi=>e i (by omega)
  .rw[if_neg g]
   refine⟨hp.lt hk,hp.lt (by omega),?_⟩
   by_cases x:rk (p.getD k 0) < rk (p.getD ((l+r) / 2) 0)
   .rw[Ab x]
    dsimp only;rw[if_pos rfl];exact ih l ((l+r) / 2) (by omega) (by omega) (by omega) d λi hi hik=>ü (à x)<|hu _ i hi hik
   .rw[Ac x]
    dsimp only;rw[if_neg qh];exact ih ((l+r) / 2+1) r (by omega) (by omega) (by omega) (λi hi=>ü (hu i ((l+r) / 2) (by omega) (by omega))<|Int.not_lt.mp x) e
theorem N3{Q:Array Nat->Prop}(h:∀ p,Pm n p->Up rk p n->Q p):∀ (f:Nat) (p:Array Nat) (k:Nat),Pm n p->1<=k->k+f=n->Up rk p k->eT (jA rk) n (kas_bin f p k) Q:=by
 intro f
 induction f with
 | zero=>exact λp k hp _ e hu=>h p hp (by rw[<-e]; exact hu)
 | succ f ih=>
  intro p k hp h1 e hu;have hs:=hp.size;refine eT.bind (zoo hp (by omega) (λl hl a b=>?_) hu k 0 k (by omega) (qg _) (by omega) (λi hi=>absurd hi<|Nat.not_lt_zero _) λi a b=>by omega);refine ih _ (k+1) (hp.bubble _ _) (by omega) (by omega) λi j e9 hj=>?_;rw[OB (by omega) (by omega),OB (by omega) (by omega),show k - (k - l)=l by omega]
  by_cases il:i=l
  .rw[if_pos il]
   by_cases jl:j=l
   .rw[if_pos jl]; exact Ó _
   .rw[if_neg jl]
    split
    .exact b _ (by omega) (by omega)
    .omega
  .rw[if_neg il]
   by_cases jl:j=l
   .rw[if_pos jl]
    split
    .omega
    .exact a i (by omega)
   .rw[if_neg jl]
    split<;>split
    .exact hu _ _ (by omega) (by omega)
    .omega
    .exact hu _ _ (by omega) (by omega)
    .exact hu _ _ (by omega) (by omega)
theorem zrC(h2:1<=n){Q:Array Nat->Prop}(h:∀ p,Pm n p->Up rk p n->Q p):eT (jA rk) n (kas_sort n) Q:=by
 refine eT.bind<|zon (Array.Perm.refl _) h2 λr hZ=>?_;have(hp,hr,hu):=hZ;split
 .rename_i c
  by_cases z:r.1=0
  .rw[z]
   exact N3 h (n - max 0 1) r.2 (max 0 1) hp (by decide) (by have:max 0 1=1:=rfl; omega) λi j e9 hj=>by
    have:max 0 1=1:=rfl;have:i=j:=by omega
    subst this; exact Ó _
  .have e:max r.1 1=r.1:=by omega
   rw[e];exact N3 h (n - r.1) r.2 r.1 hp (by omega) (by omega) hu
 .have:r.1=n:=by omega
  exact h _ hp (by rw[<-this]; exact hu)
end
end L2
namespace L2
open PySem PySem.Spec PyProof.Rows
open PySem.AutoSeq1 (wpAny_loadPart')
open MeetsSeq MeetsSeq2 MeetsSeq3 SeqRoads2
def dS:Qa Int->Qa Int->Bool
 | [],[]=>false
 | [],_::_=>true
 | _::_,[]=>false
 | a::as,b::bs=>if a=b then dS as bs else decide (a < b)
theorem zrD{a:Int}{t u:Tok}(h:Q (.bool<|decide<|a < b) s):wpAny (model prog w) A (richCompare .Lt (.int a t)<|.int b u) Q E s:=wpAny_lt_int h
theorem zop(l b:Qg)(items bI:Array Qc)(n n2:Nat)(dd xb:Qb Qg)(sl wM:Array (Qb Qc))(xs ys:Qa Int):
  Meets (Builtin.«tuple.__lt__» ⟨[.ref l,.ref b],[]⟩)
   (λA R s=>s.heap.get? l=some {cls:=.type "tuple",dict:=dd,data:=.seq items n,slots:=sl}/\s.heap.get? b=some {cls:=.type "tuple",dict:=xb,data:=.seq bI n2,slots:=wM}/\
    IntsAre items.toList xs/\IntsAre bI.toList ys/\R (.ok<|.ret<|.bool<|dS xs ys) s):=
 .of_wp λprog w A R s h=>by
  have(hp,g,d,tk,os):=s;have(hl,hb,i1,i2,h):=h;have f2:=AutoSeq1.sub_tuple_tuple
  wp_walk using wpAny_loadPart' hl,wpAny_loadPart' hb,wpAny_forIn_list _ (λeh b s'=>b.1=none/\s'=⟨hp,g,d,tk,os⟩/\∃ (vs us:Qa Qc) (as bs:Qa Int),eh=vs.zip us/\IntsAre vs as/\IntsAre us bs/\(items.size < bI.size↔as.length < bs.length)/\
   R (.ok<|.ret<|.bool<|dS as bs) ⟨hp,g,d,tk,os⟩) _
  case turn=>
   rintro⟨y,x⟩ eh b s' ⟨kD,rfl,vs,us,as,bs,hz,j1,j2,hn,hR⟩;cases j1 with
   | nil=>cases hz
   | @cons a t vs as j1=>
    cases j2 with
    | nil=>cases hz
    | @cons c u us bs j2=>
     rw[List.zip_cons_cons]at hz;injection hz with hyx Ah;injection hyx with e1 e2;subst e1 e2;refine qc<|wpAny_eqBool_int ?_
     by_cases e:a=c
     .subst e
      rw[beq_self_eq_true]
      wp_walk
      refine⟨rfl,rfl,vs,us,as,bs,Ah,j1,j2,?_,?_⟩
      .rw[hn,qx,qx]
       omega
      .simpa [dS] using hR
     .rw[beq_eq_false_iff_ne.mpr e]
      wp_walk using zrD
      exact⟨_,rfl,by simpa [dS,e] using hR⟩
  case fin=>
   rintro⟨b1,b2⟩ s' ⟨kD,rfl,vs,us,as,bs,hz,j1,j2,hn,hR⟩;simp only at kD;subst kD
   wp_walk
   refine⟨_,rfl,?_⟩;have e:decide (items.size < bI.size)=dS as bs:=by
    cases j1 with
    | nil=>
     cases j2 with
     | nil=>exact decide_eq_false λz=>absurd (hn.mp z)<|Ë _
     | cons c u j2=>exact decide_eq_true<|hn.mpr<|Nat.zero_lt_succ _
    | cons a t j1=>
     cases j2 with
     | nil=>exact decide_eq_false λz=>absurd (hn.mp z)<|Nat.not_lt_zero _
     | cons c u j2=>cases hz
   show R (Except.ok<|Flow.ret<|Value.bool<|decide<|items.size < bI.size) _;rw[e];exact hR
  case h=>
   refine⟨rfl,rfl,items.toList,bI.toList,xs,ys,rfl,i1,i2,?_,h⟩;rw[<-IntsAre.length i1,<-IntsAre.length i2,Array.length_toList,Array.length_toList]
theorem zoq{l b:Qg}{items bI:Array Qc}{xs ys:Qa Int}(hl:s.heap.IsTuple l items)(hb:s.heap.IsTuple b bI)(i1:IntsAre items.toList xs)(i2:IntsAre bI.toList ys)(hu:A.units < cLine)
  (h:Q (.bool<|dS xs ys) s):wpAny (model prog w) A (compareOp .Lt (.ref l)<|.ref b) Q E s:=by
 obtain⟨⟨cls,dd,data,sl⟩,ho,hc,n,hd⟩:=id hl;obtain⟨⟨JW,xb,data2,wM⟩,uX,Ax,n2,hd2⟩:=id hb;simp only at hc hd Ax hd2;subst hc hd Ax hd2;exact richCompare_meets_room (op:=.Lt) ⟨_,ho,rfl⟩ ⟨_,uX,rfl⟩ F.slot_tuple_lt F.entry_tuple_lt (F.args_tuple_lt_2 _ _) (zop l b items bI n n2 dd xb sl wM xs ys) ⟨ho,uX,i1,i2,⟨(λx=>nomatch x),h⟩⟩ hu
end L2
namespace L2
open PySem PySem.Spec PySem.W PyProof.Rows
section
def zDS(prog:Qe)(w:Qh)(A:Qf)(rk:Nat->Int)(vs:Qa Qc)(κ:SortKind)(s:Qd):Prop :=
 ∀ i j (C:Bool->Qd->Prop),i < vs.length->j < vs.length->C (jA rk i j) s->wpAny (model prog w) A (keyLt' κ (vs.getD i Value.none)<|vs.getD j Value.none) C (λ_ _=>False) s
theorem zlo{rk:Nat->Int}{vs:Qa Qc}{P:PySem.Fin->Qd->Prop}(ho:s.heap.get? a=some (seqObj "list" vs.toArray n))(SS:vs.length < 64)
  (hk:2<=vs.length->∀ h':Heap,(∀ b o,b≠a->s.heap.get? b=some o->h'.get? b=some o)->∀ Q:SortKind->Qd->Prop,(∀ κ,zDS prog w A rk vs κ {s with heap:=h'}->Q κ {s with heap:=h'})->wpAny (model prog w) A (keyKind' vs.toArray) Q (λ_ _=>False) {s with heap:=h'})
  (h:∀ p:Array Nat,Pm vs.length p->Up rk p vs.length->P (.done<|.ret .none) {s with heap:=sortedHeap s.heap a vs (List.toArray<|p.toList.map λi=>vs.getD i Value.none)}):
  wpAny (model prog w) A (Builtin.«list.sort» ⟨[.ref a],[]⟩) P E s:=by
 have line:(64:Nat)<=sizeLine:=by decide
 have ha:a < s.heap.objs.size:=qj ho;obtain⟨e1,w6⟩:∃ e1,(s.heap.update a<|Obj.mapSeq λ_=>#[]).get? a=some (seqObj "list" #[] e1):=⟨_,get?_update_seq ho λ_=>#[]⟩;have old:∀ b o,(s.heap.update a<|Obj.mapSeq λ_=>#[]).get? b=some o->(((s.heap.update a<|Obj.mapSeq λ_=>#[]).push<|seqObj "tuple" vs.toArray 0).push<|seqObj "list" #[] 0).get? b=some o :=
  λb o e=>qf _<|qf _ e
 have D3:=old _ _ w6;have keep:∀ b o,b≠a->s.heap.get? b=some o->(((s.heap.update a<|Obj.mapSeq λ_=>#[]).push<|seqObj "tuple" vs.toArray 0).push<|seqObj "list" #[] 0).get? b=some o :=
  λb o ne e=>old b o (by rw[Heap.get?_update_ne _ _ _ _ ne]; exact e)
 rw[list_sort_plain];refine qc<|listItems_at ho rfl<|qc<|listUpdate_at ho rfl (qc<|seqEpoch_at w6 rfl<|qc<|wpAny_newTuple (qc<|wpAny_newList (wpAny_holding ?_) ?_) ?_) ?_ ?_
 case refine_2=>exact Ç _
 case refine_3=>show vs.length<=_; omega
 case refine_4=>show vs.toArray.size<=_; rw[List.size_toArray]; omega
 case refine_5=>exact Ç _
 show wpAny (model prog w) A _ P E {s with heap:=((s.heap.update a<|Obj.mapSeq λ_=>#[]).push<|seqObj "tuple" vs.toArray 0).push (seqObj "list" #[] 0)};dsimp only;generalize hH:((s.heap.update a<|Obj.mapSeq λ_=>#[]).push<|seqObj "tuple" vs.toArray 0).push (seqObj "list" #[] 0)=h6 at *;have hsz:vs.toArray.size=vs.length:=by simp
 have fin:∀ p:Array Nat,Pm vs.length p->Up rk p vs.length->P (.done<|.ret .none) {s with heap:=h6.update a (Obj.mapSeq λ_=>List.toArray<|p.toList.map λi=>vs.getD i Value.none)}:=λp a1 a2=>by
  have:=h p a1 a2;unfold sortedHeap at this;rw[hH]at this;exact this
 by_cases h2:vs.toArray.size < 2
 .rw[if_pos h2,if_pos h2]
  refine qc<|qd ?_;rw[StateT.run_pure];refine qc<|qd ?_;dsimp only;have hz:(vs.toArray.zip vs.toArray).size=vs.length:=by simp
  have JG:arrOf (SortSt.mk' general' (vs.toArray.zip vs.toArray) #[] 7 none)=(List.range vs.length).toArray.map (kas_item<|vs.toArray.zip vs.toArray):=by
   have:=kas_range (vs.toArray.zip vs.toArray);rw[hz]at this;exact this.symm
  have e:=kat_snds (ks:=vs) (vs:=vs) rfl JG;rw[e];refine qc<|seqEpoch_at D3 rfl<|qc<|listUpdate_at D3 rfl ?_ ?_ ?_
  .show wpAny _ _ (if(e1 != e1)=true then _ else _) _ _ _
   rw[bne_self_eq_false,if_neg qh];refine qd<|fin _ (Array.Perm.refl _) λi j e9 hj=>?_;have:i=j:=by omega
   subst this;exact Ó _
  .exact Ç _
  .rw[List.size_toArray,List.length_map]
   simp;omega
 .rw[if_neg h2,if_neg h2]
  have i6:2<=vs.length:=by omega
  refine qc<|wpAny_mono (hk i6 h6 keep _ λκ ask=>?_) (λ_ _ x=>x) λ_ _ x=>x.elim;refine qc<|wpAny_mono (kat_run (ks:=vs) (Q:=λeF s'=>s'={s with heap:=h6}/\∃ p:Array Nat,Pm vs.length p/\Up rk p vs.length/\arrOf eF=p.map (kas_item<|vs.toArray.zip vs.toArray)/\failedOf eF=none) (G:=λp s'=>s'={s with heap:=h6}/\Pm vs.length p/\Up rk p vs.length) rfl i6 SS
   (λp eF s' _ a2 a3 a4=>⟨a4.1,p,a4.2.1,a4.2.2,a2,a3⟩) (eT.wp (lt:=jA rk) (n:=vs.length) ask (λp hp=>⟨rfl,hp⟩)<|zrC (by omega) λp a1 a2=>⟨a1,a2⟩)) ?_ λ_ _ x=>x
  rintro⟨⟨⟩,eF⟩ s' ⟨rfl,p,a1,a2,JG,hf⟩;dsimp only;have e:=kat_snds (ks:=vs) (vs:=vs) rfl JG;rw[e,hf];refine qc<|seqEpoch_at D3 rfl<|qc<|listUpdate_at D3 rfl ?_ ?_ ?_
  .show wpAny _ _ (if(e1 != e1)=true then _ else _) _ _ _
   rw[bne_self_eq_false,if_neg qh];exact qd<|fin p a1 a2
  .exact Ç _
  .rw[List.size_toArray,List.length_map,Array.length_toList,a1.size]
   omega
end
theorem ug:∀ a:Qa Int,dS a a=false
 | []=>rfl
 | a::as=>by unfold dS; rw[if_pos rfl]; exact ug as
theorem wF:∀ {a b c:Qa Int},dS a b=true->dS b c=true->dS a c=true
 | [],[],_,h,_=>by cases h
 | [],_::_,[],_,h=>by cases h
 | [],_::_,_::_,_,_=>rfl
 | _::_,[],_,h,_=>by cases h
 | _::_,_::_,[],_,h=>by cases h
 | a::as,b::bs,c::cs,h1,h2=>by
  unfold dS at h1 h2 ⊢
  by_cases e1:a=b
  .subst e1
   rw[if_pos rfl]at h1
   by_cases e2:a=c
   .rw[if_pos e2]at h2 ⊢
    exact wF h1 h2
   .rw[if_neg e2]at h2 ⊢
    exact h2
  .rw[if_neg e1]at h1
   have l1:=of_decide_eq_true h1
   by_cases e2:b=c
   .subst e2
    rw[if_neg e1];exact h1
   .rw[if_neg e2]at h2
    have l2:=of_decide_eq_true h2;rw[if_neg (by omega)];exact decide_eq_true (by omega)
theorem yw:∀ {a b:Qa Int},a≠b->dS a b=true\/dS b a=true
 | [],[],h=>absurd rfl h
 | [],_::_,_=>.inl rfl
 | _::_,[],_=>.inr rfl
 | a::as,b::bs,h=>by
  unfold dS
  by_cases e:a=b
  .subst e
   rw[if_pos rfl,if_pos rfl];exact yw λz=>h (by rw[z])
  .rw[if_neg e,if_neg λz=>e z.symm]
   rcases(by omega:a < b\/b < a)with z|z
   .exact .inl (decide_eq_true z)
   .exact .inr (decide_eq_true z)
theorem N2{p q:α->Bool}:∀ {l:Qa α} {x:α},(∀ y∈l,p y=true->q y=true)->x∈l->q x=true->p x=false->l.countP p < l.countP q
 | y::l,x,h,m,hq,hp=>by
  rw[List.countP_cons,List.countP_cons];have le:l.countP p<=l.countP q:=List.countP_mono_left λz hz=>h z<|qq _ hz;rcases qy.mp m with e|m
  .subst e
   rw[hp,hq];simp;omega
  .have:=N2 (λz hz=>h z<|qq _ hz) m hq hp
   by_cases c:p y=true
   .rw[c,h y qr c]
    simp;omega
   .rw[if_neg c]
    split<;>omega
def qR(ps:Qa (Qa Int))(i:Nat):Int:=((List.range ps.length).countP λk=>dS (ps.getD k []) (ps.getD i []):Nat)
theorem G9{ps:Qa (Qa Int)}(hi:i < ps.length)(h:dS (ps.getD i []) (ps.getD j [])=true):qR ps i < qR ps j:=by
 unfold qR;have:=N2 (p:=λk=>dS (ps.getD k [])<|ps.getD i []) (q:=λk=>dS (ps.getD k [])<|ps.getD j []) (l:=List.range ps.length) (x:=i) (λy _ hy=>wF hy h) (Í.mpr hi) h (ug _);omega
theorem Hw{ps:Qa (Qa Int)}(h:ps.Nodup)(hi:i < ps.length)(hj:j < ps.length)(ne:i≠j):ps.getD i []≠ps.getD j []:=by
 have e:∀ k (hk:k < ps.length),ps.getD k []=ps[k]:=λk hk=>by simp[hk]
 rw[e i hi,e j hj];intro z;rcases Nat.lt_or_gt_of_ne ne with l|l
 .exact ï.mp h i j hi hj l z
 .exact ï.mp h j i hj hi l z.symm
theorem W2{ps:Qa (Qa Int)}(h:ps.Nodup)(hi:i < ps.length)(hj:j < ps.length):jA (qR ps) i j=dS (ps.getD i []) (ps.getD j []):=by
 cases c:dS (ps.getD i []) (ps.getD j [])with
 | true=>exact decide_eq_true<|G9 hi c
 | false=>
  refine decide_eq_false λz=>?_
  by_cases e:i=j
  .subst e; omega
  .rcases yw (Hw h hi hj e)with y|y
   .rw[c]at y; cases y
   .have:=G9 hj y
    omega
theorem Pm.list(h:Pm n p):p.toList.Perm (List.range n):=by
 have:=h.toList;simpa using this
theorem zAy{ps:Qa (Qa Int)}(h:ps.Nodup)(hp:Pm ps.length p)(hu:Up (qR ps) p ps.length):(p.toList.map λi=>ps.getD i []).Pairwise λa b=>dS a b=true:=by
 have hs:=hp.size;have hl:=hp.list;have nd:p.toList.Nodup:=hl.nodup_iff.mpr List.nodup_range;refine ú.mpr<|ï.mpr λi j hi hj e9=>?_;have e:∀ k (hk:k < p.toList.length),KR (qR ps) p k=qR ps p.toList[k]:=λk hk=>by
  unfold KR;have i5:k < p.size:=by simpa using hk
  congr 1;simp[Array.getD,i5]
 have m:∀ k (hk:k < p.toList.length),p.toList[k] < ps.length:=λk hk=>Í.mp<|hl.mem_iff.mp<|List.getElem_mem hk;have le:=hu i j (by omega) (by rw[Array.length_toList]at hj; omega);rw[e i hi,e j hj]at le;have ne:p.toList[i]≠p.toList[j]:=ï.mp nd i j hi hj e9;rcases yw (Hw h (m i hi) (m j hj) ne)with z|z
 .exact z
 .have:=G9 (m j hj) z
  omega
def qQ(h:Heap)(v:Qc)(ns:Qa Int):Prop:=∃ (a b:Qg) (u:Qc) (ah:Array Qc),v=.ref a/\IsTup h a #[.ref b,u]/\IsTup h b ah/\IntsAre ah.toList ns
theorem N1{ah:Array Qc}(t:IsTup h a ah)(k:∀ o,h.get? a=some o->h'.get? a=some o):IsTup h' a ah:=by
 have(o,e,r):=t;exact⟨o,k o e,r⟩
theorem Hv:∀ {vs:Qa Qc} {ns:Qa Int},IntsAre vs ns->ItemsAre (eV prog w) (ns.map λn=>(Sum.inl n:Key)) vs
 | _,_,.nil=>.nil
 | _,_,.cons n t h=>.cons (show Value.isInt n (.int n t)=true by simp[Value.isInt])<|Hv h
theorem Gi{ms:Qa Int}:(ns.map λn=>(Sum.inl n:Key))=(ms.map λn=>(Sum.inl n:Key))↔ns=ms:=by
 constructor
 .intro h
  have:=congrArg (List.map λk:Key=>match k with | .inl n=>n | .inr _=>0) h;rw[List.map_map,List.map_map]at this;simpa [Function.comp_def] using this
 .rintro rfl; rfl
section
theorem zCt{v v':Qc}{si:Qa Int}{C:Bool->Qd->Prop}(hu:A.units < cLine)(p:qQ s.heap v ns)(p':qQ s.heap v' si)(ne:v=v'\/ns≠si)(h:C (dS ns si) s):wpAny (model prog w) A (keyLt' (tuples' false) v v') C (λ_ _=>False) s:=by
 obtain⟨a,b,u,ah,rfl,⟨oa,ea,ca,na,da⟩,tb,ib⟩:=p;obtain⟨a',b',u',its',rfl,⟨oa',ig,ca',IY,JV⟩,R0,Ss⟩:=p';refine kat_lt ea da ig JV ?_;show KatLex prog w A false _ C [(.ref b,.ref b'),(u,u')] 0 s;have(ob,eb,cb,nb,db):=id tb;have(ob',eb',cb',nb',db'):=id R0;refine kat_cons<|wpAny_eqBool_tuple (knd:=eV prog w) hu ⟨ob,ah,nb,eb,cb,db,Hv ib⟩ ⟨ob',its',nb',eb',cb',db',Hv Ss⟩ ?_
 by_cases e:ns=si
 .rw[decide_eq_true<|Gi.mpr e]
  rcases ne with z|z
  .cases z
   rw[ea]at ig;cases ig;rw[da]at JV;injection JV with d1 d2;have d3:=congrArg Array.toList d1;have e1:Value.ref b=.ref b'/\u=u':=by simpa using d3
   have(_,rfl):=e1;refine kat_yes<|kat_cons<|SeqAt.EqAt.same u prog w _ _<|kat_yes<|kat_nil ?_;subst e;rw[ug]at h;exact h
  .exact absurd e z
 .rw[decide_eq_false λz=>e<|Gi.mp z]
  refine kat_no<|kat_one _ _<|zoq tb R0 ib Ss hu ?_;exact h
end
theorem qQ.kept{v:Qc}(p:qQ h v ns)(k:∀ b o,h.get? b=some o->h'.get? b=some o):qQ h' v ns:=by
 have(a,b,u,ah,e,ta,tb,i):=p;exact⟨a,b,u,ah,e,N1 ta<|k a,N1 tb<|k b,i⟩
theorem OA:∀ {vs:Qa Qc},(∀ v∈vs,∃ ns,qQ h v ns)->∃ fs,KatTups h vs fs/\fs.length=vs.length/\∀ f∈fs,∃ (b:Qg) (ah:Array Qc),f=.ref b/\IsTup h b ah
 | [],_=>⟨[],.nil,rfl,λf hf=>by cases hf⟩
 | v::vs,hv=>by
  have(fs,k,l,q):=OA (vs:=vs) λx hx=>hv x<|qq _ hx;obtain⟨ns,a,b,u,ah,rfl,⟨o,eo,co,n,dO⟩,tb,_⟩:=hv v qr;refine⟨.ref b::fs,.cons eo co dO rfl k,by rw[qx,qx,l],λf hf=>?_⟩;rcases qy.mp hf with e|hf
  .exact⟨b,ah,e,tb⟩
  .exact q f hf
def W1(K:qe)(H:Hp)(vs:Qa V)(ps:Qa (Qa Int)):Prop:=vs.length=ps.length/\∀ i v,vs[i]?=some v->∃ (a b:Qg) (y:V),v=.ref a/\br K H a [.ref b,y]/\br K H b ((ps.getD i []).map V.int)
def LN(K:qe):Qa V->Hp->VK->Prop:=λxs H Q=>∃ (l:Qg) (vs:Qa V) (ps:Qa (Qa Int)),xs=[.ref l]/\bu K H l vs/\vs.length < 64/\W1 K H vs ps/\ps.Nodup/\
 ∀ (is:Qa Nat) r,is.Perm (List.range vs.length)->(is.map λi=>ps.getD i []).Pairwise (λa b=>dS a b=true)->H r=none->Q (.ref r) (upd H r<|.lst<|is.map λi=>vs.getD i .aP)
theorem Oz(r:zW vs us):∀ is:Qa Nat,(∀ i∈is,i < vs.length)->zW (is.map λi=>vs.getD i .aP) (is.map λi=>us.getD i Value.none)
 | [],_=>.nil
 | i::is,h=>by
  have hi:=h i qr;have(u,e,ru):=r.get (qo hi);refine .cons ?_<|Oz r is λj hj=>h j<|qq _ hj;show aO (vs.getD i .aP) (us.getD i Value.none);rw[qE,qE,qo hi,e];exact ru
section
variable{X:Cx}
theorem zor(K:qe)(hK:X.K=K){k:Nat}(hr:aM k X.A):fS X (.builtin "sorted") (LN K):=by
 subst hK;intro pins s σ H xs us Q I r h;obtain⟨l,vs,ps,rfl,hl,SS,⟨lp,hp⟩,nd,q⟩:=h;have(u,rfl,ru):=jS r;cases ru;obtain⟨ah,rv,⟨o,n,eo,co,_,dO⟩,_⟩:=I.list hl;have line:(64:Nat)<=sizeLine:=by decide
 have lv:ah.length=vs.length:=rv.length.symm;have pr:∀ i,i < ah.length->qQ s.heap (ah.getD i Value.none) (ps.getD i []):=λi hi=>by
  have ie:i < vs.length:=by omega
  have(a,b,y,ev,ha,hb):=hp i _ (qo ie);have(u,eu,ru):=rv.get (qo ie);rw[ev]at ru;cases ru;have(ia,ra,ta,_):=I.tuple ha;have(u1,u2,rfl,r1,r2):=ra.two;cases r1;have(ib,rb,tb,_):=I.tuple hb;refine⟨a,b,u2,ib.toArray,?_,ta,tb,zn9 rb⟩;rw[qE,eu];rfl
 refine Calls.call_function_entry kind_sorted plain_sorted entry_sorted (args_sorted1 _) ?_;unfold Builtin.«sorted»;refine qc (m:=checkCount "sorted" 1 1 _)<|qd ?_;refine qc<|collect_list (vs:=ah) ⟨o,eo,co,n,dO⟩ (qc<|wpAny_newList ?_ ?_) (by omega)
 case refine_2=>omega
 generalize hH:(s.heap.push<|seqObj "list" #[] 0).update s.heap.objs.size (Obj.mapSeq (·++ah.toArray))=h1 at *;have hsz:h1.objs.size=s.heap.objs.size+1:=by rw[<-hH,Heap.size_update,size_push']
 have sE:∀ b o,s.heap.get? b=some o->h1.get? b=some o:=λb o e=>by
  have eO:b < s.heap.objs.size:=qj e;rw[<-hH,Heap.get?_update_ne _ _ _ _<|ql eO,Heap.get?_push_ne _ _ _<|ql eO];exact e
 have I1:Inv X pins σ H {s with heap:=h1,toks:=s.toks}:=I.kept sE;have Aj:(h1.push<|seqObj "list" ah.toArray 0).get? h1.objs.size=some (seqObj "list" ah.toArray 0):=qi _ rfl;have hu:X.A.units+64 < cLine:=hr.units;refine qc<|wpAny_holding<|wpAny_call_entry slot_list_sort ⟨_,Aj,rfl⟩ entry_list_sort (zlo (rk:=qR ps) (s:={s with heap:=h1.push (seqObj "list" ah.toArray 0)}) Aj (by omega) (λh2 h' kp Q' hQ=>?_) λp a1 a2=>⟨_,rfl,?_⟩)<|args_list_sort _
 .have kp':∀ b o,s.heap.get? b=some o->h'.get? b=some o:=λb o e=>by
   have eO:b < s.heap.objs.size:=qj e;exact kp b o (ql (by rw[hsz]; exact ù eO))<|qf _<|sE b o e
  have IJ:∀ i,i < ah.length->qQ h' (ah.getD i Value.none) (ps.getD i []):=λi hi=>(pr i hi).kept kp';have(fs,kt,lf,tf):=OA (h:=h') (vs:=ah) λv hv=>by
   have(i,hi,e):=ą hv;have:=IJ i hi;rw[show ah.getD i Value.none=v by simp[hi,e]]at this;exact⟨_,this⟩
  refine kat_kind (fs:=fs) (T:=.type "tuple") kt (by omega) (λv hv=>?_) (by decide) ?_
  .have(b,ib,rfl,o,eo,co,_):=tf v hv
   rw[<-co];exact(Looks.ld eo).andThen .now
  .refine hQ _ λi j C hi hj hc=>?_
   rw[W2 nd (by omega) (by omega)]at hc;refine zCt (by show X.A.units+1+1 < cLine; omega) (IJ i hi) (IJ j hj) ?_ hc
   by_cases e:i=j
   .exact .inl (by rw[e])
   .exact .inr (Hw nd (by omega) (by omega) e)
 .refine qd ⟨_,rfl,?_⟩
  have(en,ho):=sortedHeap_at (vs:=ah) (out:=List.toArray (p.toList.map λi=>ah.getD i Value.none)) Aj;have fresh:H h1.objs.size=none:=I1.aE.fresh (qg _);have perm:p.toList.Perm (List.range vs.length):=by
   have:=a1.list;rw[lv]at this;exact this
  have mem:∀ i∈p.toList,i < vs.length:=λi hi=>Í.mp<|perm.mem_iff.mp hi;have lm:p.toList.length=vs.length:=by
   have:=perm.length_eq;simpa using this
  rw[lv,lp]at a1 a2;refine⟨.ref h1.objs.size,_,I1.laid (t':=s.toks) (a:=h1.objs.size) (o:=.lst (p.toList.map λi=>vs.getD i .aP)) (λb o e=>?_) (qg _) ⟨by rw[List.length_map]; omega,p.toList.map λi=>ah.getD i Value.none,en,Oz rv p.toList mem,by simpa using ho⟩,rfl,q p.toList _ perm (zAy nd a1 a2) fresh⟩;have hb:b < h1.objs.size:=qj e;rw[sortedHeap_old (ql hb) (by rw[Heap.size_push]; exact ù hb)];exact qf _ e
end
end L2
namespace L2
open PySem PySem.Spec PyProof.Rows
def ix(h:Heap)(d:Qg)(es:Array DictEntry)(ep:Nat):Prop:=∃ o,h.get? d=some o/\o.ExactDict/\o.data=.dict es ep
theorem ix.typeIs{d:Qg}(r:ix s.heap d es ep):s.TypeIs (.ref d) "dict":=by
 have(o,e,x,_):=r;exact⟨o,e,x.1⟩
section
variable{d:Qg}
theorem Zw(hd:(d==sysModules)=false)(r:ix s.heap d es ep)
  (q:∀ h':Heap,h'.IsKeyIter s.heap.objs.size d 0 es.size ep->(∀ b o,s.heap.get? b=some o->h'.get? b=some o)->Q (.ref s.heap.objs.size) {s with heap:=h'}):wpAny (model prog w) A (pyIter<|.ref d) Q E s:=by
 have hT:=r.typeIs;have(o,e,_,dat):=r;refine wpAny_pyIter_slot hT F.slot_dict_iter<|wpAny_call_entry F.slot_dict_iter hT F.entry_dict_iter ?_<|F.args_dict_iter_1 _;unfold Builtin.«dict.__iter__»;refine qc ?_;unfold Builtin.Dict.dictSlotNone;refine qc<|wpAny_notOrdered_dict hT<|qd ?_;show wpAny _ _ (Builtin.Dict.showsAll d >>= _) _ _ s;unfold Builtin.Dict.showsAll;rw[hd,if_neg qh];refine qc<|qd<|qc<|wpAny_dictEntries e dat<|qc<|wpAny_dictEpoch e dat<|qc<|qD<|qd ⟨_,rfl, "dict_keyiterator",_,⟨_,qi _ rfl,rfl⟩,â.lookup,?_⟩;exact q _ ⟨_,qi _ rfl,rfl,by simp[rawInt]⟩ λb o z=>qf _ z
theorem Zv{Q:Qb Qc->Qd->Prop}(k:s.heap.IsKeyIter it d i es.size ep)(r:ix s.heap d es ep){x:DictEntry}(hx:es[i]?=some x)
  (q:∀ h':Heap,h'.IsKeyIter it d (i+1) es.size ep->Heap.SameBut it s.heap h'->Q (some x.key) {s with heap:=h'}):wpAny (model prog w) A (pyNext<|.ref it) Q E s:=by
 have kT:=k.typeIs;have(oi,ei,ci,fi):=id k;have(o,e,_,dat):=r;unfold pyNext;refine qc<|wpAny_attempt (wpAny_callSpecial?_slot (name:=Str.ofString "__next__") kT â
  (wpAny_call_entry â kT F.entry_dict_keyiterator_next ?_<|F.args_dict_keyiterator_next_1 _))
 refine qc<|qd<|qc<|qc ?_;refine qc<|wpAny_typeNameOfWhole_keyiter kT<|qd<|qc<|wpAny_fieldsOf ei fi ?_;simp only[show Builtin.Dict_items.ownsTuple "dict_keyiterator"=false by decide,Bool.false_eq_true,if_false];show wpAny _ _ (if(Value.ref d==Value.none)=true then _ else _) _ _ s;rw[if_neg (show ¬((Value.ref d==Value.none)=true) from qh)];refine qc<|qd<|qc<|wpAny_dictEntries e dat ?_;rw[if_neg (by simp)];refine qc<|qd<|qc<|wpAny_dictEpoch e dat ?_;rw[if_neg (by simp)];refine qd ?_;simp only[show ¬((i:Int) < 0) from by omega,if_false,Int.toNat_natCast,hx];refine qc<|qc<|wpAny_typeNameOfWhole_keyiter kT<|qd<|qc<|wpAny_isOneOf_keyiter kT ?_;show wpAny _ _ (setField (.ref it) 1 (rawInt<|(i:Int)+1) >>= _) _ _ s;refine qc<|wpAny_setField ei fi (by simp) ?_;have k':(s.heap.update it<|Obj.mapFields (·.setIfInBounds 1 (rawInt<|(i:Int)+1))).IsKeyIter it d (i+1) es.size ep :=
  ⟨_,Ù _ ei<|û<|ć fi _,(Obj.cls_mapFields ..).trans ci,by rw[Obj.data_mapFields fi]; simp[rawInt]⟩
 refine qc<|wpAny_holding<|qc<|wpAny_isOneOf_keyiter (s:={s with heap:=s.heap.update it (Obj.mapFields (·.setIfInBounds 1 (rawInt<|(i:Int)+1)))}) k'.typeIs ?_;show wpAny _ _ (pure x.key) _ _ _;exact qd<|qd ⟨_,rfl,qd<|q _ k'<|Õ ..⟩
theorem W0{Q:Qb Qc->Qd->Prop}(hh:A.handled=none)(k:s.heap.IsKeyIter it d i es.size ep)(r:ix s.heap d es ep)(hx:es.size<=i)
  (q:∀ h':Heap,Heap.ExtBut it s.heap h'->Q none {s with heap:=h'}):wpAny (model prog w) A (pyNext<|.ref it) Q E s:=by
 have kT:=k.typeIs;have(oi,ei,ci,fi):=id k;have(o,e,_,dat):=r;unfold pyNext;refine qc<|wpAny_attempt (wpAny_callSpecial?_slot (name:=Str.ofString "__next__") kT â
  (wpAny_call_entry â kT F.entry_dict_keyiterator_next ?_<|F.args_dict_keyiterator_next_1 _))
 refine qc<|qd<|qc<|qc ?_;refine qc<|wpAny_typeNameOfWhole_keyiter kT<|qd<|qc<|wpAny_fieldsOf ei fi ?_;simp only[show Builtin.Dict_items.ownsTuple "dict_keyiterator"=false by decide,Bool.false_eq_true,if_false];show wpAny _ _ (if(Value.ref d==Value.none)=true then _ else _) _ _ s;rw[if_neg (show ¬((Value.ref d==Value.none)=true) from qh)];refine qc<|qd<|qc<|wpAny_dictEntries e dat ?_;rw[if_neg (by simp)];refine qc<|qd<|qc<|wpAny_dictEpoch e dat ?_;rw[if_neg (by simp)];refine qd ?_;simp only[show ¬((i:Int) < 0) from by omega,if_false,Int.toNat_natCast,Array.getElem?_eq_none hx];refine qc<|qc<|wpAny_typeNameOfWhole_keyiter kT<|qd ?_;show wpAny _ _ (setField (.ref it) 0 .none >>= _) _ _ s;refine qc<|wpAny_setField ei fi (by simp) ?_;show wpAny _ _ (newExc (.type "StopIteration") [] >>= _) _ _ _;refine qc ?_;simp only[newExc,newTuple];refine qc<|qD ?_ (by show(0:Nat)<=sizeLine; exact Ç _);refine qc (m:=firstArgMember _ _)<|wpAny_of_eq (a:=Value.none) (by first|rfl | (simp only[firstArgMember]; rfl)) ?_;refine qD ?_ (by first|trivial|size_fits);simp only[raiseNew];refine qc<|wpAny_handled ?_;rw[show A.in1.handled=none from hh];refine qc<|qd<|wpAny_throw ?_;refine qc<|wpAny_isInstance (T := "StopIteration") (b:=true) ⟨_,qi _ rfl,rfl⟩ isSubtype_stop ?_;exact qd<|q _<|((Õ ..).extBut.push _).push _
end
theorem Hu{R:α->β->Prop}:∀ {xs:Qa α} {ys:Qa β},Paired R xs ys->∀ (i:Nat) (x:α),xs[i]?=some x->∃ y,ys[i]?=some y/\R x y
 | _,_,.nil,i,x,h=>by simp at h
 | _,_,.cons r _,0,x,h=>by
  cases(show some _=some x from h);exact⟨_,rfl,r⟩
 | _,_,.cons _ t,i+1,x,h=>Hu t i x h
theorem yy{R:α->β->Prop}:∀ {xs:Qa α} {ys:Qa β},Paired R xs ys->xs.length=ys.length
 | _,_,.nil=>rfl
 | _,_,.cons _ t=>by rw[qx,qx,yy t]
theorem Gh{X:Cx}{o:Obj}(I:Inv X pins σ H s)(e:H a=some (.aZ o<|.dT kvs)):
  (a==sysModules)=false/\∃ (es:Array DictEntry) (ep:Nat),s.heap.get? a=some o/\o.ExactDict/\o.data=.dict es ep/\es.size=kvs.length/\∀ (i:Nat) (k:Qa Key) (v:V),kvs[i]?=some (k,v)->∃ (b:Qg) (x:DictEntry),es[i]?=some x/\x.key=.ref b/\aX X.K H b (k.map kV):=by
 have(ea,z,y,xs,r,o',es,ep,h1,h2,h3,h4,h5):=(show bW X.prog X.w X.K H s.heap a (.aZ o<|.dT kvs) from I.aE a _ e);rw[ea]at h1;cases h1;refine⟨y,es,ep,ea,h2,h3,?_,λi k v hi=>?_⟩
 .have:=congrArg List.length h4
  rw[Array.length_toList,List.length_map,<-yy r]at this;exact this
 .have(q,hq,r1,r2,_):=Hu r i (k,v) hi
  refine⟨q.2.1,entryOfKey (tupleKind<|eV X.prog X.w) q,?_,rfl,r2⟩;have:es.toList[i]?=some (entryOfKey (tupleKind<|eV X.prog X.w) q):=by rw[h4,List.getElem?_map,hq]; rfl
  simpa using this
def Ep(K:qe)(a:Qg)(o:Obj)(kvs:Qa (Qa Key×V)):It :=
 ⟨λi H=>H a=some (.aZ o<|.dT kvs)/\i < kvs.length,λi H x H'=>H'=H/\∀ k v,kvs[i]?=some (k,v)->∃ b,x=.ref b/\aX K H b (k.map kV),λi H=>H a=some (.aZ o<|.dT kvs)/\kvs.length<=i⟩
theorem zos(a it:Qg)(o:Obj)(kvs:Qa (Qa Key×V))(ep:Nat)(sN:∃ es,o.data=.dict es ep):Turn P w K tg (Ep K a o kvs) [it] it (λi h=>h.IsKeyIter it a i kvs.length ep) where
 mem:=by simp
 obj:=λi h st b hb=>by
  have e:b=it:=by simpa using hb
  subst e;have(oi,e,c,d):=st;exact⟨oi,e,λv z=>by rw[d]at z; cases z⟩
 keep:=λi h h' st k=>st.at λoi e=>k it (by simp) oi e
 item:=by
  intro X hP hw hK hc i pins s σ H E I hf st hg;subst hP hw hK;have(e,hi):=hg;have(mq,es,eQ,ea,xd,dat,hsz,ent):=Gh I e;have mH:eQ=ep:=by
   have(mF,z):=sN;rw[dat]at z;injection z
  subst mH;have(f0,f1,f2,f3,f4,f5):=hf it (by simp);have(b,x,ex,kx,hb):=ent i kvs[i].1 kvs[i].2 (qo hi);refine Zv (es:=es) (by rw[hsz]; exact st) ⟨o,ea,xd,dat⟩ ex λh' eF sb=>?_;have I1:Inv X pins σ H {s with heap:=h'}:=I.turned (t':=s.toks) (λb o hb e=>(sb.2 b hb).trans e) f0 f1 f3 f4 f5;have(oi,e',c',d'):=id eF;rw[kx];refine⟨.ref b,rfl,xF (s:={s with heap:=h'}) e' c' d' (by decide) ⟨.ref b,H,I1,rfl,⟨rfl,λk v jF=>⟨b,rfl,?_⟩⟩,by rw[hsz]at eF; exact eF,λb hb=>(hf b hb).1⟩⟩;rw[qo hi]at jF;rw[qB jF]at hb;exact hb
 done:=by
  intro X hP hw hK hc i pins s σ H E I hf st hg;subst hP hw hK;have(e,hi):=hg;have(mq,es,eQ,ea,xd,dat,hsz,ent):=Gh I e;have mH:eQ=ep:=by
   have(mF,z):=sN;rw[dat]at z;injection z
  subst mH;have(f0,f1,f2,f3,f4,f5):=hf it (by simp);exact W0 (es:=es) (I.ok.hd hc) (by rw[hsz]; exact st) ⟨o,ea,xd,dat⟩ (by omega) λh' eb=>⟨rfl,I.turned (t':=s.toks) (λb o hb e=>eb b o hb e) f0 f1 f3 f4 f5⟩
 self:=λ_ _ _ _ _ st h=>wpAny_pyIter_keyiter st h
section
variable{X:Cx}
theorem Inv.freeze(I:Inv X pins σ H s)(e:H a=some (.dT kvs)):∃ o,s.heap.get? a=some o/\Inv X pins σ (upd H a<|.aZ o<|.dT kvs) s:=by
 have ok:=(show bW X.prog X.w X.K H s.heap a (.dT kvs) from I.aE a _ e);have(z,y,xs,r,o,es,ep,h1,h2):=id ok;refine⟨o,h1,?_⟩;have yT:bW X.prog X.w X.K (upd H a<|.aZ o<|.dT kvs) s.heap a (.dT kvs):=ok.eM (λ_ _ _ q=>q) (λb q=>by rw[zD<|oM q e (by intro z; cases z)]; exact q) λb ys q=>by rw[zD<|oM q e (by intro z; cases z)]; exact q
 exact I.write (t':=s.toks) (h':=s.heap) (by rw[e]; trivial) (.inl rfl) (λ_ _ _ q=>q) ⟨o,h1⟩ ⟨h1,yT⟩
def LM(K:qe)(td:TE):TI:=λσ H R=>td σ H λx H1=>∃ a kvs,x=.ref a/\((H1 a=some (.dT kvs)/\∀ o,R (Ep K a o kvs)<|upd H1 a<|.aZ o<|.dT kvs)\/∃ o,H1 a=some (.aZ o<|.dT kvs)/\R (Ep K a o kvs) H1)
theorem wz{d:Expr}(hd:Wr (PE X d td)):Wr (PI X tg d<|LM X.K td):=by
 refine⟨?_⟩;intro pins s σ H R I h;refine aH (hd.run pins s σ H _ I h) λv s1 hZ=>?_;have(x,H1,I1,r1,q1):=hZ;have(a,kvs,e,q):=q1;subst e;cases r1;have key:∀ (H2:Hp) (o:Obj),Inv X pins σ H2 s1->H2 a=some (.aZ o<|.dT kvs)->R (Ep X.K a o kvs) H2->wpAny (model X.prog X.w) X.A (pyIter<|.ref a) (J1 X pins σ tg R) X.xe s1:=λH2 o I2 e2 q2=>by
  have(mq,es,ep,ea,xd,dat,hsz,_):=Gh I2 e2;refine Zw (es:=es) mq ⟨o,ea,xd,dat⟩ λh' hit kk=>?_;refine⟨s1.heap.objs.size,[s1.heap.objs.size],_,_,H2,rfl,I2.kept (t':=s1.toks) kk,zos a s1.heap.objs.size o kvs ep ⟨es,dat⟩,by rw[<-hsz]; exact hit,λb hb=>?_,q2⟩;have e:b=s1.heap.objs.size:=by simpa using hb
  subst e;exact I2.dE (qg _)<|I2.aE.fresh<|qg _
 rcases q with⟨e1,q⟩|⟨o,e1,q⟩
 .have(o,_,I2):=I1.freeze e1
  exact key _ o I2 zy<|q o
 .exact key H1 o I1 e1 q
end
end L2
namespace L2
open PySem PySem.Spec PyProof.Rows
open PySem.W (Looks)
def zDT(C p:Qg):Obj:={cls:=.ref C,data:=.fields #[.ref p,.none,.none,.none,.bool false,.none]}
section
variable{g:Array GenState}{d:Drawn}{t:Nat}{os:OsState}
variable{nm q:Str}{C N:Qg}{bs bm bmB:Qa Qc}{u3:Bool}{sn:Qa Str}{sub:Qa Qc}{ab:Bool}{col:Qb Bool}{dd:Qb Qg}{k0 k1 k2 k3 k5:Qb Qc}{B newId Je:String}
end
abbrev Iu:Qa Qc:=[.type "ValueError",.type "Exception",.type "BaseException",.type "object"]
structure XC (K:qe) (C:Qg):Prop where
 at_:∃ nm q N bs bm sn sub ab col dd k0 k1 k2 k3 k5,K.lookup C=some (excClassObj nm q C N bs bm true sn sub ab col dd k0 k1 k2 k3 k5 "ValueError.__new__")/\PySem.W.tailIn K Iu bm=true
 ga:PySem.W.findIn K (.ref C) "__getattribute__"=some (some<|.builtin "BaseException.__getattribute__")
 gh:PySem.W.findIn K (.ref C) "__getattr__"=some none
 sa:PySem.W.findIn K (.ref C) "__setattr__"=some (some<|.builtin "object.__setattr__")
section
variable{C x:Qg}
end
end L2
namespace L2
open PySem PySem.Spec PyProof.Rows
open PySem.W (Looks InstAt)
section
variable{C x:Qg}
end
end L2
namespace L2
open PySem PySem.Spec PyProof.Rows
open PySem.W (Looks InstAt)
structure XI (K:qe) (C:Qg):Prop where
 cl:XC K C
 ca:PySem.W.findIn K (.ref C) "__class__"=some (some<|.builtin "object.__class__")
 cg:PySem.W.specialIn K (.builtin "object.__class__") "__get__"=some (some<|.builtin "getset_descriptor.__get__")
 ct:PySem.W.takesIn K (.builtin "object.__class__")=some true
 cm:PySem.W.mroIn K C (.type "object")=some true
section
variable{C x:Qg}
end
end L2
namespace L2
open PySem PySem.Spec PyProof.Rows
open PySem.W (Looks InstAt)
def XV(H:Hp)(a C:Qg)(fs:Qa (Str×V)):Prop:=∃ ox,H a=some (.aZ ox<|.own 0)/\ox.cls=.ref C/\PySem.W.notCls ox=true/\
 ((fs=[]/\ox.dict=none)\/∃ od dx,ox.dict=some dx/\H dx=some (.aZ od<|.xd fs))
section
variable{X:Cx}{C:Qg}{fs:Qa (Str×V)}{value:Expr}{f:Str}
end
section
variable{X:Cx}{CX:jN}{k:Nat}{f C:Qg}{E:XK}{p:Pos}{es:Qa Expr}{t:TA}
end
end L2
namespace L2
open PySem PySem.Spec PyProof.Rows
open PySem.W (Looks InstAt)
section
variable{C x:Qg}
end
section
variable{X:Cx}{C:Qg}{p:Pos}
end
end L2
namespace L2
open PySem PySem.Spec PyProof.Rows
open PySem.W (Looks InstAt)
def zDU(a C:Qg)(d tb:Qb Qg)(h:Heap):Prop:=∃ oe vs,h.get? a=some oe/\oe.cls=.ref C/\oe.dict=d/\oe.data=.fields vs/\vs[1]?=some (tb.elim .none .ref)/\(tb=none->∃ p,oe={zDT C p with dict:=d})
def pTb(T:Qg)(h:Heap):Prop:=∃ oT ts,h.get? T=some oT/\oT.data=.fields ts/\ts[3]?=some .none
def zDV(a C:Qg)(d tb:Qb Qg):HO:=.ext (zDU a C d tb)
def xTb(T:Qg):HO:=.ext (pTb T)
def zDW(H:Hp)(a C:Qg)(fs:Qa (Str×V)):Prop:=∃ d tb,H a=some (zDV a C d tb)/\(∀ T,tb=some T->H T=some (xTb T)/\T≠a)/\
 ((fs=[]/\d=none)\/∃ od dx,d=some dx/\H dx=some (.aZ od<|.xd fs))
section
variable{X:Cx}
end
end L2
namespace L2
open PySem PySem.Spec PyProof.Rows
open PySem.W (Looks InstAt)
abbrev jf:=St->Qg->Hp->Prop
section
variable{X:Cx}{EX:jf}
end
section
variable{X:Cx}{C:Qg}{p:Pos}
end
def CXv(P:Qe)(w:Qh)(K:qe):jN:=λouter H s E e s'=>∃ a H',e=.ref a/\s'.os=s.os/\AllBare s'.gens/\Un (kE outer) [] H H' s.heap s'.heap/\cK P w K H' s'.heap/\E e none H'
section
variable{X:Cx}{EX:jf}{k:Nat}{f:Qg}{p:Pos}{es:Qa Expr}{t:TA}
end
end L2
namespace L2
open PySem PySem.Spec PyProof.Rows
open PySem.W (Looks InstAt)
abbrev Cx.body(X:Cx)(pn:Qa (Qg×Obj))(E:Qc->Qd->Prop):Cx:={X with pn:=pn,xe:=E}
section
variable{X:Cx}{pn:Qa (Qg×Obj)}
end
section
variable{C C':Qg}
end
section
variable{X:Cx}{n cls:Str}{C':Qg}{body R3:Qa Stmt}{b₀:Stmt}{tb:jf->TS}{th:TS}{np hpos:Pos}
end
end L2
namespace L2
open PySem PySem.Spec PyProof.Rows
abbrev D:=PyData
def Af:Key->D
 | .inl i=>.int i
 | .inr x=>.str x
def kr(ks:Qa Key):D:=.tuple (ks.map Af)
def PL(K:qe)(H:Hp)(a:Qg)(xs:Qa V):Prop :=
 (∃ o,H a=some (.aZ o<|.lst xs))\/∃ (o:Obj) (ah:Array Qc) (n:Nat),K.lookup a=some o/\o.cls=.type "list"/\o.dict=none/\o.data=.seq ah n/\ah.size<=sizeLine/\zW xs ah.toList
def XN(K:qe)(n:Str)(C:Qg):Prop:=PySem.W.nsIn K mainGlobals n=some (some<|.ref C)
def iV:Qa (D×D)->Bool
 | (.none,_)::_=>false
 | (.bool _,_)::_=>false
 | _=>true
theorem aX.sq(h:aX K H a xs):br K H a xs:=h.imp .inl λ⟨o,i,n,a,b,c,d,e,_⟩=>⟨o,i,n,a,b,c,d,e⟩
theorem aX.kp(e:Kp H H')(h:aX K H a xs):aX K H' a xs:=h.keeps e.tup
mutual
inductive DF (K:qe) (H:Hp):V->D->Prop
 | aP:DF K H .aP .none
 | bl (b:Bool):DF K H (.bl b) (.bool b)
 | int (i:Int):DF K H (.int i) (.int i)
 | str (x:Str):DF K H (.str x) (.str x)
 | tup {a:Qg} {xs:Qa V} {ds:Qa D} (h:aX K H a xs) (t:aR K H xs ds):DF K H (.ref a) (.tuple ds)
 | lst {a:Qg} {xs:Qa V} {ds:Qa D} (h:PL K H a xs) (t:aR K H xs ds):DF K H (.ref a) (.list ds)
 | gk {a:Qg} {o:Obj} {ws:Qa (Qa Key×V)} {kvs:Qa (D×D)} (h:H a=some (.aZ o<|.dT ws)) (t:iq K H ws kvs):DF K H (.ref a) (.dict kvs)
 | exc {a C:Qg} {n:Str} {fs:Qa (Str×V)} {ds:Qa (D×D)} (h:XV H a C fs) (e:XN K n C) (t:ir K H fs ds):DF K H (.ref a) (.dict<|(.none,.str n)::ds)
 | obj {a C dx:Qg} {o:Obj} {n:Str} {fs:Qa (Str×V)} {ds:Qa (D×D)} (h:H a=some (.aZ o<|.ins C dx fs)) (e:XN K n C) (t:ir K H fs ds):DF K H (.ref a) (.dict<|(.bool true,.str n)::ds)
inductive aR (K:qe) (H:Hp):Qa V->Qa D->Prop
 | nil:aR K H [] []
 | cons {v:V} {d:D} {vs:Qa V} {ds:Qa D} (h:DF K H v d) (t:aR K H vs ds):aR K H (v::vs) (d::ds)
inductive iq (K:qe) (H:Hp):Qa (Qa Key×V)->Qa (D×D)->Prop
 | nil:iq K H [] []
 | cons {k:Qa Key} {v:V} {d:D} {vs:Qa (Qa Key×V)} {ds:Qa (D×D)} (h:DF K H v d) (t:iq K H vs ds):iq K H ((k,v)::vs) ((kr k,d)::ds)
inductive ir (K:qe) (H:Hp):Qa (Str×V)->Qa (D×D)->Prop
 | nil:ir K H [] []
 | cons {k:Str} {v:V} {d:D} {vs:Qa (Str×V)} {ds:Qa (D×D)} (h:DF K H v d) (t:ir K H vs ds):ir K H ((k,v)::vs) ((.str k,d)::ds)
end
theorem XV.kp{C:Qg}{fs:Qa (Str×V)}(e:Kp H H')(h:XV H a C fs):XV H' a C fs:=by
 have(ox,h1,h2,h3,h4):=h;refine⟨ox,e.aZ _ _ _ h1,h2,h3,?_⟩;rcases h4 with h4|⟨od,dx,h5,h6⟩
 .exact .inl h4
 .exact .inr ⟨od,dx,h5,e.aZ _ _ _ h6⟩
theorem PL.kp(e:Kp H H')(h:PL K H a xs):PL K H' a xs:=by
 rcases h with⟨o,h⟩|h
 .exact .inl ⟨o,e.aZ _ _ _ h⟩
 .exact .inr h
theorem PL.sq(h:PL K H a xs):bu K H a xs:=by
 rcases h with⟨o,h⟩|h
 .exact .inl (.inr ⟨o,h⟩)
 .exact .inr h
mutual
theorem DF.kp(e:Kp H H'):∀ {v:V} {d:D},DF K H v d->DF K H' v d
 | _,_,.aP=>.aP
 | _,_,.bl b=>.bl b
 | _,_,.int i=>.int i
 | _,_,.str x=>.str x
 | _,_,.tup h t=>.tup (h.keeps e.tup)<|aR.kp e t
 | _,_,.lst h t=>.lst (h.kp e)<|aR.kp e t
 | _,_,.gk h t=>.gk (e.aZ _ _ _ h)<|iq.kp e t
 | _,_,.exc h n t=>.exc (h.kp e) n<|ir.kp e t
 | _,_,.obj h n t=>.obj (e.aZ _ _ _ h) n<|ir.kp e t
theorem aR.kp(e:Kp H H'):∀ {v:Qa V} {d:Qa D},aR K H v d->aR K H' v d
 | _,_,.nil=>.nil
 | _,_,.cons h t=>.cons (DF.kp e h)<|aR.kp e t
theorem iq.kp(e:Kp H H'):∀ {v:Qa (Qa Key×V)} {d:Qa (D×D)},iq K H v d->iq K H' v d
 | _,_,.nil=>.nil
 | _,_,.cons h t=>.cons (DF.kp e h)<|iq.kp e t
theorem ir.kp(e:Kp H H'):∀ {v:Qa (Str×V)} {d:Qa (D×D)},ir K H v d->ir K H' v d
 | _,_,.nil=>.nil
 | _,_,.cons h t=>.cons (DF.kp e h)<|ir.kp e t
end
section
theorem aR.snoc{d:D}(h:DF K H v d):∀ {vs:Qa V} {ds:Qa D},aR K H vs ds->aR K H (vs++[v]) (ds++[d])
 | _,_,.nil=>.cons h .nil
 | _,_,.cons a t=>.cons a<|aR.snoc h t
theorem aR.app:∀ {vs ws:Qa V} {ds es:Qa D},aR K H vs ds->aR K H ws es->aR K H (vs++ws) (ds++es)
 | _,_,_,_,.nil,q=>q
 | _,_,_,_,.cons a t,q=>.cons a<|aR.app t q
theorem aR.len:∀ {vs:Qa V} {ds:Qa D},aR K H vs ds->vs.length=ds.length
 | _,_,.nil=>rfl
 | _,_,.cons _ t=>congrArg (·+1)<|aR.len t
theorem aR.get:∀ {vs:Qa V} {ds:Qa D} {i:Nat} {d:D},aR K H vs ds->ds[i]?=some d->∃ v,vs[i]?=some v/\DF K H v d
 | _,_,0,_,.cons h _,e=>by
  cases(show some _=some _ from e);exact⟨_,rfl,h⟩
 | _,_,i+1,_,.cons _ t,e=>aR.get (i:=i) t e
 | _,_,0,_,.nil,e=>by cases e
 | _,_,_+1,_,.nil,e=>by cases e
theorem aR.get':∀ {vs:Qa V} {ds:Qa D} {i:Nat} {v:V},aR K H vs ds->vs[i]?=some v->∃ d,ds[i]?=some d/\DF K H v d
 | _,_,0,_,.cons h _,e=>by
  cases(show some _=some _ from e);exact⟨_,rfl,h⟩
 | _,_,i+1,_,.cons _ t,e=>aR.get' (i:=i) t e
 | _,_,0,_,.nil,e=>by cases e
 | _,_,_+1,_,.nil,e=>by cases e
theorem aR.take:∀ {vs:Qa V} {ds:Qa D} (n:Nat),aR K H vs ds->aR K H (vs.take n) (ds.take n)
 | _,_,0,_=>by simpa using aR.nil
 | _,_,n+1,.nil=>by simpa using aR.nil
 | _,_,n+1,.cons h t=>.cons h<|aR.take n t
theorem aR.drop:∀ {vs:Qa V} {ds:Qa D} (n:Nat),aR K H vs ds->aR K H (vs.drop n) (ds.drop n)
 | _,_,0,q=>q
 | _,_,n+1,.nil=>by simpa using aR.nil
 | _,_,n+1,.cons h t=>aR.drop n t
theorem aR.set{d:D}(h:DF K H v d):∀ {vs:Qa V} {ds:Qa D} (n:Nat),aR K H vs ds->aR K H (vs.set n v) (ds.set n d)
 | _,_,_,.nil=>.nil
 | _,_,0,.cons _ t=>.cons h t
 | _,_,n+1,.cons a t=>.cons a<|aR.set h n t
end
inductive U where
 | d (x:D)
 | l (xs:Qa D) | t (kvs:Qa (Qa Key×D)) | k (kvs:Qa (Key×D))
def U.own:U->Bool
 | .d _=>false
 | _=>true
def dH(K:qe)(H:Hp):Qa (κ×V)->Qa (κ×D)->Prop:=Paired λp q=>p.1=q.1/\DF K H p.2 q.2
def Rp(K:qe)(H:Hp)(v:V):U->Prop
 | .d x=>DF K H v x
 | .l xs=>∃ a us,v=.ref a/\H a=some (.lst us)/\aR K H us xs
 | .t kvs=>∃ a ws,v=.ref a/\H a=some (.dT ws)/\dH K H ws kvs
 | .k kvs=>∃ a ws,v=.ref a/\H a=some (.dK ws)/\dH K H ws kvs
def Mo:HO->Prop
 | .lst _=>True
 | .dT _=>True
 | .dK _=>True
 | _=>False
theorem Rp.own{u:U}(h:Rp K H v u)(o:u.own=true):∃ a c,v=.ref a/\H a=some c/\Mo c:=by
 cases u with
 | d x=>cases o
 | l xs=>have(a,us,e,q,_):=h; exact⟨a,_,e,q,trivial⟩
 | t xs=>have(a,us,e,q,_):=h; exact⟨a,_,e,q,trivial⟩
 | k xs=>have(a,us,e,q,_):=h; exact⟨a,_,e,q,trivial⟩
theorem dH.kp(e:Kp H H'){kvs:Qa (κ×D)}(h:dH K H ws kvs):dH K H' ws kvs:=Paired.pQ h λ_ _ z=>⟨z.1,z.2.kp e⟩
theorem Rp.kp{u:U}(h:Rp K H v u)(e:Kp H H')(o:u.own=true->∀ a c,v=.ref a->H a=some c->H' a=some c):Rp K H' v u:=by
 cases u with
 | d x=>exact DF.kp e h
 | l xs=>have(a,us,ev,q,t):=h; exact⟨a,us,ev,o rfl a _ ev q,t.kp e⟩
 | t xs=>have(a,us,ev,q,t):=h; exact⟨a,us,ev,o rfl a _ ev q,t.kp e⟩
 | k xs=>have(a,us,ev,q,t):=h; exact⟨a,us,ev,o rfl a _ ev q,t.kp e⟩
abbrev En:=Qa (Qb U)
def Ow(ρ:En)(σ:St)(a:Qg):Prop:=∃ (i:Nat) (u:U),ρ[i]?=some (some u)/\u.own=true/\σ[i]?=some (some<|.ref a)
structure Rs (K:qe) (ρ:En) (σ:St) (H:Hp):Prop where
 len:ρ.length=σ.length
 rep:∀ (i:Nat) (u:U),ρ[i]?=some (some u)->∃ v,σ[i]?=some (some v)/\Rp K H v u
 apart:∀ (i j:Nat) (u w:U),ρ[i]?=some (some u)->ρ[j]?=some (some w)->u.own=true->w.own=true->σ[i]?=σ[j]?->i=j
def AR(A:Qg->Prop)(H H':Hp):Prop:=∀ a o,H a=some o->¬A a->H' a=some o
structure fj (ρ av:En):Prop where
 len:av.length=ρ.length
 own:∀ (i:Nat) (u:U),av[i]?=some (some u)->u.own=true->∃ w,ρ[i]?=some (some w)/\w.own=true
 live:∀ (i:Nat) (u:U),ρ[i]?=some (some u)->∃ w,av[i]?=some (some w)
def Nw(H:Hp)(v:V)(u:U):Prop:=u.own=true->∃ a,v=.ref a/\H a=none
structure Go (K:qe) (ρ:En) (σ:St) (H:Hp) (av:En) (H':Hp):Prop where
 rs:Rs K av σ H'
 fr:AR (Ow ρ σ) H H'
 shr:fj ρ av
 dm:∀ a,H' a=none->H a=none
section
variable{ρ av d9:En}{AQ:Hp}
theorem Rs.ow(r:Rs K ρ σ H)(o:Ow ρ σ a):∃ c,H a=some c/\Mo c:=by
 have(i,u,e,ou,es):=o;have(v,ev,p):=r.rep i u e;rw[es]at ev;cases ev;have(b,c,eb,q,m):=p.own ou;cases eb;exact⟨c,q,m⟩
theorem AR.kp(r:Rs K ρ σ H)(f:AR (Ow ρ σ) H H'):Kp H H':=by
 refine⟨λb xs h=>f b _ h λo=>?_,λb ob u h=>f b _ h λo=>?_⟩
 .have(c,q,m):=r.ow o
  rw[h]at q;cases q;exact m
 .have(c,q,m):=r.ow o
  rw[h]at q;cases q;exact m
theorem fj.refl(ρ:En):fj ρ ρ:=⟨rfl,λi u e o=>⟨u,e,o⟩,λi u e=>⟨u,e⟩⟩
theorem fj.trans(a:fj ρ av)(b:fj av d9):fj ρ d9:=⟨b.1.trans a.1,λi u e o=>let ⟨w,e',o'⟩:=b.2 i u e o; a.2 i w e' o',λi u e=>let ⟨w,e'⟩:=a.3 i u e; b.3 i w e'⟩
theorem fj.ow(s:fj ρ av)(o:Ow av σ a):Ow ρ σ a:=by
 have(i,u,e,ou,es):=o;have(w,e',o'):=s.2 i u e ou;exact⟨i,w,e',o',es⟩
theorem Go.refl(r:Rs K ρ σ H):Go K ρ σ H ρ H:=⟨r,λ_ _ h _=>h,fj.refl _,λ_ h=>h⟩
theorem Go.trans(a:Go K ρ σ H av H')(b:Go K av σ H' d9 AQ):Go K ρ σ H d9 AQ :=
 ⟨b.rs,λc o h n=>b.fr c o (a.fr c o h n) λz=>n<|a.shr.ow z,a.shr.trans b.shr,λc h=>a.dm c<|b.dm c h⟩
theorem Go.kp(r:Rs K ρ σ H)(g:Go K ρ σ H av H'):Kp H H':=g.fr.kp r
theorem Go.eM{u:U}(r:Rs K ρ σ H)(g:Go K ρ σ H av H')(h:Rp K H v u)(n:u.own=true->∃ a,v=.ref a/\¬Ow ρ σ a):Rp K H' v u:=by
 refine h.kp (g.kp r) λo a c ev q=>?_;have(b,eb,nb):=n o;cases ev;cases eb;exact g.fr _ _ q nb
theorem Nw.out{u:U}(r:Rs K ρ σ H)(n:Nw H v u):u.own=true->∃ a,v=.ref a/\¬Ow ρ σ a:=λo=>by
 have(a,e,h):=n o;refine⟨a,e,λz=>?_⟩;have(c,q,_):=r.ow z;rw[h]at q;cases q
theorem cN.dm(s:cN H H'):∀ a,H' a=none->H a=none:=λa h=>by
 cases e:H a with
 | none=>rfl
 | some o=>rw[s a o e]at h; cases h
theorem Go.grow(r:Rs K ρ σ H)(s:cN H H'):Go K ρ σ H ρ H' :=
 ⟨⟨r.len,λi u e=>let ⟨v,ev,p⟩:=r.rep i u e; ⟨v,ev,p.kp s.kp λ_ a c _ q=>s a c q⟩,r.apart⟩,λa o h _=>s a o h,fj.refl _,s.dm⟩
end
inductive Ar where
 | s (i:Nat) | u (x:U)
def Ar.get(ρ:En):Ar->Qb U
 | .s i=>(ρ[i]?).join
 | .u x=>some x
def mY(K:qe)(ρ:En)(σ:St)(H H':Hp)(v:V):Ar->Prop
 | .s i=>σ[i]?=some (some v)/\∃ u,ρ[i]?=some (some u)
 | .u x=>Rp K H' v x/\Nw H v x
abbrev ME:=En->Qb (Ar×En)
abbrev MA:=En->Qb (Qa Ar×En)
abbrev MT:=En->Qb (Bool×En)
def VE(K:qe)(t:TE)(m:ME):Prop :=
 ∀ (ρ:En) (σ:St) (H:Hp) (a:Ar) (av:En) (Q:VK),Rs K ρ σ H->m ρ=some (a,av)->(∀ v H',Go K ρ σ H av H'->mY K av σ H H' v a->Q v H')->t σ H Q
def VT(K:qe)(t:TT)(m:MT):Prop :=
 ∀ (ρ:En) (σ:St) (H:Hp) (b:Bool) (av:En) (Q:Bool->Hp->Prop),Rs K ρ σ H->m ρ=some (b,av)->(∀ H',Go K ρ σ H av H'->Q b H')->t σ H Q
structure Es (K:qe) (ρ:En) (σ:St) (H H':Hp) (vs:Qa V) (as:Qa Ar):Prop where
 len:vs.length=as.length
 ar:∀ (i:Nat) (a:Ar),as[i]?=some a->∃ v,vs[i]?=some v/\mY K ρ σ H H' v a
 ap:∀ (i j:Nat) (x y:U),as[i]?=some (.u x)->as[j]?=some (.u y)->x.own=true->y.own=true->vs[i]?=vs[j]?->i=j
def jc(K:qe)(t:TA)(m:MA):Prop :=
 ∀ (ρ:En) (σ:St) (H:Hp) (as:Qa Ar) (av:En) (Q:Qa V->Hp->Prop),Rs K ρ σ H->m ρ=some (as,av)->(∀ vs H',Go K ρ σ H av H'->Es K av σ H H' vs as->Q vs H')->t σ H Q
section
variable{ρ av d9:En}{AQ:Hp}{a:Ar}{u:U}
theorem Nw.mono(n:Nw H' v u)(h:∀ a,H' a=none->H a=none):Nw H v u:=λo=>let ⟨a,e,q⟩:=n o; ⟨a,e,h a q⟩
theorem Nw.pL(r:Rs K ρ σ H)(g:Go K ρ σ H av H')(n:Nw H v u):u.own=true->∃ a,v=.ref a/\¬Ow av σ a:=λo=>by
 have(b,e,q):=n.out r o;exact⟨b,e,λz=>q<|g.shr.ow z⟩
theorem mY.later(r:Rs K ρ σ H)(g1:Go K ρ σ H av H')(g2:Go K av σ H' d9 AQ)(h:mY K av σ H H' v a)(e:a.get d9=some u):Rp K AQ v u:=by
 cases a with
 | s i=>
  have(es,_):=h;have e':d9[i]?=some (some u):=by
   cases q:d9[i]? with
   | none=>rw[show Ar.get d9 (.s i)=(d9[i]?).join from rfl,q]at e; cases e
   | some o=>
    rw[show Ar.get d9 (.s i)=(d9[i]?).join from rfl,q]at e;cases o with
    | none=>cases e
    | some x=>cases e; rfl
  have(w,ew,p):=g2.rs.rep i u e';rw[es]at ew;cases ew;exact p
 | u x=>
  cases(show some x=some u from e);exact g2.eM g1.rs h.1<|h.2.pL r g1
theorem mY.now(r:Rs K ρ σ H)(g1:Go K ρ σ H av H')(h:mY K av σ H H' v a)(e:a.get av=some u):Rp K H' v u:=h.later r g1 (Go.refl g1.rs) e
theorem Nw.data{x:D}:Nw H v (.d x):=λo=>by cases o
def zi(i:Nat):ME:=λρ=>match ρ[i]? with
 | some (some _)=>some (.s i,ρ)
 | _=>none
theorem zd:VE K (iA i) (zi i):=by
 intro ρ σ H a av Q r e q;unfold zi at e;split at e
 .rename_i u eu
  cases e;have(v,ev,p):=r.rep i u eu;exact⟨v,ev,q v H (Go.refl r) ⟨ev,u,eu⟩⟩
 .cases e
def mC(x:D):ME:=λρ=>some (.u<|.d x,ρ)
theorem DI{c:V}{x:D}(h:∀ H,DF K H c x):VE K (tC c) (mC x):=by
 intro ρ σ H a av Q r e q;cases e;exact q _ _ (Go.refl r) ⟨h H,Nw.data⟩
theorem zm{n:Int}:VE K (tC<|.int n) (mC<|.int n):=DI λ_=>.int n
theorem cP{n:Str}:VE K (tC<|.str n) (mC<|.str n):=DI λ_=>.str n
theorem qP{n:Bool}:VE K (tC<|.bl n) (mC<|.bool n):=DI λ_=>.bl n
theorem jQ:VE K (tC .aP) (mC .none):=DI λ_=>.aP
def VO(K:qe)(r:R2)(f:U->U->Qb U):Prop :=
 ∀ (x y:V) (a b u:U) (H:Hp) (Q:VK),Rp K H x a->Rp K H y b->f a b=some u->(∀ v H',cN H H'->Rp K H' v u->Nw H v u->Q v H')->r x y H Q
def af(f:U->U->Qb U)(ma mb:ME):ME:=λρ=>(ma ρ).bind λp=>(mb p.2).bind λq=>(p.1.get q.2).bind λx=>(q.1.get q.2).bind λy=>(f x y).bind λu=>some (.u u,q.2)
theorem bQ{o:Qb α}{f:α->Qb β}{b:β}(h:o.bind f=some b):∃ a,o=some a/\f a=some b:=Option.bind_eq_some_iff.mp h
theorem zo{r:R2}{f:U->U->Qb U}{ma mb:ME}(h:VO K r f)(ha:VE K ta ma)(hb:VE K tb mb):VE K (nG r ta tb) (af f ma mb):=by
 intro ρ σ H a av Q rs e q;obtain⟨⟨a1,aw⟩,e1,e⟩:=bQ e;obtain⟨⟨b1,aB⟩,e2,e⟩:=bQ e;have(x,ex,e):=bQ e;have(y,ey,e):=bQ e;have(u,eu,e):=bQ e;cases e;refine ha ρ σ H a1 aw _ rs e1 λv1 H1 g1 k1=>hb aw σ H1 b1 aB _ g1.rs e2 λv2 H2 g2 k2=>?_;refine h _ _ x y u H2 _ (k1.later rs g1 g2 ex) (k2.now g1.rs g2 ey) eu λv H3 s p n=>?_;exact q v H3 ((g1.trans g2).trans<|Go.grow g2.rs s) ⟨p,n.mono (g1.trans g2).dm⟩
def VU(K:qe)(r:V->Hp->VK->Prop)(f:U->Qb U):Prop :=
 ∀ (x:V) (a u:U) (H:Hp) (Q:VK),Rp K H x a->f a=some u->(∀ v H',cN H H'->Rp K H' v u->Nw H v u->Q v H')->r x H Q
def b9(f:U->Qb U)(ma:ME):ME:=λρ=>(ma ρ).bind λp=>(p.1.get p.2).bind λx=>(f x).bind λu=>some (.u u,p.2)
theorem fu{r:V->Hp->VK->Prop}{f:U->Qb U}{ma:ME}(h:VU K r f)(ha:VE K ta ma):VE K (DK r ta) (b9 f ma):=by
 intro ρ σ H a av Q rs e q;obtain⟨⟨a1,aw⟩,e1,e⟩:=bQ e;have(x,ex,e):=bQ e;have(u,eu,e):=bQ e;cases e;refine ha ρ σ H a1 aw _ rs e1 λv1 H1 g1 k1=>?_;refine h _ x u H1 _ (k1.now rs g1 ex) eu λv H3 s p n=>?_;exact q v H3 (g1.trans<|Go.grow g1.rs s) ⟨p,n.mono g1.dm⟩
def zq:MA:=λρ=>some ([],ρ)
def zf(me:ME)(ma:MA):MA:=λρ=>(me ρ).bind λp=>(ma p.2).bind λq=>some (p.1::q.1,q.2)
theorem zk:jc K qN zq:=by
 intro ρ σ H as av Q r e q;cases e;exact q [] H (Go.refl r) ⟨rfl,λi a e=>by simp at e,λi j x y e=>by simp at e⟩
theorem ze{t:TA}{me:ME}{ma:MA}(he:VE K te me)(ha:jc K t ma):jc K (m6 te t) (zf me ma):=by
 intro ρ σ H as av Q r e q;obtain⟨⟨a1,aw⟩,e1,e⟩:=bQ e;obtain⟨⟨Ei,aB⟩,e2,e⟩:=bQ e;cases e;refine he ρ σ H a1 aw _ r e1 λv1 H1 g1 k1=>ha aw σ H1 Ei _ _ g1.rs e2 λvs H2 g2 s2=>?_;have IM:∀ x,a1=.u x->x.own=true->∃ b c,v1=.ref b/\H1 b=some c:=λx ea o=>by
  subst ea;have(b,c,eb,hb,_):=k1.1.own o;exact⟨b,c,eb,hb⟩
 have oth:∀ (j:Nat) (y:U),Ei[j]?=some (.u y)->y.own=true->∃ b,vs[j]?=some (.ref b)/\H1 b=none:=λj y ej o=>by
  have(v,ev,k):=s2.ar j _ ej;have(b,eb,hb):=k.2 o;subst eb;exact⟨b,ev,hb⟩
 have ne:∀ (x:U) (j:Nat) (y:U),a1=.u x->x.own=true->Ei[j]?=some (.u y)->y.own=true->some v1≠vs[j]?:=λx j y ea ox ej oy z=>by
  have(b,c,e1,h1):=IM x ea ox;have(b',e2,h2):=oth j y ej oy;rw[e2,e1]at z;cases z;rw[h1]at h2;cases h2
 refine q (v1::vs) H2 (g1.trans g2) ⟨by simp[s2.len],λi a ei=>?_,λi j x y ei ej ox oy ev=>?_⟩
 .cases i with
  | zero=>
   cases(show some a1=some a from ei);refine⟨v1,rfl,?_⟩;cases a1 with
   | s k=>
    have(es,w,ew):=k1;exact⟨es,g2.shr.live k w ew⟩
   | u x=>exact⟨g2.eM g1.rs k1.1<|k1.2.pL r g1,k1.2⟩
  | succ i=>
   have(v,ev,k):=s2.ar i a ei;refine⟨v,ev,?_⟩;cases a with
   | s k'=>exact k
   | u x=>exact⟨k.1,k.2.mono g1.dm⟩
 .cases i with
  | zero=>
   cases j with
   | zero=>rfl
   | succ j=>exact absurd ev<|ne x j y (qB ei) ox ej oy
  | succ i=>
   cases j with
   | zero=>exact absurd ev.symm<|ne y i x (qB ej) oy ei ox
   | succ j=>exact congrArg (·+1)<|s2.ap i j x y ei ej ox oy ev
end
end L2
namespace L2
open PySem PySem.Spec PyProof.Rows
open Classical in
def nV(c:Int->Int->Prop)(g:Int->Int->D):U->U->Qb U
 | .d (.int i),.d (.int j)=>if c i j then some (.d<|g i j)else none
 | _,_=>none
def fI(g:Int->Int->D):U->U->Qb U
 | .d (.int i),.d (.int j)=>some<|.d<|g i j
 | _,_=>none
section
theorem DF.int_inv{i:Int}(h:DF K H v (.int i)):v=.int i:=by cases h; rfl
theorem DF.str_inv(h:DF K H v (.str x)):v=.str x:=by cases h; rfl
theorem DF.cJ{b:Bool}(h:DF K H v (.bool b)):v=.bl b:=by cases h; rfl
theorem DF.aI{ds:Qa D}(h:DF K H v (.tuple ds)):∃ a xs,v=.ref a/\aX K H a xs/\aR K H xs ds:=by cases h with|tup h t=>exact⟨_,_,rfl,h,t⟩
theorem DF.lst_inv{ds:Qa D}(h:DF K H v (.list ds)):∃ a xs,v=.ref a/\PL K H a xs/\aR K H xs ds:=by cases h with|lst h t=>exact⟨_,_,rfl,h,t⟩
theorem DF.cw{ds:Qa (D×D)}(h:DF K H v (.dict ds))(nx:iV ds=true):∃ a o ws,v=.ref a/\H a=some (.aZ o<|.dT ws)/\iq K H ws ds:=by
 cases h with
 | gk h t=>exact⟨_,_,_,rfl,h,t⟩
 | exc h n t=>cases nx
 | obj h n t=>cases nx
theorem vS{c:Int->Int->Prop}{g:Int->Int->V}{gd:Int->Int->D}(h:∀ i j H,DF K H (g i j)<|gd i j):VO K (rI c g) (nV c gd):=by
 intro x y a b u H Q ha hb e q;unfold nV at e;split at e
 .rename_i i j
  split at e
  .rename_i hc
   cases e;exact⟨i,j,DF.int_inv ha,DF.int_inv hb,hc,q _ _ (λ_ _ z=>z) (h i j H) Nw.data⟩
  .cases e
 .cases e
theorem vI{g:Int->Int->V}{gd:Int->Int->D}(h:∀ i j H,DF K H (g i j)<|gd i j):VO K (iS g) (fI gd):=by
 intro x y a b u H Q ha hb e q;unfold fI at e;split at e
 .rename_i i j
  cases e;exact⟨i,j,DF.int_inv ha,DF.int_inv hb,q _ _ (λ_ _ z=>z) (h i j H) Nw.data⟩
 .cases e
def dz:=fI λi j=>.int<|i+j
def lB:=fI λi j=>.int<|i - j
def iL:=nV vC λi j=>.int<|i * j
def jh:=nV (λ_ j=>0 < j) λi j=>.int<|i % j
def tS:=nV vJ λi j=>.int<|i / j
def rh:=nV tO λi j=>.int<|i.fdiv j
def Bj:=nV A9 λi j=>.int<|i^j.toNat
def iG:=fI λi j=>.bool<|decide<|i < j
def nU:=fI λi j=>.bool<|decide<|i<=j
def AG:=fI λi j=>.bool<|decide<|j < i
def Ec:=fI λi j=>.bool<|decide<|j<=i
theorem dU:VO K (iS λi j=>.int<|i+j) dz:=vI λi j H=>.int _
theorem oX:VO K (iS λi j=>.int<|i - j) lB:=vI λi j H=>.int _
theorem lH:VO K (rI vC λi j=>.int<|i * j) iL:=vS λi j H=>.int _
theorem lF:VO K (rI (λ_ j=>0 < j) λi j=>.int<|i % j) jh:=vS λi j H=>.int _
theorem B9:VO K (rI vJ λi j=>.int<|i / j) tS:=vS λi j H=>.int _
theorem wo:VO K (rI tO λi j=>.int<|i.fdiv j) rh:=vS λi j H=>.int _
theorem zAz:VO K (rI A9 λi j=>.int<|i^j.toNat) Bj:=vS λi j H=>.int _
theorem jq:VO K (iS λi j=>.bl<|decide<|i < j) iG:=vI λi j H=>.bl _
theorem rg:VO K (iS λi j=>.bl<|decide<|i<=j) nU:=vI λi j H=>.bl _
theorem Fh:VO K (iS λi j=>.bl<|decide<|j < i) AG:=vI λi j H=>.bl _
theorem Ky:VO K (iS λi j=>.bl<|decide<|j<=i) Ec:=vI λi j H=>.bl _
def mX:U->Qb U
 | .d (.int i)=>some<|.d<|.int (-i)
 | _=>none
theorem ua:VU K (rU λi=>.int (-i)) mX:=by
 intro x a u H Q ha e q;unfold mX at e;split at e
 .rename_i i
  cases e;exact⟨i,DF.int_inv ha,q _ _ (λ_ _ z=>z) (.int _) Nw.data⟩
 .cases e
def U.py:U->Qb D
 | .d x=>some x
 | .l xs=>some<|.list xs
 | _=>none
mutual
theorem DF.dv:∀ {v:V} {d:D},DF K H v d->d.hasDict=false->DV K H v d
 | _,_,.aP,_=>.aP
 | _,_,.bl b,_=>.bl b
 | _,_,.int i,_=>.int i
 | _,_,.str x,_=>.str x
 | _,_,.tup h t,q=>.tup ((aX.sq h))<|aR.dv t (by simpa [PyData.hasDict] using q)
 | _,_,.lst h t,q=>.lst h.sq<|aR.dv t (by simpa [PyData.hasDict] using q)
 | _,_,.gk h t,q=>by simp[PyData.hasDict]at q
 | _,_,.exc h n t,q=>by simp[PyData.hasDict]at q
 | _,_,.obj h n t,q=>by simp[PyData.hasDict]at q
theorem aR.dv:∀ {v:Qa V} {d:Qa D},aR K H v d->PyData.hasDictAll d=false->gX K H v d
 | _,_,.nil,_=>.nil
 | _,_,.cons h t,q=>by
  simp only[PyData.hasDictAll,Bool.or_eq_false_iff]at q;exact .cons (DF.dv h q.1)<|aR.dv t q.2
end
theorem Rp.dv{u:U}{x:D}(h:Rp K H v u)(e:u.py=some x)(q:x.hasDict=false):DV K H v x:=by
 cases u with
 | d y=>cases e; exact DF.dv h q
 | l xs=>
  cases e;have(a,us,rfl,h1,h2):=h;exact .lst (bu.of h1)<|aR.dv h2 (by simpa [PyData.hasDict] using q)
 | t=>cases e
 | k=>cases e
mutual
theorem CS:∀ (x:D),x.canLay0=true->x.hasDict=false
 | .none,_=>rfl
 | .bool _,_=>rfl
 | .int _,_=>rfl
 | .str _,_=>rfl
 | .list xs,h=>by simp only[PyData.hasDict]; exact bZ xs (by simpa [PyData.canLay0] using h)
 | .tuple xs,h=>by simp only[PyData.hasDict]; exact bZ xs (by simpa [PyData.canLay0] using h)
 | .dict _,h=>by simp[PyData.canLay0]at h
theorem bZ:∀ (xs:Qa D),PyData.canLayAll0 xs=true->PyData.hasDictAll xs=false
 | [],_=>rfl
 | x::xs,h=>by
  simp only[PyData.canLayAll0,Bool.and_eq_true]at h;simp only[PyData.hasDictAll,CS x h.1,bZ xs h.2];rfl
end
def Bi(K:qe)(neg:Bool):R2:=λx y H Q=>∃ a b,DV K H x a/\DV K H y b/\SeqAt.shaped a=true/\SeqAt.shaped b=true/\Q (.bl (if neg=true then !PyData.eqv a b else PyData.eqv a b)) H
theorem LL{X:Cx}(K:qe)(hK:X.K=K){k:Nat}(hr:aM k X.A):bN X (compareOp .Eq) (Bi K false):=by
 subst hK;intro pins s σ H x y v u Q I rx ry h;have(a,b,da,db,sa,sb,q):=h;have(as,ra):=DV.reads I da rx;have(bs,rb):=DV.reads I db ry;exact SeqAt.compareEq_shaped ra rb sa sb hr.units ⟨.bl _,H,I,rfl,q⟩
theorem LK{X:Cx}(K:qe)(hK:X.K=K){k:Nat}(hr:aM k X.A):bN X (compareOp .NotEq) (Bi K true):=by
 subst hK;intro pins s σ H x y v u Q I rx ry h;have(a,b,da,db,sa,sb,q):=h;have(as,ra):=DV.reads I da rx;have(bs,rb):=DV.reads I db ry;exact SeqAt.compareNe_shaped ra rb sa sb hr.units ⟨.bl _,H,I,rfl,q⟩
def kJ(neg:Bool)(a b:U):Qb U:=a.py.bind λx=>b.py.bind λy=>if SeqAt.shaped x=true/\SeqAt.shaped y=true then some (.d<|.bool (if neg=true then !PyData.eqv x y else PyData.eqv x y))else none
theorem FJ(neg:Bool):VO K (Bi K neg) (kJ neg):=by
 intro x y a b u H Q ha hb e q;have(dx,ex,e):=bQ e;have(dy,ey,e):=bQ e;split at e
 .rename_i hs
  cases e;exact⟨dx,dy,ha.dv ex<|CS _<|SeqAt.canLay_of_shaped hs.1,hb.dv ey<|CS _<|SeqAt.canLay_of_shaped hs.2,hs.1,hs.2,q _ _ (λ_ _ z=>z) (.bl _) Nw.data⟩
 .cases e
theorem aR.bU{ds:Qa D}{i:Int}{d:D}(h:aR K H xs ds)(e:L2.bU ds i=some d):∃ v,L2.bU xs i=some v/\DF K H v d:=by
 unfold L2.bU at e ⊢;have(j,ej,e):=bQ e;have(v,ev,k):=h.get e;refine⟨v,?_,k⟩;rw[h.len,ej];exact ev
def aU:U->U->Qb U
 | .l ds,.d (.int i)=>(bU ds i).map .d
 | .d (.list ds),.d (.int i)=>(bU ds i).map .d
 | _,_=>none
def aS:U->U->Qb U
 | .d (.tuple ds),.d (.int i)=>(bU ds i).map .d
 | _,_=>none
theorem zH:VO K (Ie K) aU:=by
 intro x y a b u H Q ha hb e q;unfold aU at e;split at e
 .rename_i ds i
  have(d,ed,rfl):=qv.mp e;have(p,us,rfl,h1,h2):=ha;have(v,ev,k):=h2.bU ed;exact⟨p,us,i,v,rfl,DF.int_inv hb,bu.of h1,ev,q _ _ (λ_ _ z=>z) k Nw.data⟩
 .rename_i ds i
  have(d,ed,rfl):=qv.mp e;have(p,us,rfl,h1,h2):=DF.lst_inv ha;have(v,ev,k):=h2.bU ed;exact⟨p,us,i,v,rfl,DF.int_inv hb,h1.sq,ev,q _ _ (λ_ _ z=>z) k Nw.data⟩
 .cases e
theorem zI:VO K (Ic K) aS:=by
 intro x y a b u H Q ha hb e q;unfold aS at e;split at e
 .rename_i ds i
  have(d,ed,rfl):=qv.mp e;have(p,us,rfl,h1,h2):=DF.aI ha;have(v,ev,k):=h2.bU ed;exact⟨p,us,i,v,rfl,DF.int_inv hb,(aX.sq h1),ev,q _ _ (λ_ _ z=>z) k Nw.data⟩
 .cases e
def vH:U->U->Qb U
 | .l xs,.l ys=>if xs.length+ys.length<=sizeLine then some (.l<|xs++ys)else none
 | _,_=>none
theorem zAA:VO K RO vH:=by
 intro x y a b u H Q ha hb e q;unfold vH at e;split at e
 .split at e
  .rename_i xs ys hz
   cases e;have(p,us,rfl,h1,h2):=ha;have(p',gC,rfl,jG,i6):=hb;refine⟨p,p',us,gC,rfl,rfl,h1,jG,by rw[h2.len,i6.len]; exact hz,λr hr=>?_⟩;have s:=zZ hr (.lst<|us++gC);exact q _ _ s ⟨r,_,rfl,zy,(h2.app i6).kp s.kp⟩ λ_=>⟨r,rfl,hr⟩
  .cases e
 .cases e
end
end L2
namespace L2
open PySem PySem.Spec PyProof.Rows
section
variable{ρ av:En}
theorem kN{c:HO}(h:H a=some c)(m:Mo c)(o:HO):Kp H (upd H a o):=by
 refine⟨λb xs e=>?_,λb ob u e=>?_⟩
 .rw[zD<|oM e h (by rintro rfl; exact m)]; exact e
 .rw[zD<|oM e h (by rintro rfl; exact m)]; exact e
theorem Go.own{u u':U}{o:HO}(r:Rs K ρ σ H)(e:ρ[i]?=some (some u))(ou:u.own=true)(es:σ[i]?=some (some<|.ref a))(p:Rp K (upd H a o) (.ref a) u'):Go K ρ σ H (ρ.set i<|some u') (upd H a o):=by
 have hi:i < ρ.length:=(qm.mp e).1;have(c,hc,mc):=r.ow ⟨i,u,e,ou,es⟩;have kp:=kN hc mc o;refine⟨⟨by rw[List.length_set]; exact r.len,λj w ej=>?_,λj k w w' ej ek oj ok mF=>?_⟩,λb ob hb n=>?_,⟨List.length_set,λj w ej oj=>?_,λj w ej=>?_⟩,λb hb=>?_⟩
 .by_cases hj:i=j
  .subst hj
   rw[List.getElem?_set_self hi]at ej;cases ej;exact⟨_,es,p⟩
  .rw[qF hj]at ej
   have(v,ev,q):=r.rep j w ej;refine⟨v,ev,q.kp kp λow b c' eb hb=>?_⟩;have ne:b≠a:=by
    rintro rfl;exact hj<|r.apart i j u w e ej ou ow (by rw[es,ev,eb])
   rw[zD ne];exact hb
 .have own:∀ (j:Nat) (w:U),(ρ.set i<|some u')[j]?=some (some w)->w.own=true->∃ w',ρ[j]?=some (some w')/\w'.own=true:=λj w ej oj=>by
   by_cases hj:i=j
   .subst hj; exact⟨u,e,ou⟩
   .rw[qF hj]at ej; exact⟨w,ej,oj⟩
  have(x,ex,ox):=own j w ej oj;have(y,ey,oy):=own k w' ek ok;exact r.apart j k x y ex ey ox oy mF
 .have ne:b≠a:=by
   rintro rfl;exact n ⟨i,u,e,ou,es⟩
  rw[zD ne];exact hb
 .by_cases hj:i=j
  .subst hj; exact⟨u,e,ou⟩
  .rw[qF hj]at ej; exact⟨w,ej,oj⟩
 .by_cases hj:i=j
  .subst hj; exact⟨u',ö hi⟩
  .exact⟨w,by rw[qF hj]; exact ej⟩
 .by_cases kD:b=a
  .subst kD; rw[zy]at hb; cases hb
  .rw[zD kD]at hb; exact hb
theorem Rp.jy{u:U}(h:Rp K H v u)(o:u.own=true):∃ a,v=.ref a:=let ⟨a,_,e,_⟩:=h.own o; ⟨a,e⟩
def Fz(K:qe)(H:Hp)(v:V)(H':Hp):Prop :=
 (∃ a xs o,v=.ref a/\K.lookup a=none/\H a=some (.lst xs)/\H'=upd H a (.aZ o<|.lst xs))\/(∃ a xs o,v=.ref a/\K.lookup a=none/\H a=some (.dT xs)/\H'=upd H a (.aZ o<|.dT xs))\/
  ((∀ a,v=.ref a->(∀ xs,H a≠some (.lst xs))/\∀ xs,H a≠some (.dT xs))/\H'=H)
def IA(K:qe)(t:TE):TE:=λσ H Q=>t σ H λv H1=>∀ H2,Fz K H1 v H2->Q v H2
theorem Inv.p6{X:Cx}(I:Inv X pins σ H s)(e:H a=some (.lst xs)):∃ o,s.heap.get? a=some o/\Inv X pins σ (upd H a<|.aZ o<|.lst xs) s:=by
 have ok:=(show bW X.prog X.w X.K H s.heap a (.lst xs) from I.aE a _ e);have(z,ah,n,r,h1):=id ok;refine⟨_,h1,?_⟩;have yT:bW X.prog X.w X.K (upd H a<|.aZ {cls:=.type "list",data:=.seq ah.toArray n}<|.lst xs) s.heap a (.lst xs):=⟨z,ah,n,r,h1⟩;exact I.write (t':=s.toks) (h':=s.heap) (by rw[e]; trivial) (.inl rfl) (λ_ _ _ q=>q) ⟨_,h1⟩ ⟨h1,yT⟩
theorem zCu{X:Cx}{t:TE}(h:PE X e t):PE X e (IA X.K t):=by
 intro pins s σ H Q I q;refine aH (h pins s σ H _ I q) λu s1 hZ=>?_;have(v,H1,I1,r,k):=hZ;have nk:∀ a c,H1 a=some c->X.K.lookup a=none:=λa c ea=>by
  cases q:X.K.lookup a with
  | none=>rfl
  | some o=>rw[(I1.bs a o<|I1.ok.mod.jD a o q).2]at ea; cases ea
 by_cases c1:∃ a xs,v=.ref a/\H1 a=some (.lst xs)
 .have(a,xs,ev,ea):=c1
  have(o,_,I2):=I1.p6 ea;exact⟨v,_,I2,r,k _<|.inl ⟨a,xs,o,ev,nk a _ ea,ea,rfl⟩⟩
 .by_cases c2:∃ a xs,v=.ref a/\H1 a=some (.dT xs)
  .have(a,xs,ev,ea):=c2
   have(o,_,I2):=I1.freeze ea;exact⟨v,_,I2,r,k _<|.inr<|.inl ⟨a,xs,o,ev,nk a _ ea,ea,rfl⟩⟩
  .exact⟨v,H1,I1,r,k _<|.inr<|.inr ⟨λa ev=>⟨λxs z=>c1 ⟨a,xs,ev,z⟩,λxs z=>c2 ⟨a,xs,ev,z⟩⟩,rfl⟩⟩
theorem eI{X:Cx}{t:TE}(h:Wr (PE X e t))(hK:X.K=K:=by rfl):Wr (PE X e<|IA K t):=hK▸⟨zCu h.run⟩
def U.fz:U->Qb D
 | .d x=>some x
 | .l xs=>some<|.list xs
 | .t kvs=>some<|.dict<|kvs.map λp=>(kr p.1,p.2)
 | .k _=>none
def dN(me:ME):ME:=λρ=>(me ρ).bind λp=>(p.1.get p.2).bind λu=>u.fz.bind λx=>some (.u<|.d x,match p.1 with | .s i=>p.2.set i (some<|.d x) | .u _=>p.2)
theorem zAB{ws:Qa (Qa Key×V)}{kvs:Qa (Qa Key×D)}(h:dH K H ws kvs):iq K H ws (kvs.map λp=>(kr p.1,p.2)):=by
 induction h with
 | nil=>exact .nil
 | @cons p q ps qs hq t ih=>
  have(k,v):=p;have(k',d):=q;have(e,hd):=hq;cases(show k=k' from e);exact .cons hd ih
theorem Fz.rp{u:U}{x:D}(h:Fz K H v H')(p:Rp K H v u)(e:u.fz=some x):DF K H' v x/\(u.own=false->H'=H)/\(u.own=true->∃ a o,v=.ref a/\H'=upd H a o):=by
 cases u with
 | d y=>
  cases e;have k:H'=H:=by
   rcases h with⟨a,xs,o,rfl,nk,ea,_⟩|⟨a,xs,o,rfl,nk,ea,_⟩|⟨_,rfl⟩
   .exfalso
    cases(show DF K H _ _ from p)with
    | tup h _=>
     rcases h with h|⟨ob,ah,n,hk,_⟩
     .rw[ea]at h; cases h
     .rw[nk]at hk; cases hk
    | lst h _=>
     rcases h with⟨o,h⟩|⟨ob,ah,n,hk,_⟩
     .rw[ea]at h; cases h
     .rw[nk]at hk; cases hk
    | gk h _=>rw[ea]at h; cases h
    | exc h _ _=>have(_,h,_):=h; rw[ea]at h; cases h
    | obj h _ _=>rw[ea]at h; cases h
   .exfalso
    cases(show DF K H _ _ from p)with
    | tup h _=>
     rcases h with h|⟨ob,ah,n,hk,_⟩
     .rw[ea]at h; cases h
     .rw[nk]at hk; cases hk
    | lst h _=>
     rcases h with⟨o,h⟩|⟨ob,ah,n,hk,_⟩
     .rw[ea]at h; cases h
     .rw[nk]at hk; cases hk
    | gk h _=>rw[ea]at h; cases h
    | exc h _ _=>have(_,h,_):=h; rw[ea]at h; cases h
    | obj h _ _=>rw[ea]at h; cases h
   .rfl
  subst k;exact⟨p,λ_=>rfl,λz=>by cases z⟩
 | l xs=>
  cases e;have(a,us,rfl,ea,ds):=p;rcases h with⟨a',wK,o,ev,_,ig,rfl⟩|⟨a',wK,o,ev,_,ig,_⟩|⟨z,_⟩
  .cases ev
   rw[ea]at ig;cases ig;exact⟨.lst (.inl ⟨o,zy⟩)<|ds.kp<|kN ea trivial _,(λz=>by cases z),λ_=>⟨a,_,rfl,rfl⟩⟩
  .cases ev
   rw[ea]at ig;cases ig
  .exact absurd ea ((z a rfl).1 us)
 | t xs=>
  cases e;have(a,us,rfl,ea,ds):=p;rcases h with⟨a',wK,o,ev,_,ig,_⟩|⟨a',wK,o,ev,_,ig,rfl⟩|⟨z,_⟩
  .cases ev
   rw[ea]at ig;cases ig
  .cases ev
   rw[ea]at ig;cases ig;exact⟨.gk zy<|zAB<|ds.kp<|kN ea trivial _,(λz=>by cases z),λ_=>⟨a,_,rfl,rfl⟩⟩
  .exact absurd ea ((z a rfl).2 us)
 | k xs=>cases e
theorem eL{t:TE}{m:ME}(h:VE K t m):VE K (IA K t) (dN m):=by
 intro ρ σ H a av Q r e q;obtain⟨⟨b,aw⟩,e1,e⟩:=bQ e;have(u,eu,e):=bQ e;have(x,ex,e):=bQ e;cases e;refine h ρ σ H b aw _ r e1 λv H1 g1 k1=>λH2 fz=>?_;have p:=k1.now r g1 eu;have(d,f1,f2):=fz.rp p ex;cases b with
 | s i=>
  have ei:aw[i]?=some (some u):=by
   have z:(aw[i]?).join=some u:=eu;cases q:aw[i]? with
   | none=>rw[q]at z; cases z
   | some o=>rw[q]at z; cases o with
    | none=>cases z
    | some w=>cases z; rfl
  have hi:i < aw.length:=(qm.mp ei).1
  by_cases ou:u.own=true
  .have(a,o,rfl,rfl):=f2 ou
   exact q _ _ (g1.trans<|Go.own (u':=.d x) g1.rs ei ou k1.1 d) ⟨d,Nw.data⟩
  .have r8:u.own=false:=by simpa using ou
   cases f1 r8;cases u with
   | d y=>
    cases ex;have es:aw.set i (some<|.d x)=aw:=by
     apply List.ext_getElem?;intro j
     by_cases hj:i=j
     .subst hj; rw[List.getElem?_set_self hi,ei]
     .rw[qF hj]
    show Q v H1;refine q v H1 ?_ ⟨d,Nw.data⟩;show Go K ρ σ H (aw.set i<|some<|.d x) H1;rw[es];exact g1
   | l=>cases r8
   | t=>cases r8
   | k=>cases r8
 | u w=>
  cases(show some w=some u from eu)
  by_cases ou:u.own=true
  .have(a,o,rfl,rfl):=f2 ou
   have(a',ig,IY):=k1.2 ou;cases ig;obtain⟨c,hc,mc⟩:∃ c,H1 a=some c/\Mo c:=by
    have(b,c,eb,hb,m):=p.own ou;cases eb;exact⟨c,hb,m⟩
   have nw:¬Ow aw σ a:=by
    have(b,eb,nb):=k1.2.pL r g1 ou;cases eb;exact nb
   have kp:=kN hc mc o;refine q _ _ ⟨⟨g1.rs.len,λj y ej=>?_,g1.rs.apart⟩,λb ob hb n=>?_,g1.shr,λb hb=>?_⟩ ⟨d,Nw.data⟩
   .have(v,ev,p'):=g1.rs.rep j y ej
    refine⟨v,ev,p'.kp kp λoy b c' eb hb=>?_⟩;have ne:b≠a:=by
     rintro rfl;subst eb;exact nw ⟨j,y,ej,oy,ev⟩
    rw[zD ne];exact hb
   .have ne:b≠a:=by
     rintro rfl;rw[IY]at hb;cases hb
    rw[zD ne];exact g1.fr b ob hb n
   .by_cases kD:b=a
    .subst kD; exact IY
    .rw[zD kD]at hb; exact g1.dm b hb
  .have r8:u.own=false:=by simpa using ou
   cases f1 r8;exact q v H1 g1 ⟨d,Nw.data⟩
end
section
variable{ρ av:En}
def bC(ρ:En):Qa Ar->Qb (Qa U)
 | []=>some []
 | a::as=>(a.get ρ).bind λu=>(bC ρ as).bind λus=>some<|u::us
def iP:Qa U->Qb (Qa D)
 | []=>some []
 | .d x::us=>(iP us).bind λxs=>some<|x::xs
 | _::_=>none
def vo(K:qe)(H:Hp):Qa V->Qa U->Prop:=Paired λv u=>Rp K H v u
theorem LV{as:Qa Ar}{us:Qa U}(len:vs.length=as.length)(h:∀ (i:Nat) (a:Ar),as[i]?=some a->∃ v,vs[i]?=some v/\∀ u,a.get ρ=some u->Rp K H v u)(e:bC ρ as=some us):vo K H vs us:=by
 induction as generalizing vs us with
 | nil=>
  cases e;cases vs with
  | nil=>exact .nil
  | cons=>simp at len
 | cons a as ih=>
  have(u,eu,e):=bQ e;have(gC,AI,e):=bQ e;cases e;cases vs with
  | nil=>simp at len
  | cons v vs=>
   have(v',ev,k):=h 0 a rfl;cases(show some v=some v' from ev);exact .cons (k u eu)<|ih (by simpa using len) (λi b eb=>h (i+1) b eb) AI
theorem Es.lY{as:Qa Ar}{us:Qa U}(r:Rs K ρ σ H)(g:Go K ρ σ H av H')(s:Es K av σ H H' vs as)(e:bC av as=some us):vo K H' vs us :=
 LV s.len (λi a ea=>let ⟨v,ev,k⟩:=s.ar i a ea; ⟨v,ev,λu eu=>k.now r g eu⟩) e
theorem FI{us:Qa U}{ds:Qa D}(h:vo K H vs us)(e:iP us=some ds):aR K H vs ds:=by
 induction h generalizing ds with
 | nil=>cases e; exact .nil
 | @cons v u vs us hv t ih=>
  cases u with
  | d x=>
   have(xs,ex,e):=bQ (show(iP us).bind (λxs=>some<|x::xs)=some ds from e);cases e;exact .cons hv<|ih ex
  | l=>cases e
  | t=>cases e
  | k=>cases e
def cM(ma:MA):ME:=λρ=>(ma ρ).bind λp=>(bC p.2 p.1).bind λus=>(iP us).bind λds=>if ds.length<=sizeLine then some (.u<|.d<|.tuple ds,p.2)else none
def fL(ma:MA):ME:=λρ=>(ma ρ).bind λp=>(bC p.2 p.1).bind λus=>(iP us).bind λds=>if ds.length<=sizeLine then some (.u<|.l ds,p.2)else none
theorem dB{t:TA}{m:MA}(h:jc K t m):VE K (EC t) (cM m):=by
 intro ρ σ H a av Q r e q;obtain⟨⟨as,aw⟩,e1,e⟩:=bQ e;have(us,eu,e):=bQ e;have(ds,ed,e):=bQ e;split at e
 .rename_i hz
  cases e;refine h ρ σ H as _ _ r e1 λvs H1 g1 s1=>?_;have dd:=FI (s1.lY r g1 eu) ed;refine⟨by rw[dd.len]; exact hz,λp hp=>?_⟩;have sm:=zZ hp (.tup vs);exact q _ _ (g1.trans<|Go.grow g1.rs sm) ⟨.tup (.inl zy)<|dd.kp sm.kp,Nw.data⟩
 .cases e
theorem gy{t:TA}{m:MA}(h:jc K t m):VE K (EB t) (fL m):=by
 intro ρ σ H a av Q r e q;obtain⟨⟨as,aw⟩,e1,e⟩:=bQ e;have(us,eu,e):=bQ e;have(ds,ed,e):=bQ e;split at e
 .rename_i hz
  cases e;refine h ρ σ H as _ _ r e1 λvs H1 g1 s1=>?_;have dd:=FI (s1.lY r g1 eu) ed;refine⟨by rw[dd.len]; exact hz,λp hp=>?_⟩;have sm:=zZ hp (.lst vs);exact q _ _ (g1.trans<|Go.grow g1.rs sm) ⟨⟨p,_,rfl,zy,dd.kp sm.kp⟩,λ_=>⟨p,rfl,g1.dm p hp⟩⟩
 .cases e
def VC(K:qe)(r:Qa V->Hp->VK->Prop)(f:Qa U->Qb U):Prop :=
 ∀ (vs:Qa V) (us:Qa U) (u:U) (H:Hp) (Q:VK),vo K H vs us->f us=some u->(∀ v H',cN H H'->Rp K H' v u->Nw H v u->Q v H')->r vs H Q
def ba(f:Qa U->Qb U)(ma:MA):ME:=λρ=>(ma ρ).bind λp=>(bC p.2 p.1).bind λus=>(f us).bind λu=>some (.u u,p.2)
theorem bh{f:Qa U->Qb U}{t:TA}{m:MA}(hc:VC K r f)(h:jc K t m):VE K (rV r t) (ba f m):=by
 intro ρ σ H a av Q rs e q;obtain⟨⟨as,aw⟩,e1,e⟩:=bQ e;have(us,eu,e):=bQ e;have(u,ef,e):=bQ e;cases e;refine h ρ σ H as _ _ rs e1 λvs H1 g1 s1=>hc vs us u H1 _ (s1.lY rs g1 eu) ef λv H2 s p n=>?_;exact q v H2 (g1.trans<|Go.grow g1.rs s) ⟨p,n.mono g1.dm⟩
def f1(f:U->Qb U):Qa U->Qb U
 | [u]=>f u
 | _=>none
theorem oz{f:U->Qb U}(h:∀ (v:V) (a u:U) (H:Hp) (Q:VK),Rp K H v a->f a=some u->(∀ v H',cN H H'->Rp K H' v u->Nw H v u->Q v H')->r [v] H Q):VC K r (f1 f):=by
 intro vs us u H Q hr e q;cases hr with
 | nil=>cases e
 | cons h1 t=>
  cases t with
  | nil=>exact h _ _ _ _ _ h1 e q
  | cons=>cases e
def U.items:U->Qb (Qa D)
 | .d (.tuple xs)=>some xs
 | .d (.list xs)=>some xs
 | .l xs=>some xs
 | _=>none
theorem Rp.items{u:U}{xs:Qa D}(h:Rp K H v u)(e:u.items=some xs):∃ p ys,v=.ref p/\(bu K H p ys\/br K H p ys)/\aR K H ys xs:=by
 cases u with
 | d x=>
  cases x with
  | tuple ds=>cases e; have(a,ys,rfl,h1,h2):=DF.aI h; exact⟨a,ys,rfl,.inr<|(aX.sq h1),h2⟩
  | list ds=>cases e; have(a,ys,rfl,h1,h2):=DF.lst_inv h; exact⟨a,ys,rfl,.inl h1.sq,h2⟩
  | _=>cases e
 | l ds=>cases e; have(a,ys,rfl,h1,h2):=h; exact⟨a,ys,rfl,.inl<|bu.of h1,h2⟩
 | t=>cases e
 | k=>cases e
def cx(u:U):Qb U:=u.items.map λxs=>.d<|.int xs.length
theorem cO:VC K (RK K) (f1 cx):=oz λv a u H Q h e q=>by
 have(xs,ex,rfl):=qv.mp e;have(p,ys,rfl,s,d):=h.items ex;exact⟨p,ys,rfl,s,q _ _ (λ_ _ z=>z) (by rw[d.len]; exact .int _) Nw.data⟩
def ni(u:U):Qb U:=u.items.map λxs=>.d<|.tuple xs
theorem uq:VC K (N7 K) (f1 ni):=oz λv a u H Q h e q=>by
 have(xs,ex,rfl):=qv.mp e;cases a with
 | d x=>
  cases x with
  | tuple ds=>
   cases ex;have(a,ys,rfl,h1,h2):=DF.aI h;exact⟨a,ys,rfl,.inr ⟨(aX.sq h1),q _ _ (λ_ _ z=>z) (.tup h1 h2) Nw.data⟩⟩
  | list ds=>
   cases ex;have(a,ys,rfl,h1,h2):=DF.lst_inv h;refine⟨a,ys,rfl,.inl ⟨h1.sq,λl hl=>?_⟩⟩;have sm:=zZ hl (.tup ys);exact q _ _ sm (.tup (.inl zy)<|h2.kp sm.kp) Nw.data
  | _=>cases ex
 | l ds=>
  cases ex;have(a,ys,rfl,h1,h2):=h;refine⟨a,ys,rfl,.inl ⟨bu.of h1,λl hl=>?_⟩⟩;have sm:=zZ hl (.tup ys);exact q _ _ sm (.tup (.inl zy)<|h2.kp sm.kp) Nw.data
 | t=>cases ex
 | k=>cases ex
def xK(u:U):Qb U:=u.items.map λxs=>.l xs
theorem MW:VC K (Mx K) (f1 xK):=oz λv a u H Q h e q=>by
 have(xs,ex,rfl):=qv.mp e;have(p,ys,rfl,s,d):=h.items ex;refine⟨p,ys,rfl,s,λl hl=>?_⟩;have sm:=zZ hl (.lst ys);exact q _ _ sm ⟨l,ys,rfl,zy,d.kp sm.kp⟩ λ_=>⟨l,rfl,hl⟩
def qO:U->Qb U
 | .d (.int i)=>some<|.d<|.int (if i < 0 then -i else i)
 | _=>none
theorem xZ:VC K (λxs H Q=>∃ i,xs=[.int i]/\Q (.int (if i < 0 then -i else i)) H) (f1 qO):=oz λv a u H Q h e q=>by
 unfold qO at e;split at e
 .rename_i i
  cases e;cases DF.int_inv h;exact⟨i,rfl,q _ _ (λ_ _ z=>z) (.int _) Nw.data⟩
 .cases e
def vR:U->Qb U
 | .d (.int i)=>some<|.d<|.int i
 | .d (.bool k)=>some<|.d<|.int (if k then 1 else 0)
 | _=>none
theorem Gg:VC K (λxs H Q=>(∃ i,xs=[.int i]/\Q (.int i) H)\/∃ k,xs=[.bl k]/\Q (.int (if k then 1 else 0)) H) (f1 vR):=oz λv a u H Q h e q=>by
 unfold vR at e;split at e
 .rename_i i
  cases e;cases DF.int_inv h;exact .inl ⟨i,rfl,q _ _ (λ_ _ z=>z) (.int _) Nw.data⟩
 .rename_i i
  cases e;cases DF.cJ h;exact .inr ⟨i,rfl,q _ _ (λ_ _ z=>z) (.int _) Nw.data⟩
 .cases e
def vQ:Qa U->Qb U
 | [.d<|.int i,.d<|.int j]=>some<|.d<|.int (if j > i then j else i)
 | _=>none
theorem Gf:VC K (λxs H Q=>∃ i j,xs=[.int i,.int j]/\Q (.int (if j > i then j else i)) H) vQ:=by
 intro vs us u H Q hr e q;unfold vQ at e;split at e
 .rename_i i j
  cases e;cases hr with
  | cons h1 t=>
   cases t with
   | cons h2 t=>
    cases t;cases DF.int_inv h1;cases DF.int_inv h2;exact⟨i,j,rfl,q _ _ (λ_ _ z=>z) (.int _) Nw.data⟩
 .cases e
def rf:Qa D->Qb (Qa Int)
 | []=>some []
 | .int i::xs=>(rf xs).bind λis=>some<|i::is
 | _::_=>none
theorem N0{ys:Qa V}{xs:Qa D}(h:aR K H ys xs)(e:rf xs=some ns):ys=ns.map V.int:=by
 induction xs generalizing ys ns with
 | nil=>cases e; cases h; rfl
 | cons x xs ih=>
  cases h with
  | cons h1 t=>
   cases x with
   | int i=>
    have(is,ei,e):=bQ (show(rf xs).bind (λis=>some<|i::is)=some ns from e);cases e;rw[ih t ei,DF.int_inv h1];rfl
   | _=>cases e
def mB(me:ME):MT:=λρ=>(me ρ).bind λp=>(p.1.get p.2).bind λu=>match u with | .d (.bool b)=>some (b,p.2) | _=>none
theorem gY{t:TE}{m:ME}(h:VE K t m):VT K (tB t) (mB m):=by
 intro ρ σ H b av Q r e q;obtain⟨⟨a,aw⟩,e1,e⟩:=bQ e;have(u,eu,e):=bQ e;split at e
 .cases e
  refine h ρ σ H a _ _ r e1 λv H1 g1 k1=>?_;exact⟨_,DF.cJ<|k1.now r g1 eu,q _ g1⟩
 .cases e
theorem zw{t:TE}{m:ME}(h:VE K t m):VT K (xE t) (mB m):=gY h
def om(ma mb:MT):MT:=λρ=>(ma ρ).bind λp=>if p.1=true then mb p.2 else some (false,p.2)
def gc(ma mb:MT):MT:=λρ=>(ma ρ).bind λp=>if p.1=true then some (true,p.2)else mb p.2
def iw(ma:MT):MT:=λρ=>(ma ρ).bind λp=>some (!p.1,p.2)
theorem v5{ta tb:TT}{ma mb:MT}(ha:VT K ta ma)(hb:VT K tb mb):VT K (EA ta tb) (om ma mb):=by
 intro ρ σ H b av Q r e q;obtain⟨⟨c,aw⟩,e1,e⟩:=bQ e;refine ha ρ σ H c aw _ r e1 λH1 g1=>?_;dsimp only at e;split at e
 .rename_i hc
  rw[if_pos hc];exact hb aw σ H1 b av _ g1.rs e λH2 g2=>q H2<|g1.trans g2
 .rename_i hc
  rw[if_neg hc];cases e;exact q H1 g1
theorem g7{ta tb:TT}{ma mb:MT}(ha:VT K ta ma)(hb:VT K tb mb):VT K (Iy ta tb) (gc ma mb):=by
 intro ρ σ H b av Q r e q;obtain⟨⟨c,aw⟩,e1,e⟩:=bQ e;refine ha ρ σ H c aw _ r e1 λH1 g1=>?_;dsimp only at e;split at e
 .rename_i hc
  rw[if_pos hc];cases e;exact q H1 g1
 .rename_i hc
  rw[if_neg hc];exact hb aw σ H1 b av _ g1.rs e λH2 g2=>q H2<|g1.trans g2
theorem jW{ta:TT}{ma:MT}(ha:VT K ta ma):VT K (Ez ta) (iw ma):=by
 intro ρ σ H b av Q r e q;obtain⟨⟨c,aw⟩,e1,e⟩:=bQ e;cases e;exact ha ρ σ H c _ _ r e1 λH1 g1=>q H1 g1
def tR(ma mb:ME):ME:=λρ=>(mB ma ρ).bind λp=>if p.1=true then mb p.2 else some (.u<|.d<|.bool false,p.2)
theorem Ih{a:Ar}{H1 H2:Hp}{aw aB:En}(g1:Go K ρ σ H aw H1)(h:mY K aB σ H1 H2 v a):mY K aB σ H H2 v a:=by
 cases a with
 | s i=>exact h
 | u x=>exact⟨h.1,h.2.mono g1.dm⟩
theorem BL{ma mb:ME}(ha:VE K ta ma)(hb:VE K tb mb):VE K (Fw ta tb) (tR ma mb):=by
 intro ρ σ H a av Q r e q;obtain⟨⟨c,aw⟩,e1,e⟩:=bQ e;refine gY ha ρ σ H c aw (λc H1=>if c=true then tb σ H1 Q else Q (.bl false) H1) r e1 λH1 g1=>?_;dsimp only at e;split at e
 .rename_i hc
  rw[if_pos hc];exact hb aw σ H1 a av _ g1.rs e λv H2 g2 k=>q v H2 (g1.trans g2)<|Ih g1 k
 .rename_i hc
  rw[if_neg hc];cases e;exact q _ H1 g1 ⟨.bl _,Nw.data⟩
def xJ(ma:ME):ME:=λρ=>(mB ma ρ).bind λp=>some (.u<|.d<|.bool (!p.1),p.2)
theorem LU{ma:ME}(ha:VE K ta ma):VE K (Fv ta) (xJ ma):=by
 intro ρ σ H a av Q r e q;obtain⟨⟨c,aw⟩,e1,e⟩:=bQ e;cases e;exact gY ha ρ σ H c _ (λc H1=>Q (.bl (!c)) H1) r e1 λH1 g1=>q _ H1 g1 ⟨.bl _,Nw.data⟩
def wU(mt:MT)(ma mb:ME):ME:=λρ=>(mt ρ).bind λp=>if p.1=true then ma p.2 else mb p.2
theorem Ig{mt:MT}{ma mb:ME}(ht:VT K tt mt)(ha:VE K ta ma)(hb:VE K tb mb):VE K (Iz tt ta tb) (wU mt ma mb):=by
 intro ρ σ H a av Q r e q;obtain⟨⟨c,aw⟩,e1,e⟩:=bQ e;refine ht ρ σ H c aw _ r e1 λH1 g1=>?_;dsimp only at e;split at e
 .rename_i hc
  rw[if_pos hc];exact ha aw σ H1 a av _ g1.rs e λv H2 g2 k=>q v H2 (g1.trans g2)<|Ih g1 k
 .rename_i hc
  rw[if_neg hc];exact hb aw σ H1 a av _ g1.rs e λv H2 g2 k=>q v H2 (g1.trans g2)<|Ih g1 k
def U.yJ:U->Qb Bool
 | .d .none=>some false
 | .d (.bool b)=>some b
 | .d (.int i)=>some<|i != 0
 | .d (.str x)=>if x.length<=sizeLine then some ((x.length:Int) != 0)else none
 | .d (.tuple xs)=>some (!xs.isEmpty)
 | .d (.list xs)=>some (!xs.isEmpty)
 | .l xs=>some (!xs.isEmpty)
 | _=>none
theorem HC{ys:Qa V}{xs:Qa D}(h:aR K H ys xs):(!xs.isEmpty)=!ys.isEmpty:=by cases h<;>rfl
def Bh(ma:ME):MT:=λρ=>(ma ρ).bind λp=>(p.1.get p.2).bind λu=>u.yJ.bind λb=>some (b,p.2)
theorem zAE{ma:ME}(ha:VE K ta ma):VT K (RL K ta) (Bh ma):=by
 intro ρ σ H b av Q r e q;obtain⟨⟨a,aw⟩,e1,e⟩:=bQ e;have(u,eu,e):=bQ e;have(c,ec,e):=bQ e;cases e;refine ha ρ σ H a _ _ r e1 λv H1 g1 k1=>⟨_,?_,q _ g1⟩;have p:=k1.now r g1 eu;cases u with
 | d x=>
  cases(show DF K H1 v x from p)with
  | aP=>cases ec; rfl
  | bl=>cases ec; rfl
  | int=>cases ec; rfl
  | str x=>
   unfold U.yJ at ec;dsimp only at ec;split at ec
   .cases ec; exact⟨by assumption,rfl⟩
   .cases ec
  | tup h t=>cases ec; exact .inr<|.inl ⟨_,(aX.sq h),HC t⟩
  | lst h t=>cases ec; exact .inl ⟨_,h.sq,HC t⟩
  | gk=>cases ec
  | exc=>cases ec
  | obj=>cases ec
 | l xs=>cases ec; have(a,us,rfl,h1,h2):=p; exact .inl ⟨_,bu.of h1,HC h2⟩
 | t=>cases ec
 | k=>cases ec
end
section
variable{ρ av:En}
abbrev FD:=Qa U->Qb (U×Qa U)
def sm(xs:Qa U):En:=xs.map some
def eN(vs:Qa V):St:=vs.map some
def rX(K:qe)(n:Nat)(f:FD):Sp:=λvs H Q _=>∃ us r outs,us.length=n/\Rs K (sm us) (eN vs) H/\f us=some (r,outs)/\
 ∀ v H',Go K (sm us) (eN vs) H (sm outs) H'->Rp K H' v r->Nw H v r->Q v H'
def wb:En->Qa Ar->Qa U->En
 | ρ,.s j::as,o::os=>wb (ρ.set j<|some o) as os
 | ρ,.u _::as,_::os=>wb ρ as os
 | ρ,_,_=>ρ
def gP(ρ:En):Qa Ar->Bool
 | []=>true
 | .s j::as=>(match ρ[j]? with|some (some u)=>!u.own || !(as.any λa=>match a with | .s k=>decide (k=j) | _=>false) | _=>true) && gP ρ as
 | .u _::as=>gP ρ as
def zP(f:FD)(ma:MA):ME:=λρ=>(ma ρ).bind λp=>if gP p.2 p.1=true then(bC p.2 p.1).bind λus=>(f us).bind λo=>some (.u o.1,wb p.2 p.1 o.2)else none
theorem Cy:∀ {as:Qa Ar} {us:Qa U},bC ρ as=some us->us.length=as.length
 | [],us,e=>by cases e; rfl
 | a::as,us,e=>by
  have(u,eu,e):=bQ e;have(gC,AI,e):=bQ e;cases e;simp[Cy AI]
theorem MV:∀ {as:Qa Ar} {us:Qa U} {i:Nat} {a:Ar},bC ρ as=some us->as[i]?=some a->∃ u,us[i]?=some u/\a.get ρ=some u
 | [],us,i,a,e,ea=>by simp at ea
 | b::as,us,i,a,e,ea=>by
  have(u,eu,e):=bQ e;have(gC,AI,e):=bQ e;cases e;cases i with
  | zero=>cases(show some b=some a from ea); exact⟨u,rfl,eu⟩
  | succ i=>exact MV (i:=i) AI ea
theorem G8:∀ {as:Qa Ar} {us:Qa U} {i:Nat} {u:U},bC ρ as=some us->us[i]?=some u->∃ a,as[i]?=some a/\a.get ρ=some u:=λ{as us i u} e eu=>by
 have hi:i < as.length:=by rw[<-Cy e]; exact(qm.mp eu).1
 have(u',e1,e2):=MV e (qo hi);rw[eu]at e1;cases e1;exact⟨_,qo hi,e2⟩
theorem Kx{u:U}(e:Ar.get ρ (.s j)=some u):ρ[j]?=some (some u):=by
 have z:(ρ[j]?).join=some u:=e;cases q:ρ[j]? with
 | none=>rw[q]at z; cases z
 | some o=>
  rw[q]at z;cases o with
  | none=>cases z
  | some w=>cases z; rfl
theorem MU:∀ {as:Qa Ar} {p q j:Nat} {u:U},gP ρ as=true->as[p]?=some (.s j)->as[q]?=some (.s j)->ρ[j]?=some (some u)->u.own=true->p=q
 | [],p,q,j,u,_,e,_,_,_=>by simp at e
 | a::as,p,q,j,u,d,ep,eq,ej,ou=>by
  have dd:gP ρ as=true:=by
   cases a with
   | s k=>unfold gP at d; rw[Bool.and_eq_true]at d; exact d.2
   | u=>exact d
  have yY:∀ {q':Nat},a=.s j->as[q']?=some (.s j)->False:=λ{q'} ea Ed=>by
   subst ea;unfold gP at d;rw[Bool.and_eq_true,ej]at d;have d1:=d.1;dsimp only at d1;rw[ou]at d1;have m:(as.any λa=>match a with | .s k=>decide (k=j) | _=>false)=true:=ā.mpr ⟨.s j,Ì Ed,by simp⟩;rw[m]at d1;cases d1
  cases p with
  | zero=>
   cases q with
   | zero=>rfl
   | succ q=>exact(yY (qB ep) eq).elim
  | succ p=>
   cases q with
   | zero=>exact(yY (qB eq) ep).elim
   | succ q=>exact congrArg (·+1)<|MU dd ep eq ej ou
theorem gx{us:Qa U}{u:U}:(sm us)[i]?=some (some u)↔us[i]?=some u:=by
 unfold sm;rw[List.getElem?_map];cases us[i]?<;>simp
theorem vZ:(eN vs)[i]?=some (some v)↔vs[i]?=some v:=by
 unfold eN;rw[List.getElem?_map];cases vs[i]?<;>simp
theorem BH:∀ {as:Qa Ar} {os:Qa U} {ρ:En} {j:Nat} {w:U},(wb ρ as os)[j]?=some (some w)->as.length=os.length->(∃ p:Nat,as[p]?=some (Ar.s j)/\os[p]?=some w)\/(ρ[j]?=some (some w)/\∀ p:Nat,as[p]?≠some (Ar.s j))
 | [],os,ρ,j,w,e,_=>.inr ⟨by cases os<;>exact e,λp z=>by simp at z⟩
 | a::as,[],ρ,j,w,e,l=>by simp at l
 | .u x::as,o::os,ρ,j,w,e,l=>by
  rcases BH (as:=as) (os:=os) (ρ:=ρ) (show(wb ρ as os)[j]?=some (some w) from e) (by simpa using l)with⟨p,h1,h2⟩|⟨h1,h2⟩
  .exact .inl ⟨p+1,h1,h2⟩
  .refine .inr ⟨h1,λp z=>?_⟩
   cases p with
   | zero=>cases(show some (Ar.u x)=some (.s j) from z)
   | succ p=>exact h2 p z
 | .s k::as,o::os,ρ,j,w,e,l=>by
  rcases BH (as:=as) (os:=os) (ρ:=ρ.set k (some o)) (show(wb (ρ.set k<|some o) as os)[j]?=some (some w) from e) (by simpa using l)with⟨p,h1,h2⟩|⟨h1,h2⟩
  .exact .inl ⟨p+1,h1,h2⟩
  .by_cases hk:k=j
   .subst hk
    have hl:k < (ρ.set k<|some o).length:=(qm.mp h1).1;rw[List.length_set]at hl;rw[List.getElem?_set_self hl]at h1;exact .inl ⟨0,rfl,by cases h1; rfl⟩
   .rw[qF hk]at h1
    refine .inr ⟨h1,λp z=>?_⟩;cases p with
    | zero=>cases(show some (Ar.s k)=some (.s j) from z); exact hk rfl
    | succ p=>exact h2 p z
theorem BK:∀ (ρ:En) (as:Qa Ar) (os:Qa U),(wb ρ as os).length=ρ.length
 | ρ,[],os=>by cases os<;>rfl
 | ρ,.s k::as,[]=>rfl
 | ρ,.u k::as,[]=>rfl
 | ρ,.s k::as,o::os=>by show(wb (ρ.set k<|some o) as os).length=_; rw[BK]; exact List.length_set
 | ρ,.u k::as,o::os=>BK ρ as os
theorem B8:∀ {as:Qa Ar} {os:Qa U} {ρ:En} {j:Nat} {w:U},ρ[j]?=some (some w)->∃ w',(wb ρ as os)[j]?=some (some w')
 | [],os,ρ,j,w,e=>⟨w,by cases os<;>exact e⟩
 | .s k::as,[],ρ,j,w,e=>⟨w,e⟩
 | .u k::as,[],ρ,j,w,e=>⟨w,e⟩
 | .u k::as,o::os,ρ,j,w,e=>B8 (as:=as) (os:=os) e
 | .s k::as,o::os,ρ,j,w,e=>by
  by_cases hk:k=j
  .subst hk
   exact B8 (as:=as) (os:=os) (w:=o)<|ö (qm.mp e).1
  .exact B8 (as:=as) (os:=os) (w:=w) (by rw[qF hk]; exact e)
theorem zAF{as:Qa Ar}{us:Qa U}{aw:En}{H1:Hp}(rs:Rs K ρ σ H)(g1:Go K ρ σ H aw H1)(s1:Es K aw σ H H1 vs as)(dj:gP aw as=true)(eu:bC aw as=some us):
  Rs K (sm us) (eN vs) H1/\∀ (outs:Qa U) (H2:Hp),Go K (sm us) (eN vs) H1 (sm outs) H2->Go K ρ σ H (wb aw as outs) H2:=by
 have rp:=s1.lY rs g1 eu;have lus:=Cy eu;have DT:=s1.len;have adr:∀ (i:Nat) (u:U),us[i]?=some u->u.own=true->∃ b,vs[i]?=some (.ref b)/\((∃ j,as[i]?=some (.s j)/\σ[j]?=some (some<|.ref b)/\aw[j]?=some (some u))\/(as[i]?=some (.u u)/\H b=none)):=λi u ei ou=>by
  have(a,ea,eg):=G8 eu ei;have(v,ev,k):=s1.ar i a ea;have p:=k.now rs g1 eg;have(b,rfl):=p.jy ou;refine⟨b,ev,?_⟩;cases a with
  | s j=>exact .inl ⟨j,ea,k.1,Kx eg⟩
  | u x=>
   cases(show some x=some u from eg);have(b',eb,hb):=k.2 ou;cases eb;exact .inr ⟨ea,hb⟩
 have apart:∀ (i j:Nat) (u w:U),us[i]?=some u->us[j]?=some w->u.own=true->w.own=true->vs[i]?=vs[j]?->i=j:=λi j u w ei ej ou ow ev=>by
  have(b,vb,hb):=adr i u ei ou;have(c,vc,hc):=adr j w ej ow;have bc:b=c:=by rw[vb,vc]at ev; cases ev; rfl
  subst bc;rcases hb with⟨x,ax,sx,rx⟩|⟨ax,nx⟩
  .rcases hc with⟨y,ay,sy,ry⟩|⟨ay,ny⟩
   .have xy:x=y:=g1.rs.apart x y u w rx ry ou ow (by rw[sx,sy])
    subst xy;exact MU dj ax ay rx ou
   .exfalso
    have(w',ff,uF):=g1.shr.own x u rx ou;have(c',kC,_):=rs.ow ⟨x,w',ff,uF,sx⟩;rw[ny]at kC;cases kC
  .rcases hc with⟨y,ay,sy,ry⟩|⟨ay,ny⟩
   .exfalso
    have(w',ff,uF):=g1.shr.own y w ry ow;have(c',kC,_):=rs.ow ⟨y,w',ff,uF,sy⟩;rw[nx]at kC;cases kC
   .exact s1.ap i j u w ax ay ou ow ev
 have DO:Rs K (sm us) (eN vs) H1:=by
  refine⟨by unfold sm eN; rw[List.length_map,List.length_map]; omega,λi u ei=>?_,λi j u w ei ej ou ow ev=>?_⟩
  .have sT:=gx.mp ei
   have(a,ea,eg):=G8 eu sT;have(v,ev,k):=s1.ar i a ea;exact⟨v,vZ.mpr ev,k.now rs g1 eg⟩
  .have sT:=gx.mp ei
   have mG:=gx.mp ej;refine apart i j u w sT mG ou ow ?_;have(b,vb,_):=adr i u sT ou;have(c,vc,_):=adr j w mG ow;rw[vZ.mpr vb,vZ.mpr vc]at ev;rw[vb,vc];exact qB ev
 refine⟨DO,λouts H2 g2=>?_⟩;have lo:outs.length=us.length:=by have:=g2.shr.len; unfold sm at this; simpa using this
 have kp2:=g2.kp DO;have owA:∀ b,Ow (sm us) (eN vs) b->Ow aw σ b\/H b=none:=λb ⟨i,u,ei,ou,es⟩=>by
  have(c,vc,hc):=adr i u (gx.mp ei) ou;rw[vZ.mp es]at vc;cases vc;rcases hc with⟨j,_,sj,rj⟩|⟨_,nb⟩
  .exact .inl ⟨j,u,rj,ou,sj⟩
  .exact .inr nb
 have uG:∀ (i:Nat) (w:U),outs[i]?=some w->∃ x,vs[i]?=some x/\Rp K H2 x w:=λi w ei=>by
  have(x,ex,px):=g2.rs.rep i w (gx.mpr ei);exact⟨x,vZ.mp ex,px⟩
 have Sk:as.length=outs.length:=by omega
 have gE:∀ (j:Nat) (w:U),(wb aw as outs)[j]?=some (some w)->w.own=true->∃ w',aw[j]?=some (some w')/\w'.own=true:=λj w ej ow=>by
  rcases BH ej Sk with⟨p,ap,op⟩|⟨h1,_⟩
  .have(w',ff,uF):=g2.shr.own p w (gx.mpr op) ow
   have(a,ea,eg):=G8 eu (gx.mp ff);rw[ap]at ea;cases ea;exact⟨w',Kx eg,uF⟩
  .exact⟨w,h1,ow⟩
 refine⟨⟨by rw[BK]; exact g1.rs.len,λj w ej=>?_,λi j u w ei ej ou ow es=>?_⟩,λb ob hb nb=>?_,?_,λb hb=>g1.dm b<|g2.dm b hb⟩
 .rcases BH ej Sk with⟨p,ap,op⟩|⟨h1,h2⟩
  .have(x,vx,px):=uG p w op
   have(v',vi,k'):=s1.ar p _ ap;rw[vx]at vi;cases vi;exact⟨x,k'.1,px⟩
  .have(x,ex,px):=g1.rs.rep j w h1
   refine⟨x,ex,px.kp kp2 λow b c eb hb=>?_⟩;refine g2.fr b c hb λ⟨i,u,ei,ou,es⟩=>?_;have(c',RW,kC):=adr i u (gx.mp ei) ou;rw[vZ.mp es]at RW;cases RW;subst eb;rcases kC with⟨k,ak,sk,rk⟩|⟨_,nb⟩
   .have:k=j:=g1.rs.apart k j u w rk h1 ou ow (by rw[sk,ex])
    subst this;exact h2 i ak
   .have(w',ff,uF):=g1.shr.own j w h1 ow
    have(c'',Ay,_):=rs.ow ⟨j,w',ff,uF,ex⟩;rw[nb]at Ay;cases Ay
 .have(x,ex,ox):=gE i u ei ou
  have(y,ey,oy):=gE j w ej ow;exact g1.rs.apart i j x y ex ey ox oy es
 .refine g2.fr b ob (g1.fr b ob hb nb) λz=>?_
  rcases owA b z with z|z
  .exact nb (g1.shr.ow z)
  .rw[z]at hb; cases hb
 .refine⟨by rw[BK]; exact g1.shr.len,λj w ej ow=>?_,λj w ej=>?_⟩
  .have(x,ex,ox):=gE j w ej ow
   exact g1.shr.own j x ex ox
  .have(x,ex):=g1.shr.live j w ej
   exact B8 ex
theorem zCv:∀ ρ as av,zq ρ=some (as,av)->as.length=0:=λρ as av e=>by cases e; rfl
theorem zAG{me:ME}{ma:MA}(h:∀ ρ as av,ma ρ=some (as,av)->as.length=n):∀ ρ as av,zf me ma ρ=some (as,av)->as.length=n+1:=λρ as av e=>by
 obtain⟨⟨a1,aw⟩,e1,e⟩:=bQ e;obtain⟨⟨Ei,aB⟩,e2,e⟩:=bQ e;cases e;simp[h _ _ _ e2]
theorem zA{f:FD}{t:TA}{m:MA}(n:Nat)(h:jc K t m)(hn:∀ ρ as av,m ρ=some (as,av)->as.length=n:=by repeat (first|exact zCv|refine zAG ?_)):VE K (HX (rX K n f) t) (zP f m):=by
 intro ρ σ H a av Q rs e q;obtain⟨⟨as,aw⟩,e1,e⟩:=bQ e;dsimp only at e;split at e
 .rename_i dj
  have(us,eu,e):=bQ e;obtain⟨⟨r,outs⟩,ef,e⟩:=bQ e;cases e;refine h ρ σ H as aw _ rs e1 λvs H1 g1 s1=>?_;have(DO,back):=zAF rs g1 s1 dj eu;exact⟨us,r,outs,by rw[Cy eu]; exact hn _ _ _ e1,DO,ef,λv H2 g2 p n2=>q v H2 (back outs H2 g2) ⟨p,n2.mono g1.dm⟩⟩
 .cases e
end
inductive Fl where
 | nx (ρ:En) | bk (ρ:En) | ct (ρ:En) | rt (u:U) (ρ:En) | ex (x:D) (ρ:En)
def RF(K:qe)(H:Hp)(a:Qg)(x:D):Prop:=∃ n C fs ds,x=.dict ((.none,.str n)::ds)/\zDW H a C fs/\XN K n C/\ir K H fs ds
structure Sn (K:qe) (pn:Qa Nat) (ao:St) (A:Qg->Prop) (aA aC:Hp) (ρ:En) (σ:St) (H:Hp):Prop where
 rs:Rs K ρ σ H
 fr:AR A aA H
 ow:∀ (i:Nat) (u:U) (a:Qg),ρ[i]?=some (some u)->u.own=true->σ[i]?=some (some<|.ref a)->(i∈pn/\A a)\/aA a=none
 pin:∀ i∈pn,σ[i]?=ao[i]?
 dm:∀ a,H a=none->aA a=none
 kp:Kp aC H
def T2:jf:=λ_ _ _=>False
def zDX(K:qe)(pn:Qa Nat)(EX:jf)(ao:St)(A:Qg->Prop)(aA aC:Hp)(D:Ends):Fl->Prop
 | .nx ρ=>∀ σ H,Sn K pn ao A aA aC ρ σ H->D.nx σ H
 | .bk ρ=>∀ σ H,Sn K pn ao A aA aC ρ σ H->D.bk σ H
 | .ct ρ=>∀ σ H,Sn K pn ao A aA aC ρ σ H->D.ct σ H
 | .rt u ρ=>∀ v σ H,Sn K pn ao A aA aC ρ σ H->Rp K H v u->Nw aA v u->D.rt v H
 | .ex x ρ=>∀ a σ H,Sn K pn ao A aA aC ρ σ H->aA a=none->RF K H a x->EX σ a H
abbrev MS:=En->Qb Fl
def VS(K:qe)(pn:Qa Nat)(EX:jf)(t:TS)(m:MS):Prop :=
 ∀ (ao:St) (A:Qg->Prop) (aA aC:Hp) (ρ:En) (σ:St) (H:Hp) (f:Fl) (D:Ends),Sn K pn ao A aA aC ρ σ H->m ρ=some f->zDX K pn EX ao A aA aC D f->t D σ H
section
variable{EX:jf}{A:Qg->Prop}{mN:Hp}{ρ av:En}
theorem Sn.go(s:Sn K pn ao A aA aC ρ σ H)(g:Go K ρ σ H av H'):Sn K pn ao A aA aC av σ H':=by
 refine⟨g.rs,λa o h n=>g.fr a o (s.fr a o h n) λ⟨i,u,e,ou,es⟩=>?_,λi u a e o es=>?_,s.pin,λa h=>s.dm a<|g.dm a h,s.kp.trans<|g.kp s.rs⟩
 .rcases s.ow i u a e ou es with z|z
  .exact n z.2
  .rw[z]at h; cases h
 .have(w,e',o'):=g.shr.own i u e o
  exact s.ow i w a e' o' es
theorem Sn.re(s:Sn K pn ao A aA mN ρ σ H)(k:Kp aC mN):Sn K pn ao A aA aC ρ σ H:=⟨s.rs,s.fr,s.ow,s.pin,s.dm,k.trans s.kp⟩
theorem Sn.at(s:Sn K pn ao A aA aC ρ σ H):Sn K pn ao A aA H ρ σ H:=⟨s.rs,s.fr,s.ow,s.pin,s.dm,Kp.refl H⟩
theorem Sn.set{u:U}(s:Sn K pn ao A aA aC ρ σ H)(hi:i∉pn)(p:Rp K H v u)(n:u.own=true->∃ a,v=.ref a/\aA a=none/\¬Ow ρ σ a):Sn K pn ao A aA aC (ρ.set i<|some u) (σ.set i<|some v) H:=by
 have ll:=s.rs.len;have inv:∀ (j:Nat) (w:U),(ρ.set i<|some u)[j]?=some (some w)->(j=i/\w=u/\i < ρ.length)\/(j≠i/\ρ[j]?=some (some w)):=λj w e=>by
  by_cases hj:i=j
  .subst hj
   have hl:=(qm.mp e).1;rw[List.length_set]at hl;rw[List.getElem?_set_self hl]at e;cases e;exact .inl ⟨rfl,rfl,hl⟩
  .rw[qF hj]at e
   exact .inr ⟨Ne.symm hj,e⟩
 have sat:∀ j,j≠i->(σ.set i<|some v)[j]?=σ[j]?:=λj h=>qF<|Ne.symm h;have jx:i < ρ.length->(σ.set i<|some v)[i]?=some (some v):=λh=>ö (by omega);refine⟨⟨by rw[List.length_set,List.length_set]; exact ll,λj w e=>?_,λj k x y ej ek ox oy es=>?_⟩,s.fr,λj w a e o es=>?_,λj hj=>?_,s.dm,s.kp⟩
 .rcases inv j w e with⟨rfl,rfl,hl⟩|⟨hj,e'⟩
  .exact⟨v,jx hl,p⟩
  .rw[sat j hj]
   exact s.rs.rep j w e'
 .rcases inv j x ej with⟨rfl,rfl,hl⟩|⟨hj,mG⟩
  .rcases inv k y ek with⟨rfl,rfl,_⟩|⟨hk,Ee⟩
   .rfl
   .exfalso
    have(a,rfl,_,na):=n ox;rw[jx hl,sat k hk]at es;exact na ⟨k,y,Ee,oy,es.symm⟩
  .rcases inv k y ek with⟨rfl,rfl,hl⟩|⟨hk,Ee⟩
   .exfalso
    have(a,rfl,_,na):=n oy;rw[jx hl,sat j hj]at es;exact na ⟨j,x,mG,ox,es⟩
   .rw[sat j hj,sat k hk]at es
    exact s.rs.apart j k x y mG Ee ox oy es
 .rcases inv j w e with⟨rfl,rfl,hl⟩|⟨hj,e'⟩
  .rw[jx hl]at es
   cases es;have(b,eb,hb,_):=n o;cases eb;exact .inr hb
  .rw[sat j hj]at es
   exact s.ow j w a e' o es
 .rw[sat j λz=>hi<|z▸hj]
  exact s.pin j hj
theorem mY.own{a:Ar}{u:U}(r:Rs K ρ σ H)(g:Go K ρ σ H av H')(k:mY K av σ H H' v a)(e:a.get av=some u)(nc:∀ j,a=.s j->u.own=false):Nw H v u/\(u.own=true->∃ b,v=.ref b/\¬Ow av σ b):=by
 cases a with
 | s j=>exact⟨(λo=>by rw[nc j rfl]at o; cases o),λo=>by rw[nc j rfl]at o; cases o⟩
 | u x=>
  cases(show some x=some u from e);exact⟨k.2,k.2.pL r g⟩
def put(p:Ar×En):Qb (U×En):=match p.1 with
 | .s i=>match p.2[i]? with
  | some (some<|.d x)=>some (.d x,p.2)
  | _=>none
 | .u u=>some (u,p.2)
theorem LS{a:Ar}{u:U}{aw aB:En}(e:put (a,aw)=some (u,aB)):aB=aw/\a.get aw=some u/\∀ j,a=.s j->u.own=false:=by
 cases a with
 | s i=>
  unfold put at e;dsimp only at e;split at e
  .rename_i x ex
   cases e;refine⟨rfl,?_,λ_ _=>rfl⟩;show(aw[i]?).join=_;rw[ex];rfl
  .cases e
 | u x=>
  cases e;exact⟨rfl,rfl,λj z=>by cases z⟩
def zY(i:Nat)(me:ME):MS:=λρ=>(me ρ).bind λp=>(put p).bind λq=>some<|.nx<|q.2.set i<|some q.1
theorem zJ{me:ME}(h:VE K te me)(hi:i∉pn:=by decide):VS K pn EX (oH te<|jT i) (zY i me):=by
 intro ao A aA aC ρ σ H f D s e k;obtain⟨⟨a,aw⟩,e1,e⟩:=bQ e;obtain⟨⟨u,aB⟩,e2,e3⟩:=bQ e;clear e;have(rfl,eg,nc):=LS e2;cases e3;refine h ρ σ H a aB _ s.rs e1 λv H1 g1 k1=>?_;have(n1,n2):=k1.own s.rs g1 eg nc;have s1:=s.go g1;refine k _ _<|s1.set hi (k1.now s.rs g1 eg) λo=>?_;have(b,rfl,hb):=n2 o;have(b',eb,kD):=n1 o;cases eb;exact⟨b,rfl,s.dm b kD,hb⟩
def zB(m1 m2:MS):MS:=λρ=>(m1 ρ).bind λf=>match f with
 | .nx av=>m2 av
 | f=>some f
theorem zr{t1 t2:TS}{m1 m2:MS}(h1:VS K pn EX t1 m1)(h2:VS K pn EX t2 m2):VS K pn EX (xv t1 t2) (zB m1 m2):=by
 intro ao A aA aC ρ σ H f D s e k;have(f1,e1,e):=bQ e;refine h1 ao A aA aC ρ σ H f1 _ s e1 ?_;cases f1 with
 | nx aw=>exact λeS H1 s1=>h2 ao A aA aC aw eS H1 f D s1 e k
 | bk aw=>cases e; exact k
 | ct aw=>cases e; exact k
 | rt u aw=>cases e; exact k
 | ex x aw=>cases e; exact k
def cy:MS:=λρ=>some<|.nx ρ
theorem cX:VS K pn EX Ff cy:=λao A aA aC ρ σ H f D s e k=>by cases e; exact k σ H s
theorem zAH:VS K pn EX Fe (λρ=>some<|.ct ρ):=λao A aA aC ρ σ H f D s e k=>by cases e; exact k σ H s
def bw(mt:MT)(m1 m2:MS):MS:=λρ=>(mt ρ).bind λp=>if p.1=true then m1 p.2 else m2 p.2
theorem bL{t1 t2:TS}{mt:MT}{m1 m2:MS}(ht:VT K tt mt)(h1:VS K pn EX t1 m1)(h2:VS K pn EX t2 m2):VS K pn EX (Ey tt t1 t2) (bw mt m1 m2):=by
 intro ao A aA aC ρ σ H f D s e k;obtain⟨⟨c,aw⟩,e1,e⟩:=bQ e;refine ht ρ σ H c aw _ s.rs e1 λH1 g1=>?_;dsimp only at e;split at e
 .rename_i hc
  rw[if_pos hc];exact h1 ao A aA aC aw σ H1 f D (s.go g1) e k
 .rename_i hc
  rw[if_neg hc];exact h2 ao A aA aC aw σ H1 f D (s.go g1) e k
theorem xY{t:TS}{m:MS}(h:VS K pn EX t m):VS K pn EX (Fo t) m:=by
 intro ao A aA aC ρ σ H f D s e k;cases f with
 | nx aw=>exact⟨λaJ H'=>Sn K pn ao A aA aC aw aJ H',h ao A aA aC ρ σ H _ _ s e λaJ H' s'=>s',λaJ H' s'=>k aJ H' s'⟩
 | bk aw=>exact⟨D.nx,h ao A aA aC ρ σ H _ _ s e k,λ_ _ z=>z⟩
 | ct aw=>exact⟨D.nx,h ao A aA aC ρ σ H _ _ s e k,λ_ _ z=>z⟩
 | rt u aw=>exact⟨D.nx,h ao A aA aC ρ σ H _ _ s e k,λ_ _ z=>z⟩
 | ex x aw=>exact⟨D.nx,h ao A aA aC ρ σ H _ _ s e k,λ_ _ z=>z⟩
def cD(me:ME):MS:=λρ=>(me ρ).bind λp=>some<|.nx p.2
theorem dZ{me:ME}(h:VE K te me):VS K pn EX (Fd te) (cD me):=by
 intro ao A aA aC ρ σ H f D s e k;obtain⟨⟨a,aw⟩,e1,e⟩:=bQ e;cases e;exact h ρ σ H a _ _ s.rs e1 λv H1 g1 k1=>k σ H1<|s.go g1
def bg(me:ME):MS:=λρ=>(me ρ).bind λp=>(put p).bind λq=>some<|.rt q.1 q.2
theorem bo{me:ME}(h:VE K te me):VS K pn EX (Bt te) (bg me):=by
 intro ao A aA aC ρ σ H f D s e k;obtain⟨⟨a,aw⟩,e1,e⟩:=bQ e;obtain⟨⟨u,aB⟩,e2,e3⟩:=bQ e;clear e;have(rfl,eg,nc):=LS e2;cases e3;refine h ρ σ H a _ _ s.rs e1 λv H1 g1 k1=>?_;have(n1,n2):=k1.own s.rs g1 eg nc;exact k v σ H1 (s.go g1) (k1.now s.rs g1 eg)<|n1.mono s.dm
def jo(pn:Qa Nat)(i:Nat):MS:=λρ=>if i∈pn then none else(match ρ[i]? with
 | some (some u)=>some<|.rt u<|ρ.set i none
 | _=>none)
theorem oW:VS K pn EX (Bt<|iA i) (jo pn i):=by
 intro ao A aA aC ρ σ H f D s e k;unfold jo at e;split at e
 .cases e
 rename_i hi;split at e
 .rename_i u eu
  cases e;have(v,ev,p):=s.rs.rep i u eu;have back:∀ (j:Nat) (w:U),(ρ.set i none)[j]?=some (some w)->ρ[j]?=some (some w):=λj w e=>by
   by_cases hj:i=j
   .subst hj
    have hl:=(qm.mp e).1;rw[List.length_set]at hl;rw[List.getElem?_set_self hl]at e;cases e
   .rw[qF hj]at e
    exact e
  refine⟨v,ev,k v σ H ⟨⟨by rw[List.length_set]; exact s.rs.len,λj w e=>s.rs.rep j w<|back j w e,λa b x y ea eb=>s.rs.apart a b x y (back a x ea)<|back b y eb⟩,s.fr,λj w a e=>s.ow j w a<|back j w e,s.pin,s.dm,s.kp⟩ p λo=>?_⟩;have(a,rfl):=p.jy o;rcases s.ow i u a eu o ev with z|z
  .exact absurd z.1 hi
  .exact⟨a,rfl,z⟩
 .cases e
end
section
variable{EX:jf}{A:Qg->Prop}{mN:Hp}{ρ av:En}
def LR(K:qe)(J:It)(aC:Hp)(ds:Qa D):Prop:=∀ H,Kp aC H->∀ i:Nat,(∀ d,ds[i]?=some d->J.go i H/\∀ x H',J.wJ i H x H'->cN H H'/\DF K H' x d)/\(i=ds.length->J.stop i H)
abbrev MI:=En->Qb (Qa D×En)
def VI(K:qe)(wi:TI)(mi:MI):Prop :=
 ∀ (ρ:En) (σ:St) (H:Hp) (ds:Qa D) (av:En) (R:It->Hp->Prop),Rs K ρ σ H->mi ρ=some (ds,av)->(∀ J H',Go K ρ σ H av H'->LR K J H' ds->R J H')->wi σ H R
def xw:U->Qb (Qa D)
 | .d (.list xs)=>some xs
 | _=>none
def mW:U->Qb (Qa D)
 | .d (.tuple xs)=>some xs
 | _=>none
def de(f:U->Qb (Qa D))(me:ME):MI:=λρ=>(me ρ).bind λp=>(p.1.get p.2).bind λu=>(f u).bind λds=>some (ds,p.2)
theorem MR{me:ME}(h:VE K te me):VI K (BC K te) (de xw me):=by
 intro ρ σ H ds av R r e q;obtain⟨⟨a,aw⟩,e1,e⟩:=bQ e;have(u,eu,e):=bQ e;have(xs,ex,e):=bQ e;cases e;refine h ρ σ H a _ _ r e1 λv H1 g1 k1=>?_;have p:=k1.now r g1 eu;unfold xw at ex;split at ex
 .cases ex
  have(b,ys,rfl,h1,h2):=DF.lst_inv p;refine⟨b,rfl,⟨ys,h1.sq⟩,q _ _ g1 λH2 k i=>⟨λd ed=>?_,λei=>?_⟩⟩
  .have(v,ev,dv):=(h2.kp k).get ed
   refine⟨⟨ys,v,(h1.kp k).sq,ev⟩,λx H' y=>?_⟩;have(rfl,y):=y;have:=y ys (h1.kp k).sq;rw[ev]at this;cases this;exact⟨λ_ _ z=>z,dv⟩
  .exact⟨ys,(h1.kp k).sq,by rw[h2.len]; omega⟩
 .cases ex
theorem t9{me:ME}(h:VE K te me):VI K (Et K te) (de mW me):=by
 intro ρ σ H ds av R r e q;obtain⟨⟨a,aw⟩,e1,e⟩:=bQ e;have(u,eu,e):=bQ e;have(xs,ex,e):=bQ e;cases e;refine h ρ σ H a _ _ r e1 λv H1 g1 k1=>?_;have p:=k1.now r g1 eu;unfold mW at ex;split at ex
 .cases ex
  have(b,ys,rfl,h1,h2):=DF.aI p;refine⟨b,rfl,⟨ys,(aX.sq h1)⟩,q _ _ g1 λH2 k i=>⟨λd ed=>?_,λei=>?_⟩⟩
  .have(v,ev,dv):=(h2.kp k).get ed
   refine⟨⟨ys,v,(aX.kp k h1).sq,ev⟩,λx H' y=>?_⟩;have(rfl,y):=y;have:=y ys ((aX.kp k h1).sq);rw[ev]at this;cases this;exact⟨λ_ _ z=>z,dv⟩
  .exact⟨ys,(aX.kp k h1).sq,by rw[h2.len]; omega⟩
 .cases ex
def gB(lo:Int)(n:Nat):Qa D:=(List.range n).map λi=>.int<|lo+(i:Nat)
theorem Ht(lo:Int)(n:Nat):(gB lo n).length=n:=by simp[gB]
theorem Hc{lo:Int}{d:D}(h:(gB lo n)[i]?=some d):i < n/\d=.int (lo+(i:Nat)):=by
 have hl:=(qm.mp h).1;rw[Ht]at hl;refine⟨hl,?_⟩;unfold gB at h;rw[List.getElem?_map,List.getElem?_range hl]at h;cases h;rfl
theorem O3{lo:Int}:LR K (AN lo n) aC (gB lo n):=λH k i=>⟨λd ed=>by
  have(hi,rfl):=Hc ed;refine⟨hi,λx H' y=>?_⟩;have(rfl,rfl):=y;exact⟨λ_ _ z=>z,.int _⟩,λei=>by rw[Ht]at ei; exact Ć ei.symm⟩
def jn(ma:MA):MI:=λρ=>(ma ρ).bind λp=>(bC p.2 p.1).bind λus=>match us with
 | [.d<|.int j]=>if -(2^62)<=j/\j < 2^62 then some (gB 0 j.toNat,p.2)else none
 | _=>none
def BG(ma:MA):MI:=λρ=>(ma ρ).bind λp=>(bC p.2 p.1).bind λus=>match us with
 | [.d<|.int i,.d<|.int j]=>if -(2^62)<=i/\i < 2^62/\-(2^62)<=j/\j < 2^62 then some (gB i (j - i).toNat,p.2)else none
 | _=>none
theorem lK{ta:TA}{ma:MA}(h:jc K ta ma):VI K (Fc ta) (jn ma):=by
 intro ρ σ H ds av R r e q;obtain⟨⟨as,aw⟩,e1,e⟩:=bQ e;have(us,eu,e):=bQ e;refine h ρ σ H as aw _ r e1 λvs H1 g1 s1=>?_;have rp:=s1.lY r g1 eu;dsimp only at e;split at e
 .split at e
  .rename_i j hc
   cases e;cases rp with
   | cons h1 t=>
    cases t;cases DF.int_inv h1;exact⟨j,rfl,hc.1,hc.2,q _ _ g1 O3⟩
  .cases e
 .cases e
theorem WZ{ta:TA}{ma:MA}(h:jc K ta ma):VI K (E9 ta) (BG ma):=by
 intro ρ σ H ds av R r e q;obtain⟨⟨as,aw⟩,e1,e⟩:=bQ e;have(us,eu,e):=bQ e;refine h ρ σ H as aw _ r e1 λvs H1 g1 s1=>?_;have rp:=s1.lY r g1 eu;dsimp only at e;split at e
 .split at e
  .rename_i i j hc
   cases e;cases rp with
   | cons h1 t=>
    cases t with
    | cons h2 t=>
     cases t;cases DF.int_inv h1;cases DF.int_inv h2;exact⟨i,j,rfl,hc,q _ _ g1 O3⟩
  .cases e
 .cases e
def nD:Nat->Qa D->Qa D
 | _,[]=>[]
 | i,d::ds=>.tuple [.int (i:Nat),d]::nD (i+1) ds
theorem HB:∀ {ds:Qa D} {n i:Nat} {d:D},(nD n ds)[i]?=some d->∃ x,ds[i]?=some x/\d=.tuple [.int ((n+i:Nat):Int),x]
 | [],n,i,d,h=>by simp[nD]at h
 | x::ds,n,0,d,h=>by cases h; exact⟨x,rfl,rfl⟩
 | x::ds,n,i+1,d,h=>by
  have(y,ey,ed):=HB (ds:=ds) (n:=n+1) (i:=i) h;exact⟨y,ey,by rw[ed]; congr 3; omega⟩
theorem Pu:∀ (ds:Qa D) (n:Nat),(nD n ds).length=ds.length
 | [],_=>rfl
 | _::ds,n=>congrArg (·+1)<|Pu ds<|n+1
def BF(ma:MA):MI:=λρ=>(ma ρ).bind λp=>(bC p.2 p.1).bind λus=>match us with
 | [.d<|.tuple ds]=>some (nD 0 ds,p.2)
 | _=>none
theorem WY{ta:TA}{ma:MA}(h:jc K ta ma):VI K (Kz K ta) (BF ma):=by
 intro ρ σ H ds av R r e q;obtain⟨⟨as,aw⟩,e1,e⟩:=bQ e;have(us,eu,e):=bQ e;refine h ρ σ H as aw _ r e1 λvs H1 g1 s1=>?_;have rp:=s1.lY r g1 eu;dsimp only at e;split at e
 .rename_i xs
  cases e;cases rp with
  | cons h1 t=>
   cases t;have(b,ys,rfl,h1,h2):=DF.aI h1;refine⟨b,rfl,⟨ys,(aX.sq h1)⟩,q _ _ g1 λH2 k i=>⟨λd ed=>?_,λei=>?_⟩⟩
   .have(x,ex,rfl):=HB ed
    have(v,ev,dv):=(h2.kp k).get ex;refine⟨⟨ys,v,(aX.kp k h1).sq,ev⟩,λx H' y=>?_⟩;have(T,nT,rfl,y):=y;cases y ys v ((aX.kp k h1).sq) ev;have sm:=zZ nT (.tup [.int i,v]);refine⟨sm,.tup (.inl zy)<|.cons ?_<|.cons (dv.kp sm.kp) .nil⟩;rw[Nat.zero_add];exact .int _
   .exact⟨ys,(aX.kp k h1).sq,by rw[Pu]at ei; rw[h2.len]; exact ei.symm⟩
 .cases e
abbrev MG:=D->En->Qb En
def zDY(pn:Qa Nat)(mg:MG):Prop:=∀ d ρ av,mg d ρ=some av->av.length=ρ.length/\∀ i∈pn,av[i]?=ρ[i]?
def zCx(pn:Qa Nat)(mg:Qa D->En->Qb En):Prop:=∀ ds ρ av,mg ds ρ=some av->av.length=ρ.length/\∀ i∈pn,av[i]?=ρ[i]?
structure qI (K:qe) (pn:Qa Nat) (g:TG) (mg:MG):Prop where
 run:∀ (ao:St) (A:Qg->Prop) (aA aC:Hp) (ρ:En) (σ:St) (H:Hp) (v:V) (d:D) (av:En) (Q:St->Hp->Prop),Sn K pn ao A aA aC ρ σ H->DF K H v d->mg d ρ=some av->(∀ aJ,Sn K pn ao A aA aC av aJ H->Q aJ H)->g v σ H Q
 ok:zDY pn mg
structure Ek (K:qe) (pn:Qa Nat) (g:iH) (mg:Qa D->En->Qb En):Prop where
 run:∀ (ao:St) (A:Qg->Prop) (aA aC:Hp) (ρ:En) (σ:St) (H:Hp) (vs:Qa V) (ds:Qa D) (av:En) (Q:St->Hp->Prop),Sn K pn ao A aA aC ρ σ H->aR K H vs ds->mg ds ρ=some av->(∀ aJ,Sn K pn ao A aA aC av aJ H->Q aJ H)->g vs σ H Q
 ok:zCx pn mg
def zC(i:Nat):MG:=λd ρ=>some<|ρ.set i<|some<|.d d
theorem zv(hi:i∉pn:=by decide):qI K pn (jT i) (zC i) where
 run:=by
  intro ao A aA aC ρ σ H v d av Q s h e q;cases e;exact q _ (s.set hi (u:=.d d) h λo=>by cases o)
 ok:=λd ρ av e=>by
  cases e;exact⟨List.length_set,λj hj=>qF (by rintro rfl; exact hi hj)⟩
def f7:Qa D->En->Qb En:=λds ρ=>match ds with | []=>some ρ|_=>none
def cn(g:MG)(gs:Qa D->En->Qb En):Qa D->En->Qb En:=λds ρ=>match ds with
 | d::ds=>(g d ρ).bind λaw=>gs ds aw
 | []=>none
theorem hU:Ek K pn Bq f7 where
 run:=by
  intro ao A aA aC ρ σ H vs ds av Q s h e q;cases h with
  | nil=>cases e; exact⟨rfl,q σ s⟩
  | cons=>cases e
 ok:=λds ρ av e=>by
  cases ds with
  | nil=>cases e; exact⟨rfl,λ_ _=>rfl⟩
  | cons=>cases e
theorem zV{gs:iH}{mg:MG}{uK:Qa D->En->Qb En}(h1:qI K pn g mg)(h2:Ek K pn gs uK):Ek K pn (xG g gs) (cn mg uK) where
 run:=by
  intro ao A aA aC ρ σ H vs ds av Q s h e q;cases h with
  | nil=>cases e
  | @cons v d vs ds hv t=>
   have(aw,e1,e):=bQ (show(mg d ρ).bind (λaw=>uK ds aw)=some av from e);exact⟨v,vs,rfl,h1.run ao A aA aC ρ σ H v d aw _ s hv e1 λeS s1=>h2.run ao A aA aC aw eS H vs ds av Q s1 t e q⟩
 ok:=λds ρ av e=>by
  cases ds with
  | nil=>cases e
  | cons d ds=>
   have(aw,e1,e):=bQ (show(mg d ρ).bind (λaw=>uK ds aw)=some av from e);have(a1,a2):=h1.ok d ρ aw e1;have(b1,b2):=h2.ok ds aw av e;exact⟨b1.trans a1,λi hi=>(b2 i hi).trans<|a2 i hi⟩
def fM(n:Nat)(gs:Qa D->En->Qb En):MG:=λd ρ=>match d with
 | .tuple ds=>if ds.length=n then gs ds ρ else none
 | _=>none
theorem hJ{gs:iH}{uK:Qa D->En->Qb En}(h:Ek K pn gs uK):qI K pn (Bp K n gs) (fM n uK) where
 run:=by
  intro ao A aA aC ρ σ H v d av Q s hd e q;unfold fM at e;split at e
  .split at e
   .rename_i ds hl
    have(a,xs,rfl,h1,h2):=DF.aI hd;exact⟨a,xs,rfl,(aX.sq h1),by rw[h2.len]; exact hl,h.run ao A aA aC ρ σ H xs ds av Q s h2 e q⟩
   .cases e
  .cases e
 ok:=λd ρ av e=>by
  unfold fM at e;split at e
  .split at e
   .exact h.ok _ _ _ e
   .cases e
  .cases e
def oh(me:ME)(mg:MG):MS:=λρ=>(me ρ).bind λp=>(p.1.get p.2).bind λu=>match u with
 | .d d=>(mg d p.2).bind λav=>some<|.nx av
 | _=>none
theorem xI{me:ME}{mg:MG}(h:VE K te me)(hg:qI K pn g mg):VS K pn EX (oH te g) (oh me mg):=by
 intro ao A aA aC ρ σ H f D s e k;obtain⟨⟨a,aw⟩,e1,e⟩:=bQ e;have(u,eu,e):=bQ e;refine h ρ σ H a aw _ s.rs e1 λv H1 g1 k1=>?_;have p:=k1.now s.rs g1 eu;dsimp only at e;split at e
 .have(aB,e2,e3):=bQ e
  cases e3;exact hg.run ao A aA aC aw σ H1 v _ aB _ (s.go g1) p e2 λaJ s'=>k aJ H1 s'
 .cases e
def vG(i j:Nat)(ma:MA):MS:=λρ=>(ma ρ).bind λp=>(bC p.2 p.1).bind λus=>match us with
 | [.d x,.d y]=>some<|.nx<|(p.2.set i<|some<|.d x).set j<|some<|.d y
 | _=>none
theorem Fu{ta:TA}{ma:MA}(h:jc K ta ma)(hi:i∉pn:=by decide)(hj:j∉pn:=by decide):VS K pn EX (Eu i j ta) (vG i j ma):=by
 intro ao A aA aC ρ σ H f D s e k;obtain⟨⟨as,aw⟩,e1,e⟩:=bQ e;have(us,eu,e):=bQ e;refine h ρ σ H as aw _ s.rs e1 λvs H1 g1 s1=>?_;have rp:=s1.lY s.rs g1 eu;dsimp only at e;split at e
 .rename_i x y
  cases e;cases rp with
  | @cons v _ vs _ h1 t=>
   cases t with
   | @cons w _ _ _ h2 t=>
    cases t;have sn:=(s.go g1).set hi (u:=.d x) h1 λo=>by cases o
    exact⟨v,w,rfl,k _ _ (sn.set hj (u:=.d y) h2 λo=>by cases o)⟩
 .cases e
def gv(mg:MG)(mb:MS):Qa D->En->Qb Fl
 | [],ρ=>some<|.nx ρ
 | d::ds,ρ=>(mg d ρ).bind λaw=>(mb aw).bind λf=>match f with
  | .nx aB=>gv mg mb ds aB
  | .ct aB=>gv mg mb ds aB
  | .bk aB=>some<|.nx aB
  | .rt u aB=>some<|.rt u aB
  | .ex x aB=>some<|.ex x aB
def cW(mi:MI)(mg:MG)(mb:MS):MS:=λρ=>(mi ρ).bind λp=>gv mg mb p.1 p.2
theorem dI{tb:TS}{mi:MI}{mg:MG}{mb:MS}(hi:VI K wi mi)(hg:qI K pn g mg)(hb:VS K pn EX tb mb):VS K pn EX (Bo wi g tb) (cW mi mg mb):=by
 intro ao A aA aC ρ σ H f D s e k;obtain⟨⟨ds,aw⟩,e1,e⟩:=bQ e;refine hi ρ σ H ds aw _ s.rs e1 λJ H1 g1 run=>?_;have s1:=(s.go g1).at;have pR:Kp aC H1:=(s.go g1).kp;refine⟨λi m aJ H'=>m=ds.length - i/\i<=ds.length/\∃ av,Sn K pn ao A aA H1 av aJ H'/\gv mg mb (ds.drop i) av=some f,⟨ds.length,by simp,Ç _,aw,s1,e⟩,?_⟩;rintro i m aJ H' ⟨rfl,ie,av,s',el⟩
 by_cases eO:i < ds.length
 .rw[List.drop_eq_getElem_cons eO]at el
  have(aB,e2,el):=bQ (show(mg ds[i] av).bind _=some f from el);have(fb,eb,el):=bQ el;have(go,yl):=(run H' s'.kp i).1 ds[i] (qo eO);refine .inr ⟨go,λdu H3=>∃ gM,Sn K pn ao A aA H1 gM du H3/\gv mg mb (ds.drop<|i+1) gM=some f,λdu H3 ⟨gM,s3,e3⟩=>⟨ds.length - (i+1),by omega,rfl,eO,gM,s3,e3⟩,λx H2 y=>?_⟩;have(sm,dx):=yl x H2 y;have s2:=s'.go (Go.grow s'.rs sm);refine hg.run ao A aA H1 av aJ H2 x ds[i] aB _ s2 dx e2 λdu s3=>?_;refine hb ao A aA H1 aB du H2 fb _ s3 eb ?_;cases fb with
  | nx cz=>exact λfq H4 s4=>⟨cz,s4,el⟩
  | ct cz=>exact λfq H4 s4=>⟨cz,s4,el⟩
  | bk cz=>cases el; exact λfq H4 s4=>k fq H4<|s4.re pR
  | rt u cz=>cases el; exact λv fq H4 s4 p n=>k v fq H4 (s4.re pR) p n
  | ex x cz=>cases el; exact λa fq H4 s4 p n=>k a fq H4 (s4.re pR) p n
 .have ei:i=ds.length:=by omega
  subst ei;rw[List.drop_length]at el;cases el;exact .inl ⟨(run H' s'.kp _).2 rfl,k aJ H'<|s'.re pR⟩
def hE(mt:MT)(mb:MS):Nat->En->Qb Fl
 | 0,_=>none
 | n+1,ρ=>(mt ρ).bind λp=>if p.1=true then(mb p.2).bind λf=>match f with
  | .nx aB=>hE mt mb n aB
  | .ct aB=>hE mt mb n aB
  | .bk aB=>some<|.nx aB
  | .rt u aB=>some<|.rt u aB
  | .ex x aB=>some (.ex x aB)else some (.nx p.2)
open Classical in
def t8(mt:MT)(mb:MS):MS:=λρ=>if h:∃ n,(hE mt mb n ρ).isSome=true then hE mt mb h.choose ρ else none
theorem MQ{tb:TS}{mt:MT}{mb:MS}(ht:VT K tt mt)(hb:VS K pn EX tb mb):VS K pn EX (Gc tt tb) (t8 mt mb):=by
 intro ao A aA aC ρ σ H f D s e k;unfold t8 at e;split at e
 .rename_i hn
  generalize hn.choose=n at e;refine⟨λm aJ H'=>∃ av,Sn K pn ao A aA aC av aJ H'/\hE mt mb m av=some f,⟨n,ρ,s,e⟩,?_⟩;rintro m aJ H' ⟨av,s',el⟩;cases m with
  | zero=>cases el
  | succ m=>
   obtain⟨⟨b,aw⟩,e1,el⟩:=bQ (show(mt av).bind _=some f from el);refine ht av aJ H' b aw _ s'.rs e1 λH1 g1=>?_;dsimp only at el;split at el
   .rename_i hc
    rw[if_pos hc];have(fb,eb,el):=bQ el;refine⟨λft H2=>∃ aB,Sn K pn ao A aA aC aB ft H2/\hE mt mb m aB=some f,λft H2 ⟨aB,s2,e2⟩=>⟨m,Ý m,aB,s2,e2⟩,?_⟩;refine hb ao A aA aC aw aJ H1 fb _ (s'.go g1) eb ?_;cases fb with
    | nx cz=>exact λfq H4 s4=>⟨cz,s4,el⟩
    | ct cz=>exact λfq H4 s4=>⟨cz,s4,el⟩
    | bk cz=>cases el; exact λfq H4 s4=>k fq H4 s4
    | rt u cz=>cases el; exact λv fq H4 s4 p n=>k v fq H4 s4 p n
    | ex x cz=>cases el; exact λa fq H4 s4 p n=>k a fq H4 s4 p n
   .rename_i hc
    rw[if_neg hc];cases el;exact k aJ H1<|s'.go g1
 .cases e
theorem CW{mt:MT}{mb:MS}:∀ {n:Nat} {ρ:En} {f:Fl},hE mt mb n ρ=some f->∀ k,hE mt mb (n+k) ρ=some f
 | 0,_,_,e,_=>by cases e
 | n+1,ρ,f,e,k=>by
  rw[show n+1+k=(n+k)+1 by omega];obtain⟨⟨b,aw⟩,e1,e⟩:=bQ (show(mt ρ).bind _=some f from e);show(mt ρ).bind _=some f;rw[e1];show(if b=true then _ else _)=_;dsimp only at e;split at e
  .rename_i hc
   rw[if_pos hc];have(fb,eb,e):=bQ e;rw[eb];cases fb with
   | nx aB=>exact CW (n:=n) e k
   | ct aB=>exact CW (n:=n) e k
   | bk aB=>exact e
   | rt u aB=>exact e
   | ex x aB=>exact e
  .rename_i hc
   rw[if_neg hc];exact e
theorem ZI{mt:MT}{mb:MS}{ρ:En}{f:Fl}(e:hE mt mb n ρ=some f):t8 mt mb ρ=some f:=by
 have h:∃ n,(hE mt mb n ρ).isSome=true:=⟨n,by rw[e]; rfl⟩;unfold t8;rw[dif_pos h];have(f',SW):=Option.isSome_iff_exists.mp h.choose_spec;rw[SW];have a:=CW e h.choose;have b:=CW SW n;rw[Nat.add_comm,b]at a;exact a
end
section
variable{A:Qg->Prop}{mN:Hp}{ρ av:En}
def eR(nt:Nat)(js:Qa Nat)(ρ:En):En:=List.replicate nt none++js.map λj=>ρ.getD j none
def reset(nt:Nat)(ρ:En):En:=List.replicate nt none++ρ.drop nt
def back:Qa Nat->Qa (Qb U)->En->En
 | j::js,some u::us,ρ=>back js us<|ρ.set j<|some u
 | _::js,none::us,ρ=>back js us ρ
 | _,_,ρ=>ρ
def iX(nt:Nat)(mg:MG)(mt:MT)(me:ME):Qa D->En->Qa D->Qb (Qa D×En)
 | [],ρ,ys=>some (ys,ρ)
 | d::ds,ρ,ys=>if ys.length < sizeLine then(mg d ρ).bind λaw=>(mt aw).bind λb=>if b.1=true then(me b.2).bind λp=>(p.1.get p.2).bind λu=>(match u with
   | .d y=>iX nt mg mt me ds (reset nt p.2)<|ys++[y]
   | _=>none)else iX nt mg mt me ds (reset nt b.2) ys else none
def kS(mi:MI)(nt:Nat)(js:Qa Nat)(mg:MG)(mt:MT)(me:ME):ME:=λρ=>(mi ρ).bind λp=>(iX nt mg mt me p.1 (eR nt js p.2) []).bind λq=>some (.u<|.l q.1,back js (q.2.drop nt) p.2)
def zev(nt n:Nat):Qa Nat:=(List.range n).map (nt+·)
theorem rL:i∈zev nt n↔nt<=i/\i < nt+n:=by
 unfold zev;rw[List.mem_map];constructor
 .rintro⟨a,ha,rfl⟩
  have:=Í.mp ha;omega
 .intro h
  exact⟨i - nt,Í.mpr (by omega),by omega⟩
theorem vY{u:U}(h:(eR nt js ρ)[i]?=some (some u)):∃ p j,i=nt+p/\js[p]?=some j/\ρ[j]?=some (some u):=by
 unfold eR at h
 by_cases hi:i < nt
 .rw[List.getElem?_append_left (by simpa using hi),List.getElem?_replicate,if_pos hi]at h
  cases h
 .rw[List.getElem?_append_right (by simp; omega),List.length_replicate,List.getElem?_map]at h
  have(j,ej,e):=qv.mp h;refine⟨i - nt,j,by omega,ej,?_⟩;rw[qE]at e;cases q:ρ[j]? with
  | none=>rw[q]at e; cases e
  | some o=>rw[q]at e; exact congrArg some e
theorem Ft{p:Nat}(h:js[p]?=some j):(c0 nt js σ)[nt+p]?=some (σ.getD j none):=by
 unfold c0;rw[List.getElem?_append_right (by simp),List.length_replicate,Nat.add_sub_cancel_left,List.getElem?_map,h];rfl
theorem FH:(c0 nt js σ).length=nt+js.length:=by unfold c0; simp
theorem Ge:(eR nt js ρ).length=nt+js.length:=by unfold eR; simp
def kI(ρ:En)(σ:St)(js:Qa Nat)(a:Qg):Prop:=∃ (p j:Nat) (u:U),js[p]?=some j/\ρ[j]?=some (some u)/\u.own=true/\σ[j]?=some (some<|.ref a)
theorem MP(r:Rs K ρ σ H)(nd:js.Nodup):Sn K (zev nt js.length) (c0 nt js σ) (kI ρ σ js) H H (eR nt js ρ) (c0 nt js σ) H:=by
 have sat:∀ {p j:Nat} {v:V},js[p]?=some j->σ[j]?=some (some v)->(c0 nt js σ)[nt+p]?=some (some v):=λ{p j v} hp hv=>by
  rw[Ft hp,qE,hv];rfl
 refine⟨⟨by rw[Ge,FH],λi u e=>?_,λi k u w ei ek ou ow es=>?_⟩,λ_ _ h _=>h,λi u a e o es=>?_,λ_ _=>rfl,λ_ h=>h,Kp.refl H⟩
 .have(p,j,rfl,hj,hr):=vY e
  have(v,ev,q):=r.rep j u hr;exact⟨v,sat hj ev,q⟩
 .have(p,j,rfl,hj,hr):=vY ei
  have(p',j',rfl,Ap,D1):=vY ek;have(v,ev,_):=r.rep j u hr;have(v',vi,_):=r.rep j' w D1;rw[sat hj ev,sat Ap vi]at es;have:j=j':=r.apart j j' u w hr D1 ou ow (by rw[ev,vi]; exact es);subst this;have l1:=(qm.mp hj);have l2:=(qm.mp Ap);have(h1,e1):=l1;have(h2,e2):=l2;have:=(List.getElem_inj nd).mp (e1.trans e2.symm);omega
 .have(p,j,rfl,hj,hr):=vY e
  have(v,ev,_):=r.rep j u hr;rw[sat hj ev]at es;cases es;exact .inl ⟨rL.mpr ⟨by omega,by have:=(qm.mp hj).1; omega⟩,p,j,u,hj,hr,o,ev⟩
theorem Sn.reset{jO:St}{aB:En}{ft:St}(s:Sn K (zev nt n) jO A aA aC aB ft H)(l1:aB.length=nt+n)(l2:jO.length=nt+n):Sn K (zev nt n) jO A aA aC (L2.reset nt aB) jO H:=by
 have bk:∀ (i:Nat) (u:U),(L2.reset nt aB)[i]?=some (some u)->nt<=i/\i < nt+n/\aB[i]?=some (some u):=λi u e=>by
  unfold L2.reset at e
  by_cases hi:i < nt
  .rw[List.getElem?_append_left (by simpa using hi),List.getElem?_replicate,if_pos hi]at e
   cases e
  .rw[List.getElem?_append_right (by simp; omega),List.length_replicate,List.getElem?_drop,show nt+(i - nt)=i by omega]at e
   have:=(qm.mp e).1;exact⟨by omega,by omega,e⟩
 have pin:∀ i,nt<=i->i < nt+n->jO[i]?=ft[i]?:=λi h1 h2=>(s.pin i<|rL.mpr ⟨h1,h2⟩).symm;have ll:(L2.reset nt aB).length=nt+n:=by unfold L2.reset; simp; omega
 refine⟨⟨by omega,λi u e=>?_,λi j u w ei ej ou ow es=>?_⟩,s.fr,λi u a e o es=>?_,λ_ _=>rfl,s.dm,s.kp⟩
 .have(h1,h2,e'):=bk i u e
  rw[pin i h1 h2];exact s.rs.rep i u e'
 .have(h1,h2,sT):=bk i u ei
  have(h3,h4,mG):=bk j w ej;rw[pin i h1 h2,pin j h3 h4]at es;exact s.rs.apart i j u w sT mG ou ow es
 .have(h1,h2,e'):=bk i u e
  rw[pin i h1 h2]at es;exact s.ow i u a e' o es
theorem B6:∀ {js:Qa Nat} {us:Qa (Qb U)} {ρ:En} {j:Nat} {w:U},(back js us ρ)[j]?=some (some w)->(∃ p:Nat,js[p]?=some j/\us[p]?=some (some w))\/(ρ[j]?=some (some w)/\∀ p:Nat,js[p]?=some j->∀ x,us[p]?≠some (some x))
 | [],us,ρ,j,w,e=>.inr ⟨by cases us<;>exact e,λp z=>by simp at z⟩
 | k::js,[],ρ,j,w,e=>.inr ⟨e,λp z x=>by simp⟩
 | k::js,none::us,ρ,j,w,e=>by
  rcases B6 (js:=js) (us:=us) (ρ:=ρ) (show(back js us ρ)[j]?=some (some w) from e)with⟨p,h1,h2⟩|⟨h1,h2⟩
  .exact .inl ⟨p+1,h1,h2⟩
  .refine .inr ⟨h1,λp z x=>?_⟩
   cases p with
   | zero=>intro q; cases q
   | succ p=>exact h2 p z x
 | k::js,some u::us,ρ,j,w,e=>by
  rcases B6 (js:=js) (us:=us) (ρ:=ρ.set k (some u)) (show(back js us<|ρ.set k<|some u)[j]?=some (some w) from e)with⟨p,h1,h2⟩|⟨h1,h2⟩
  .exact .inl ⟨p+1,h1,h2⟩
  .by_cases hk:k=j
   .subst hk
    have hl:k < (ρ.set k<|some u).length:=(qm.mp h1).1;rw[List.length_set]at hl;rw[List.getElem?_set_self hl]at h1;exact .inl ⟨0,rfl,by cases h1; rfl⟩
   .rw[qF hk]at h1
    refine .inr ⟨h1,λp z x=>?_⟩;cases p with
    | zero=>cases(show some k=some j from z); exact absurd rfl hk
    | succ p=>exact h2 p z x
theorem Cv:∀ (js:Qa Nat) (us:Qa (Qb U)) (ρ:En),(back js us ρ).length=ρ.length
 | [],us,ρ=>by cases us<;>rfl
 | _::js,[],ρ=>rfl
 | _::js,none::us,ρ=>Cv js us ρ
 | j::js,some u::us,ρ=>by show(back js us<|ρ.set j<|some u).length=_; rw[Cv]; exact List.length_set
theorem CM:∀ {js:Qa Nat} {us:Qa (Qb U)} {ρ:En} {j:Nat} {w:U},ρ[j]?=some (some w)->∃ w',(back js us ρ)[j]?=some (some w')
 | [],us,ρ,j,w,e=>⟨w,by cases us<;>exact e⟩
 | _::js,[],ρ,j,w,e=>⟨w,e⟩
 | _::js,none::us,ρ,j,w,e=>CM (js:=js) (us:=us) e
 | k::js,some u::us,ρ,j,w,e=>by
  by_cases hk:k=j
  .subst hk
   exact CM (js:=js) (us:=us) (w:=u)<|ö (qm.mp e).1
  .exact CM (js:=js) (us:=us) (w:=w) (by rw[qF hk]; exact e)
theorem Sn.comp_back{aB:En}(r:Rs K ρ σ H)(s:Sn K (zev nt js.length) (c0 nt js σ) (kI ρ σ js) H aC aB (c0 nt js σ) H')(l:aB.length=nt+js.length)(sh:fj (eR nt js ρ) aB):
  Go K ρ σ H (back js (aB.drop nt) ρ) H':=by
 have yE:∀ (p:Nat) (w:U),(aB.drop nt)[p]?=some (some w)->aB[nt+p]?=some (some w):=λp w e=>by rw[List.getElem?_drop]at e; exact e
 have kp:Kp H H':=by
  refine⟨λb xs h=>s.fr b _ h λ⟨p,j,u,hj,hr,ou,es⟩=>?_,λb ob u h=>s.fr b _ h λ⟨p,j,u,hj,hr,ou,es⟩=>?_⟩
  .have(c,q,m):=r.ow ⟨j,u,hr,ou,es⟩
   rw[h]at q; cases q; exact m
  .have(c,q,m):=r.ow ⟨j,u,hr,ou,es⟩
   rw[h]at q; cases q; exact m
 have IP:∀ (p j:Nat) (w:U),js[p]?=some j->(aB.drop nt)[p]?=some (some w)->w.own=true->∃ x,ρ[j]?=some (some x)/\x.own=true:=λp j w hj e o=>by
  have(x,ex,ox):=sh.own (nt+p) w (yE p w e) o;have(p',j',ep,Ap,hr):=vY ex;have:p'=p:=by omega
  subst this;rw[hj]at Ap;cases Ap;exact⟨x,hr,ox⟩
 have own:∀ (j:Nat) (w:U),(back js (aB.drop nt) ρ)[j]?=some (some w)->w.own=true->∃ x,ρ[j]?=some (some x)/\x.own=true:=λj w e o=>by
  rcases B6 e with⟨p,hj,hu⟩|⟨h1,_⟩
  .exact IP p j w hj hu o
  .exact⟨w,h1,o⟩
 refine⟨⟨by rw[Cv]; exact r.len,λj w e=>?_,λi j u w ei ej ou ow es=>?_⟩,λa o h n=>s.fr a o h λ⟨p,j,u,hj,hr,ou,es⟩=>n ⟨j,u,hr,ou,es⟩,⟨Cv _ _ _,own,λj w e=>CM e⟩,s.dm⟩
 .rcases B6 e with⟨p,hj,hu⟩|⟨h1,h2⟩
  .have(v,ev,q):=s.rs.rep (nt+p) w (yE p w hu)
   rw[Ft hj]at ev;refine⟨v,?_,q⟩;rw[qE]at ev;cases z:σ[j]? with
   | none=>rw[z]at ev; cases ev
   | some o=>rw[z]at ev; exact congrArg some<|qB ev
  .have(v,ev,q):=r.rep j w h1
   refine⟨v,ev,q.kp kp λow a c ea hc=>s.fr a c hc λ⟨p,j',u,hj,hr,ou,es⟩=>?_⟩;subst ea;have:j'=j:=r.apart j' j u w hr h1 ou ow (by rw[es,ev]);subst this;have e1:(eR nt js ρ)[nt+p]?=some (some u):=by
    unfold eR;rw[List.getElem?_append_right (by simp),List.length_replicate,Nat.add_sub_cancel_left,List.getElem?_map,hj];show some (ρ.getD j' none)=_;rw[qE,hr];rfl
   have(w',ff):=sh.live _ _ e1;exact h2 p hj w' (by rw[List.getElem?_drop]; exact ff)
 .have(x,ex,ox):=own i u ei ou
  have(y,ey,oy):=own j w ej ow;exact r.apart i j x y ex ey ox oy es
theorem fj.lZ{fP aw:En}(l:fP.length=nt+n)(h0:∀ i,i < nt->fP[i]?=some none)(l1:aw.length=nt+n)(own:∀ (i:Nat) (u:U),nt<=i->aw[i]?=some (some u)->u.own=true->∃ w,fP[i]?=some (some w)/\w.own=true)(live:∀ (i:Nat) (u:U),nt<=i->fP[i]?=some (some u)->∃ w,aw[i]?=some (some w)):fj fP (L2.reset nt aw):=by
 have at':∀ i,nt<=i->(L2.reset nt aw)[i]?=aw[i]?:=λi hi=>by
  unfold L2.reset;rw[List.getElem?_append_right (by simp; omega),List.length_replicate,List.getElem?_drop,show nt+(i - nt)=i by omega]
 have lo:∀ i,i < nt->(L2.reset nt aw)[i]?=some none:=λi hi=>by
  unfold L2.reset;rw[List.getElem?_append_left (by simpa using hi),List.getElem?_replicate,if_pos hi]
 refine⟨by unfold L2.reset; simp; omega,λi u e o=>?_,λi u e=>?_⟩
 .by_cases hi:i < nt
  .rw[lo i hi]at e; cases e
  .rw[at' i (by omega)]at e
   exact own i u (by omega) e o
 .by_cases hi:i < nt
  .rw[h0 i hi]at e; cases e
  .rw[at' i (by omega)]
   exact live i u (by omega) e
theorem Ct{aw:En}(h:i < nt):(L2.reset nt aw)[i]?=some none:=by
 unfold L2.reset;rw[List.getElem?_append_left (by simpa using h),List.getElem?_replicate,if_pos h]
theorem LQ(h:i < nt):(eR nt js ρ)[i]?=some none:=by
 unfold eR;rw[List.getElem?_append_left (by simpa using h),List.getElem?_replicate,if_pos h]
def TQ(K:qe)(js:Qa Nat)(wi:TI)(mi:MI):Prop :=
 ∀ (ρ:En) (σ:St) (H:Hp) (ds:Qa D) (av:En) (R:It->Hp->Prop),Rs K ρ σ H->mi ρ=some (ds,av)->(∀ J H',Go K ρ σ H av H'->(∀ H2,Kp H' H2->AR (kI av σ js) H' H2->∀ i:Nat,(∀ d,ds[i]?=some d->J.go i H2/\∀ x H3,J.wJ i H2 x H3->cN H2 H3/\DF K H3 x d)/\(i=ds.length->J.stop i H2))->R J H')->wi σ H R
theorem Kw{mi:MI}{mg:MG}{mt:MT}{me:ME}(hi:TQ K js wi mi)(hg:qI K (zev nt js.length) g mg)(ht:VT K tt mt)(he:VE K te me)(nd:js.Nodup:=by decide):
  VE K (yM wi nt js g tt te) (kS mi nt js mg mt me):=by
 intro ρ σ H a av Q r e q;obtain⟨⟨ds,aw⟩,e1,e⟩:=bQ e;obtain⟨⟨zs,sZ⟩,e2,e⟩:=bQ e;cases e;refine hi ρ σ H ds aw _ r e1 λJ H1 g1 run=>?_;have s1:=MP (nt:=nt) (js:=js) g1.rs nd;refine⟨λi m ys H'=>m=ds.length - i/\i<=ds.length/\∃ fP yd,Sn K (zev nt js.length) (c0 nt js σ) (kI aw σ js) H1 H1 fP (c0 nt js σ) H'/\fj (eR nt js aw) fP/\(∀ k,k < nt->fP[k]?=some none)/\aR K H' ys yd/\iX nt mg mt me (ds.drop i) fP yd=some (zs,sZ),
  ⟨ds.length,by simp,Ç _,_,[],s1,fj.refl _,λk hk=>LQ hk,.nil,e2⟩,?_⟩
 rintro i m ys H' ⟨rfl,ie,fP,yd,s',sh,lo,dy,el⟩;have lc:fP.length=nt+js.length:=by rw[sh.len,Ge]
 by_cases eO:i < ds.length
 .rw[List.drop_eq_getElem_cons eO]at el
  unfold iX at el;split at el
  .rename_i hz
   have(aB,e3,el):=bQ el;obtain⟨⟨b,gM⟩,e4,el⟩:=bQ el;have(l2,p2):=hg.ok _ _ _ e3;have(go,yl):=(run H' s'.kp s'.fr i).1 ds[i] (qo eO);refine .inr ⟨go,by rw[dy.len]; exact hz,λpF H2=>∃ d5 DH,Sn K (zev nt js.length) (c0 nt js σ) (kI aw σ js) H1 H1 d5 (c0 nt js σ) H2/\fj (eR nt js aw) d5/\(∀ k,k < nt->d5[k]?=some none)/\aR K H2 pF DH/\iX nt mg mt me (ds.drop<|i+1) d5 DH=some (zs,sZ),
    λpF H2 ⟨d5,DH,z⟩=>⟨ds.length - (i+1),by omega,rfl,eO,d5,DH,z⟩,λx H2 y=>?_⟩
   have(sm,dx):=yl x H2 y;have s2:=s'.go (Go.grow s'.rs sm);refine hg.run _ _ _ _ fP _ H2 x ds[i] aB _ s2 dx e3 λdu s3=>?_;have toEnd:∀ {cz:En} {H4:Hp},Go K aB du H2 cz H4->Sn K (zev nt js.length) (c0 nt js σ) (kI aw σ js) H1 H1 (L2.reset nt cz) (c0 nt js σ) H4/\fj (eR nt js aw) (L2.reset nt cz):=λ{cz H4} g4=>by
    have l4:cz.length=nt+js.length:=by rw[g4.shr.len,l2,lc]
    refine⟨(s3.go g4).reset l4 FH,sh.trans<|fj.lZ lc lo l4 (λk u hk ek ou=>?_) λk u hk ek=>?_⟩
    .have(w,ew,ow):=g4.shr.own k u ek ou
     have lk:k < nt+js.length:=by rw[<-l2.trans lc]; exact(qm.mp ew).1
     rw[p2 k<|rL.mpr ⟨hk,lk⟩]at ew;exact⟨w,ew,ow⟩
    .have lk:k < nt+js.length:=by rw[<-lc]; exact(qm.mp ek).1
     rw[<-p2 k (rL.mpr ⟨hk,lk⟩)]at ek;exact g4.shr.live k u ek
   refine ht aB du H2 b gM _ s3.rs e4 λH3 g3=>?_;dsimp only at el;split at el
   .rename_i hb
    rw[if_pos hb];obtain⟨⟨a4,cz⟩,e5,el⟩:=bQ el;have(u,e6,el):=bQ el;refine he gM du H3 a4 cz _ g3.rs e5 λv H4 g4 k4=>?_;have pv:=k4.now g3.rs g4 e6;dsimp only at el;split at el
    .rename_i yv
     have(sn,sr):=toEnd (g3.trans g4);exact⟨_,_,sn,sr,λk hk=>Ct hk,((dy.kp sm.kp).kp<|(g3.trans g4).kp s3.rs).snoc pv,el⟩
    .cases el
   .rename_i hb
    rw[if_neg hb];have(sn,sr):=toEnd g3;exact⟨_,_,sn,sr,λk hk=>Ct hk,(dy.kp sm.kp).kp<|g3.kp s3.rs,el⟩
  .cases el
 .have ei:i=ds.length:=by omega
  subst ei;rw[List.drop_length]at el;cases el;refine .inl ⟨(run H' s'.kp s'.fr _).2 rfl,λDa hD=>?_⟩;have gb:=Sn.comp_back g1.rs s' lc sh;have sm:=zZ hD (.lst ys);exact q _ _ ((g1.trans gb).trans<|Go.grow gb.rs sm) ⟨⟨Da,ys,rfl,zy,dy.kp sm.kp⟩,λ_=>⟨Da,rfl,(g1.trans gb).dm _ hD⟩⟩
theorem tz{mi:MI}{mg:MG}{mt:MT}{me:ME}(hi:VI K wi mi)(hg:qI K (zev nt js.length) g mg)(ht:VT K tt mt)(he:VE K te me)(nd:js.Nodup:=by decide):
  VE K (yM wi nt js g tt te) (kS mi nt js mg mt me):=Kw (λρ σ H ds av R r e q=>hi ρ σ H ds av R r e λJ H' g run=>q J H' g λH2 k _=>run H2 k) hg ht he nd
end
section
variable{EX:jf}{A:Qg->Prop}{mN:Hp}{ρ av:En}
def g9(pn:Qa Nat)(ρ:En):Nat->Qa U->Qb (Qa U)
 | _,[]=>some []
 | i,u::us=>(if i∈pn then(ρ[i]?).join.bind λo=>if o.own=true/\u.own=false then none else some o else if u.own=true then none else some u).bind λo=>(g9 pn ρ (i+1) us).bind λos=>some<|o::os
def bE(n:Nat)(pn:Qa Nat)(m:MS):FD:=λus=>(m<|sm us++List.replicate (n - us.length) none).bind λf=>match f with
 | .rt u ρ=>(g9 pn ρ 0 us).bind λos=>some (u,os)
 | .nx ρ=>(g9 pn ρ 0 us).bind λos=>some (.d .none,os)
 | _=>none
theorem NZ:∀ {us os:Qa U} {i:Nat},g9 pn ρ i us=some os->os.length=us.length
 | [],os,i,e=>by cases e; rfl
 | u::us,os,i,e=>by
  have(o,e1,e):=bQ e;have(r9,e2,e):=bQ e;cases e;simp[NZ e2]
theorem yc:∀ {us os:Qa U} {i p:Nat} {o:U},g9 pn ρ i us=some os->os[p]?=some o->∃ u,us[p]?=some u/\((i+p∈pn/\ρ[i+p]?=some (some o)/\(o.own=true->u.own=true))\/(i+p∉pn/\o=u/\u.own=false))
 | [],os,i,p,o,e,ep=>by cases e; simp at ep
 | u::us,os,i,p,o,e,ep=>by
  have(o1,e1,e):=bQ e;have(r9,e2,e):=bQ e;cases e;cases p with
  | zero=>
   cases(show some o1=some o from ep);refine⟨u,rfl,?_⟩;rw[Nat.add_zero];split at e1
   .rename_i hi
    have(o2,e3,e1):=bQ e1;split at e1
    .cases e1
    .rename_i hc
     cases e1;refine .inl ⟨hi,?_,λoo=>?_⟩
     .cases q:ρ[i]? with
      | none=>rw[q]at e3; cases e3
      | some x=>rw[q]at e3; cases x with
       | none=>cases e3
       | some y=>cases e3; rfl
     .cases hu:u.own with
      | true=>rfl
      | false=>exact absurd ⟨oo,hu⟩ hc
   .rename_i hi
    split at e1
    .cases e1
    .rename_i hc
     cases e1;exact .inr ⟨hi,rfl,by simpa using hc⟩
  | succ p=>
   have(u',eu,h):=yc (i:=i+1) (p:=p) e2 ep;refine⟨u',eu,?_⟩;rw[show i+(p+1)=i+1+p by omega];exact h
theorem NY:∀ {us os:Qa U} {i p:Nat} {u:U},g9 pn ρ i us=some os->us[p]?=some u->u.own=true->i+p∈pn
 | [],os,i,p,u,e,ep,_=>by simp at ep
 | u::us,os,i,p,u',e,ep,o=>by
  have(o1,e1,e):=bQ e;have(r9,e2,e):=bQ e;cases p with
  | zero=>
   cases(show some u=some u' from ep);rw[Nat.add_zero];split at e1
   .assumption
   .first|cases e1 | (rw[if_pos o]at e1; cases e1)
  | succ p=>
   rw[show i+(p+1)=i+1+p by omega];exact NY (i:=i+1) (p:=p) e2 ep o
theorem yp(h:i < vs.length):(gQ N vs)[i]?=(eN vs)[i]?:=by
 unfold gQ eN;rw[List.getElem?_append_left (by simpa using h)]
theorem ZH{us os:Qa U}{xo:En}(r:Rs K (sm us) (eN vs) H)(hl:us.length<=N.length)(ho:g9 pn xo 0 us=some os):
  Sn K pn (gQ N vs) (Ow (sm us)<|eN vs) H H (sm us++List.replicate (N.length - us.length) none) (gQ N vs) H:=by
 have lv:us.length=vs.length:=by have:=r.len; unfold sm eN at this; simpa using this
 have inv:∀ (i:Nat) (u:U),(sm us++List.replicate (N.length - us.length) none)[i]?=some (some u)->i < us.length/\(sm us)[i]?=some (some u):=λi u e=>by
  by_cases hi:i < us.length
  .rw[List.getElem?_append_left (by unfold sm; simpa using hi)]at e
   exact⟨hi,e⟩
  .rw[List.getElem?_append_right (by unfold sm; simp; omega),List.getElem?_replicate]at e
   split at e<;>cases e
 refine⟨⟨?_,λi u e=>?_,λi j u w ei ej ou ow es=>?_⟩,λ_ _ h _=>h,λi u a e o es=>?_,λ_ _=>rfl,λ_ h=>h,Kp.refl H⟩
 .unfold gQ sm; simp; omega
 .have(hi,e'):=inv i u e
  rw[yp (by omega)];exact r.rep i u e'
 .have(hi,sT):=inv i u ei
  have(hj,mG):=inv j w ej;rw[yp (by omega),yp (by omega)]at es;exact r.apart i j u w sT mG ou ow es
 .have(hi,e'):=inv i u e
  rw[yp (by omega)]at es;have:=NY ho (gx.mp e') o;rw[Nat.zero_add]at this;exact .inl ⟨this,i,u,e',o,es⟩
theorem Lz{us os:Qa U}{aJ:St}(r:Rs K (sm us) (eN vs) H)(s:Sn K pn (gQ N vs) (Ow (sm us)<|eN vs) H H av aJ H')(ho:g9 pn av 0 us=some os):Go K (sm us) (eN vs) H (sm os) H':=by
 have lv:us.length=vs.length:=by have:=r.len; unfold sm eN at this; simpa using this
 have lo:=NZ ho;have xh:∀ {p:Nat} {o:U},os[p]?=some o->p < vs.length:=λ{p o} e=>by have:=(qm.mp e).1; omega
 have pin:∀ {p:Nat} {o:U},os[p]?=some o->p∈pn->aJ[p]?=(eN vs)[p]?:=λ{p o} e hp=>by rw[s.pin p hp,yp<|xh e]
 refine⟨⟨by unfold sm eN; simp; omega,λp o e=>?_,λp q o o' ep eq oo IQ es=>?_⟩,s.fr,⟨by unfold sm; simp; omega,λp o e oo=>?_,λp u e=>?_⟩,s.dm⟩
 .have e':=gx.mp e
  have(u,eu,h):=yc ho e';rw[Nat.zero_add]at h;rcases h with⟨hp,hr,_⟩|⟨_,rfl,ou⟩
  .have(v,ev,q):=s.rs.rep p o hr
   rw[pin e' hp]at ev;exact⟨v,ev,q⟩
  .have(v,ev,q):=r.rep p o (gx.mpr eu)
   exact⟨v,ev,q.kp s.kp λoo=>by rw[ou]at oo; cases oo⟩
 .have eQ:=gx.mp ep
  have Ed:=gx.mp eq;have(u,eu,h):=yc ho eQ;have(u',SU,h'):=yc ho Ed;rw[Nat.zero_add]at h h';rcases h with⟨hp,hr,_⟩|⟨_,rfl,ou⟩
  .rcases h' with⟨hq,D1,_⟩|⟨_,rfl,r8⟩
   .rw[<-pin eQ hp,<-pin Ed hq]at es
    exact s.rs.apart p q o o' hr D1 oo IQ es
   .rw[r8]at IQ; cases IQ
  .rw[ou]at oo; cases oo
 .have e':=gx.mp e
  have(u,eu,h):=yc ho e';rcases h with⟨_,_,h⟩|⟨_,rfl,ou⟩
  .exact⟨u,gx.mpr eu,h oo⟩
  .rw[ou]at oo; cases oo
 .have e':=gx.mp e
  have hp:p < os.length:=by have:=(qm.mp e').1; omega
  exact⟨os[p],gx.mpr<|qo hp⟩
theorem kH.okV{base:Heap}{f:Qg}{k nn:Nat}{m:MS}(F:kH K x qual st f fd)(S:bV N ps (fU st))(D2:ps.length=n)(hN:N.length=nn)(D4:n<=nn)
  (cH:∀ (bT:Qc) (A:Qf) (outer:Qa Env) (s:Qd) (H:Hp) (E:XK),aM k (A.deeper<|envOfC qual (fU st) s.heap.objs.size f bT)->
   ∃ t,Wr (fm (oG jg P w K mg base N qual (fU st) f bT A outer s H E).uI (lL st) t)/\VS K pn T2 t m):cL P w K mg base jg (k+1) f fd ps (rX K n<|bE nn pn m):=by
 refine F.okW S (λvs H Q E h=>?_) λbT A outer s H vs Q E hr h=>?_
 .have(us,r,outs,hl,rs,_):=h
  have:=rs.len;unfold sm eN at this;simp at this;omega
 have(us,r,outs,hl,rs,ef,q):=h;have(t,wt,vt):=cH bT A outer s H E hr;refine⟨t,wt,?_⟩;have(fl,em,ef):=bQ ef;have go:∀ (av:En),g9 pn av 0 us=some outs->Sn K pn (gQ N vs) (Ow (sm us)<|eN vs) H H (sm us++List.replicate (N.length - us.length) none) (gQ N vs) H:=λav ho=>ZH rs (by omega) ho;subst hN;cases fl with
 | nx av=>
  have(os,eo,ef):=bQ (show(g9 pn av 0 us).bind _=_ from ef);cases ef;refine vt _ _ _ _ _ _ _ (.nx av) _ (go av eo) em λaJ H' s'=>?_;exact q _ _ (Lz rs s' eo) .aP Nw.data
 | rt u av=>
  have(os,eo,ef):=bQ (show(g9 pn av 0 us).bind _=_ from ef);cases ef;refine vt _ _ _ _ _ _ _ (.rt r av) _ (go av eo) em λv aJ H' s' p n'=>?_;exact q _ _ (Lz rs s' eo) p n'
 | bk=>cases ef
 | ct=>cases ef
 | ex=>cases ef
end
section
variable{EX:jf}{ρ av:En}
def cB(i:Nat)(me:ME):ME:=λρ=>match ρ[i]? with
 | some (some<|.l _)=>(me ρ).bind λp=>(p.1.get p.2).bind λu=>match u,p.2[i]? with
  | .d x,some (some<|.l xs)=>if xs.length < sizeLine then some (.u<|.d .none,p.2.set i<|some<|.l<|xs++[x])else none
  | _,_=>none
 | _=>none
theorem d0{me:ME}(h:VE K te me):VE K (DL K "list" My (iA i)<|m6 te qN) (cB i me):=by
 intro ρ σ H a av Q r e q;unfold cB at e;split at e
 .rename_i xs0 e0
  obtain⟨⟨b,aw⟩,e1,e⟩:=bQ e;have(u,eu,e):=bQ e;have(v0,kF,p0):=r.rep i _ e0;have(l,us0,rfl,Am,_):=p0;refine⟨_,kF,.inl ⟨rfl,us0,bu.of Am⟩,?_⟩;refine h ρ σ H b aw _ r e1 λv H1 g1 k1=>?_;have pv:=k1.now r g1 eu;dsimp only at e;split at e
  .rename_i x xs ex
   split at e
   .rename_i hz
    cases e;have(w,ew,p1):=g1.rs.rep i _ ex;have(l',us,rfl,hl,ds):=p1;rw[kF]at ew;cases ew;refine⟨l,us,v,rfl,rfl,hl,by rw[ds.len]; exact hz,q _ _ (g1.trans<|Go.own (u':=.l (xs++[x])) g1.rs ex rfl kF ?_) ⟨.aP,Nw.data⟩⟩;have kp:=kN hl trivial (.lst<|us++[v]);exact⟨l,_,rfl,zy,(ds.kp kp).snoc<|DF.kp kp pv⟩
   .cases e
  .cases e
 .cases e
theorem join_some{o:Qb (Qb U)}{u:U}(e:o.join=some u):o=some (some u):=by
 cases o with
 | none=>cases e
 | some x=>cases x with
  | none=>cases e
  | some y=>cases e; rfl
def t7(i:Nat)(me mi:ME):MS:=λρ=>(ρ[i]?).join.bind λ_=>(me ρ).bind λp=>(mi p.2).bind λq=>(p.1.get q.2).bind λu=>(q.1.get q.2).bind λw=>match u,w,q.2[i]? with
 | .d x,.d<|.int k,some (some<|.l xs)=>(d4 xs.length k).bind λj=>some<|.nx<|q.2.set i<|some<|.l<|xs.set j x
 | _,_,_=>none
theorem Gd{ti:TE}{me mi:ME}(h:VE K te me)(hi:VE K ti mi):VS K pn EX (oH te<|Ew (iA i) ti KW) (t7 i me mi):=by
 intro ao A aA aC ρ σ H f D s e k;replace e:=bQ e;have(w0,e0,e):=e;replace e:=bQ e;obtain⟨⟨a,aw⟩,e1,e⟩:=e;replace e:=bQ e;obtain⟨⟨b,aB⟩,e2,e⟩:=e;replace e:=bQ e;have(u,eu,e):=e;replace e:=bQ e;have(w,ew,e):=e;have(v0,kF,_):=s.rs.rep i w0 (join_some e0);refine h ρ σ H a aw _ s.rs e1 λv H1 g1 k1=>⟨v0,kF,?_⟩;refine hi aw σ H1 b aB _ g1.rs e2 λy H2 g2 k2=>?_;have pv:=k1.later s.rs g1 g2 eu;have py:=k2.now g1.rs g2 ew;dsimp only at e;split at e
 .rename_i x n xs ex
  replace e:=bQ e;have(j,ej,e):=e;cases e;have(w',ff,p1):=g2.rs.rep i _ ex;have(l,us,rfl,hl,ds):=p1;rw[kF]at ff;cases ff;refine⟨l,us,n,j,rfl,DF.int_inv py,hl,by rw[ds.len]; exact ej,k _ _<|(s.go<|g1.trans g2).go<|Go.own (u':=.l (xs.set j x)) g2.rs ex rfl kF ?_⟩;have kp:=kN hl trivial (.lst<|us.set j v);exact⟨l,_,rfl,zy,(ds.kp kp).set (DF.kp kp pv) j⟩
 .cases e
def oC:Qa D->Qb (Qa Key)
 | []=>some []
 | .int i::ds=>(oC ds).bind λks=>some<|.inl i::ks
 | .str x::ds=>(oC ds).bind λks=>some<|.inr x::ks
 | _::_=>none
def dh:D->Qb (Qa Key)
 | .tuple ds=>oC ds
 | _=>none
def tw:D->Qb Key
 | .int i=>some<|.inl i
 | .str x=>some<|.inr x
 | _=>none
theorem GG:∀ ks:Qa Key,oC (ks.map Af)=some ks
 | []=>rfl
 | .inl i::ks=>by show(oC<|ks.map Af).bind _=_; rw[GG ks]; rfl
 | .inr x::ks=>by show(oC<|ks.map Af).bind _=_; rw[GG ks]; rfl
theorem CH(ks:Qa Key):dh (kr ks)=some ks:=GG ks
theorem FG:∀ {ds:Qa D} {ks:Qa Key} {xs:Qa V},aR K H xs ds->oC ds=some ks->xs=ks.map kV
 | [],ks,xs,h,e=>by cases e; cases h; rfl
 | d::ds,ks,xs,h,e=>by
  cases h with
  | cons h1 t=>
   cases d with
   | int i=>
    have(Ja,e1,e):=bQ (show(oC ds).bind (λks=>some<|Sum.inl i::ks)=some ks from e);cases e;rw[FG t e1,DF.int_inv h1];rfl
   | str x=>
    have(Ja,e1,e):=bQ (show(oC ds).bind (λks=>some<|Sum.inr x::ks)=some ks from e);cases e;rw[FG t e1,DF.str_inv h1];rfl
   | _=>cases e
theorem uf{d:D}{ks:Qa Key}(h:DF K H v d)(e:dh d=some ks):∃ b,v=.ref b/\aX K H b (ks.map kV):=by
 cases d with
 | tuple ds=>
  have(b,xs,rfl,h1,h2):=DF.aI h;exact⟨b,rfl,by rw[<-FG h2 e]; exact h1⟩
 | _=>cases e
theorem Ly{d:D}{k:Key}(h:DF K H v d)(e:tw d=some k):v=kV k:=by
 cases d with
 | int i=>cases e; exact DF.int_inv h
 | str x=>cases e; exact DF.str_inv h
 | _=>cases e
theorem B5:∀ {ks:Qa Key},aR K H (ks.map kV)<|ks.map Af
 | []=>.nil
 | .inl i::ks=>.cons (.int i) B5
 | .inr x::ks=>.cons (.str x) B5
section
variable[DecidableEq κ]
def tj(kvs:Qa (κ×D))(k:κ):Qb D:=(kvs.find? λkv=>decide<|kv.1=k).map (·.2)
def gO(kvs:Qa (κ×D))(k:κ)(d:D):Qa (κ×D):=if(kvs.any λkv=>decide<|kv.1=k)=true then kvs.map (λkv=>if kv.1=k then(kv.1,d)else kv)else kvs++[(k,d)]
theorem dH.val{kvs:Qa (κ×D)}(h:dH K H ws kvs)(k:κ):(∃ v d,iz ws k=some v/\tj kvs k=some d/\DF K H v d)\/(iz ws k=none/\tj kvs k=none):=by
 induction h with
 | nil=>exact .inr ⟨rfl,rfl⟩
 | @cons p q ps qs hq t ih=>
  unfold iz tj at ih ⊢;rw[List.find?_cons,List.find?_cons]
  by_cases hk:p.1=k
  .have i5:q.1=k:=hq.1▸hk
   rw[decide_eq_true hk,decide_eq_true i5];exact .inl ⟨_,_,rfl,rfl,hq.2⟩
  .have i5:¬q.1=k:=λz=>hk<|hq.1.trans z
   rw[decide_eq_false hk,decide_eq_false i5];exact ih
theorem dH.any{kvs:Qa (κ×D)}(h:dH K H ws kvs)(k:κ):(ws.any λkv=>decide<|kv.1=k)=(kvs.any λkv=>decide<|kv.1=k):=by
 induction h with
 | nil=>rfl
 | @cons p q ps qs hq t ih=>rw[List.any_cons,List.any_cons,ih,hq.1]
theorem dH.l5{kvs:Qa (κ×D)}(h:dH K H ws kvs)(k:κ){d:D}(hd:DF K H v d):dH K H (ws.map λkv=>if kv.1=k then(kv.1,v)else kv) (kvs.map λkv=>if kv.1=k then(kv.1,d)else kv):=by
 induction h with
 | nil=>exact .nil
 | @cons p q ps qs hq t ih=>
  refine .cons ?_ ih;dsimp only
  by_cases hk:p.1=k
  .have i5:q.1=k:=hq.1▸hk
   rw[if_pos hk,if_pos i5];exact⟨hq.1,hd⟩
  .have i5:¬q.1=k:=λz=>hk<|hq.1.trans z
   rw[if_neg hk,if_neg i5];exact hq
theorem dH.put{kvs:Qa (κ×D)}(h:dH K H ws kvs)(k:κ){d:D}(hd:DF K H v d):dH K H (eJ ws k v) (gO kvs k d):=by
 unfold eJ gO;rw[h.any k];split
 .exact h.l5 k hd
 .exact Paired.snoc h ⟨rfl,hd⟩
theorem dH.len{kvs:Qa (κ×D)}(h:dH K H ws kvs):ws.length=kvs.length:=Paired.length h
end
def vP(kvs:Qa (D×D))(k:Qa Key):Qb D:=(kvs.find? λkv=>decide<|dh kv.1=some k).map (·.2)
theorem iq.val{ws:Qa (Qa Key×V)}{kvs:Qa (D×D)}(h:iq K H ws kvs)(k:Qa Key):(∃ v d,iz ws k=some v/\vP kvs k=some d/\DF K H v d)\/(iz ws k=none/\vP kvs k=none):=by
 induction ws generalizing kvs with
 | nil=>cases h; exact .inr ⟨rfl,rfl⟩
 | cons p ws ih=>
  cases h with
  | @cons k' v d _ ds hv t=>
   unfold iz vP at ih ⊢;rw[List.find?_cons,List.find?_cons]
   by_cases hk:k'=k
   .have i5:dh (kr k')=some k:=by rw[CH,hk]
    rw[decide_eq_true hk,decide_eq_true i5];exact .inl ⟨_,_,rfl,rfl,hv⟩
   .have i5:¬dh (kr k')=some k:=by rw[CH]; exact λz=>hk<|qB z
    rw[decide_eq_false hk,decide_eq_false i5];exact ih t
def mV(u y:U):Qb (Qb D):=match u,y with
 | .t kvs,.d y=>(dh y).map λk=>tj kvs k
 | .k kvs,.d y=>(tw y).map λk=>tj kvs k
 | .d (.dict kvs),.d y=>if iV kvs=true then(dh y).map λk=>vP kvs k else none
 | _,_=>none
theorem MN{u y:U}{o:Qb D}{x:V}(hu:Rp K H x u)(hy:Rp K H v y)(e:mV u y=some o):∃ a,x=.ref a/\((∃ w d,o=some d/\tG K H a v (some w)/\DF K H w d)\/(o=none/\tG K H a v none)):=by
 unfold mV at e;split at e
 .rename_i kvs y
  have(k,ek,rfl):=qv.mp e;have(a,ws,rfl,h1,h2):=hu;have(b,rfl,hb):=uf hy ek;refine⟨a,rfl,?_⟩;rcases h2.val k with⟨w,d,e1,e2,p⟩|⟨e1,e2⟩
  .exact .inl ⟨w,d,e2,.inr ⟨ws,k,b,.inl h1,rfl,hb,e1.symm⟩,p⟩
  .exact .inr ⟨e2,.inr ⟨ws,k,b,.inl h1,rfl,hb,e1.symm⟩⟩
 .rename_i kvs y
  have(k,ek,rfl):=qv.mp e;have(a,ws,rfl,h1,h2):=hu;cases Ly hy ek;refine⟨a,rfl,?_⟩;rcases h2.val k with⟨w,d,e1,e2,p⟩|⟨e1,e2⟩
  .exact .inl ⟨w,d,e2,.inl ⟨ws,k,.inl h1,rfl,e1.symm⟩,p⟩
  .exact .inr ⟨e2,.inl ⟨ws,k,.inl h1,rfl,e1.symm⟩⟩
 .rename_i kvs y
  split at e
  rotate_left
  .cases e
  rename_i nx;have(k,ek,rfl):=qv.mp e;have(a,ob,ws,rfl,h1,h2):=DF.cw hu nx;have(b,rfl,hb):=uf hy ek;refine⟨a,rfl,?_⟩;rcases h2.val k with⟨w,d,e1,e2,p⟩|⟨e1,e2⟩
  .exact .inl ⟨w,d,e2,.inr ⟨ws,k,b,.inr ⟨ob,h1⟩,rfl,hb,e1.symm⟩,p⟩
  .exact .inr ⟨e2,.inr ⟨ws,k,b,.inr ⟨ob,h1⟩,rfl,hb,e1.symm⟩⟩
 .cases e
def jk(md my:ME):ME:=λρ=>(md ρ).bind λp=>(my p.2).bind λq=>(p.1.get q.2).bind λu=>(q.1.get q.2).bind λy=>(mV u y).bind λo=>o.bind λd=>some (.u<|.d d,q.2)
theorem oV{md my:ME}(hd:VE K td md)(hy:VE K ty my):VE K (Fq K td ty) (jk md my):=by
 intro ρ σ H a av Q r e q;obtain⟨⟨a1,aw⟩,e1,e⟩:=bQ e;obtain⟨⟨b1,aB⟩,e2,e⟩:=bQ e;have(u,eu,e):=bQ e;have(y,ey,e):=bQ e;have(o,eo,e):=bQ e;have(d,ed,e):=bQ e;cases e;refine hd ρ σ H a1 aw _ r e1 λv1 H1 g1 k1=>hy aw σ H1 b1 _ _ g1.rs e2 λv2 H2 g2 k2=>?_;have(b,rfl,h):=MN (k1.later r g1 g2 eu) (k2.now g1.rs g2 ey) eo;rcases h with⟨w,d',rfl,g,p⟩|⟨rfl,_⟩
 .cases ed
  exact⟨b,w,rfl,g,q w H2 (g1.trans g2) ⟨p,Nw.data⟩⟩
 .cases ed
def kP:ME:=λρ=>some (.u<|.t [],ρ)
theorem pf:VE K FQ kP:=by
 intro ρ σ H a av Q r e q;cases e;intro p hp;have sm:=zZ hp (.dT []);exact q _ _ (Go.grow r sm) ⟨⟨p,[],rfl,zy,.nil⟩,λ_=>⟨p,rfl,hp⟩⟩
def kM(i:Nat)(my mv:ME):MS:=λρ=>(ρ[i]?).join.bind λ_=>(mv ρ).bind λp=>(my p.2).bind λq=>(p.1.get q.2).bind λx=>(q.1.get q.2).bind λy=>match x,y,q.2[i]? with
 | .d x,.d y,some (some<|.t kvs)=>(dh y).bind λk=>if kvs.length < sizeLine then some (.nx<|q.2.set i<|some<|.t<|gO kvs k x)else none
 | .d x,.d y,some (some<|.k kvs)=>(tw y).bind λk=>if kvs.length < sizeLine then some (.nx<|q.2.set i<|some<|.k<|gO kvs k x)else none
 | _,_,_=>none
theorem t6{my mv:ME}(hy:VE K ty my)(hv:VE K tv mv):VS K pn EX (Fp K (iA i) ty tv) (kM i my mv):=by
 intro ao A aA aC ρ σ H f D s e k;replace e:=bQ e;have(w0,e0,e):=e;replace e:=bQ e;obtain⟨⟨a,aw⟩,e1,e⟩:=e;replace e:=bQ e;obtain⟨⟨b,aB⟩,e2,e⟩:=e;replace e:=bQ e;have(u,eu,e):=e;replace e:=bQ e;have(w,ew,e):=e;have(v0,kF,_):=s.rs.rep i w0 (join_some e0);refine hv ρ σ H a aw _ s.rs e1 λv H1 g1 k1=>⟨v0,kF,?_⟩;refine hy aw σ H1 b aB _ g1.rs e2 λy H2 g2 k2=>?_;have pv:=k1.later s.rs g1 g2 eu;have py:=k2.now g1.rs g2 ew;dsimp only at e;split at e
 .rename_i x yd kvs ex
  replace e:=bQ e;have(ks,ek,e):=e;split at e
  .rename_i hz
   cases e;have(w',ff,p1):=g2.rs.rep i _ ex;have(l,us,rfl,hl,ds):=p1;rw[kF]at ff;cases ff;have(kb,rfl,Ao):=uf py ek;refine⟨l,_,rfl,qM.t hl Ao (by rw[ds.len]; exact hz),k _ _<|(s.go<|g1.trans g2).go<|Go.own (u':=.t (gO kvs ks x)) g2.rs ex rfl kF ?_⟩;have kp:=kN hl trivial (.dT<|eJ us ks v);exact⟨l,_,rfl,zy,(ds.kp kp).put ks<|DF.kp kp pv⟩
  .cases e
 .rename_i x yd kvs ex
  replace e:=bQ e;have(ks,ek,e):=e;split at e
  .rename_i hz
   cases e;have(w',ff,p1):=g2.rs.rep i _ ex;have(l,us,rfl,hl,ds):=p1;rw[kF]at ff;cases ff;cases Ly py ek;refine⟨l,_,rfl,qM.k hl (by rw[ds.len]; exact hz),k _ _<|(s.go<|g1.trans g2).go<|Go.own (u':=.k (gO kvs ks x)) g2.rs ex rfl kF ?_⟩;have kp:=kN hl trivial (.dK<|eJ us ks v);exact⟨l,_,rfl,zy,(ds.kp kp).put ks<|DF.kp kp pv⟩
  .cases e
 .cases e
def oS:U->Qb (Qa D)
 | .d (.dict kvs)=>if iV kvs=true then some (kvs.map (·.1))else none
 | _=>none
theorem NX:∀ {ws:Qa (Qa Key×V)} {kvs:Qa (D×D)},iq K H ws kvs->kvs.map (·.1)=ws.map λp=>kr p.1
 | [],_,.nil=>rfl
 | _::_,_,.cons _ t=>by rw[List.map_cons,List.map_cons,NX t]
theorem wm{me:ME}(h:VE K te me):VI K (LM K te) (de oS me):=by
 intro ρ σ H ds av R r e q;obtain⟨⟨a,aw⟩,e1,e⟩:=bQ e;have(u,eu,e):=bQ e;have(xs,ex,e):=bQ e;cases e;refine h ρ σ H a _ _ r e1 λv H1 g1 k1=>?_;have p:=k1.now r g1 eu;unfold oS at ex;split at ex
 .split at ex
  rotate_left
  .cases ex
  rename_i nx;cases ex;have(b,o,ws,rfl,h1,h2):=DF.cw p nx;refine⟨b,ws,rfl,.inr ⟨o,h1,q _ _ g1 λH2 k i=>?_⟩⟩;rw[NX h2];have jG:=k.aZ _ _ _ h1;refine⟨λd ed=>?_,λei=>?_⟩
  .rw[List.getElem?_map]at ed
   obtain⟨⟨ks,w⟩,ew,rfl⟩:=qv.mp ed;refine⟨⟨jG,(qm.mp ew).1⟩,λx H' y=>?_⟩;have(rfl,y):=y;have(kb,rfl,Ao):=y ks w ew;exact⟨λ_ _ z=>z,.tup Ao B5⟩
  .rw[List.length_map]at ei
   exact⟨jG,Ć ei.symm⟩
 .cases ex
end
section
variable{ρ av:En}
abbrev MO:=En->Qb (Qb Int×En)
def Bg(K:qe)(t:TO)(m:MO):Prop :=
 ∀ (ρ:En) (σ:St) (H:Hp) (o:Qb Int) (av:En) (Q:Qb Int->Hp->Prop),Rs K ρ σ H->m ρ=some (o,av)->(∀ H',Go K ρ σ H av H'->Q o H')->t σ H Q
def wk:MO:=λρ=>some (none,ρ)
def qZ(me:ME):MO:=λρ=>(me ρ).bind λp=>(p.1.get p.2).bind λu=>match u with | .d (.int i)=>some (some i,p.2) | _=>none
theorem GF:Bg K GI wk:=λρ σ H o av Q r e q=>by cases e; exact q H<|Go.refl r
theorem ym{me:ME}(h:VE K te me):Bg K (E6 te) (qZ me):=by
 intro ρ σ H o av Q r e q;replace e:=bQ e;obtain⟨⟨a,aw⟩,e1,e⟩:=e;replace e:=bQ e;have(u,eu,e):=e;refine h ρ σ H a aw _ r e1 λv H1 g1 k1=>?_;have p:=k1.now r g1 eu;dsimp only at e;split at e
 .rename_i i
  cases e;exact⟨i,DF.int_inv p,q _ g1⟩
 .cases e
def iJ(xs:Qa D)(lo hi:Qb Int):Qa D:=(xs.drop<|HT.aV xs.length 0 lo).take (HT.aV xs.length xs.length hi - HT.aV xs.length 0 lo)
theorem aR.cut{ds:Qa D}(h:aR K H xs ds)(lo hi:Qb Int):aR K H (kK xs lo hi) (iJ ds lo hi):=by
 unfold kK iJ;rw[h.len];exact(h.drop _).take _
def JZ(K:qe)(r:V->Qb Int->Qb Int->Hp->VK->Prop)(f:U->Qb Int->Qb Int->Qb U):Prop :=
 ∀ (x:V) (a u:U) (lo hi:Qb Int) (H:Hp) (Q:VK),Rp K H x a->f a lo hi=some u->(∀ v H',cN H H'->Rp K H' v u->Nw H v u->Q v H')->r x lo hi H Q
def uL(f:U->Qb Int->Qb Int->Qb U)(me:ME)(ml mh:MO):ME:=λρ=>(me ρ).bind λp=>(ml p.2).bind λl=>(mh l.2).bind λh=>(p.1.get h.2).bind λx=>(f x l.1 h.1).bind λu=>some (.u u,h.2)
theorem Bf{r:V->Qb Int->Qb Int->Hp->VK->Prop}{f:U->Qb Int->Qb Int->Qb U}{tl th:TO}{me:ME}{ml mh:MO}(hs:JZ K r f)(he:VE K te me)(hl:Bg K tl ml)(hh:Bg K th mh):VE K (Iw r te tl th) (uL f me ml mh):=by
 intro ρ σ H a av Q rs e q;obtain⟨⟨a1,aw⟩,e1,e⟩:=bQ e;obtain⟨⟨lo,aB⟩,e2,e⟩:=bQ e;obtain⟨⟨hi,gM⟩,e3,e⟩:=bQ e;have(x,ex,e):=bQ e;have(u,eu,e):=bQ e;cases e;refine he ρ σ H a1 aw _ rs e1 λv1 H1 g1 k1=>hl aw σ H1 lo aB _ g1.rs e2 λH2 g2=>hh aB σ H2 hi _ _ g2.rs e3 λH3 g3=>?_;refine hs _ x u lo hi H3 _ (k1.later rs g1 (g2.trans g3) ex) eu λv H4 s p n=>?_;have g:=g1.trans (g2.trans g3);exact q v H4 (g.trans<|Go.grow g.rs s) ⟨p,n.mono g.dm⟩
def vF(u:U)(lo hi:Qb Int):Qb U:=match u with
 | .l xs=>some<|.l<|iJ xs lo hi
 | .d (.list xs)=>some<|.l<|iJ xs lo hi
 | _=>none
theorem GD:JZ K (Ib K) vF:=by
 intro x a u lo hi H Q p e q;unfold vF at e;split at e
 .cases e
  have(b,us,rfl,h1,h2):=p;refine⟨b,us,rfl,bu.of h1,λl hl=>?_⟩;have sm:=zZ hl (.lst<|kK us lo hi);exact q _ _ sm ⟨l,_,rfl,zy,(h2.cut lo hi).kp sm.kp⟩ λ_=>⟨l,rfl,hl⟩
 .cases e
  have(b,us,rfl,h1,h2):=DF.lst_inv p;refine⟨b,us,rfl,h1.sq,λl hl=>?_⟩;have sm:=zZ hl (.lst<|kK us lo hi);exact q _ _ sm ⟨l,_,rfl,zy,(h2.cut lo hi).kp sm.kp⟩ λ_=>⟨l,rfl,hl⟩
 .cases e
def RE(K:qe):V->Qb Int->Qb Int->Hp->VK->Prop:=λx lo hi H Q=>∃ a xs,x=.ref a/\aX K H a xs/\∀ p H',cN H H'->aX K H' p (kK xs lo hi)->Q (.ref p) H'
theorem zDZ{X:Cx}:xk X (RE X.K):=by
 intro pins s σ H x v vl vu lo hi sl Q I rx hs pl pu h;have(a,xs,rfl,wY,q):=h;have hx:br X.K H a xs:=wY.sq
 by_cases hw:HT.aV xs.length 0 lo=0/\HT.aV xs.length xs.length hi=xs.length
 .cases rx
  have(ah,r,ht,hz):=I.tuple hx;have hlen:ah.toArray.size=xs.length:=by rw[List.size_toArray]; exact r.length.symm
  refine⟨"tuple",_,PyProof.Rows.slot_tuple_getitem.lookup,ht.typeIs,?_⟩;refine HT.dQ ht hs pl pu (by rw[hlen]; exact hw) ⟨.ref a,H,I,rfl,q a H (cN.refl _) ?_⟩;unfold kK;rw[hw.1,hw.2];simpa using wY
 .exact zAd pins s σ H _ v vl vu lo hi sl Q I rx hs pl pu ⟨a,xs,rfl,hx,hw,λp hp=>q p _ (zZ hp _)<|.inl zy⟩
def Be(u:U)(lo hi:Qb Int):Qb U:=match u with
 | .d (.tuple xs)=>some<|.d<|.tuple<|iJ xs lo hi
 | _=>none
theorem zAI:JZ K (RE K) Be:=by
 intro x a u lo hi H Q p e q;unfold Be at e;split at e
 .cases e
  have(b,us,rfl,h1,h2):=DF.aI p;exact⟨b,us,rfl,h1,λl H' sm hl=>q _ _ sm (.tup hl<|(h2.cut lo hi).kp sm.kp) Nw.data⟩
 .cases e
def xH:U->U->Qb U
 | .d (.tuple xs),.d (.tuple ys)=>if xs≠[]/\xs.length+ys.length<=sizeLine then some (.d<|.tuple<|xs++ys)else none
 | _,_=>none
theorem WX:VO K (E5 K) xH:=by
 intro x y a b u H Q ha hb e q;unfold xH at e;split at e
 .split at e
  .rename_i xs ys hc
   cases e;have(p,us,rfl,h1,h2):=DF.aI ha;have(p',gC,rfl,jG,i6):=DF.aI hb;refine⟨p,p',us,gC,rfl,rfl,(aX.sq h1),(aX.sq jG),?_,by rw[h2.len,i6.len]; exact hc.2,λz=>?_,λ_ r hr=>?_⟩
   .rintro rfl
    cases h2;exact hc.1 rfl
   .subst z
    cases i6;exact q _ _ (λ_ _ z=>z) (by rw[List.append_nil]; exact .tup h1 h2) Nw.data
   .have s:=zZ hr (.tup<|us++gC)
    exact q _ _ s (.tup (.inl zy)<|(h2.app i6).kp s.kp) Nw.data
  .cases e
 .cases e
def qY:Qa Int->Int->Int
 | [],d=>d
 | n::ns,_=>ns.foldl (λa b=>if a < b then b else a) n
theorem NW(ns:Qa Int)(d:Int):(ns=[]/\qY ns d=d)\/(qY ns d∈ns/\∀ x∈ns,x<=qY ns d):=by
 cases ns with
 | nil=>exact .inl ⟨rfl,rfl⟩
 | cons n ns=>
  refine .inr ?_;show List.foldl _ n ns∈n::ns/\∀ x∈n::ns,x<=List.foldl _ n ns;have key:∀ (ns:Qa Int) (n:Int),(ns.foldl (λa b=>if a < b then b else a) n=n\/ns.foldl (λa b=>if a < b then b else a) n∈ns)/\n<=ns.foldl (λa b=>if a < b then b else a) n/\∀ x∈ns,x<=ns.foldl (λa b=>if a < b then b else a) n:=by
   intro ns
   induction ns with
   | nil=>intro n; exact⟨.inl rfl,Ó _,λx hx=>by cases hx⟩
   | cons m ns ih=>
    intro n;rw[List.foldl_cons];have(a1,a2,a3):=ih (if n < m then m else n);refine⟨?_,?_,λx hx=>?_⟩
    .rcases a1 with z|z
     .rw[z]
      split
      .exact .inr qr
      .exact .inl rfl
     .exact .inr (qq _ z)
    .split at a2<;>rename_i h<;>(try rw[if_pos h])<;>(try rw[if_neg h])<;>omega
    .rcases qy.mp hx with rfl|hx
     .split at a2<;>rename_i h<;>(try rw[if_pos h])<;>(try rw[if_neg h])<;>omega
     .exact a3 x hx
  have(a1,a2,a3):=key ns n;refine⟨?_,λx hx=>?_⟩
  .rcases a1 with z|z
   .rw[z]; exact qr
   .exact qq _ z
  .rcases qy.mp hx with rfl|hx
   .exact a2
   .exact a3 x hx
def TR(K:qe)(r:Qa V->Qa V->Hp->VK->Prop)(f:Qa U->Qa U->Qb U):Prop :=
 ∀ (vs zs:Qa V) (us ws:Qa U) (u:U) (H:Hp) (Q:VK),vo K H vs us->vo K H zs ws->f us ws=some u->(∀ v H',cN H H'->Rp K H' v u->Nw H v u->Q v H')->r vs zs H Q
def Bc(f:Qa U->Qa U->Qb U)(ma mk:MA):ME:=λρ=>(ma ρ).bind λp=>(mk p.2).bind λq=>(bC q.2 p.1).bind λus=>(bC q.2 q.1).bind λws=>(f us ws).bind λu=>some (.u u,q.2)
theorem zCz{r:Qa V->Qa V->Hp->VK->Prop}{f:Qa U->Qa U->Qb U}{t tk:TA}{m mk:MA}(hc:TR K r f)(h:jc K t m)(hk:jc K tk mk):VE K (RH r t tk) (Bc f m mk):=by
 intro ρ σ H a av Q rs e q;obtain⟨⟨as,aw⟩,e1,e⟩:=bQ e;obtain⟨⟨bs,aB⟩,e2,e⟩:=bQ e;have(us,eu,e):=bQ e;have(ws,ew,e):=bQ e;have(u,ef,e):=bQ e;cases e;refine h ρ σ H as aw _ rs e1 λvs H1 g1 s1=>hk aw σ H1 bs _ _ g1.rs e2 λzs H2 g2 s2=>?_;have r1:vo K H2 vs us:=LV s1.len (λi a ea=>let ⟨v,ev,k⟩:=s1.ar i a ea; ⟨v,ev,λu eu=>k.later rs g1 g2 eu⟩) eu;refine hc vs zs us ws u H2 _ r1 (s2.lY g1.rs g2 ew) ef λv H3 s p n=>?_;have g:=g1.trans g2;exact q v H3 (g.trans<|Go.grow g.rs s) ⟨p,n.mono g.dm⟩
def BE:Qa U->Qa U->Qb U
 | [u],[.d<|.int d]=>u.items.bind λxs=>(rf xs).map λns=>.d<|.int<|qY ns d
 | _,_=>none
theorem WW:TR K (KA K) BE:=by
 intro vs zs us ws u H Q h1 h2 e q;unfold BE at e;split at e
 .rename_i w d
  cases h1 with
  | cons h1 t=>
   cases t;cases h2 with
   | cons h2 t=>
    cases t;have(xs,ex,e):=bQ e;have(ns,en,rfl):=qv.mp e;have(p,ys,rfl,s,dd):=h1.items ex;cases N0 dd en;cases DF.int_inv h2;exact⟨p,ns,d,qY ns d,rfl,rfl,s,NW ns d,q _ _ (λ_ _ z=>z) (.int _) Nw.data⟩
 .cases e
theorem Pd{r:α->α->Prop}(as:∀ a b,r a b->¬r b a):∀ {L M:Qa α},L.Perm M->L.Pairwise r->M.Pairwise r->L=M
 | [],M,p,_,_=>(List.nil_perm.mp p).symm▸rfl
 | a::L,[],p,_,_=>by have:=p.length_eq; simp at this
 | a::L,b::M,p,h1,h2=>by
  have(a1,a2):=Û.mp h1;have(b1,b2):=Û.mp h2;have e:a=b:=by
   rcases qy.mp (p.mem_iff.mp<|qr (a:=a) (l:=L))with z|z
   .exact z
   .rcases qy.mp (p.mem_iff.mpr<|qr (a:=b) (l:=M))with y|y
    .exact y.symm
    .exact absurd (b1 a z) (as a b<|a1 b y)
  subst e;rw[Pd as p.cons_inv a2 b2]
def pk:D->Qb (Qa Int)
 | .tuple [.tuple ks,_]=>rf ks
 | _=>none
def wO:Qa D->Qb (Qa<|Qa Int)
 | []=>some []
 | d::ds=>(pk d).bind λk=>(wO ds).bind λks=>some<|k::ks
def sY(a b:D):Prop:=∃ k m,pk a=some k/\pk b=some m/\dS k m=true
theorem sY.JY(a b:D)(h:sY a b):¬sY b a:=by
 rintro⟨k',m',e1,e2,h'⟩;have(k,m,e3,e4,h):=h;rw[e3]at e2;rw[e4]at e1;cases e1;cases e2;have:=wF h h';rw[ug]at this;cases this
open Classical in
def BD(xs:Qa D):Qa D:=if h:∃ L,L.Perm xs/\L.Pairwise sY then h.choose else []
theorem NV{xs L:Qa D}(p:L.Perm xs)(s:L.Pairwise sY):BD xs=L:=by
 have h:∃ L:Qa D,L.Perm xs/\L.Pairwise sY:=⟨L,p,s⟩;unfold BD;rw[dif_pos h];exact Pd sY.JY (h.choose_spec.1.trans p.symm) h.choose_spec.2 s
def U.lst:U->Qb (Qa D)
 | .l xs=>some xs
 | .d (.list xs)=>some xs
 | _=>none
theorem Rp.lst{u:U}{xs:Qa D}(h:Rp K H v u)(e:u.lst=some xs):∃ p ys,v=.ref p/\bu K H p ys/\aR K H ys xs:=by
 cases u with
 | d x=>
  cases x with
  | list ds=>cases e; have(a,ys,rfl,h1,h2):=DF.lst_inv h; exact⟨a,ys,rfl,h1.sq,h2⟩
  | _=>cases e
 | l ds=>cases e; have(a,ys,rfl,h1,h2):=h; exact⟨a,ys,rfl,bu.of h1,h2⟩
 | t=>cases e
 | k=>cases e
def F4(u:U):Qb U:=u.lst.bind λxs=>(wO xs).bind λks=>if xs.length < 64/\ks.Nodup then some (.l<|BD xs)else none
theorem MM:∀ {xs:Qa D} {ks:Qa (Qa Int)},wO xs=some ks->ks.length=xs.length
 | [],ks,e=>by cases e; rfl
 | x::xs,ks,e=>by
  have(k,e1,e):=bQ e;have(Ja,e2,e):=bQ e;cases e;simp[MM e2]
theorem BV:∀ {xs:Qa D} {ks:Qa (Qa Int)} {i:Nat} {x:D},wO xs=some ks->xs[i]?=some x->pk x=some (ks.getD i [])
 | [],ks,i,x,e,ex=>by simp at ex
 | y::xs,ks,i,x,e,ex=>by
  have(k,e1,e):=bQ e;have(Ja,e2,e):=bQ e;cases e;cases i with
  | zero=>cases(show some y=some x from ex); exact e1
  | succ i=>exact BV (i:=i) e2 ex
theorem YQ:VC K (LN K) (f1 F4):=oz λv a u H Q h e q=>by
 have(xs,ex,e):=bQ e;have(ks,ek,e):=bQ e;split at e
 .rename_i hc
  cases e;have(p,ys,rfl,sq,ds):=h.lst ex;have ly:=ds.len;have lk:=MM ek;refine⟨p,ys,ks,rfl,sq,by omega,⟨by omega,λi v ev=>?_⟩,hc.2,λis r hp hs hr=>?_⟩
  .have(d,ed,dv):=ds.get' ev
   have kd:=BV ek ed;unfold pk at kd;split at kd
   .rename_i kk y
    have(a,zs,rfl,h1,h2):=DF.aI dv;cases h2 with
    | @cons z1 _ _ _ h3 t=>
     cases t with
     | @cons z2 _ _ _ h4 t=>
      cases t;have(b,ns,rfl,h5,h6):=DF.aI h3;exact⟨a,b,z2,rfl,(aX.sq h1),by rw[<-N0 h6 kd]; exact(aX.sq h5)⟩
   .cases kd
  .have sm:=zZ hr (.lst<|is.map λi=>ys.getD i .aP)
   have lt:∀ i∈is,i < xs.length:=λi hi=>by
    have:=Í.mp (hp.mem_iff.mp hi);omega
   have ext:(List.range xs.length).map (λi=>xs.getD i .none)=xs:=by
    apply List.ext_getElem?;intro j;rw[List.getElem?_map]
    by_cases hj:j < xs.length
    .rw[List.getElem?_range hj,Option.map_some,qE,qo hj]
     rfl
    .rw[List.getElem?_eq_none (by simpa using hj),List.getElem?_eq_none (by omega)]
     rfl
   have sI:(is.map λi=>xs.getD i .none).Perm xs:=by
    have:=hp.map λi=>xs.getD i .none;rw[ly,ext]at this;exact this
   have sH:(is.map λi=>xs.getD i .none).Pairwise sY:=by
    rw[List.pairwise_map]at hs ⊢;refine hs.imp_of_mem λ{i j} hi hj e9=>?_;have gi:=qo (lt i hi);have gj:=qo (lt j hj);refine⟨_,_,?_,?_,e9⟩
    .rw[qE,gi]
     exact BV ek gi
    .rw[qE,gj]
     exact BV ek gj
   rw[NV sI sH]at q;refine q _ _ sm ⟨r,_,rfl,zy,?_⟩ λ_=>⟨r,rfl,hr⟩;refine aR.kp sm.kp ?_;clear hs hp sI sH q sm
   induction is with
   | nil=>exact .nil
   | cons i is ih=>
    refine .cons ?_<|ih λj hj=>lt j<|qq _ hj;have gi:=qo (lt i qr);have(v,ev,dv):=ds.get gi;dsimp only;rw[qE,qE,gi,ev];exact dv
 .cases e
end
section
variable{ρ av:En}
def zCA(ma:MA):ME:=λρ=>(ma ρ).bind λp=>(bC p.2 p.1).bind λus=>match us with
 | [.d<|.int j]=>if(-(2^62)<=j/\j < 2^62)/\j.toNat<=sizeLine then some (.u<|.l<|gB 0 j.toNat,p.2)else none
 | _=>none
def mU:MT:=λρ=>some (true,ρ)
theorem tW:VT K HZ mU:=λρ σ H b av Q r e q=>by cases e; exact q H<|Go.refl r
def sV:D->Qb V
 | .none=>some .aP
 | .bool b=>some<|.bl b
 | .int i=>some<|.int i
 | .str x=>some<|.str x
 | _=>none
theorem Bb{x:D}{w:V}(h:DF K H v x)(e:sV x=some w):v=w:=by
 cases h<;>cases e<;>rfl
def bO(neg:Bool):U->U->Qb U
 | .d x,.d y=>(sV x).bind λv=>(sV y).bind λw=>if EE v w=true then some (.d<|.bool (if neg=true then !decide (v=w)else decide (v=w)))else none
 | _,_=>none
theorem eA:VO K R8 (bO false):=by
 intro x y a b u H Q ha hb e q;unfold bO at e;split at e
 .have(v,ev,e):=bQ e
  have(w,ew,e):=bQ e;split at e
  .rename_i hs
   cases e;cases Bb ha ev;cases Bb hb ew;exact⟨hs,q _ _ (λ_ _ z=>z) (.bl _) Nw.data⟩
  .cases e
 .cases e
theorem rG:VO K R7 (bO true):=by
 intro x y a b u H Q ha hb e q;unfold bO at e;split at e
 .have(v,ev,e):=bQ e
  have(w,ew,e):=bQ e;split at e
  .rename_i hs
   cases e;cases Bb ha ev;cases Bb hb ew;exact⟨hs,q _ _ (λ_ _ z=>z) (.bl _) Nw.data⟩
  .cases e
 .cases e
def tQ:U->Bool
 | .d .none=>true
 | _=>false
def xt(neg:Bool):U->U->Qb U
 | a,.d .none=>some<|.d<|.bool (if neg=true then !tQ a else tQ a)
 | _,_=>none
theorem WV{a:U}(h:Rp K H v a):decide (v=.aP)=tQ a:=by
 cases a with
 | d x=>cases(show DF K H v x from h)<;>simp[tQ]
 | l=>have(_,_,rfl,_):=h; simp[tQ]
 | t=>have(_,_,rfl,_):=h; simp[tQ]
 | k=>have(_,_,rfl,_):=h; simp[tQ]
theorem WU:VO K (λx y H Q=>y=.aP/\Q (.bl (!decide (x=.aP))) H) (xt true):=by
 intro x y a b u H Q ha hb e q;unfold xt at e;split at e
 .cases e
  refine⟨by cases hb; rfl,?_⟩;rw[WV ha];exact q _ _ (λ_ _ z=>z) (.bl _) Nw.data
 .cases e
theorem zAJ{F:FD}{E:XK}(hO:A7 H)(hS:bu K H a (ns.map V.int))(h:∃ outs,F [.d<|.list<|ns.map .int]=some (.d<|.bool true,outs)):rX K 1 F [.ref a] H (λv _=>v=.bl true) E:=by
 have(outs,ho):=h;have pl:PL K H a (ns.map V.int):=by
  rcases hS with (h|⟨o,h⟩) | h
  .rcases hO a with z|⟨o,xs,z⟩
   .rw[z]at h; cases h
   .rw[z]at h; cases h
  .exact .inl ⟨o,h⟩
  .exact .inr h
 have dd:aR K H (ns.map V.int) (ns.map PyData.int):=by
  clear ho hS pl
  induction ns with
  | nil=>exact .nil
  | cons n ns ih=>exact .cons (.int n) ih
 refine⟨[.d<|.list<|ns.map .int],.d<|.bool true,outs,rfl,⟨rfl,λi u e=>?_,λi j u w ei ej ou ow es=>?_⟩,ho,λv H' g p n=>DF.cJ p⟩
 .have e':=gx.mp e
  cases i with
  | zero=>cases e'; exact⟨.ref a,rfl,DF.lst pl dd⟩
  | succ i=>simp at e'
 .have e':=gx.mp ei
  cases i with
  | zero=>cases e'; cases ou
  | succ i=>simp at e'
end
section
variable{ρ:En}{me ma mb mk mi md my mv:ME}{mA mK:MA}{mt mu:MT}{m1 m2:MS}{u:U}{x:D}{f:U->U->Qb U}
theorem bd{a:α}{f:α->Qb β}:(some a).bind f=f a:=rfl
theorem U4{u:U}:Ar.get ρ (.u u)=some u:=rfl
theorem YO:Ar.get ρ (.s i)=(ρ[i]?).join:=rfl
theorem zpQ{u:U}:(some<|some u).join=some u:=rfl
theorem zAK:zi i ρ=(ρ[i]?).join.bind λ_=>some (.s i,ρ):=by
 unfold zi;cases ρ[i]? with
 | none=>rfl
 | some o=>cases o<;>rfl
theorem zD0:mC x ρ=some (.u<|.d x,ρ):=rfl
theorem zCB:af f ma mb ρ=(ma ρ).bind λp=>(mb p.2).bind λq=>(p.1.get q.2).bind λx=>(q.1.get q.2).bind λy=>(f x y).bind λu=>some (.u u,q.2):=rfl
theorem zCC{f:U->Qb U}:b9 f ma ρ=(ma ρ).bind λp=>(p.1.get p.2).bind λx=>(f x).bind λu=>some (.u u,p.2):=rfl
theorem zAL:zq ρ=some ([],ρ):=rfl
theorem WT:zf me mA ρ=(me ρ).bind λp=>(mA p.2).bind λq=>some (p.1::q.1,q.2):=rfl
theorem zmX:bC ρ []=some []:=rfl
theorem O4{a:Ar}{as:Qa Ar}:bC ρ (a::as)=(a.get ρ).bind λu=>(bC ρ as).bind λus=>some (u::us):=rfl
theorem zkJ:iP []=some []:=rfl
theorem zi9{us:Qa U}:iP (.d x::us)=(iP us).bind λxs=>some (x::xs):=rfl
theorem zAM:cM mA ρ=(mA ρ).bind λp=>(bC p.2 p.1).bind λus=>(iP us).bind λds=>if ds.length<=sizeLine then some (.u<|.d<|.tuple ds,p.2)else none:=rfl
theorem zAN:fL mA ρ=(mA ρ).bind λp=>(bC p.2 p.1).bind λus=>(iP us).bind λds=>if ds.length<=sizeLine then some (.u<|.l ds,p.2)else none:=rfl
theorem zCD{f:Qa U->Qb U}:ba f mA ρ=(mA ρ).bind λp=>(bC p.2 p.1).bind λus=>(f us).bind λu=>some (.u u,p.2):=rfl
theorem zAO{f:Qa U->Qa U->Qb U}:Bc f mA mK ρ=(mA ρ).bind λp=>(mK p.2).bind λq=>(bC q.2 p.1).bind λus=>(bC q.2 q.1).bind λws=>(f us ws).bind λu=>some (.u u,q.2):=rfl
theorem zAP{f:FD}:zP f mA ρ=(mA ρ).bind λp=>if gP p.2 p.1=true then(bC p.2 p.1).bind λus=>(f us).bind λo=>some (.u o.1,wb p.2 p.1 o.2)else none:=rfl
theorem zmY:gP ρ []=true:=rfl
theorem zAQ{as:Qa Ar}:gP ρ (.s j::as)=((match ρ[j]? with|some (some u)=>!u.own || !(as.any λa=>match a with | .s k=>decide (k=j) | _=>false) | _=>true) && gP ρ as):=rfl
theorem zCE{as:Qa Ar}{o:U}{os:Qa U}:wb ρ (.s j::as) (o::os)=wb (ρ.set j<|some o) as os:=rfl
theorem zCF{as:Qa Ar}{o:U}{os:Qa U}:wb ρ (.u u::as) (o::os)=wb ρ as os:=rfl
theorem YN:wb ρ [] []=ρ:=rfl
def k7(m2:MS):Fl->Qb Fl
 | .nx av=>m2 av
 | f=>some f
theorem bind_fn{o:Qb α}{f g:α->Qb β}(h:∀ a,f a=g a):o.bind f=o.bind g:=by cases o with|none=>rfl|some a=>exact h a
theorem zAR:zB m1 m2 ρ=(m1 ρ).bind (k7 m2):=bind_fn λf=>by cases f<;>rfl
theorem zpR:k7 m2 (.nx ρ)=m2 ρ:=rfl
theorem zpS:k7 m2 (.rt u ρ)=some (.rt u ρ):=rfl
theorem zpT:k7 m2 (.ct ρ)=some (.ct ρ):=rfl
def U.dat:U->Qb U
 | .d x=>some<|.d x
 | _=>none
theorem U3:U.dat (.d x)=some (.d x):=rfl
theorem U2:put (.s i,ρ)=(ρ[i]?).join.bind λu=>u.dat.bind λd=>some (d,ρ):=by
 unfold put;dsimp only;cases ρ[i]? with
 | none=>rfl
 | some o=>
  cases o with
  | none=>rfl
  | some u=>cases u<;>rfl
theorem U1:put (.u u,ρ)=some (u,ρ):=rfl
theorem zAS:zY i me ρ=(me ρ).bind λp=>(put p).bind λq=>some (.nx<|q.2.set i<|some q.1):=rfl
theorem zAT:bg me ρ=(me ρ).bind λp=>(put p).bind λq=>some (.rt q.1 q.2):=rfl
theorem WS:jo pn i ρ=if i∈pn then none else(ρ[i]?).join.bind λu=>some (.rt u<|ρ.set i none):=by
 unfold jo;split
 .rfl
 .cases ρ[i]? with
  | none=>rfl
  | some o=>cases o<;>rfl
theorem WR:cy ρ=some (.nx ρ):=rfl
theorem WQ:cD me ρ=(me ρ).bind λp=>some (.nx p.2):=rfl
theorem zAU:bw mt m1 m2 ρ=(mt ρ).bind λp=>if p.1=true then m1 p.2 else m2 p.2:=rfl
theorem zCG:wU mt ma mb ρ=(mt ρ).bind λp=>if p.1=true then ma p.2 else mb p.2:=rfl
def U.vm:U->Qb Bool
 | .d (.bool b)=>some b
 | _=>none
theorem U0{b:Bool}:U.vm (.d<|.bool b)=some b:=rfl
theorem zD1:mB me ρ=(me ρ).bind λp=>(p.1.get p.2).bind λu=>u.vm.bind λb=>some (b,p.2):=by
 unfold mB;congr 1
 funext p
 congr 1
 funext u
 cases u with
 | d x=>cases x<;>rfl
 | l=>rfl
 | t=>rfl
 | k=>rfl
theorem zAV:om mt mu ρ=(mt ρ).bind λp=>if p.1=true then mu p.2 else some (false,p.2):=rfl
theorem zCH:gc mt mu ρ=(mt ρ).bind λp=>if p.1=true then some (true,p.2)else mu p.2:=rfl
theorem zAW:iw mt ρ=(mt ρ).bind λp=>some (!p.1,p.2):=rfl
theorem Xe:tR ma mb ρ=(mB ma ρ).bind λp=>if p.1=true then mb p.2 else some (.u<|.d<|.bool false,p.2):=rfl
theorem Xd:xJ ma ρ=(mB ma ρ).bind λp=>some (.u<|.d<|.bool (!p.1),p.2):=rfl
theorem zAX:Bh ma ρ=(ma ρ).bind λp=>(p.1.get p.2).bind λu=>u.yJ.bind λb=>some (b,p.2):=rfl
theorem zpU{n:Int}:U.yJ (.d<|.int n)=some (n != 0):=rfl
theorem zAY:mU ρ=some (true,ρ):=rfl
def U.lo:U->Qb (Qa D)
 | .l xs=>some xs
 | _=>none
theorem zCI{xs:Qa D}:U.lo (.l xs)=some xs:=rfl
def U.da:U->Qb D
 | .d x=>some x
 | _=>none
theorem zCJ:U.da (.d x)=some x:=rfl
def U.num:U->Qb Int
 | .d (.int i)=>some i
 | _=>none
theorem UZ{n:Int}:U.num (.d<|.int n)=some n:=rfl
theorem zAZ:cB i me ρ=(ρ[i]?).join.bind λw=>w.lo.bind λ_=>(me ρ).bind λp=>(p.1.get p.2).bind λu=>u.da.bind λx=>(p.2[i]?).join.bind λw=>w.lo.bind λxs=>if xs.length < sizeLine then some (.u<|.d .none,p.2.set i<|some<|.l<|xs++[x])else none:=by
 unfold cB;cases ρ[i]? with
 | none=>rfl
 | some o=>
  cases o with
  | none=>rfl
  | some w=>
   cases w with
   | l xs0=>
    show((me ρ).bind _)=((me ρ).bind _);congr 1
    funext p
    congr 1
    funext u
    cases u with
    | d x=>
     show(match U.d x,p.2[i]? with | .d x,some (some<|.l xs)=>_|_,_=>none)=((p.2[i]?).join.bind _);cases p.2[i]? with
     | none=>rfl
     | some o=>
      cases o with
      | none=>rfl
      | some w=>cases w<;>rfl
    | l=>rfl
    | t=>rfl
    | k=>rfl
   | d=>rfl
   | t=>rfl
   | k=>rfl
theorem YM:t7 i me mi ρ=(ρ[i]?).join.bind λ_=>(me ρ).bind λp=>(mi p.2).bind λq=>(p.1.get q.2).bind λu=>(q.1.get q.2).bind λw=>u.da.bind λx=>w.num.bind λk=>(q.2[i]?).join.bind λz=>z.lo.bind λxs=>(d4 xs.length k).bind λj=>some (.nx<|q.2.set i<|some<|.l<|xs.set j x):=by
 unfold t7;congr 1; funext _; congr 1; funext p; congr 1; funext q; congr 1; funext u; congr 1; funext w;cases u with
 | d x=>
  cases w with
  | d y=>
   cases y with
   | int k=>
    show(match U.d x,U.d<|.int k,q.2[i]? with | .d x,.d<|.int k,some (some<|.l xs)=>_|_,_,_=>none)=((q.2[i]?).join.bind _);cases q.2[i]? with
    | none=>rfl
    | some o=>
     cases o with
     | none=>rfl
     | some w=>cases w<;>rfl
   | _=>rfl
  | l=>rfl
  | t=>rfl
  | k=>rfl
 | l=>rfl
 | t=>rfl
 | k=>rfl
theorem Xc:jk md my ρ=(md ρ).bind λp=>(my p.2).bind λq=>(p.1.get q.2).bind λu=>(q.1.get q.2).bind λy=>(mV u y).bind λo=>o.bind λd=>some (.u<|.d d,q.2):=rfl
theorem YL:kP ρ=some (.u<|.t [],ρ):=rfl
def DX(x:D):Ar×En->En
 | (.s i,ρ)=>ρ.set i<|some<|.d x
 | (.u _,ρ)=>ρ
theorem zCK:dN me ρ=(me ρ).bind λp=>(p.1.get p.2).bind λu=>u.fz.bind λx=>some (.u<|.d x,DX x p):=by
 unfold dN;congr 1; funext p; congr 1; funext u; congr 1; funext x;have(a,aw):=p;cases a<;>rfl
theorem UY:DX x (.s i,ρ)=ρ.set i (some<|.d x):=rfl
theorem UX:DX x (.u u,ρ)=ρ:=rfl
theorem zCL:U.fz (.d x)=some x:=rfl
theorem zCM{xs:Qa D}:U.fz (.l xs)=some (.list xs):=rfl
theorem zCN{kvs:Qa (Qa Key×D)}:U.fz (.t kvs)=some (.dict<|kvs.map λp=>(kr p.1,p.2)):=rfl
theorem zCO{g:U->Qb (Qa D)}:de g me ρ=(me ρ).bind λp=>(p.1.get p.2).bind λu=>(g u).bind λds=>some (ds,p.2):=rfl
theorem YK{xs:Qa D}:xw (.d<|.list xs)=some xs:=rfl
theorem YJ{xs:Qa D}:mW (.d<|.tuple xs)=some xs:=rfl
theorem zpV{kvs:Qa (D×D)}:oS (.d<|.dict kvs)=if iV kvs=true then some (kvs.map (·.1))else none:=rfl
def Bn:Qa U->Qb (Qa D)
 | [.d<|.int j]=>if -(2^62)<=j/\j < 2^62 then some (gB 0 j.toNat)else none
 | _=>none
theorem zA0{n:Int}:Bn [.d<|.int n]=if -(2^62)<=n/\n < 2^62 then some (gB 0 n.toNat)else none:=rfl
theorem Xb:jn mA ρ=(mA ρ).bind λp=>(bC p.2 p.1).bind λus=>(Bn us).bind λds=>some (ds,p.2):=bind_fn λp=>bind_fn λus=>match us with
 | []=>rfl
 | [.d<|.int j]=>by
  show(if _ then _ else _)=(if _ then _ else _:Qb (Qa D)).bind _;split<;>rfl
 | [.d .none]=>rfl
 | [.d<|.bool _]=>rfl
 | [.d<|.str _]=>rfl
 | [.d<|.list _]=>rfl
 | [.d<|.tuple _]=>rfl
 | [.d<|.dict _]=>rfl
 | [.l _]=>rfl
 | [.t _]=>rfl
 | [.k _]=>rfl
 | .d x::b::us=>by cases x<;>rfl
 | .l x::b::us=>rfl
 | .t x::b::us=>rfl
 | .k x::b::us=>rfl
theorem zA1{mI:MI}{mg:MG}:cW mI mg m1 ρ=(mI ρ).bind λp=>gv mg m1 p.1 p.2:=rfl
theorem zCP{mI:MI}{mg:MG}:kS mI nt js mg mt me ρ=(mI ρ).bind λp=>(iX nt mg mt me p.1 (eR nt js p.2) []).bind λq=>some (.u<|.l q.1,back js (q.2.drop nt) p.2):=rfl
theorem zCQ{f:U->Qb Int->Qb Int->Qb U}{ml mh:MO}:uL f me ml mh ρ=(me ρ).bind λp=>(ml p.2).bind λl=>(mh l.2).bind λh=>(p.1.get h.2).bind λx=>(f x l.1 h.1).bind λu=>some (.u u,h.2):=rfl
theorem zrI:wk ρ=some (none,ρ):=rfl
theorem Xa:qZ me ρ=(me ρ).bind λp=>(p.1.get p.2).bind λu=>u.num.bind λi=>some (some i,p.2):=bind_fn λp=>bind_fn λu=>by
 cases u with
 | d x=>cases x<;>rfl
 | l=>rfl
 | t=>rfl
 | k=>rfl
def Il:Qa U->Qb (D×D)
 | [.d x,.d y]=>some (x,y)
 | _=>none
theorem YI{y:D}:Il [.d x,.d y]=some (x,y):=rfl
theorem zA3:vG i j mA ρ=(mA ρ).bind λp=>(bC p.2 p.1).bind λus=>(Il us).bind λz=>some (.nx<|(p.2.set i<|some<|.d z.1).set j<|some<|.d z.2):=by
 refine bind_fn λp=>bind_fn λus=>?_
 match us with
 | []=>rfl
 | [a]=>cases a<;>rfl
 | [.d x,.d y]=>rfl
 | [.d x,.l y]=>rfl
 | [.d x,.t y]=>rfl
 | [.d x,.k y]=>rfl
 | [.l x,b]=>rfl
 | [.t x,b]=>rfl
 | [.k x,b]=>rfl
 | a::b::c::us=>cases a<;>(try rfl)<;>(cases b<;>rfl)
theorem zA4{mg:MG}:oh me mg ρ=(me ρ).bind λp=>(p.1.get p.2).bind λu=>u.da.bind λd=>(mg d p.2).bind λav=>some (.nx av):=by
 unfold oh;congr 1; funext p; congr 1; funext u;cases u<;>rfl
theorem YH:zC i x ρ=some (ρ.set i<|some<|.d x):=rfl
theorem W9{gs:Qa D->En->Qb En}{ds:Qa D}:fM n gs (.tuple ds) ρ=if ds.length=n then gs ds ρ else none:=rfl
theorem YG{g:MG}{gs:Qa D->En->Qb En}{ds:Qa D}:cn g gs (x::ds) ρ=(g x ρ).bind λaw=>gs ds aw:=rfl
theorem W8:f7 [] ρ=some ρ:=rfl
theorem vO{c:Int->Int->Prop}{g:Int->Int->D}{a:Int}(h:c a b):nV c g (.d<|.int a) (.d<|.int b)=some (.d<|g a b):=by
 unfold nV;dsimp only;rw[if_pos h]
theorem UW{a:Int}:dz (.d<|.int a) (.d<|.int b)=some (.d<|.int<|a+b):=rfl
theorem UU{a:Int}:lB (.d<|.int a) (.d<|.int b)=some (.d<|.int<|a - b):=rfl
theorem Kv{a:Int}(h:vC a b):iL (.d<|.int a) (.d<|.int b)=some (.d<|.int<|a * b):=vO h
theorem zCR{a:Int}(h:0 < b):jh (.d<|.int a) (.d<|.int b)=some (.d<|.int<|a % b):=vO (c:=λ_ j=>0 < j) h
theorem F3{a:Int}(h:vJ a b):tS (.d<|.int a) (.d<|.int b)=some (.d<|.int<|a / b):=vO h
theorem vX{a:Int}(h:tO a b):rh (.d<|.int a) (.d<|.int b)=some (.d<|.int<|a.fdiv b):=vO h
theorem zCS{a:Int}(h:A9 a b):Bj (.d<|.int a) (.d<|.int b)=some (.d<|.int<|a^b.toNat):=vO h
theorem zCT{a:Int}:iG (.d<|.int a) (.d<|.int b)=some (.d<|.bool<|decide<|a < b):=rfl
theorem zCU{a:Int}:nU (.d<|.int a) (.d<|.int b)=some (.d<|.bool<|decide<|a<=b):=rfl
theorem zCV{a:Int}:AG (.d<|.int a) (.d<|.int b)=some (.d<|.bool<|decide<|b < a):=rfl
theorem zCW{a:Int}:Ec (.d<|.int a) (.d<|.int b)=some (.d<|.bool<|decide<|b<=a):=rfl
theorem UT{a:Int}:mX (.d<|.int a)=some (.d<|.int (-a)):=rfl
theorem US{a:Int}:qO (.d<|.int a)=some (.d<|.int (if a < 0 then -a else a)):=rfl
theorem YF{b:Bool}:vR (.d<|.bool b)=some (.d<|.int (if b then 1 else 0)):=rfl
theorem YE{a:Int}:vQ [.d<|.int a,.d<|.int b]=some (.d<|.int (if b > a then b else a)):=rfl
theorem zCX{f:U->Qb U}:f1 f [u]=f u:=rfl
theorem UR{xs:Qa D}:cx (.l xs)=some (.d<|.int xs.length):=rfl
theorem UQ{xs:Qa D}:cx (.d<|.tuple xs)=some (.d<|.int xs.length):=rfl
theorem UP{xs:Qa D}:cx (.d<|.list xs)=some (.d<|.int xs.length):=rfl
theorem zpW{xs:Qa D}:ni (.l xs)=some (.d<|.tuple xs):=rfl
theorem UO{xs:Qa D}{k:Int}:aU (.l xs) (.d<|.int k)=(bU xs k).map .d:=rfl
theorem Vt{xs:Qa D}{k:Int}:aU (.d<|.list xs) (.d<|.int k)=(bU xs k).map .d:=rfl
theorem Vs{xs:Qa D}{k:Int}:aS (.d<|.tuple xs) (.d<|.int k)=(bU xs k).map .d:=rfl
theorem Vr{xs:Qa D}{lo hi:Qb Int}:vF (.l xs) lo hi=some (.l<|iJ xs lo hi):=rfl
theorem Vq{a:Int}:bO false (.d<|.int a) (.d<|.int b)=some (.d<|.bool<|decide<|a=b):=by
 show some (U.d<|.bool<|decide<|V.int a=V.int b)=_;congr 3;exact decide_eq_decide.mpr ⟨λh=>by cases h; rfl,λh=>by rw[h]⟩
theorem Vp{a:Int}:bO true (.d<|.int a) (.d<|.int b)=some (.d<|.bool (!decide (a=b))):=by
 show some (U.d<|.bool (!decide (V.int a=V.int b)))=_;congr 4;exact decide_eq_decide.mpr ⟨λh=>by cases h; rfl,λh=>by rw[h]⟩
theorem Vo{a b:Str}:bO false (.d<|.str a) (.d<|.str b)=some (.d<|.bool<|decide<|a=b):=by
 show some (U.d<|.bool<|decide<|V.str a=V.str b)=_;congr 3;exact decide_eq_decide.mpr ⟨λh=>by cases h; rfl,λh=>by rw[h]⟩
def Ik(pn:Qa Nat)(us:Qa U):Fl->Qb (U×Qa U)
 | .rt u ρ=>(g9 pn ρ 0 us).bind λos=>some (u,os)
 | .nx ρ=>(g9 pn ρ 0 us).bind λos=>some (.d .none,os)
 | _=>none
theorem zA6{us:Qa U}:bE n pn m1 us=(m1<|sm us++List.replicate (n - us.length) none).bind (Ik pn us):=by
 exact bind_fn λf=>by cases f<;>rfl
theorem zpX{us:Qa U}:Ik pn us (.rt u ρ)=(g9 pn ρ 0 us).bind λos=>some (u,os):=rfl
theorem zmZ:g9 pn ρ n []=some []:=rfl
theorem zkL{us:Qa U}:g9 pn ρ n (u::us)=(if n∈pn then(ρ[n]?).join.bind λo=>if o.own=true/\u.own=false then none else some o else if u.own=true then none else some u).bind λo=>(g9 pn ρ (n+1) us).bind λos=>some (o::os):=rfl
theorem Vn:U.own (.d x)=false:=rfl
theorem Vm{xs:Qa D}:U.own (.l xs)=true:=rfl
theorem BZ:sm []=[]:=rfl
theorem zpY{us:Qa U}:sm (u::us)=some u::sm us:=rfl
theorem zCY{a:α}{xs:Qa α}:bU (a::xs) 0=some a:=by
 unfold bU d4;rw[if_pos (by decide),if_pos (by simp only[qx]; omega)];rfl
theorem zCZ{a b:α}{xs:Qa α}:bU (a::b::xs) 1=some b:=by
 unfold bU d4;rw[if_pos (by decide),if_pos (by simp only[qx]; omega)];rfl
theorem zC0{a b c:α}{xs:Qa α}:bU (a::b::c::xs) 2=some c:=by
 unfold bU d4;rw[if_pos (by decide),if_pos (by simp only[qx]; omega)];rfl
theorem zC1:d4 (n+1) 0=some 0:=by
 unfold d4;rw[if_pos (by decide),if_pos (by omega)];rfl
theorem zC2:d4 (n+1+1) 1=some 1:=by
 unfold d4;rw[if_pos (by decide),if_pos (by omega)];rfl
theorem zC3{a:Int}(h:b.natAbs < 18446744073709551616):iL (.d<|.int a) (.d<|.int b)=some (.d<|.int<|a * b):=Kv (.inr ⟨by omega,by omega⟩)
theorem zC4{a:Int}(h:a.natAbs < 18446744073709551616):iL (.d<|.int a) (.d<|.int b)=some (.d<|.int<|a * b):=Kv (.inl ⟨by omega,by omega⟩)
theorem zC5{a:Int}(h:0 < b):jh (.d<|.int a) (.d<|.int b)=some (.d<|.int<|a % b):=zCR h
theorem zC6{a:Int}(h:0 < b)(h2:b<=340282366920938463463374607431768211456):tS (.d<|.int a) (.d<|.int b)=some (.d<|.int<|a / b):=F3 (Wt h (by omega))
theorem zC7{a:Int}(h:0<=b)(h2:b<=1000000)(h3:a.natAbs < 18446744073709551616):Bj (.d<|.int a) (.d<|.int b)=some (.d<|.int<|a^b.toNat):=zCS ⟨h,h2,by omega⟩
theorem zl:sizeLine=16777216:=rfl
theorem zpZ:reset nt ρ=List.replicate nt none++ρ.drop nt:=rfl
theorem Vl:eR nt js ρ=List.replicate nt none++js.map λj=>ρ.getD j none:=rfl
def sv(j:Nat):Qa Ar->Bool
 | []=>true
 | .u _::as=>sv j as
 | .s k::as=>!decide (k=j) && sv j as
theorem F2:∀ {as:Qa Ar},sv j as=!(as.any λa=>match a with | .s k=>decide (k=j) | _=>false)
 | []=>rfl
 | .u _::as=>by rw[List.any_cons]; exact F2 (as:=as)
 | .s k::as=>by
  unfold sv;rw[List.any_cons,F2 (as:=as),Bool.not_or]
def xf:Qb U->Bool
 | some u=>!u.own
 | none=>true
theorem Vk:xf (some<|.d x)=true:=rfl
theorem Vj{xs:Qa D}:xf (some<|.l xs)=false:=rfl
theorem zp0:sv j []=true:=rfl
theorem Vi{k:Nat}{as:Qa Ar}:sv j (.s k::as)=(!decide (k=j) && sv j as):=rfl
theorem zp1{as:Qa Ar}:gP ρ (.s j::as)=((sv j as || xf (ρ[j]?).join) && gP ρ as):=by
 rw[zAQ,F2];congr 1;cases ρ[j]? with
 | none=>simp[xf]
 | some o=>
  cases o with
  | none=>simp[xf]
  | some u=>simp[xf,Bool.or_comm]
theorem YD{us:Qa (Qb U)}:back (j::js) (some u::us) ρ=back js us (ρ.set j<|some u):=rfl
theorem YC{us:Qa (Qb U)}:back [] us ρ=ρ:=by cases us<;>rfl
theorem Hb:∀ ks:Qa Int,rf (ks.map PyData.int)=some ks
 | []=>rfl
 | k::ks=>by show(rf<|ks.map PyData.int).bind _=_; rw[Hb ks]; rfl
theorem Nd{ks:Qa Int}{d:Int}:BE [.l<|ks.map PyData.int] [.d<|.int d]=some (.d<|.int<|qY ks d):=by
 show(rf<|ks.map PyData.int).map _=_;rw[Hb];rfl
theorem Lx{xs ys:Qa D}(h:xs.length+ys.length<=16777216):vH (.l xs) (.l ys)=some (.l<|xs++ys):=by
 unfold vH;dsimp only;rw[zl,if_pos h]
end
structure XT (K:qe) (tab:Qa (Str×Qa Str)) (fl:Qa Str):Prop where
 cl:∀ n ups C,tab.lookup n=some ups->XN K n C->XI K C/\∀ f∈fl,iC K C f
 is:∀ n ups C,tab.lookup n=some ups->XN K n C->∀ c C',(tab.lookup c).isSome=true->XN K c C'->PySem.W.kitOne K (.ref C) (.ref C')=some (decide (c=n) || ups.contains c)
 kU:∀ n ups C,tab.lookup n=some ups->XN K n C->PySem.W.kitOne K (.ref C) (.type "ValueError")=some (ups.contains ("ValueError":Str))
def tL(f:Str):Qa (D×D)->Qb D
 | (.str g,d)::ds=>if f=g then some d else tL f ds
 | _=>none
section
variable{f n:Str}
theorem ir.get:∀ {fs:Qa (Str×V)} {ds:Qa (D×D)} {d:D},ir K H fs ds->tL f ds=some d->∃ v,fs.lookup f=some v/\DF K H v d
 | _,_,_,.nil,e=>by cases e
 | _,_,d,.cons (k:=k) (v:=v) (vs:=vs) h t,e=>by
  unfold tL at e;rw[List.lookup_cons];split at e
  .rename_i q
   cases e;exact⟨v,by rw[show(f==k)=true from beq_iff_eq.mpr q],h⟩
  .rename_i q
   have(w,e1,e2):=ir.get t e;exact⟨w,by rw[show(f==k)=false from beq_eq_false_iff_ne.mpr q]; exact e1,e2⟩
end
section
variable{f n:Str}
end
section
variable{X:Cx}{c n:Str}
end
section
def oR:U->U->Qb U
 | .d (.str i),.d (.str j)=>if i.length+j.length<=sizeLine then some (.d<|.str<|i++j)else none
 | _,_=>none
theorem B4:VO K (λx y H Q=>∃ i j,x=.str i/\y=.str j/\i.length+j.length<=sizeLine/\Q (.str<|i++j) H) oR:=by
 intro x y a b u H Q ha hb e q;unfold oR at e;split at e
 .split at e
  .rename_i i j hc
   cases e;exact⟨i,j,DF.str_inv ha,DF.str_inv hb,hc,q _ _ (cN.refl H) (DF.str _) Nw.data⟩
  .cases e
 .cases e
def tK:U->U->Qb U
 | .d (.str z),.d (.int i)=>if z.length<=sizeLine then(bU z.cps.toList i).map λc=>.d (.str ⟨#[c]⟩)else none
 | _,_=>none
theorem F0:VO K RP tK:=by
 intro x y a b u H Q ha hb e q;unfold tK at e;split at e
 .split at e
  .rename_i z i hc
   have(c,ec,rfl):=qv.mp e;exact⟨z,i,c,DF.str_inv ha,DF.int_inv hb,hc,ec,q _ _ (cN.refl H) (DF.str _) Nw.data⟩
  .cases e
 .cases e
def DR(ty:U->Bool)(f:U->U->Qb U)(mo ma:ME):ME:=λρ=>(mo ρ).bind λp=>(p.1.get p.2).bind λx0=>if ty x0=true then(ma p.2).bind λq=>(p.1.get q.2).bind λx=>(q.1.get q.2).bind λy=>(f x y).bind λu=>some (.u u,q.2)else none
theorem RQ{r:V->Qa V->Hp->VK->Prop}{ty:U->Bool}{f:U->U->Qb U}{to:TE}{mo ma:ME}(ht:∀ (x:V) (a:U) (H:Hp),Rp K H x a->ty a=true->yG K T x H)(h:VO K (λx y H Q=>r x [y] H Q) f)
  (ho:VE K to mo) (ha:VE K ta ma):VE K (DL K T r to<|m6 ta qN) (DR ty f mo ma):=by
 intro ρ σ H a av Q rs e q;obtain⟨⟨a1,aw⟩,e1,e⟩:=bQ e;have(x0,ex0,e):=bQ e;split at e
 rotate_left
 .cases e
 rename_i pU;obtain⟨⟨b1,aB⟩,e2,e⟩:=bQ e;have(x,ex,e):=bQ e;have(y,ey,e):=bQ e;have(u,eu,e):=bQ e;cases e;refine ho ρ σ H a1 aw _ rs e1 λv1 H1 g1 k1=>⟨ht _ _ _ (k1.now rs g1 ex0) pU,ha aw σ H1 b1 aB _ g1.rs e2 λv2 H2 g2 k2=>?_⟩;refine h _ _ x y u H2 _ (k1.later rs g1 g2 ex) (k2.now g1.rs g2 ey) eu λv H3 s p n=>?_;exact q v H3 ((g1.trans g2).trans<|Go.grow g2.rs s) ⟨p,n.mono (g1.trans g2).dm⟩
def tyL:U->Bool
 | .l _=>true
 | .d (.list _)=>true
 | _=>false
def yH:U->Bool
 | .d (.str _)=>true
 | _=>false
theorem Lw(x:V)(a:U)(H:Hp)(h:Rp K H x a)(e:yH a=true):yG K "str" x H:=by
 unfold yH at e;split at e
 .cases DF.str_inv h; rfl
 .cases e
def Bm:D->Qb Str
 | .str x=>some x
 | _=>none
theorem GU:∀ {us:Qa V} {ds:Qa D} {ys:Qa Str},aR K H us ds->ds.mapM Bm=some ys->us=ys.map V.str
 | _,_,ys,.nil,e=>by cases e; rfl
 | _,_,ys,.cons (d:=d) h t,e=>by
  rw[List.mapM_cons]at e;have(y,e1,e):=bQ e;have(pF,e2,e):=bQ e;cases e;cases d with
  | str x=>cases e1; cases DF.str_inv h; rw[GU t e2]; rfl
  | _=>cases e1
def vN:U->U->Qb U
 | .d (.str sep),.l ds=>(ds.mapM Bm).bind λys=>if(ys.map (·.length)).sum+ys.length * sep.length<=16777216 then some (.d<|.str<|Txt.join sep ys)else none
 | .d (.str sep),.d (.list ds)=>(ds.mapM Bm).bind λys=>if(ys.map (·.length)).sum+ys.length * sep.length<=16777216 then some (.d<|.str<|Txt.join sep ys)else none
 | _,_=>none
theorem M8:VO K (λx y H Q=>KC K x [y] H Q) vN:=by
 intro x y a b u H Q ha hb e q;unfold vN at e;split at e
 .have(ys,ey,e):=bQ e
  split at e
  .rename_i hc
   cases e;have(l,us,rfl,h1,h2):=hb;cases GU h2 ey;exact⟨_,l,ys,DF.str_inv ha,rfl,bu.of h1,hc,q _ _ (cN.refl H) (DF.str _) Nw.data⟩
  .cases e
 .have(ys,ey,e):=bQ e
  split at e
  .rename_i hc
   cases e;have(l,us,rfl,h1,h2):=DF.lst_inv hb;cases GU h2 ey;exact⟨_,l,ys,DF.str_inv ha,rfl,h1.sq,hc,q _ _ (cN.refl H) (DF.str _) Nw.data⟩
  .cases e
 .cases e
def AF:D->Qb V
 | .none=>some .aP
 | .bool b=>some<|.bl b
 | .int i=>some<|.int i
 | .str x=>some<|.str x
 | _=>none
theorem M6{w:V}{d:D}(h:DF K H v d)(e:AF d=some w):v=w/\m3 w=true:=by
 cases d with
 | none=>cases e; cases h; exact⟨rfl,rfl⟩
 | bool b=>cases e; cases DF.cJ h; exact⟨rfl,rfl⟩
 | int i=>cases e; cases DF.int_inv h; exact⟨rfl,rfl⟩
 | str x=>cases e; cases DF.str_inv h; exact⟨rfl,rfl⟩
 | _=>cases e
theorem M5:∀ {us:Qa V} {ds:Qa D} {ws:Qa V},aR K H us ds->ds.mapM AF=some ws->us=ws/\ws.all m3=true
 | _,_,ws,.nil,e=>by cases e; exact⟨rfl,rfl⟩
 | _,_,ws,.cons h t,e=>by
  rw[List.mapM_cons]at e;have(y,e1,e):=bQ e;have(pF,e2,e):=bQ e;cases e;have(rfl,f1):=M6 h e1;have(rfl,f2):=M5 t e2;exact⟨rfl,by rw[List.all_cons,f1,f2]; rfl⟩
end
def Ij(K:qe)(C:Qg):Bool:=match K.lookup C with
 | some ⟨.type "type",_,.cls cd,sl⟩=>(match cd.mro,sl.toList with
  | .ref C'::bm,[_,_,_,_,some<|.builtin m,_]=>C'==C && m == "ValueError.__new__" && !cd.hasDel && cd.hasDict && PySem.W.tailIn K Iu bm
  | _,_=>false)
 | _=>false
def Bk(K:qe)(C:Qg):Bool:=Ij K C && PySem.W.findIn K (.ref C) "__getattribute__"==some (some<|.builtin "BaseException.__getattribute__") && PySem.W.findIn K (.ref C) "__getattr__"==some none &&
 PySem.W.findIn K (.ref C) "__setattr__"==some (some<|.builtin "object.__setattr__") && PySem.W.findIn K (.ref C) "__class__"==some (some<|.builtin "object.__class__") &&
 PySem.W.specialIn K (.builtin "object.__class__") "__get__"==some (some<|.builtin "getset_descriptor.__get__") && PySem.W.takesIn K (.builtin "object.__class__")==some true && PySem.W.mroIn K C (.type "object")==some true
theorem zC9{C:Qg}(q:Ij K C=true):∃ nm qn N bs bm sn sub ab col dd k0 k1 k2 k3 k5,K.lookup C=some (excClassObj nm qn C N bs bm true sn sub ab col dd k0 k1 k2 k3 k5 "ValueError.__new__")/\PySem.W.tailIn K Iu bm=true:=by
 unfold Ij at q;split at q
 .rename_i dd cd sl ho
  split at q
  .rename_i C' bm k0 k1 k2 k3 m k5 hm hs
   simp only[Bool.and_eq_true,beq_iff_eq,Bool.not_eq_true']at q;obtain⟨⟨⟨⟨rfl,rfl⟩,Aw⟩,u3⟩,ht⟩:=q;have(nm,bs,mro,ns,qn,hd,sn,sub,ab,col,del):=cd;dsimp only at hm Aw u3;subst hm Aw u3;obtain⟨l⟩:=sl;dsimp only at hs;subst hs;exact⟨nm,qn,ns,bs,bm,sn,sub,ab,col,dd,k0,k1,k2,k3,k5,ho,ht⟩
  .cases q
 .cases q
theorem zDa{C:Qg}(q:Bk K C=true):XI K C:=by
 unfold Bk at q;simp only[Bool.and_eq_true,beq_iff_eq]at q;obtain⟨⟨⟨⟨⟨⟨⟨h1,h2⟩,h3⟩,h4⟩,h5⟩,h6⟩,h7⟩,h8⟩:=q;exact⟨⟨zC9 h1,h2,h3,h4⟩,h5,h6,h7,h8⟩
def xr(K:qe)(n:Str):Qb Qg:=match PySem.W.nsIn K mainGlobals n with
 | some (some<|.ref C)=>some C
 | _=>none
theorem M4{n:Str}{C:Qg}(h:XN K n C):xr K n=some C:=by
 unfold xr;rw[show PySem.W.nsIn K mainGlobals n=some (some<|.ref C) from h]
def Ii(K:qe)(tab:Qa (Str×Qa Str))(fl:Qa Str):Bool:=tab.all λp=>match xr K p.1 with
 | some C=>Bk K C && fl.all (λf=>PySem.W.findIn K (.ref C) f==some none) && PySem.W.kitOne K (.ref C) (.type "ValueError")==some (p.2.contains ("ValueError":Str)) &&
   tab.all λp'=>match xr K p'.1 with
    | some C'=>PySem.W.kitOne K (.ref C) (.ref C')==some (decide (p'.1=p.1) || p.2.contains p'.1)
    | none=>false
 | none=>false
theorem Hq:∀ {l:Qa (Str×β)} {n:Str} {b:β},l.lookup n=some b->(n,b)∈l
 | [],_,_,e=>by cases e
 | (m,c)::l,n,b,e=>by
  rw[List.lookup_cons]at e;cases q:(n==m)with
  | true=>
   rw[q]at e;cases e;rw[beq_iff_eq.mp q];exact qr
  | false=>
   rw[q]at e;exact qq _<|Hq e
theorem zDb(h:Ii K tab fl=true):XT K tab fl:=by
 unfold Ii at h;have one:∀ n ups C,tab.lookup n=some ups->XN K n C->(Bk K C && fl.all (λf=>PySem.W.findIn K (.ref C) f==some none) && PySem.W.kitOne K (.ref C) (.type "ValueError")==some (ups.contains ("ValueError":Str)) &&
   tab.all λp'=>match xr K p'.1 with
    | some C'=>PySem.W.kitOne K (.ref C) (.ref C')==some (decide (p'.1=n) || ups.contains p'.1)
    | none=>false)=true:=λn ups C hn xn=>by
  have z:=é.mp h (n,ups) (Hq hn);dsimp only at z;rw[M4 xn]at z;exact z
 refine⟨λn ups C hn xn=>?_,λn ups C hn xn c C' hc xc=>?_,λn ups C hn xn=>?_⟩
 .have z:=one n ups C hn xn
  simp only[Bool.and_eq_true]at z;refine⟨zDa z.1.1.1,λf hf=>?_⟩;exact beq_iff_eq.mp<|é.mp z.1.1.2 f hf
 .have z:=one n ups C hn xn
  simp only[Bool.and_eq_true]at z;have(Iv,hu'):=Option.isSome_iff_exists.mp hc;have y:=é.mp z.2 (c,Iv) (Hq hu');dsimp only at y;rw[M4 xc]at y;exact beq_iff_eq.mp y
 .have z:=one n ups C hn xn
  simp only[Bool.and_eq_true]at z;exact beq_iff_eq.mp z.1.2
section
variable{X:Cx}{C:Qg}{f:Str}{p:Pos}{es:Qa Expr}{t:TA}
end
abbrev RX(α:Type):=(α×En) ⊕ (D×En)
abbrev MX:=En->Qb (RX Ar)
abbrev MXA:=En->Qb (RX<|Qa Ar)
section
variable{EX:jf}{ρ av:En}{A:Qg->Prop}
def mXR(n f:Str)(ma:MA):En->Qb (D×En):=λρ=>(ma ρ).bind λp=>(bC p.2 p.1).bind λus=>(iP us).bind λds=>match ds with
 | [x]=>some (.dict [(.none,.str n),(.str f,x)],p.2)
 | _=>none
def under(tab:Qa (Str×Qa Str))(c:Str):D->Bool
 | .dict ((.none,.str n)::_)=>match tab.lookup n with|some ups=>ups.contains c|none=>false
 | _=>false
end
abbrev FX:=Qa U->Qb ((U×Qa U) ⊕ (D×Qa U))
def spX(K:qe)(n:Nat)(f:FX):Sp:=λvs H Q E=>∃ us r,us.length=n/\Rs K (sm us) (eN vs) H/\f us=some r/\match r with
 | .inl o=>∀ v H',Go K (sm us) (eN vs) H (sm o.2) H'->Rp K H' v o.1->Nw H v o.1->Q v H'
 | .inr o=>∀ a H',Go K (sm us) (eN vs) H (sm o.2) H'->H a=none->RF K H' a o.1->E (.ref a) none H'
structure J8 (P:Qe) (w:Qh) (K:qe) (mg:Str->Qb Qc) (base:Heap) (x:Str) (k:Nat) (ps:Qa Str) (sp:Sp):Prop where
 ex:∃ (f:Qg) (fd:FuncData),cL P w K mg base (CXv P w K) k f fd ps sp/\m5 K fd ps []/\PySem.W.keepIn K (.ref f)=true/\mg x=some (.ref f)
section
variable{X:Cx}{EX:jf}{k:Nat}{p:Pos}{es:Qa Expr}{t:TA}
end
section
variable{EX:jf}{ρ av:En}{A:Qg->Prop}
end
section
variable{X:Cx}{C:Qg}{f:Str}{p:Pos}{es:Qa Expr}{t:TA}{EX:jf}
end
def tyD:D->Qb String
 | .none=>some "NoneType"
 | .bool _=>some "bool"
 | .int _=>some "int"
 | .str _=>some "str"
 | .tuple _=>some "tuple"
 | _=>none
def RY:U->Qb String
 | .d x=>tyD x
 | .l _=>some "list"
 | _=>none
def kU(t T:String):Bool:=t==T || (t == "bool" && T == "int")
def E1:Qa String:=["NoneType", "bool", "int", "str", "tuple", "list"]
theorem VW(K:qe):∀ t∈E1,∀ T∈["int", "bool", "str", "tuple", "list"],PySem.W.kitOne K (.type t) (.type T)=some (kU t T):=by
 have hm:∀ T∈["int", "bool", "str", "tuple", "list"],PySem.W.kitMeta T=true:=by decide +kernel
 have hs:∀ t∈E1,∀ T∈["int", "bool", "str", "tuple", "list"],(PySem.fastBuiltinMro t).map (·.contains (Value.type T))=some (kU t T):=by decide +kernel
 intro t ht T hT;unfold PySem.W.kitOne;split
 .rename_i q
  have e:t=T:=Value.type.inj (beq_iff_eq.mp q);subst e;unfold kU;simp
 .unfold PySem.W.kitCls PySem.W.subIn
  simp only[hm T hT,if_true];exact hs t ht T hT
def iI(T:String)(u:U):Qb U:=(RY u).bind λt=>if t∈E1/\T∈["int", "bool", "str", "tuple", "list"]then some (.d<|.bool<|kU t T)else none
section
theorem zA9{u:U}{t:String}(h:Rp K H v u)(e:RY u=some t):dR K H v (.type t):=by
 cases u with
 | d x=>
  cases x with
  | none=>cases e; cases h; exact .aP
  | bool b=>cases e; cases DF.cJ h; exact .bl _
  | int i=>cases e; cases DF.int_inv h; exact .int _
  | str x=>cases e; cases DF.str_inv h; exact .str _
  | tuple ds=>cases e; have(a,ys,rfl,h1,_):=DF.aI h; exact .tup h1
  | list ds=>cases e
  | dict ds=>cases e
 | l xs=>cases e; have(a,us,rfl,h1,_):=h; exact .lst h1
 | t kvs=>cases e
 | k kvs=>cases e
theorem oQ{me:ME}(h:VE K te me):VE K (rV (HY K)<|m6 te<|m6 (tC<|.ty T) qN) (b9 (iI T) me):=by
 intro ρ σ H a av Q rs e q;obtain⟨⟨a1,aw⟩,e1,e⟩:=bQ e;have(x,ex,e):=bQ e;have(u,eu,e):=bQ e;cases e;refine h ρ σ H a1 _ _ rs e1 λv1 H1 g1 k1=>?_;have p:=k1.now rs g1 ex;unfold iI at eu;have(t,et,eu):=bQ eu;split at eu
 .rename_i hc
  cases eu;exact⟨v1,.type t,T,_,rfl,zA9 p et,VW K t hc.1 T hc.2,q _ _ g1 ⟨DF.bl _,Nw.data⟩⟩
 .cases eu
def xq(x:D)(ds:Qa D):Qb Bool:=(AF x).bind λw=>(ds.mapM AF).bind λws=>some<|Jf w ws
def sR(neg:Bool)(a b:U):Qb U:=match a with
 | .d x=>b.items.bind λds=>(xq x ds).bind λr=>some<|.d<|.bool (if neg=true then !r else r)
 | _=>none
theorem EZ(neg:Bool):VO K (yQ K neg) (sR neg):=by
 intro x y a b u H Q ha hb e q;cases a with
 | d d=>
  have(ds,e1,e):=bQ (show b.items.bind _=some u from e);have(r,e2,e):=bQ e;have(w,e3,e2):=bQ e2;have(ws,e4,e2):=bQ e2;cases e2;cases e;have(p,ys,rfl,sq,df):=hb.items e1;have(rfl,f1):=M6 ha e3;have(rfl,f2):=M5 df e4;exact⟨p,_,rfl,sq,f1,f2,q _ _ (cN.refl H) (by cases neg<;>exact DF.bl _) Nw.data⟩
 | _=>cases e
def Eh:D->Qb Bool
 | .bool b=>some b
 | _=>none
theorem M3:∀ {us:Qa V} {ds:Qa D} {bs:Qa Bool},aR K H us ds->ds.mapM Eh=some bs->us=bs.map V.bl
 | _,_,bs,.nil,e=>by cases e; rfl
 | _,_,bs,.cons (d:=d) h t,e=>by
  rw[List.mapM_cons]at e;have(y,e1,e):=bQ e;have(pF,e2,e):=bQ e;cases e;cases d with
  | bool x=>cases e1; cases DF.cJ h; rw[M3 t e2]; rfl
  | _=>cases e1
def A2(u:U):Qb U:=u.items.bind λds=>(ds.mapM Eh).bind λbs=>some<|.d<|.bool<|bs.all id
theorem zBa:VC K (RI K) (f1 A2):=oz λv a u H Q h e q=>by
 have(ds,ex,e):=bQ e;have(bs,eb,e):=bQ e;cases e;have(p,ys,rfl,s,d):=h.items ex;cases M3 d eb;exact⟨p,bs,rfl,s,q _ _ (λ_ _ z=>z) (.bl _) Nw.data⟩
def tV(f f':U->U->Qb U)(ma mb mc:ME):ME:=λρ=>(ma ρ).bind λp=>(mb p.2).bind λq=>(p.1.get q.2).bind λx=>(q.1.get q.2).bind λy=>(f x y).bind λr=>match r with
 | .d (.bool true)=>(mc q.2).bind λs=>(q.1.get s.2).bind λy'=>(s.1.get s.2).bind λz=>(f' y' z).bind λu=>some (.u u,s.2)
 | .d (.bool false)=>some (.u<|.d<|.bool false,q.2)
 | _=>none
theorem B3{r r':R2}{f f':U->U->Qb U}{tc:TE}{ma mb mc:ME}(h:VO K r f)(h':VO K r' f')(ha:VE K ta ma)(hb:VE K tb mb)(hc:VE K tc mc):VE K (xX r r' ta tb tc) (tV f f' ma mb mc):=by
 intro ρ σ H a av Q rs e q;obtain⟨⟨a1,aw⟩,e1,e⟩:=bQ e;obtain⟨⟨b1,aB⟩,e2,e⟩:=bQ e;have(x,ex,e):=bQ e;have(y,ey,e):=bQ e;have(rr,er,e):=bQ e;refine ha ρ σ H a1 aw _ rs e1 λv1 H1 g1 k1=>hb aw σ H1 b1 aB _ g1.rs e2 λv2 H2 g2 k2=>?_;refine h _ _ x y rr H2 _ (k1.later rs g1 g2 ex) (k2.now g1.rs g2 ey) er λv H3 s p n=>?_;have g3:=Go.grow g2.rs s;split at e
 .cases DF.cJ p
  refine⟨true,rfl,?_⟩;rw[if_pos rfl];obtain⟨⟨c1,gM⟩,e3,e⟩:=bQ e;have(y',ey',e):=bQ e;have(z,ez,e):=bQ e;have(u,eu,e):=bQ e;cases e;refine hc aB σ H3 c1 _ _ g3.rs e3 λv3 H4 g4 k4=>?_;refine h' _ _ y' z u H4 _ (k2.later g1.rs g2 (g3.trans g4) ey') (k4.now g3.rs g4 ez) eu λw H5 s5 p5 n5=>?_;exact q w H5 ((((g1.trans g2).trans g3).trans g4).trans<|Go.grow g4.rs s5) ⟨p5,n5.mono λb hb=>(g1.trans g2).dm b<|g3.dm b<|g4.dm b hb⟩
 .cases DF.cJ p
  cases e;refine⟨false,rfl,?_⟩;rw[if_neg (by decide)];exact q _ H3 ((g1.trans g2).trans g3) ⟨DF.bl _,Nw.data⟩
 .cases e
def xO:U->U->Qb U
 | .d (.str z),.d (.int n)=>if 0<=n/\n<=1 then some (.d<|.str<|vz z n)else none
 | _,_=>none
theorem VV:VO K (λx y H Q=>∃ z n,x=.str z/\y=.int n/\0<=n/\n<=1/\Q (.str<|vz z n) H) xO:=by
 intro x y a b u H Q ha hb e q;unfold xO at e;split at e
 .split at e
  .rename_i z n hc
   cases e;exact⟨z,n,DF.str_inv ha,DF.int_inv hb,hc.1,hc.2,q _ _ (cN.refl H) (DF.str _) Nw.data⟩
  .cases e
 .cases e
end
section
variable{X:Cx}
end
section
variable{I:Qg}{wr:Qa Qg}{ks:Qa Key}{P:Nat->Qc->Prop}{St:Nat->Qd->Prop}
end
section
end
section
variable{X:Cx}
theorem GS{a b c:Expr}{tc:TE}{iU:CmpOp}{r r':R2}(ho:bN X (compareOp op) r)(fO:bN X (compareOp iU) r')(ha:Wr (PE X a ta))(hb:Wr (PE X b tb))(hc:Wr (PE X c tc))(hm:lastMarks [op,iU] [b,c]=false:=by rfl):
  Wr (PT X (.Compare a [op,iU] [b,c] pos)<|xE<|xX r r' ta tb tc):=⟨Zp ho fO ha.run hb.run hc.run hm⟩
def Lv(K:qe):R2:=λx y H Q=>E5 K x y H Q\/∃ a b,x=.ref a/\y=.ref b/\br K H a []/\(∃ ys,br K H b ys)/\Q y H
end
section
variable{X:Cx}
theorem VR{t b:Qg}{ws:Qa Qc}(ht:IsTup s.heap t #[])(hb:IsTup s.heap b ws.toArray)(h:Q (.ref b) s):wpAny (model prog w) A (binaryOp .Add (.ref t)<|.ref b) Q E s:=by
 obtain⟨⟨c1,d1,o1,s1⟩,h1,z1,n1,y1⟩:=id ht;obtain⟨⟨c2,d2,o2,s2⟩,h2,z2,n2,y2⟩:=id hb;cases(show c1=_ from z1);cases(show c2=_ from z2);cases(show o1=_ from y1);cases(show o2=_ from y2);have mt:=tuple_addW0 t b #[] ws.toArray n1 n2 d1 d2 s1 s2 rfl;exact concat_meets ⟨_,h1,rfl⟩ ⟨_,h2,rfl⟩ noFill_tuple_add seq_tuple_add PySem.F.slot_tuple_add PySem.F.entry_tuple_add (PySem.F.args_tuple_add_2 _ _) mt ⟨h1,h2,h⟩
theorem CG(hK:X.K=K:=by rfl):bN X (binaryOp .Add) (Lv K):=by
 subst hK;intro pins s σ H x y v u Q I rx ry h;rcases h with h|⟨a,b,rfl,rfl,ha,⟨ys,hb⟩,q⟩
 .exact WB pins s σ H x y v u Q I rx ry h
 .cases rx
  cases ry;have(ah,r1,p1,_):=I.tuple ha;have(eC,r2,p2,_):=I.tuple hb;cases r1;exact VR p1 p2 ⟨.ref b,H,I,rfl,q⟩
def rF:U->U->Qb U
 | .d (.tuple []),.d (.tuple ys)=>some<|.d<|.tuple ys
 | a,b=>xH a b
theorem CF:VO K (Lv K) rF:=by
 intro x y a b u H Q ha hb e q;unfold rF at e;split at e
 .cases e
  have(p,us,rfl,h1,h2):=DF.aI ha;have(p',gC,rfl,jG,i6):=DF.aI hb;cases h2;exact .inr ⟨p,p',rfl,rfl,(aX.sq h1),⟨gC,(aX.sq jG)⟩,q _ _ (cN.refl H) hb Nw.data⟩
 .exact .inl (WX x y _ _ u H Q ha hb e q)
end
def nZ(K:qe)(g:Qg)(ns:Qa Int):Prop:=∃ (o:Obj) (ah:Array Qc) (n:Nat),K.lookup g=some o/\o.cls=.type "tuple"/\o.data=.seq ah n/\ah.size<=sizeLine/\zW (ns.map V.int) ah.toList
section
variable{X:Cx}
theorem nZ.sq{g:Qg}(h:nZ K g ns):br K H g (ns.map V.int):=.inr h
theorem N8:∀ (ns:Qa Int),gX K H (ns.map V.int)<|ns.map PyData.int
 | []=>.nil
 | n::ns=>.cons (.int n)<|N8 ns
theorem nZ.dv{g:Qg}(h:nZ K g ns):DV K H (.ref g) (.tuple<|ns.map PyData.int):=.tup h.sq (N8 ns)
def A0(neg:Bool)(ns:Qa Int)(a:U):Qb U:=kJ neg a (.d<|.tuple<|ns.map PyData.int)
theorem zDc{neg:Bool}{g:Qg}{me:ME}(gt:nZ K g ns)(h:VE K te me):VE K (nG (Bi K neg) te<|tC<|.ref g) (b9 (A0 neg ns) me):=by
 intro ρ σ H a av Q rs e q;obtain⟨⟨a1,aw⟩,e1,e⟩:=bQ e;have(x,ex,e):=bQ e;have(u,eu,e):=bQ e;cases e;refine h ρ σ H a1 _ _ rs e1 λv1 H1 g1 k1=>?_;have p:=k1.now rs g1 ex;have(dx,e2,eu):=bQ eu;have(dy,e3,eu):=bQ eu;cases e3;split at eu
 .rename_i hs
  cases eu;exact⟨dx,_,p.dv e2<|CS _<|SeqAt.canLay_of_shaped hs.1,gt.dv,hs.1,hs.2,q _ _ g1 ⟨DF.bl _,Nw.data⟩⟩
 .cases eu
end
theorem nr{α:Sort _}{a b:α}(h:a=b):a=b:=h
structure Ph {α:Type} (a:α):Type where
 n:Nat
def Wo(o:Qb α)(Q:α->Prop):Prop:=∃ a,o=some a/\Q a
def Co(f:α->Qb β)(t:Ph f)(Q:β->Prop)(a:α):Prop:=Wo (f a) Q
section
variable{a:α}{o:Qb α}{f:α->Qb β}{Q:α->Prop}{R:β->Prop}
theorem eW:Wo (some a) Q=Q a:=propext ⟨λ⟨_,e,h⟩=>(by cases e; exact h),λh=>⟨a,rfl,h⟩⟩
theorem zt:Wo (o.bind f) R=Wo o (Co f ⟨0⟩ R):=propext (by
 cases o with
 | none=>exact⟨λ⟨_,e,_⟩=>(by cases e),λ⟨_,e,_⟩=>(by cases e)⟩
 | some a=>rw[eW]; exact Iff.rfl)
theorem iM{t:Ph f}:Co f t R a=Wo (f a) R:=rfl
theorem jP{c:Prop}[Decidable c]{x y:Qb α}(h:c->Wo x Q)(h':¬c->Wo y Q):Wo (if c then x else y) Q:=by
 split
 .exact h ‹_›
 .exact h' ‹_›
end
section
variable{ρ:En}{me ma mb mc mk mi md my mv mo:ME}{mA mK:MA}{mt mu:MT}{mI:MI}{mg:MG}{m1 m2:MS}{u:U}{x:D}{mx:MX}{mXA:MXA}
variable{QE:Ar×En->Prop}{QA:Qa Ar×En->Prop}{QT:Bool×En->Prop}{QS:Fl->Prop}{QI:Qa D×En->Prop}{QO:Qb Int×En->Prop}{QG:En->Prop}{QX:RX Ar->Prop}{QXA:RX (Qa Ar)->Prop}{QR:D×En->Prop}{QF:U×Qa U->Prop}{QFX:(U×Qa U) ⊕ (D×Qa U)->Prop}
theorem Nb:Wo (zi i ρ) QE=Wo (ρ[i]?).join (Co (λ_=>some (.s i,ρ)) ⟨0⟩ QE):=by rw[zAK,zt]
theorem RS:Wo (mC x ρ) QE=QE (.u<|.d x,ρ):=by rw[zD0,eW]
def AZ(f:U->U->Qb U)(a:Ar)(q:Ar×En):Qb (Ar×En):=(a.get q.2).bind λx=>(q.1.get q.2).bind λy=>(f x y).bind λu=>some (.u u,q.2)
def Jc(f:U->U->Qb U)(mb:ME)(p:Ar×En):Qb (Ar×En):=(mb p.2).bind (AZ f p.1)
theorem Vh{f:U->U->Qb U}:Wo (af f ma mb ρ) QE=Wo (ma ρ) (Co (Jc f mb) ⟨0⟩ QE):=by rw[zCB,zt]; rfl
theorem YB{f:U->U->Qb U}{p:Ar×En}:Wo (Jc f mb p) QE=Wo (mb p.2) (Co (AZ f p.1) ⟨0⟩ QE):=by unfold Jc; rw[zt]
theorem zDd{f:U->Qb U}:Wo (b9 f ma ρ) QE=Wo (ma ρ) (Co (λp=>(p.1.get p.2).bind λx=>(f x).bind λu=>some (.u u,p.2)) ⟨0⟩ QE):=by rw[zCC,zt]
theorem Na:Wo (zq ρ) QA=QA ([],ρ):=by rw[zAL,eW]
theorem VQ:Wo (zf me mA ρ) QA=Wo (me ρ) (Co (λp=>(mA p.2).bind λq=>some (p.1::q.1,q.2)) ⟨0⟩ QA):=by rw[WT,zt]
theorem YA:Wo (cM mA ρ) QE=Wo (mA ρ) (Co (λp=>(bC p.2 p.1).bind λus=>(iP us).bind λds=>if ds.length<=sizeLine then some (.u<|.d<|.tuple ds,p.2)else none) ⟨0⟩ QE):=by rw[zAM,zt]
theorem Zc:Wo (fL mA ρ) QE=Wo (mA ρ) (Co (λp=>(bC p.2 p.1).bind λus=>(iP us).bind λds=>if ds.length<=sizeLine then some (.u<|.l ds,p.2)else none) ⟨0⟩ QE):=by rw[zAN,zt]
theorem zDe{f:Qa U->Qb U}:Wo (ba f mA ρ) QE=Wo (mA ρ) (Co (λp=>(bC p.2 p.1).bind λus=>(f us).bind λu=>some (.u u,p.2)) ⟨0⟩ QE):=by rw[zCD,zt]
theorem Zb{f:Qa U->Qa U->Qb U}:Wo (Bc f mA mK ρ) QE=Wo (mA ρ) (Co (λp=>(mK p.2).bind λq=>(bC q.2 p.1).bind λus=>(bC q.2 q.1).bind λws=>(f us ws).bind λu=>some (.u u,q.2)) ⟨0⟩ QE):=by rw[zAO,zt]
theorem zBc{f:FD}:Wo (zP f mA ρ) QE=Wo (mA ρ) (Co (λp=>if gP p.2 p.1=true then(bC p.2 p.1).bind λus=>(f us).bind λo=>some (.u o.1,wb p.2 p.1 o.2)else none) ⟨0⟩ QE):=by rw[zAP,zt]
theorem Za:Wo (zB m1 m2 ρ) QS=Wo (m1 ρ) (Co (k7 m2) ⟨0⟩ QS):=by rw[zAR,zt]
theorem zBd:Wo (zY i me ρ) QS=Wo (me ρ) (Co (λp=>(put p).bind λq=>some<|.nx<|q.2.set i<|some q.1) ⟨0⟩ QS):=by rw[zAS,zt]
theorem Y9:Wo (bg me ρ) QS=Wo (me ρ) (Co (λp=>(put p).bind λq=>some<|.rt q.1 q.2) ⟨0⟩ QS):=by rw[zAT,zt]
theorem zp7:Wo (jo pn i ρ) QS=Wo (if i∈pn then none else(ρ[i]?).join.bind λu=>some<|.rt u<|ρ.set i none) QS:=by rw[WS]
theorem Oc:Wo (cy ρ) QS=QS (.nx ρ):=by rw[WR,eW]
theorem VP:Wo (cD me ρ) QS=Wo (me ρ) (Co (λp=>some<|.nx p.2) ⟨0⟩ QS):=by rw[WQ,zt]
theorem zBe:Wo (bw mt m1 m2 ρ) QS=Wo (mt ρ) (Co (λp=>if p.1=true then m1 p.2 else m2 p.2) ⟨0⟩ QS):=by rw[zAU,zt]
theorem Y8:Wo (wU mt ma mb ρ) QE=Wo (mt ρ) (Co (λp=>if p.1=true then ma p.2 else mb p.2) ⟨0⟩ QE):=by rw[zCG,zt]
theorem zD2:Wo (mB me ρ) QT=Wo (me ρ) (Co (λp=>(p.1.get p.2).bind λu=>u.vm.bind λb=>some (b,p.2)) ⟨0⟩ QT):=by rw[zD1,zt]
theorem Y7:Wo (om mt mu ρ) QT=Wo (mt ρ) (Co (λp=>if p.1=true then mu p.2 else some (false,p.2)) ⟨0⟩ QT):=by rw[zAV,zt]
theorem Vg:Wo (gc mt mu ρ) QT=Wo (mt ρ) (Co (λp=>if p.1=true then some (true,p.2)else mu p.2) ⟨0⟩ QT):=by rw[zCH,zt]
theorem Y6:Wo (iw mt ρ) QT=Wo (mt ρ) (Co (λp=>some (!p.1,p.2)) ⟨0⟩ QT):=by rw[zAW,zt]
theorem zp8:Wo (tR ma mb ρ) QE=Wo (mB ma ρ) (Co (λp=>if p.1=true then mb p.2 else some (.u<|.d<|.bool false,p.2)) ⟨0⟩ QE):=by rw[Xe,zt]
theorem zp9:Wo (xJ ma ρ) QE=Wo (mB ma ρ) (Co (λp=>some (.u<|.d<|.bool (!p.1),p.2)) ⟨0⟩ QE):=by rw[Xd,zt]
theorem Y5:Wo (Bh ma ρ) QT=Wo (ma ρ) (Co (λp=>(p.1.get p.2).bind λu=>u.yJ.bind λb=>some (b,p.2)) ⟨0⟩ QT):=by rw[zAX,zt]
theorem Y4:Wo (mU ρ) QT=QT (true,ρ):=by rw[zAY,eW]
theorem Y3:Wo (cB i me ρ) QE=Wo (ρ[i]?).join (Co (λw=>w.lo.bind λ_=>(me ρ).bind λp=>(p.1.get p.2).bind λu=>u.da.bind λx=>(p.2[i]?).join.bind λw=>w.lo.bind λxs=>if xs.length < sizeLine then some (.u<|.d .none,p.2.set i<|some<|.l<|xs++[x])else none) ⟨0⟩ QE):=by rw[zAZ,zt]
theorem zm2:Wo (t7 i me mi ρ) QS=Wo (ρ[i]?).join (Co (λ_=>(me ρ).bind λp=>(mi p.2).bind λq=>(p.1.get q.2).bind λu=>(q.1.get q.2).bind λw=>u.da.bind λx=>w.num.bind λk=>(q.2[i]?).join.bind λz=>z.lo.bind λxs=>(d4 xs.length k).bind λj=>some<|.nx<|q.2.set i<|some<|.l<|xs.set j x) ⟨0⟩ QS):=by rw[YM,zt]
def xN(w:U)(y x:D):Qb U:=match w with
 | .t kvs=>(dh y).bind λk=>if kvs.length < sizeLine then some (.t<|gO kvs k x)else none
 | .k kvs=>(tw y).bind λk=>if kvs.length < sizeLine then some (.k<|gO kvs k x)else none
 | _=>none
theorem VN:kM i my mv ρ=(ρ[i]?).join.bind λ_=>(mv ρ).bind λp=>(my p.2).bind λq=>(p.1.get q.2).bind λx=>(q.1.get q.2).bind λy=>x.da.bind λx=>y.da.bind λy=>(q.2[i]?).join.bind λw=>(xN w y x).bind λz=>some (.nx<|q.2.set i<|some z):=by
 unfold kM;refine bind_fn λ_=>bind_fn λp=>bind_fn λq=>bind_fn λx=>bind_fn λy=>?_;cases x with
 | l=>rfl
 | t=>rfl
 | k=>rfl
 | d x=>
  cases y with
  | l=>rfl
  | t=>rfl
  | k=>rfl
  | d y=>
   show _=((q.2[i]?).join.bind _);cases q.2[i]? with
   | none=>rfl
   | some o=>
    cases o with
    | none=>rfl
    | some w=>
     cases w with
     | l=>rfl
     | d=>rfl
     | t kvs=>
      show(dh y).bind _=((dh y).bind _).bind _;cases dh y with
      | none=>rfl
      | some k=>
       show(if _ then _ else _)=(if _ then _ else _:Qb U).bind _;split<;>rfl
     | k kvs=>
      show(tw y).bind _=((tw y).bind _).bind _;cases tw y with
      | none=>rfl
      | some k=>
       show(if _ then _ else _)=(if _ then _ else _:Qb U).bind _;split<;>rfl
theorem zqa:Wo (kM i my mv ρ) QS=Wo (ρ[i]?).join (Co (λ_=>(mv ρ).bind λp=>(my p.2).bind λq=>(p.1.get q.2).bind λx=>(q.1.get q.2).bind λy=>x.da.bind λx=>y.da.bind λy=>(q.2[i]?).join.bind λw=>(xN w y x).bind λz=>some<|.nx<|q.2.set i<|some z) ⟨0⟩ QS):=by rw[VN,zt]
theorem zqb:Wo (jk md my ρ) QE=Wo (md ρ) (Co (λp=>(my p.2).bind λq=>(p.1.get q.2).bind λu=>(q.1.get q.2).bind λy=>(mV u y).bind λo=>o.bind λd=>some (.u<|.d d,q.2)) ⟨0⟩ QE):=by rw[Xc,zt]
theorem zm4:Wo (kP ρ) QE=QE (.u<|.t [],ρ):=by rw[YL,eW]
theorem Vf:Wo (dN me ρ) QE=Wo (me ρ) (Co (λp=>(p.1.get p.2).bind λu=>u.fz.bind λx=>some (.u<|.d x,DX x p)) ⟨0⟩ QE):=by rw[zCK,zt]
theorem Ve{g:U->Qb (Qa D)}:Wo (de g me ρ) QI=Wo (me ρ) (Co (λp=>(p.1.get p.2).bind λu=>(g u).bind λds=>some (ds,p.2)) ⟨0⟩ QI):=by rw[zCO,zt]
theorem Vd{n:Int}(h:-4611686018427387904<=n)(h2:n < 4611686018427387904):Bn [.d<|.int n]=some (gB 0 n.toNat):=by rw[zA0,if_pos ⟨by omega,by omega⟩]
theorem zqc:Wo (jn mA ρ) QI=Wo (mA ρ) (Co (λp=>(bC p.2 p.1).bind λus=>(Bn us).bind λds=>some (ds,p.2)) ⟨0⟩ QI):=by rw[Xb,zt]
def HP:Qa U->Qb (Qa D)
 | [.d<|.int i,.d<|.int j]=>if -(2^62)<=i/\i < 2^62/\-(2^62)<=j/\j < 2^62 then some (gB i (j - i).toNat)else none
 | _=>none
theorem Vc{a:Int}(h:-4611686018427387904<=a)(h2:a < 4611686018427387904)(h3:-4611686018427387904<=b)(h4:b < 4611686018427387904):HP [.d<|.int a,.d<|.int b]=some (gB a (b - a).toNat):=by
 show(if _ then _ else _)=_;rw[if_pos ⟨by omega,by omega,by omega,by omega⟩]
theorem VM:BG mA ρ=(mA ρ).bind λp=>(bC p.2 p.1).bind λus=>(HP us).bind λds=>some (ds,p.2):=bind_fn λp=>bind_fn λus=>by
 match us with
 | []=>rfl
 | [.d<|.int i,.d<|.int j]=>
  show(if _ then _ else _)=(if _ then _ else _:Qb (Qa D)).bind _;split<;>rfl
 | [.d x]=>cases x<;>rfl
 | [.l _]=>rfl
 | [.t _]=>rfl
 | [.k _]=>rfl
 | [.d x,.d y]=>cases x<;>(try rfl)<;>(cases y<;>(try rfl)<;>(show(if _ then _ else _)=(if _ then _ else _:Qb (Qa D)).bind _; split<;>rfl))
 | [.d x,.l y]=>cases x<;>rfl
 | [.d x,.t y]=>cases x<;>rfl
 | [.d x,.k y]=>cases x<;>rfl
 | [.l _,_]=>rfl
 | [.t _,_]=>rfl
 | [.k _,_]=>rfl
 | a::b::c::us=>
  cases a with
  | d x=>cases x<;>(try rfl)<;>(cases b with
   | d y=>cases y<;>rfl
   | l=>rfl
   | t=>rfl
   | k=>rfl)
  | l=>rfl
  | t=>rfl
  | k=>rfl
theorem zqd:Wo (BG mA ρ) QI=Wo (mA ρ) (Co (λp=>(bC p.2 p.1).bind λus=>(HP us).bind λds=>some (ds,p.2)) ⟨0⟩ QI):=by rw[VM,zt]
def E3:Qa U->Qb (Qa D)
 | [.d<|.tuple ds]=>some<|nD 0 ds
 | _=>none
theorem zqe{ds:Qa D}:E3 [.d<|.tuple ds]=some (nD 0 ds):=rfl
theorem VL:BF mA ρ=(mA ρ).bind λp=>(bC p.2 p.1).bind λus=>(E3 us).bind λds=>some (ds,p.2):=bind_fn λp=>bind_fn λus=>by
 match us with
 | []=>rfl
 | [.d x]=>cases x<;>rfl
 | [.l _]=>rfl
 | [.t _]=>rfl
 | [.k _]=>rfl
 | .d x::b::us=>cases x<;>rfl
 | .l x::b::us=>rfl
 | .t x::b::us=>rfl
 | .k x::b::us=>rfl
theorem zqf:Wo (BF mA ρ) QI=Wo (mA ρ) (Co (λp=>(bC p.2 p.1).bind λus=>(E3 us).bind λds=>some (ds,p.2)) ⟨0⟩ QI):=by rw[VL,zt]
theorem Y2:Wo (cW mI mg m1 ρ) QS=Wo (mI ρ) (Co (λp=>gv mg m1 p.1 p.2) ⟨0⟩ QS):=by rw[zA1,zt]
theorem Y1:Wo (kS mI nt js mg mt me ρ) QE=Wo (mI ρ) (Co (λp=>(iX nt mg mt me p.1 (eR nt js p.2) []).bind λq=>some (.u<|.l q.1,back js (q.2.drop nt) p.2)) ⟨0⟩ QE):=by rw[zCP,zt]
theorem Vb{f:U->Qb Int->Qb Int->Qb U}{ml mh:MO}:Wo (uL f me ml mh ρ) QE=Wo (me ρ) (Co (λp=>(ml p.2).bind λl=>(mh l.2).bind λh=>(p.1.get h.2).bind λx=>(f x l.1 h.1).bind λu=>some (.u u,h.2)) ⟨0⟩ QE):=by rw[zCQ,zt]
theorem zkN:Wo (wk ρ) QO=QO (none,ρ):=by rw[zrI,eW]
theorem zqg:Wo (qZ me ρ) QO=Wo (me ρ) (Co (λp=>(p.1.get p.2).bind λu=>u.num.bind λi=>some (some i,p.2)) ⟨0⟩ QO):=by rw[Xa,zt]
theorem Y0:Wo (vG i j mA ρ) QS=Wo (mA ρ) (Co (λp=>(bC p.2 p.1).bind λus=>(Il us).bind λz=>some<|.nx<|(p.2.set i<|some<|.d z.1).set j<|some<|.d z.2) ⟨0⟩ QS):=by rw[zA3,zt]
theorem YZ:Wo (oh me mg ρ) QS=Wo (me ρ) (Co (λp=>(p.1.get p.2).bind λu=>u.da.bind λd=>(mg d p.2).bind λav=>some<|.nx av) ⟨0⟩ QS):=by rw[zA4,zt]
theorem zm5:Wo (zC i x ρ) QG=QG (ρ.set i<|some<|.d x):=by rw[YH,eW]
theorem zqh{gs:Qa D->En->Qb En}{ds:Qa D}:Wo (fM n gs (.tuple ds) ρ) QG=Wo (if ds.length=n then gs ds ρ else none) QG:=by rw[W9]
theorem zm6{g:MG}{gs:Qa D->En->Qb En}{ds:Qa D}:Wo (cn g gs (x::ds) ρ) QG=Wo (g x ρ) (Co (λaw=>gs ds aw) ⟨0⟩ QG):=by rw[YG,zt]
theorem zqi:Wo (f7 [] ρ) QG=QG ρ:=by rw[W8,eW]
theorem Va{ty:U->Bool}{f:U->U->Qb U}:Wo (DR ty f mo ma ρ) QE=Wo (mo ρ) (Co (λp=>(p.1.get p.2).bind λx0=>if ty x0=true then(ma p.2).bind λq=>(p.1.get q.2).bind λx=>(q.1.get q.2).bind λy=>(f x y).bind λu=>some (.u u,q.2)else none) ⟨0⟩ QE):=by
 show Wo (Option.bind _ _) QE=_;rw[zt]
theorem U9{z:Str}:yH (.d<|.str z)=true:=rfl
theorem YY{f f':U->U->Qb U}:tV f f' ma mb mc ρ=(ma ρ).bind λp=>(mb p.2).bind λq=>(p.1.get q.2).bind λx=>(q.1.get q.2).bind λy=>(f x y).bind λr=>r.vm.bind λb=>if b=true then(mc q.2).bind λs=>(q.1.get s.2).bind λy'=>(s.1.get s.2).bind λz=>(f' y' z).bind λu=>some (.u u,s.2)else some (.u<|.d<|.bool false,q.2):=by
 refine bind_fn λp=>bind_fn λq=>bind_fn λx=>bind_fn λy=>bind_fn λr=>?_;cases r with
 | d x=>cases x with
  | bool b=>cases b<;>rfl
  | _=>rfl
 | l=>rfl
 | t=>rfl
 | k=>rfl
theorem zm7{f f':U->U->Qb U}:Wo (tV f f' ma mb mc ρ) QE=Wo (ma ρ) (Co (λp=>(mb p.2).bind λq=>(p.1.get q.2).bind λx=>(q.1.get q.2).bind λy=>(f x y).bind λr=>r.vm.bind λb=>if b=true then(mc q.2).bind λs=>(q.1.get s.2).bind λy'=>(s.1.get s.2).bind λz=>(f' y' z).bind λu=>some (.u u,s.2)else some (.u<|.d<|.bool false,q.2)) ⟨0⟩ QE):=by rw[YY,zt]
def x1:Qa D->Qb D
 | [x]=>some x
 | _=>none
theorem YX{us:Qa U}:Wo (bE n pn m1 us) QF=Wo (m1<|sm us++List.replicate (n - us.length) none) (Co (Ik pn us) ⟨0⟩ QF):=by rw[zA6,zt]
def oP(Q:Fl->Prop)(P:En->Prop):Fl->Prop
 | .nx ρ=>P ρ
 | .ct ρ=>P ρ
 | .bk ρ=>Q<|.nx ρ
 | .rt u ρ=>Q<|.rt u ρ
 | .ex x ρ=>Q<|.ex x ρ
theorem zm8{Q:Fl->Prop}{P:En->Prop}:oP Q P (.nx ρ)=P ρ:=rfl
theorem zm9{Q:Fl->Prop}{P:En->Prop}:oP Q P (.ct ρ)=P ρ:=rfl
theorem pe{Q:Fl->Prop}(P:Nat->En->Prop){ds:Qa D}(h0:P 0 ρ)(st:∀ i d ρ,ds[i]?=some d->P i ρ->Wo (mg d ρ) (Co m1 ⟨0⟩<|oP Q<|P<|i+1))(hQ:∀ ρ,P ds.length ρ->Q (.nx ρ)):Wo (gv mg m1 ds ρ) Q:=by
 have main:∀ (es:Qa D) (n:Nat) (ρ:En),n+es.length=ds.length->(∀ i,es[i]?=ds[n+i]?)->P n ρ->Wo (gv mg m1 es ρ) Q:=by
  intro es
  induction es with
  | nil=>
   intro n ρ hn _ hp;show Wo (some _) Q;rw[eW];rw[List.length_nil,Nat.add_zero]at hn;exact hQ ρ<|hn▸hp
  | cons d es ih=>
   intro n ρ hn he hp;have e0:=he 0;rw[List.getElem?_cons_zero,Nat.add_zero]at e0;have(aw,e1,f,e2,k):=st n d ρ e0.symm hp;have jz:∀ aB,P (n+1) aB->Wo (gv mg m1 es aB) Q:=λaB z=>ih (n+1) aB (by rw[qx]at hn; omega) (λi=>by
    have:=he (i+1);rw[List.getElem?_cons_succ]at this;rw[this,show n+(i+1)=n+1+i by omega]) z
   unfold gv;rw[zt];refine⟨aw,e1,?_⟩;rw[iM,zt];refine⟨f,e2,?_⟩;rw[iM];cases f with
   | nx aB=>exact jz aB k
   | ct aB=>exact jz aB k
   | bk aB=>exact⟨_,rfl,k⟩
   | rt u aB=>exact⟨_,rfl,k⟩
   | ex x aB=>exact⟨_,rfl,k⟩
 exact main ds 0 ρ (by omega) (λi=>by rw[Nat.zero_add]) h0
theorem j7{g:α->D}{Q:Fl->Prop}(P:Qa α->Qa α->En->Prop)(h0:P [] as ρ)(st:∀ bs a cs ρ,as=bs++a::cs->P bs (a::cs) ρ->Wo (mg (g a) ρ) (Co m1 ⟨0⟩<|oP Q<|P (bs++[a]) cs))(hQ:∀ ρ,P as [] ρ->Q (.nx ρ)):Wo (gv mg m1 (as.map g) ρ) Q:=by
 have main:∀ (cs bs:Qa α) (ρ:En),as=bs++cs->P bs cs ρ->Wo (gv mg m1 (cs.map g) ρ) Q:=by
  intro cs
  induction cs with
  | nil=>
   intro bs ρ e hp;rw[List.append_nil]at e;subst e;exact⟨_,rfl,hQ ρ hp⟩
  | cons a cs ih=>
   intro bs ρ e hp;have(aw,e1,f,e2,k):=st bs a cs ρ e hp;have jz:∀ aB,P (bs++[a]) cs aB->Wo (gv mg m1 (cs.map g) aB) Q:=λaB z=>ih (bs++[a]) aB (by rw[e,List.append_assoc]; rfl) z;rw[List.map_cons];unfold gv;rw[zt];refine⟨aw,e1,?_⟩;rw[iM,zt];refine⟨f,e2,?_⟩;rw[iM];cases f with
   | nx aB=>exact jz aB k
   | ct aB=>exact jz aB k
   | bk aB=>exact⟨_,rfl,k⟩
   | rt u aB=>exact⟨_,rfl,k⟩
   | ex x aB=>exact⟨_,rfl,k⟩
 exact main as [] ρ rfl h0
def wX(nt:Nat)(me:ME)(ys:Qa D)(P:En->Qa D->Prop)(p:Bool×En):Prop:=if p.1=true then Wo (me p.2) (Co (λq=>(q.1.get q.2).bind λu=>u.da.bind λy=>some (reset nt q.2,ys++[y])) ⟨0⟩ λz=>P z.1 z.2)else P (reset nt p.2) ys
theorem LB{ys:Qa D}{P:En->Qa D->Prop}:wX nt me ys P (true,ρ)=Wo (me ρ) (Co (λq=>(q.1.get q.2).bind λu=>u.da.bind λy=>some (reset nt q.2,ys++[y])) ⟨0⟩ λz=>P z.1 z.2):=rfl
theorem U8{ys:Qa D}{P:En->Qa D->Prop}:wX nt me ys P (false,ρ)=P (reset nt ρ) ys:=rfl
theorem KH{Q:Qa D×En->Prop}(P:Nat->En->Qa D->Prop){ds:Qa D}(hz:ds.length<=sizeLine)(hP:∀ i ρ ys,P i ρ ys->ys.length<=i)(h0:P 0 ρ [])(st:∀ i d ρ ys,ds[i]?=some d->P i ρ ys->Wo (mg d ρ) (Co mt ⟨0⟩<|wX nt me ys<|P<|i+1))(hQ:∀ ρ ys,P ds.length ρ ys->Q (ys,ρ)):Wo (iX nt mg mt me ds ρ []) Q:=by
 have main:∀ (es:Qa D) (n:Nat) (ρ:En) (ys:Qa D),n+es.length=ds.length->(∀ i,es[i]?=ds[n+i]?)->P n ρ ys->Wo (iX nt mg mt me es ρ ys) Q:=by
  intro es
  induction es with
  | nil=>
   intro n ρ ys hn _ hp;rw[List.length_nil,Nat.add_zero]at hn;exact⟨_,rfl,hQ ρ ys<|hn▸hp⟩
  | cons d es ih=>
   intro n ρ ys hn he hp;have e0:=he 0;rw[List.getElem?_cons_zero,Nat.add_zero]at e0;obtain⟨aw,e1,⟨b,aB⟩,e2,k⟩:=st n d ρ ys e0.symm hp;have hl:=hP _ _ _ hp;rw[qx]at hn;have jz:∀ aB DG,P (n+1) aB DG->Wo (iX nt mg mt me es aB DG) Q:=λaB DG z=>ih (n+1) aB DG (by omega) (λi=>by
    have:=he (i+1);rw[List.getElem?_cons_succ]at this;rw[this,show n+(i+1)=n+1+i by omega]) z
   unfold iX;rw[if_pos (by omega),zt];refine⟨aw,e1,?_⟩;rw[iM,zt];refine⟨_,e2,?_⟩;rw[iM];cases b with
   | false=>rw[if_neg qh]; exact jz _ _ k
   | true=>
    rw[if_pos rfl,zt];have(q,e3,k):=k;refine⟨q,e3,?_⟩;rw[iM,zt]at k ⊢;have(u,e4,k):=k;refine⟨u,e4,?_⟩;rw[iM,zt]at k;have(y,e5,z,e6,k):=k;cases u with
    | d y'=>cases e5; cases e6; exact jz _ _ k
    | l=>cases e5
    | t=>cases e5
    | k=>cases e5
 exact main ds 0 ρ [] (by omega) (λi=>by rw[Nat.zero_add]) h0
theorem Nv{Q:Fl->Prop}(P:Nat->En->Prop)(k:Nat)(h0:P k ρ)(st:∀ k ρ,P k ρ->Wo (mt ρ) λp=>if p.1=true then Wo (m1 p.2) (oP Q λav=>∃ k',k' < k/\P k' av)else Q (.nx p.2)):Wo (t8 mt m1 ρ) Q:=by
 have main:∀ (k:Nat) (ρ:En),P k ρ->∃ n f,hE mt m1 n ρ=some f/\Q f:=by
  intro k
  induction k using Nat.strongRecOn with
  | ind k ih=>
   intro ρ hp;obtain⟨⟨b,aw⟩,e1,z⟩:=st k ρ hp;cases b with
   | false=>
    rw[if_neg qh]at z;exact⟨1,_,by unfold hE; rw[e1]; rfl,z⟩
   | true=>
    rw[if_pos rfl]at z;have(f,e2,z):=z;have jz:∀ aB,(∃ k',k' < k/\P k' aB)->f=.nx aB\/f=.ct aB->∃ n f,hE mt m1 n ρ=some f/\Q f:=by
     rintro aB ⟨k',hk,pX⟩ hf;have(n,f',e3,q):=ih k' hk aB pX;refine⟨n+1,f',?_,q⟩;unfold hE;rw[e1,bd,if_pos rfl,e2,bd];rcases hf with rfl|rfl<;>exact e3
    cases f with
    | nx aB=>exact jz aB z<|.inl rfl
    | ct aB=>exact jz aB z<|.inr rfl
    | bk aB=>exact⟨1,_,by unfold hE; rw[e1,bd,if_pos rfl,e2]; rfl,z⟩
    | rt u aB=>exact⟨1,_,by unfold hE; rw[e1,bd,if_pos rfl,e2]; rfl,z⟩
    | ex u aB=>exact⟨1,_,by unfold hE; rw[e1,bd,if_pos rfl,e2]; rfl,z⟩
 have(n,f,e,q):=main k ρ h0;exact⟨f,ZI e,q⟩
end
theorem zU{o:Qb α}{b:α}(h:Wo o (λa=>a=b)):o=some b:=by
 have(a,e,rfl):=h;exact e
theorem qV:sizeLine=16777216:=Eq.trans zl (Eq.symm<|Eq.symm<|Nat.add_zero _)
theorem YW{dc:Decidable (n < 16777216)}{a b:Qb α}(h:n < 16777216):(if n < 16777216 then a else b)=a:=if_pos h
theorem GC{xs:Qa α}{r:Int}(h0:0<=r)(h1:r < (xs.length:Int)):∃ a,bU xs r=some a/\a∈xs/\xs[r.toNat]?=some a:=by
 have hk:r.toNat < xs.length:=by omega
 have ek:r=((r.toNat:Nat):Int):=by omega
 have q:bU xs ((r.toNat:Nat):Int)=some xs[r.toNat]:=WA (qo hk);rw[<-ek]at q;exact⟨_,q,List.getElem_mem hk,qo hk⟩
theorem LA{xs:Qa D}{r:Int}{Q:U->Prop}(h0:0<=r)(h1:r < (xs.length:Int))(k:∀ a∈xs,Q<|.d a):Wo ((bU xs r).map U.d) Q:=by
 have(a,e,m,_):=GC h0 h1;rw[e];exact⟨_,rfl,k a m⟩
theorem FY{f:α->D}{xs:Qa α}{r:Int}{Q:U->Prop}(h0:0<=r)(h1:r < (xs.length:Int))(k:∀ a∈xs,xs[r.toNat]?=some a->Q (.d<|f a)):Wo ((bU (xs.map f) r).map U.d) Q:=by
 have(a,e,m,z):=GC (xs:=xs.map f) h0 (by rw[List.length_map]; exact h1);rw[List.getElem?_map]at z;have(b,hb,rfl):=qv.mp z;rw[e];exact⟨_,rfl,k b (Ì hb) hb⟩
theorem E2{lo:Int}{d:D}(h:(gB lo n)[i]?=some d):i < n/\d=.int (lo+(i:Nat)):=Hc h
theorem BU{lo:Int}:(gB lo n).length=n:=by
 unfold gB;rw[List.length_map,List.length_range]
theorem qX{ρ:En}{mg:MG}{m1:MS}{Q:Fl->Prop}(P:Nat->En->Prop)(h0:P 0 ρ)(st:∀ i ρ,i < n->P i ρ->Wo (mg (.int<|0+(i:Nat)) ρ) (Co m1 ⟨0⟩<|oP Q<|P<|i+1))(hQ:∀ ρ,P n ρ->Q (.nx ρ)):Wo (gv mg m1 (gB 0 n) ρ) Q :=
 pe P h0 (λi d ρ hd hp=>by
  have(hi,rfl):=E2 hd;exact st i ρ hi hp) λρ hp=>hQ ρ (by rw[BU]at hp; exact hp)
theorem L7{ρ:En}{mg:MG}{mt:MT}{me:ME}{Q:Qa D×En->Prop}(P:Nat->En->Qa D->Prop)(hz:n<=sizeLine)(h0:P 0 ρ [])(hP:∀ i ρ ys,P i ρ ys->ys.length<=i)(st:∀ i ρ ys,i < n->P i ρ ys->Wo (mg (.int<|0+(i:Nat)) ρ) (Co mt ⟨0⟩<|wX nt me ys<|P<|i+1))(hQ:∀ ρ ys,P n ρ ys->Q (ys,ρ)):Wo (iX nt mg mt me (gB 0 n) ρ []) Q :=
 KH P (by rw[BU]; exact hz) hP h0 (λi d ρ ys hd hp=>by
  have(hi,rfl):=E2 hd;exact st i ρ ys hi hp) λρ ys hp=>hQ ρ ys (by rw[BU]at hp; exact hp)
def bD(n:Nat)(z:Str):Prop:=z.length<=n/\∀ c∈z.cps.toList,c < 128
theorem bD.mono{z:Str}(h:bD n z)(hm:n<=m):bD m z:=⟨qC h.1 hm,h.2⟩
theorem bD.app{y:Str}(hx:bD n x)(hy:bD m y):bD (n+m) (x++y):=⟨by rw[PySem.Str.length_append]; have:=hx.1; have:=hy.1; omega,λc hc=>by
 rw[PySem.Str.cps_append,Array.toList_append,List.mem_append]at hc;exact hc.elim (hx.2 c)<|hy.2 c⟩
theorem bD.one{c:Nat}(h:c < 128):bD 1 ⟨#[c]⟩:=⟨qg _,λd hd=>by
 cases qu.mp hd;exact h⟩
theorem bD.join:∀ {ys:Qa Str},(∀ z∈ys,bD n z)->bD (ys.length * n) (PySem.Str.join "" ys)
 | [],_=>⟨Ç _,λc hc=>by cases hc⟩
 | [x],h=>(h x qr).mono (by simp)
 | x::y::r,h=>by
  have:=((h x qr).app (show bD 0 "" from⟨qg _,λc hc=>by cases hc⟩)).app (bD.join λz hz=>h z<|qq _ hz);exact this.mono (by simp only[qx,Nat.add_mul]; omega)
theorem zrJ{ys:Qa Str}(h:∀ z∈ys,bD n z):bD (ys.length * n) (Txt.join "" ys):=by
 show bD _ (PySem.Builtin.Str.glued "" ys);rw[PySem.StrLaws.glued_eq_join];exact bD.join h
theorem zBg{y:Str}(h:x.length+y.length<=16777216):oR (.d<|.str x) (.d<|.str y)=some (.d<|.str<|x++y):=by
 unfold oR;dsimp only;rw[if_pos (by rw[zl]; exact h)]
theorem xR{y:Str}{Q:U->Prop}(hx:bD n x)(hy:bD m y)(hn:n+m<=1000)(k:bD (n+m) (x++y)->Q (.d<|.str<|x++y)):Wo (oR (.d<|.str x)<|.d<|.str y) Q:=by
 rw[zBg (by have:=hx.1; have:=hy.1; omega)];exact⟨_,rfl,k<|hx.app hy⟩
theorem B2{z:Str}{r:Int}{Q:U->Prop}(h0:0<=r)(h1:r < (z.length:Int))(hz:z.length<=1000)(k:∀ c∈z.cps.toList,Q<|.d<|.str ⟨#[c]⟩):Wo (tK (.d<|.str z)<|.d<|.int r) Q:=by
 have hl:z.length=z.cps.toList.length:=by rw[Array.length_toList]; rfl
 have(c,e,m,_):=GC (xs:=z.cps.toList) h0 (by rw[<-hl]; exact h1);unfold tK;dsimp only;rw[if_pos (by rw[zl]; omega),e];exact⟨_,rfl,k c m⟩
theorem Oy:∀ (zs:Qa Str),(zs.map PyData.str).mapM Bm=some zs
 | []=>rfl
 | z::zs=>by
  rw[List.map_cons,List.mapM_cons,Oy zs];rfl
theorem Nu:∀ {ys:Qa Str},(∀ z∈ys,z.length<=n)->(ys.map (·.length)).sum<=ys.length * n
 | [],_=>by simp
 | y::ys,h=>by
  have:=Nu (ys:=ys) λz hz=>h z<|qq _ hz;have:=h y qr;simp only[List.map_cons,List.sum_cons,qx,Nat.add_mul];omega
theorem L6{zs:Qa Str}{Q:U->Prop}(h:∀ z∈zs,bD n z)(hl:zs.length<=m)(hm:m * n<=1000)(k:bD (m * n) (Txt.join "" zs)->Q (.d<|.str<|Txt.join "" zs)):Wo (vN (.d<|.str "")<|.l<|zs.map PyData.str) Q:=by
 have h1:=Nu (n:=n) λz hz=>(h z hz).1;have h2:zs.length * n<=m * n:=Æ _ hl;unfold vN;dsimp only;rw[Oy,bd,if_pos (by rw[show(("":Str)).length=0 by decide,Nat.mul_zero]; omega)];exact⟨_,rfl,k<|(zrJ h).mono h2⟩
theorem GR:∀ (zs:Qa Str),(zs.map PyData.str).mapM AF=some (zs.map V.str)
 | []=>rfl
 | z::zs=>by
  rw[List.map_cons,List.mapM_cons,GR zs];rfl
theorem YV{xs:Qa D}{lo hi:Qb Int}:Be (.d<|.tuple xs) lo hi=some (.d<|.tuple<|iJ xs lo hi):=rfl
theorem Ob{xs ys:Qa D}(h:xs.length+ys.length<=16777216):rF (.d<|.tuple xs) (.d<|.tuple ys)=some (.d<|.tuple<|xs++ys):=by
 cases xs with
 | nil=>rfl
 | cons x xs=>
  show xH (.d<|.tuple<|x::xs) (.d<|.tuple ys)=_;unfold xH;dsimp only;rw[if_pos ⟨by simp,by rw[zl]; exact h⟩]
theorem U7{i:Int}:iI "int" (.d<|.int i)=some (.d<|.bool true):=rfl
theorem U6{i:Int}:iI "bool" (.d<|.int i)=some (.d<|.bool false):=rfl
theorem U5{xs:Qa D}:iI "tuple" (.d<|.tuple xs)=some (.d<|.bool true):=rfl
theorem YU{a b:String}:(PySem.Str.ofString a=PySem.Str.ofString b)=(a=b):=propext ⟨λh=>by
 rw[PySem.Str.ofString_eq_toList,PySem.Str.ofString_eq_toList]at h;have h1:=congrArg (λz:Str=>z.cps.toList) h;dsimp only at h1;exact String.toList_inj.mp<|List.map_inj_right (λx y e=>Char.ext<|UInt32.toNat_inj.mp e) |>.mp h1,λh=>by rw[h]⟩
theorem zBh{xs:Qa D}{k:Int}(h:0<=k):iJ xs none (some k)=xs.take k.toNat:=by
 have e:k=((k.toNat:Nat):Int):=by omega
 unfold iJ;rw[e,HT.gD,HT.lX,List.drop_zero,Nat.sub_zero];rw[show((k.toNat:Nat):Int).toNat=k.toNat by omega];rw[Nat.min_def];split
 .rfl
 .rw[List.take_of_length_le<|qg _,List.take_of_length_le (by omega)]
structure gW (k M:Nat) (d:D):Prop where
 lay:d.canLay0=true
 S1:d.depth<=k
 shw:d.showable=true
 len:d.shown.length<=M
theorem gW.mono{k k' M':Nat}{d:D}(h:gW k M d)(h1:k<=k')(h2:M<=M'):gW k' M' d:=⟨h.lay,qC h.S1 h1,h.shw,qC h.len h2⟩
theorem B1{i:Int}(h:i.natAbs < 10^n)(h0:0 < n:=by decide)(h1:n<=470:=by decide):gW 0 (n+1) (.int i):=by
 refine⟨rfl,by simp[PyData.depth],?_,?_⟩
 .show decide (i.natAbs.log2 < 1920)=true
  refine decide_eq_true ?_
  by_cases z:i.natAbs=0
  .rw[z]; decide
  .have e1:10^n<=16^n:=Nat.pow_le_pow_left (by decide) n
   have e2:16^n=2^(4 * n):=by rw[Nat.pow_mul]
   have e3:i.natAbs < 2^(4 * n):=by rw[<-e2]; exact qk h e1
   exact qk ((Nat.log2_lt z).mpr e3) (by omega)
 .show(PySem.Str.ofString<|toString i).length<=n+1
  rw[PySem.ofString_length];exact PySem.int_text_length_le10 h0 h
theorem VJ{z:Str}(h:bD n z):gW 0 (10 * n+2) (.str z):=by
 refine⟨?_,by simp[PyData.depth],rfl,?_⟩
 .show z.cps.all (· < 0x110000)=true
  rw[Array.all_eq_true'];intro c hc;have:=h.2 c (Array.mem_toList_iff.mpr hc);exact decide_eq_true (by omega)
 .have:=PySem.StrLaws.reprText_len z λc hc=>Þ (h.2 c hc) (by decide)
  have:=h.1;show(reprText z).length<=_;omega
theorem L5{k:Nat}:∀ {ds:Qa D},(∀ d∈ds,gW k M d)->PyData.canLayAll0 ds=true/\PyData.depthAll ds<=k/\PyData.showableAll ds=true/\((PyData.shownAll ds).map (·.length)).sum+2 * ds.length<=ds.length * (M+2)
 | [],_=>⟨rfl,by simp[PyData.depthAll],rfl,by simp[PyData.shownAll]⟩
 | d::ds,h=>by
  have(a0,a1,a2,a3):=L5 (ds:=ds) λx hx=>h x<|qq _ hx;have(b0,b1,b2,b3):=h d qr;refine⟨?_,?_,?_,?_⟩
  .show(d.canLay0 && PyData.canLayAll0 ds)=true
   rw[a0,b0];rfl
  .simp only[PyData.depthAll]
   omega
  .show(d.showable && PyData.showableAll ds)=true
   rw[a2,b2];rfl
  .show((d.shown::PyData.shownAll ds).map (·.length)).sum+_<=_
   rw[List.map_cons,List.sum_cons,qx,Nat.add_mul,Nat.one_mul];omega
theorem ue{k:Nat}{ds:Qa D}(h:∀ d∈ds,gW k M d)(hn:ds.length<=n):gW (k+1) (n * (M+2)+3) (.tuple ds):=by
 have(a0,a1,a2,a3):=L5 h;refine⟨a0,?_,a2,?_⟩
 .simp only[PyData.depth]
  omega
 .have:=tupleText_len_le (PyData.shownAll ds)
  have e:=PyData.shownAll_length ds;have m:ds.length * (M+2)<=n * (M+2):=Æ _ hn;show(tupleText<|PyData.shownAll ds).length<=_;omega
theorem gW.shaped{k:Nat}{d:D}(h:gW k M d)(hk:k<=64):SeqAt.shaped d=true:=by
 unfold SeqAt.shaped;rw[h.lay,Bool.true_and];exact decide_eq_true<|qC h.S1 hk
theorem gW.SV{k k' M':Nat}{a b:D}{neg:Bool}(ha:gW k M a)(hb:gW k' M' b)(hk:k<=64)(i5:k'<=64):kJ neg (.d a) (.d b)=some (.d<|.bool (if neg=true then !PyData.eqv a b else PyData.eqv a b)):=by
 have ea:U.py (.d a)=some a:=rfl;have eb:U.py (.d b)=some b:=rfl;unfold kJ;rw[ea,bd,eb,bd,if_pos ⟨ha.shaped hk,hb.shaped i5⟩]
section
variable{X:Cx}
end
section
variable{X:Cx}
end
section
def zEf:U->Qb U
 | .d (.int i)=>if i.natAbs.log2 < 1920 then some (.d<|.str<|toString i)else none
 | .d (.str z)=>if z.length<=sizeLine then some (.d<|.str z)else none
 | _=>none
abbrev MJ:=En->Str->Qb (Str×En)
def U.sr:U->Qb Str
 | .d (.str z)=>some z
 | _=>none
end
section
variable{ρ:En}{me:ME}{mj:MJ}{QE:Ar×En->Prop}{QJ:Str×En->Prop}{acc z y:Str}{i:Int}
end
end L2
namespace L2
open PySem PySem.Spec PyProof.Rows PySem.NumText
abbrev ts(n:Int):Str:=PySem.Str.ofString (toString n)
end L2
namespace L2
open PySem PySem.Spec PyProof.Rows
section
variable{X:Cx}{f:Expr}{tx:TE}{k:Nat}
theorem B0(hr:aM k X.A)(ho:Wr (PE X o td))(he:Wr (PE X e ty))(hf:Wr (PE X f tx))(m:M2 X o "get" apos e f bj):Wr (PE X (.Call (.Attribute o "get" apos) [e,f] [] bj)<|FO X.K td ty tx):=⟨ZF (xC hr) ho.run he.run hf.run m⟩
end
section
def vM:U->Bool
 | .t _=>true
 | .k _=>true
 | .d (.dict kvs)=>iV kvs
 | _=>false
theorem YT{x:V}{u:U}(h:Rp K H x u)(e:vM u=true):∃ a,x=.ref a/\J4 H a:=by
 unfold vM at e;split at e
 .have(a,ws,rfl,h1,_):=h
  exact⟨a,rfl,.inr ⟨_,.inl h1⟩⟩
 .have(a,ws,rfl,h1,_):=h
  exact⟨a,rfl,.inl ⟨_,.inl h1⟩⟩
 .have(a,ob,ws,rfl,h1,_):=DF.cw h e
  exact⟨a,rfl,.inr ⟨_,.inr ⟨ob,h1⟩⟩⟩
 .cases e
def rE(md my mx:ME):ME:=λρ=>(md ρ).bind λp=>(p.1.get p.2).bind λu0=>if vM u0=true then(my p.2).bind λq=>(mx q.2).bind λz=>(p.1.get z.2).bind λu=>(q.1.get z.2).bind λy=>(z.1.get z.2).bind λx=>(mV u y).bind λo=>match x with
 | .d x=>some (.u<|.d<|o.getD x,z.2)
 | _=>none else none
theorem Cq{tx:TE}{md my mx:ME}(hd:VE K td md)(hy:VE K ty my)(hx:VE K tx mx):VE K (FO K td ty tx) (rE md my mx):=by
 intro ρ σ H a av Q r e q;obtain⟨⟨a1,aw⟩,e1,e⟩:=bQ e;have(u0,e0,e):=bQ e;split at e
 rotate_left
 .cases e
 rename_i hu0;obtain⟨⟨b1,aB⟩,e2,e⟩:=bQ e;obtain⟨⟨c1,gM⟩,e3,e⟩:=bQ e;have(u,eu,e):=bQ e;have(y,ey,e):=bQ e;have(x,ex,e):=bQ e;have(o,eo,e):=bQ e;split at e
 rotate_left
 .cases e
 cases e;refine hd ρ σ H a1 aw _ r e1 λv1 H1 g1 k1=>?_;have(b,rfl,hb):=YT (k1.now r g1 e0) hu0;refine⟨b,rfl,hb,hy aw σ H1 b1 _ _ g1.rs e2 λv2 H2 g2 k2=>hx aB σ H2 c1 _ _ g2.rs e3 λv3 H3 g3 k3=>?_⟩;have(b',eb,h):=MN (k1.later r g1 (g2.trans g3) eu) (k2.later g1.rs g2 g3 ey) eo;cases eb;have p3:=k3.now g2.rs g3 ex;rcases h with⟨w,d',rfl,g,p⟩|⟨rfl,g⟩
 .exact⟨_,g,q w H3 ((g1.trans g2).trans g3) ⟨p,Nw.data⟩⟩
 .exact⟨_,g,q v3 H3 ((g1.trans g2).trans g3) ⟨p3,Nw.data⟩⟩
end
theorem YS:Manifest.canonical (String.map (λc=>if(c.isAlphanum || c=='_' || c=='.')=true then c else '_') "dict_itemiterator.__iter__") ++ "" = "dict_keyiterator.__iter__":=by decide +kernel
theorem YR:entryFor table "dict_itemiterator.__iter__"=some Builtin.«dict_keyiterator.__iter__»:=entryFor_alias (by kernel_rfl) (by kernel_rfl) YS (by kernel_rfl)
section
variable{d:Qg}{ok ov:Qc}
theorem mZ{T:Qc}{vs:Array Qc}{x:Qc}{Q:Unit->Qd->Prop}(e:s.heap.get? it=some {cls:=T,data:=.fields vs})(hj:j < vs.size)
  (q:∀ h':Heap,h'.get? it=some {cls:=T,data:=.fields (vs.setIfInBounds j x)}->h'.objs.size=s.heap.objs.size->(∀ b o,b≠it->s.heap.get? b=some o->h'.get? b=some o)->Q () {s with heap:=h'}):wpAny (model prog w) A (setField (.ref it) j x) Q E s:=by
 refine wpAny_setField e rfl hj<|q _ ?_ ?_ λb o hb z=>?_
 .exact Ù _ e (û<|ć rfl _)
 .exact Heap.size_update ..
 .exact((Õ ..).2 b hb).trans z
theorem zrK{Q:Qb Qc->Qd->Prop}(k:IsItemIter s.heap it d i es.size ep ok ov)(r:ix s.heap d es ep){x:DictEntry}(hx:es[i]?=some x)
  (q:∀ h':Heap,IsItemIterOut h' it d (i+1) es.size ep x.key x.val s.heap.objs.size->h'.get? s.heap.objs.size=some {cls:=.type "tuple",data:=.seq #[x.key,x.val]}->(∀ b o,b≠it->s.heap.get? b=some o->h'.get? b=some o)->Q (some<|.ref s.heap.objs.size) {s with heap:=h'}):wpAny (model prog w) A (pyNext<|.ref it) Q E s:=by
 have kT:s.TypeIs (.ref it) "dict_itemiterator":=⟨_,k,rfl⟩;have(o,e,_,dat):=r;have km:s.heap.objs.size≠it:=Ne.symm (ql<|qj k);unfold pyNext;refine qc<|wpAny_attempt (wpAny_callSpecial?_slot (name:=Str.ofString "__next__") kT Ô
  (wpAny_call_entry Ô kT F.entry_dict_itemiterator_next ?_<|F.args_dict_itemiterator_next_1 _))
 refine qc<|qd<|qc<|qc ?_;refine qc<|wpAny_typeNameOfWhole_itemiter kT<|qd<|qc<|wpAny_fieldsOf k rfl ?_;simp only[show Builtin.Dict_items.ownsTuple "dict_itemiterator"=true by decide,if_true];show wpAny _ _ (if(Value.ref d==Value.none)=true then _ else _) _ _ s;rw[if_neg (show ¬((Value.ref d==Value.none)=true) from qh)];refine qc<|qd<|qc<|wpAny_dictEntries e dat ?_;rw[if_neg (by simp)];refine qc<|qd<|qc<|wpAny_dictEpoch e dat ?_;rw[if_neg (by simp)];refine qd ?_;simp only[show ¬((i:Int) < 0) from by omega,if_false,Int.toNat_natCast,hx];refine qc<|qc<|wpAny_typeNameOfWhole_itemiter kT<|qd<|qc<|wpAny_isOneOf_itemiter kT ?_;show wpAny _ _ (setField (.ref it) 3 (rawInt<|(i:Int)+1) >>= _) _ _ s;refine qc<|mZ k (by simp) λh1 k1 z1 f1=>?_;refine qc<|wpAny_holding ?_;have So:Shared.TypeIs {s with heap:=h1} (.ref it) "dict_itemiterator":=⟨_,k1,rfl⟩;refine qc<|wpAny_isOneOf_itemiter So ?_;show wpAny _ _ (Builtin.Dict_items.isOneOf (.ref it) _ >>= _) _ _ _;refine qc<|wpAny_isOneOf_itemiter So ?_;show wpAny _ _ (Builtin.Dict_items.pairFromOwner (.ref it) 6 x.key x.val) _ _ _;unfold Builtin.Dict_items.pairFromOwner;simp only[newTuple];refine qc<|qD ?_ (by show(2:Nat)<=sizeLine; decide);have k2:(h1.push {cls:=.type "tuple",data:=.seq #[x.key,x.val]}).get? it=_:=qf _ k1;have t2:(h1.push {cls:=.type "tuple",data:=.seq #[x.key,x.val]}).get? h1.objs.size=_:=qi _ rfl;have f2:∀ b o,b≠it->s.heap.get? b=some o->(h1.push {cls:=.type "tuple",data:=.seq #[x.key,x.val]}).get? b=some o:=λb o hb z=>qf _<|f1 b o hb z;rw[z1]at t2;show wpAny _ _ _ _ _ {s with heap:=h1.push {cls:=.type "tuple",data:=.seq #[x.key,x.val]}};generalize h1.push {cls:=.type "tuple",data:=.seq #[x.key,x.val]}=h2 at k2 t2 f2 ⊢;rw[z1];unfold Builtin.Dict_items.ownedTupleIsFree;refine qc<|qc<|wpAny_field k2 rfl (x:=.none) rfl<|qd ?_;show wpAny _ _ (if true=true then _ else _) _ _ _;rw[if_pos rfl];show wpAny _ _ (field (.ref it) 6 >>= _) _ _ _;refine qc<|wpAny_field k2 rfl (x:=ok) rfl ?_;refine qc<|wpAny_field k2 rfl (x:=ov) rfl ?_;refine qc<|mZ k2 (by simp) λh3 k3 z3 f3=>?_;refine qc<|mZ k3 (by simp) λh4 k4 z4 f4=>?_;refine qc<|mZ k4 (by simp) λh5 k5 z5 f5=>?_;refine qc<|mZ k5 (by simp) λh6 k6 z6 f6=>?_;refine qc<|wpAny_letGo<|qd<|qd ⟨_,rfl,qd<|q _ ?_ ?_ λb o hb z=>?_⟩
 .show h6.get? it=_
  rw[k6];rfl
 .exact f6 _ _ km (f5 _ _ km<|f4 _ _ km<|f3 _ _ km t2)
 .exact f6 b o hb (f5 b o hb<|f4 b o hb<|f3 b o hb<|f2 b o hb z)
theorem Zi{Q:Qb Qc->Qd->Prop}(hh:A.handled=none)(k:IsItemIter s.heap it d i es.size ep ok ov)(r:ix s.heap d es ep)(hx:es.size<=i)
  (q:∀ h':Heap,Heap.ExtBut it s.heap h'->Q none {s with heap:=h'}):wpAny (model prog w) A (pyNext<|.ref it) Q E s:=by
 have kT:s.TypeIs (.ref it) "dict_itemiterator":=⟨_,k,rfl⟩;have(o,e,_,dat):=r;unfold pyNext;refine qc<|wpAny_attempt (wpAny_callSpecial?_slot (name:=Str.ofString "__next__") kT Ô
  (wpAny_call_entry Ô kT F.entry_dict_itemiterator_next ?_<|F.args_dict_itemiterator_next_1 _))
 refine qc<|qd<|qc<|qc ?_;refine qc<|wpAny_typeNameOfWhole_itemiter kT<|qd<|qc<|wpAny_fieldsOf k rfl ?_;simp only[show Builtin.Dict_items.ownsTuple "dict_itemiterator"=true by decide,if_true];show wpAny _ _ (if(Value.ref d==Value.none)=true then _ else _) _ _ s;rw[if_neg (show ¬((Value.ref d==Value.none)=true) from qh)];refine qc<|qd<|qc<|wpAny_dictEntries e dat ?_;rw[if_neg (by simp)];refine qc<|qd<|qc<|wpAny_dictEpoch e dat ?_;rw[if_neg (by simp)];refine qd ?_;simp only[show ¬((i:Int) < 0) from by omega,if_false,Int.toNat_natCast,Array.getElem?_eq_none hx];refine qc<|qc<|wpAny_typeNameOfWhole_itemiter kT<|qd ?_;show wpAny _ _ (setField (.ref it) 2 .none >>= _) _ _ s;refine qc<|wpAny_setField k rfl (by simp) ?_;show wpAny _ _ (newExc (.type "StopIteration") [] >>= _) _ _ _;refine qc ?_;simp only[newExc,newTuple];refine qc<|qD ?_ (by show(0:Nat)<=sizeLine; exact Ç _);refine qc (m:=firstArgMember _ _)<|wpAny_of_eq (a:=Value.none) (by first|rfl | (simp only[firstArgMember]; rfl)) ?_;refine qD ?_ (by first|trivial|size_fits);simp only[raiseNew];refine qc<|wpAny_handled ?_;rw[show A.in1.handled=none from hh];refine qc<|qd<|wpAny_throw ?_;refine qc<|wpAny_isInstance (T := "StopIteration") (b:=true) ⟨_,qi _ rfl,rfl⟩ isSubtype_stop ?_;exact qd<|q _<|((Õ ..).extBut.push _).push _
theorem zrL(hd:(d==sysModules)=false)(r:ix s.heap d es ep)
  (q:Q (.ref s.heap.objs.size) {s with heap:=s.heap.push {cls:=.type "dict_items",data:=.fields #[.ref d]}}):wpAny (model prog w) A (call (.builtin "dict.items") [.ref d]) Q E s:=by
 have hT:=r.typeIs;have(o,e,_,dat):=r;refine wpAny_call_entry F.slot_dict_items hT F.entry_dict_items ?_<|F.args_dict_items_1 _;unfold Builtin.«dict.items» Builtin.Dict.noArgs;refine qc<|qc<|wpAny_notOrdered_dict hT ?_;refine qc<|qd ?_;refine qc<|qd<|qd ?_;unfold Builtin.Dict.showsAll;rw[hd,if_neg qh];refine qc<|qd ?_;unfold newFields;exact qc<|qD<|qd ⟨_,rfl,q⟩
theorem zrM{v:Qg}(hv:s.heap.IsItemsView v d)(r:ix s.heap d es ep)
  (q:∀ h':Heap,IsItemIter h' s.heap.objs.size d 0 es.size ep .none .none->(∀ b o,s.heap.get? b=some o->h'.get? b=some o)->Q (.ref s.heap.objs.size) {s with heap:=h'}):wpAny (model prog w) A (pyIter<|.ref v) Q E s:=by
 have(o,e,_,dat):=r;have(o2,e2,c2,d2):=id hv;have hT:=hv.typeIs (s:=s);refine wpAny_pyIter_slot hT F.slot_dict_items_iter<|wpAny_call_entry F.slot_dict_items_iter hT F.entry_dict_items_iter ?_<|F.args_dict_items_iter_1 _;unfold Builtin.«dict_items.__iter__»;refine qc<|qd ?_;unfold Builtin.Dict_items.dictOf;refine qc<|qc<|wpAny_field e2 d2 (x:=.ref d) rfl<|qd ?_;unfold Builtin.Dict_items.newIterator;refine qc<|qc<|wpAny_dictEntries e dat<|qc<|wpAny_dictEpoch e dat ?_;unfold newFields;refine qD (qd ⟨_,rfl, "dict_itemiterator",_,⟨_,qi _ rfl,rfl⟩,Ô.lookup,?_⟩) (by rw[show Builtin.Dict_items.ownsTuple "dict_itemiterator"=true by decide,if_pos rfl]; show(8:Nat)<=sizeLine+2; decide);exact q _ (qi _ rfl) λb o z=>qf _ z
end
theorem wy{X:Cx}{o:Obj}(I:Inv X pins σ H s)(e:H a=some (.aZ o<|.dT kvs)):
  (a==sysModules)=false/\∃ (es:Array DictEntry) (ep:Nat),s.heap.get? a=some o/\o.ExactDict/\o.data=.dict es ep/\es.size=kvs.length/\∀ (i:Nat) (k:Qa Key) (v:V),kvs[i]?=some (k,v)->∃ (b:Qg) (x:DictEntry),es[i]?=some x/\x.key=.ref b/\aX X.K H b (k.map kV)/\aO v x.val:=by
 have(ea,z,y,xs,r,o',es,ep,h1,h2,h3,h4,h5):=(show bW X.prog X.w X.K H s.heap a (.aZ o<|.dT kvs) from I.aE a _ e);rw[ea]at h1;cases h1;refine⟨y,es,ep,ea,h2,h3,?_,λi k v hi=>?_⟩
 .have:=congrArg List.length h4
  rw[Array.length_toList,List.length_map,<-yy r]at this;exact this
 .have(q,hq,r1,r2,r3):=Hu r i (k,v) hi
  refine⟨q.2.1,entryOfKey (tupleKind<|eV X.prog X.w) q,?_,rfl,r2,r3⟩;have:es.toList[i]?=some (entryOfKey (tupleKind<|eV X.prog X.w) q):=by rw[h4,List.getElem?_map,hq]; rfl
  simpa using this
def TZ(K:qe)(a:Qg)(o:Obj)(kvs:Qa (Qa Key×V)):It :=
 ⟨λi H=>H a=some (.aZ o<|.dT kvs)/\i < kvs.length,λi H x H'=>∃ T,H T=none/\x=.ref T/\∀ k v,kvs[i]?=some (k,v)->∃ b,aX K H b (k.map kV)/\H'=upd H T (.tup [.ref b,v]),λi H=>H a=some (.aZ o<|.dT kvs)/\kvs.length<=i⟩
theorem zoK{k:Nat}(a it:Qg)(o:Obj)(kvs:Qa (Qa Key×V))(ep:Nat)(sN:∃ es,o.data=.dict es ep):Turn P w K (.Tuple elts k pos) (TZ K a o kvs) [it] it (λi h=>∃ ok ov,IsItemIter h it a i kvs.length ep ok ov) where
 mem:=by simp
 obj:=λi h st b hb=>by
  have e:b=it:=by simpa using hb
  subst e;have(ok,ov,e):=st;exact⟨_,e,λv z=>by
   have z':Data.fields _=Data.cell v:=z;cases z'⟩
 keep:=λi h h' st k=>by
  have(ok,ov,e):=st;exact⟨ok,ov,k it (by simp) _ e⟩
 item:=by
  intro X hP hw hK hc i pins s σ H E I hf st hg;subst hP hw hK;have(e,hi):=hg;have(ok,ov,st):=st;have(mq,es,eQ,ea,xd,dat,hsz,ent):=wy I e;have mH:eQ=ep:=by
   have(mF,z):=sN;rw[dat]at z;injection z
  subst mH;have(b,x,ex,kx,hb,rv):=ent i kvs[i].1 kvs[i].2 (qo hi);refine zrK (es:=es) (by rw[hsz]; exact st) ⟨o,ea,xd,dat⟩ ex λh1 kR kU kk=>?_;refine⟨_,rfl,wpAny_letOwnedTupleGo_items (s:={s with heap:=h1}) kR λh2 kQ sb=>?_⟩;have km:s.heap.objs.size≠it:=Ne.symm (ql<|qj st);have I2:Inv X pins σ H {s with heap:=h2}:=I.dM (t':=s.toks) (wr:=[it]) (λb o hb q=>(sb.2 b (by simpa using hb)).trans<|kk b o (by simpa using hb) q) hf;have fT:fQ X pins H s.heap.objs.size:=I.dE (qg _) (I.aE.fresh<|qg _);rw[kx]at kU;have I3:Inv X pins σ (upd H s.heap.objs.size<|.tup [.ref b,kvs[i].2]) {s with heap:=h2}:=I2.lR fT I.sz ⟨by show 2<=sizeLine; decide,[.ref b,x.val],.cons rfl<|.cons rv .nil,_,(sb.2 _ km).trans kU,rfl,⟨_,rfl⟩,.inl rfl⟩;refine⟨.ref s.heap.objs.size,_,I3,rfl,⟨_,I.aE.fresh<|qg _,rfl,λk v jF=>⟨b,?_,?_⟩⟩,⟨_,_,by rw[<-hsz]; exact kQ⟩,λc hc=>?_⟩
  .rw[qo hi]at jF
   rw[qB jF]at hb;exact hb
  .rw[qo hi]at jF
   rw[qB jF]
  .have e:c=it:=by simpa using hc
   subst e;rw[zD<|Ne.symm km];exact(hf c hc).1
 done:=by
  intro X hP hw hK hc i pins s σ H E I hf st hg;subst hP hw hK;have(e,hi):=hg;have(ok,ov,st):=st;have(mq,es,eQ,ea,xd,dat,hsz,ent):=wy I e;have mH:eQ=ep:=by
   have(mF,z):=sN;rw[dat]at z;injection z
  subst mH;have(f0,f1,f2,f3,f4,f5):=hf it (by simp);exact Zi (es:=es) (I.ok.hd hc) (by rw[hsz]; exact st) ⟨o,ea,xd,dat⟩ (by omega) λh' eb=>⟨rfl,I.turned (t':=s.toks) (λb o hb e=>eb b o hb e) f0 f1 f3 f4 f5⟩
 self:=λ_ _ _ _ _ st h=>by
  have(ok,ov,st):=st;exact wpAny_pyIter_slot ⟨_,st,rfl⟩ F.slot_dict_itemiterator_iter<|wpAny_call_entry F.slot_dict_itemiterator_iter ⟨_,st,rfl⟩ YR (qd ⟨_,rfl, "dict_itemiterator",_,⟨_,st,rfl⟩,Ô.lookup,h⟩)<|F.args_dict_itemiterator_iter_1 _
section
variable{X:Cx}{kk:Nat}
def LF(K:qe)(td:TE):TI:=λσ H R=>td σ H λx H1=>∃ a o kvs,x=.ref a/\H1 a=some (.aZ o<|.dT kvs)/\R (TZ K a o kvs) H1
theorem ud{d:Expr}(hd:Wr (PE X d td))(cI:attributeBase d "items" X.env (eval d X.env)=eval d X.env:=by rfl)(cG:(apos.endLine==bj.line)=true:=by rfl):Wr (PI X (.Tuple elts kk pH) (.Call (.Attribute d "items" apos) [] [] bj)<|LF X.K td):=by
 refine⟨?_⟩;intro pins s σ H R I h;refine wpAny_Call_method0_late cI cG<|aH (hd.run pins s σ H _ I h) λv s1 hZ=>?_;have(x,H1,I1,r1,q1):=hZ;have(a,o,kvs,rfl,e,q):=q1;cases r1;have(mq,es,ep,ea,xd,dat,hsz,_):=wy I1 e;have yP:ix s1.heap a es ep:=⟨o,ea,xd,dat⟩;refine⟨"dict", "dict.items",F.plainAttrs_dict,F.slot_dict_items,F.type_dict_items,yP.typeIs,λb hb=>?_,ê rfl<|PySem.evalArgs_none<|zrL mq yP ?_⟩
 .cases hb
  exact⟨o,ea,xd.2.1⟩
 have I2:Inv X pins σ H1 {s1 with heap:=s1.heap.push {cls:=.type "dict_items",data:=.fields #[.ref a]}}:=I1.kept (t':=s1.toks) λb o z=>qf _ z;refine zrM (v:=s1.heap.objs.size) (s:={s1 with heap:=s1.heap.push {cls:=.type "dict_items",data:=.fields #[.ref a]}}) ⟨_,qi _ rfl,rfl,rfl⟩ ⟨o,qf _ ea,xd,dat⟩ λh' hit nL=>?_;refine⟨_,_,_,_,H1,rfl,I2.kept (t':=s1.toks) nL,zoK a _ o kvs ep ⟨es,dat⟩,⟨_,_,by rw[<-hsz]; exact hit⟩,λb hb=>?_,q⟩;rw[qu.mp hb];exact I2.dE (qg _)<|I2.aE.fresh<|qg _
end
def nh:U->Qb (Qa D)
 | .d (.dict kvs)=>if iV kvs=true then some (kvs.map λp=>.tuple [p.1,p.2])else none
 | _=>none
theorem GB:∀ {ws:Qa (Qa Key×V)} {kvs:Qa (D×D)},iq K H ws kvs->∀ {i:Nat} {p:D×D},kvs[i]?=some p->∃ k v,ws[i]?=some (k,v)/\p.1=kr k/\DF K H v p.2
 | _,_,.nil,i,p,h=>by simp at h
 | _,_,.cons hv t,0,p,h=>by cases h; exact⟨_,_,rfl,rfl,hv⟩
 | _,_,.cons hv t,i+1,p,h=>GB t (i:=i) h
theorem GA:∀ {ws:Qa (Qa Key×V)} {kvs:Qa (D×D)},iq K H ws kvs->ws.length=kvs.length
 | _,_,.nil=>rfl
 | _,_,.cons hv t=>congrArg (·+1)<|GA t
theorem uo{me:ME}(h:VE K te me):VI K (LF K te) (de nh me):=by
 intro ρ σ H ds av R r e q;obtain⟨⟨a,aw⟩,e1,e⟩:=bQ e;have(u,eu,e):=bQ e;have(xs,ex,e):=bQ e;cases e;refine h ρ σ H a _ _ r e1 λv H1 g1 k1=>?_;have p:=k1.now r g1 eu;unfold nh at ex;split at ex
 .split at ex
  rotate_left
  .cases ex
  rename_i nx;cases ex;have(b,o,ws,rfl,h1,h2):=DF.cw p nx;refine⟨b,o,ws,rfl,h1,q _ _ g1 λH2 k i=>?_⟩;have jG:=k.aZ _ _ _ h1;refine⟨λd ed=>?_,λei=>?_⟩
  .rw[List.getElem?_map]at ed
   obtain⟨⟨kd,vd⟩,ew,rfl⟩:=qv.mp ed;have(ks,w,ff,rfl,dv):=GB h2 ew;refine⟨⟨jG,(qm.mp ff).1⟩,λx H' y=>?_⟩;have(T,nT,rfl,y):=y;have(kb,Ao,rfl):=y ks w ff;have sm:=zZ nT (.tup [.ref kb,w]);exact⟨sm,.tup (.inl zy)<|.cons (DF.kp sm.kp<|.tup Ao B5)<|.cons ((dv.kp k).kp sm.kp) .nil⟩
  .rw[List.length_map,<-GA h2]at ei
   exact⟨jG,Ć ei.symm⟩
 .cases ex
abbrev wj(h:Heap)(t1:Qg):Heap:=h.push {cls:=.type "tuple_iterator",data:=.fields #[.ref t1,.int 0 0]}
abbrev x9(h:Heap)(t1 t2:Qg):Heap:=(wj h t1).push {cls:=.type "tuple_iterator",data:=.fields #[.ref t2,.int 0 0]}
abbrev wg(h:Heap)(t1 t2:Qg):Heap:=(x9 h t1 t2).push {cls:=.type "tuple",data:=.seq #[.ref h.objs.size,.ref (wj h t1).objs.size]}
abbrev Cs(h:Heap)(t1 t2:Qg):Heap:=(wg h t1 t2).push {cls:=.type "tuple",data:=.seq #[.none,.none]}
abbrev Hm(h:Heap)(t1 t2:Qg):Heap:=(Cs h t1 t2).push {cls:=.type "zip",data:=.fields #[.none,.bool false,.bool false,.ref (x9 h t1 t2).objs.size,.ref (wg h t1 t2).objs.size]}
theorem Zh(t1 t2:Qg)(xs ys:Array Qc):
  Meets (Builtin.«zip.__new__» ⟨[.type "zip",.ref t1,.ref t2],[]⟩) (λ_ R s=>s.heap.IsTuple t1 xs/\s.heap.IsTuple t2 ys/\
   R (.ok<|.ret<|.ref (Cs s.heap t1 t2).objs.size) {s with heap:=Hm s.heap t1 t2}):=
 .of_wp λprog w A R s h=>by
  have(hp,g,d,tk,os):=s;have(h1,h2,h):=h;have i6:Heap.IsTuple (wj hp t1) t2 ys:=by
   have(o,e,r):=h2;exact⟨o,qf _ e,r⟩
  have Jq:=sub_zip
  wp_walk using wpAny_pyIter_tuple h1,wpAny_pyIter_tuple i6
  exact⟨_,rfl,h⟩
section
variable{z TI TO i1 i2 t1 t2:Qg}{k:Nat}{xs ys:Array Qc}{x y a b:Qc}
theorem zrN{Q:Qb Qc->Qd->Prop}(ap:ZipApart z TI TO i1 i2 t1 t2)(hz:IsZip s.heap z TI TO .none)(hI:IsPair s.heap TI (.ref i1) (.ref i2))(hO:IsPair s.heap TO a b)
  (h1:s.heap.IsTupleIter i1 t1 k) (h2:s.heap.IsTupleIter i2 t2 k) (g1:s.heap.IsTuple t1 xs) (g2:s.heap.IsTuple t2 ys) (ex:xs[k]?=some x) (ey:ys[k]?=some y)
  (q:∀ h':Heap,IsZip h' z TI TO (rawInt s.heap.objs.size)->IsPair h' TO x y->h'.IsTupleIter i1 t1 (k+1)->h'.IsTupleIter i2 t2 (k+1)->IsPair h' s.heap.objs.size x y->
   (∀ c o,c≠z->c≠TO->c≠i1->c≠i2->s.heap.get? c=some o->h'.get? c=some o)->Q (some<|.ref s.heap.objs.size) {s with heap:=h'}):wpAny (model prog w) A (pyNext<|.ref z) Q E s:=by
 have kT:s.TypeIs (.ref z) "zip":=⟨_,hz,rfl⟩;unfold pyNext;refine qc<|wpAny_attempt<|wpAny_callSpecial?_slot (name:=Str.ofString "__next__") kT F.slot_zip_next<|wpAny_call_entry F.slot_zip_next kT F.entry_zip_next ?_<|F.args_zip_next_1 _;unfold Builtin.«zip.__next__»;refine qc<|qd ?_;refine qc<|wpAny_field hz rfl (x:=.bool false) rfl ?_;refine qc<|wpAny_field hz rfl (x:=.ref TI) rfl ?_;refine qc<|wpAny_seqItems hI rfl ?_;show wpAny _ _ (Builtin.SmallTypes.ownedTupleIsFree (.ref z) >>= _) _ _ s;unfold Builtin.SmallTypes.ownedTupleIsFree;refine qc<|qc<|wpAny_field hz rfl (x:=.none) rfl<|qd ?_;show wpAny _ _ (if true=true then _ else _) _ _ _;rw[if_pos rfl];refine qc<|wpAny_rule<|qc<|wpAny_field hz rfl (x:=.ref TO) rfl ?_;refine qc<|mZ hz (by simp) λha ka za fa=>?_;have SN:IsPair ha TO a b:=fa _ _ ap.TOz hO;have AB:ha.IsTupleIter i1 t1 k:=by
  have(o,e,r):=h1;exact⟨o,fa _ _ ap.i1z e,r⟩
 have JN:ha.IsTuple t1 xs:=by
  have(o,e,r):=g1;exact⟨o,fa _ _ ap.l1z e,r⟩
 refine qc ?_;show wpAny _ _ (forIn [(Value.ref i1,0),(Value.ref i2,1)] (none,()) _) _ _ _;rw[List.forIn_cons];refine qc<|qc<|wpAny_onRaise ?_;show wpAny _ _ (Builtin.SmallTypes.nextOf (.ref i1) >>= _) _ _ _;refine qc<|Hs (s:={s with heap:=ha}) AB JN ex λhb kb sb=>qd ?_;refine qc<|wpAny_seqItems (s:={s with heap:=hb}) (o:=_) ((sb.2 _ ap.TOi1).trans SN) rfl ?_;refine qc<|wpAny_updateSeq_pair (s:={s with heap:=hb}) ((sb.2 _ ap.TOi1).trans SN) λhc kc sc=>?_;refine qc<|wpAny_letGo<|qd ?_;show wpAny _ _ (forIn [(Value.ref i2,1)] (none,()) _) _ _ _;rw[List.forIn_cons];have mm:∀ c o,c≠z->c≠TO->c≠i1->s.heap.get? c=some o->hc.get? c=some o:=λc o n1 n2 n3 e=>(sc.2 c n2).trans<|(sb.2 c n3).trans<|fa c o n1 e;have h22:hc.IsTupleIter i2 t2 k:=by
  have(o,e,r):=h2;exact⟨o,mm _ _ ap.i2z (Ne.symm ap.TOi2) (Ne.symm ap.i12) e,r⟩
 have g22:hc.IsTuple t2 ys:=by
  have(o,e,r):=g2;exact⟨o,mm _ _ ap.l2z ap.l2TO ap.l2i1 e,r⟩
 refine qc<|qc<|wpAny_onRaise ?_;show wpAny _ _ (Builtin.SmallTypes.nextOf (.ref i2) >>= _) _ _ _;refine qc<|Hs (s:={s with heap:=hc}) h22 g22 ey λhd kd sd=>qd ?_;have SM:IsPair hd TO x b:=(sd.2 _ ap.TOi2).trans kc;refine qc<|wpAny_seqItems (s:={s with heap:=hd}) SM rfl ?_;refine qc<|wpAny_updateSeq_pair (s:={s with heap:=hd}) SM λhe ke se=>?_;refine qc<|wpAny_letGo<|qd ?_;show wpAny _ _ (forIn ([]:Qa (Qc×Nat)) (none,()) _) _ _ _;rw[List.forIn_nil];refine qd ?_;have SK:IsPair he TO x y:=ke;show wpAny _ _ (seqItems? (.ref TO) >>= _) _ _ _;refine qc<|wpAny_seqItems (s:={s with heap:=he}) SK rfl ?_;simp only[newTuple];refine qc<|qD ?_ (by show(2:Nat)<=sizeLine; decide);have sz:he.objs.size=s.heap.objs.size:=by rw[se.1,sd.1,sc.1,sb.1]; exact za
 show wpAny _ _ (Builtin.SmallTypes.ownedTupleHandOut (.ref z) (.ref he.objs.size) >>= _) _ _ {s with heap:=he.push {cls:=.type "tuple",data:=.seq #[x,y]}};have kz:(he.push {cls:=.type "tuple",data:=.seq #[x,y]}).get? z=some {cls:=.type "zip",data:=.fields #[.ellipsis,.bool false,.bool false,.ref TI,.ref TO]}:=
  qf _ ((se.2 _<|Ne.symm ap.TOz).trans<|(sd.2 _<|Ne.symm ap.i2z).trans<|(sc.2 _<|Ne.symm ap.TOz).trans<|(sb.2 _<|Ne.symm ap.i1z).trans ka)
 have kt:(he.push {cls:=.type "tuple",data:=.seq #[x,y]}).get? he.objs.size=some {cls:=.type "tuple",data:=.seq #[x,y]}:=qi _ rfl;have kO:(he.push {cls:=.type "tuple",data:=.seq #[x,y]}).get? TO=_:=qf _ SK;have k1:Heap.IsTupleIter (he.push {cls:=.type "tuple",data:=.seq #[x,y]}) i1 t1 (k+1):=by
  have(o,e,r):=kb;exact⟨o,qf _<|(se.2 _<|Ne.symm ap.TOi1).trans<|(sd.2 _ ap.i12).trans<|(sc.2 _<|Ne.symm ap.TOi1).trans e,r⟩
 have k2:Heap.IsTupleIter (he.push {cls:=.type "tuple",data:=.seq #[x,y]}) i2 t2 (k+1):=by
  have(o,e,r):=kd;exact⟨o,qf _<|(se.2 _<|Ne.symm ap.TOi2).trans e,r⟩
 have kk:∀ c o,c≠z->c≠TO->c≠i1->c≠i2->s.heap.get? c=some o->(he.push {cls:=.type "tuple",data:=.seq #[x,y]}).get? c=some o:=λc o n1 n2 n3 n4 e=>
  qf _ ((se.2 c n2).trans<|(sd.2 c n4).trans<|mm c o n1 n2 n3 e)
 have nz:he.objs.size≠z:=by
  rw[sz];exact Ne.symm<|ql<|qj hz
 generalize he.push {cls:=.type "tuple",data:=.seq #[x,y]}=hf at kz kt kO k1 k2 kk ⊢;unfold Builtin.SmallTypes.ownedTupleHandOut;refine qc<|qc<|mZ (s:={s with heap:=hf}) kz (by simp) λhg kg zg fg=>?_;refine mZ (s:={s with heap:=hg}) kg (by simp) λhh kh zh fh=>?_;have up:∀ c o,c≠z->hf.get? c=some o->hh.get? c=some o:=λc o n e=>fh c o n<|fg c o n e;refine qd ⟨_,rfl,qd ?_⟩;rw[sz]at kt kh nz ⊢;refine q hh kh (up _ _ ap.TOz kO) ?_ ?_ (up _ _ nz kt) λc o n1 n2 n3 n4 e=>up _ _ n1<|kk c o n1 n2 n3 n4 e
 .have(o,e,r):=k1
  exact⟨o,up _ _ ap.i1z e,r⟩
 .have(o,e,r):=k2
  exact⟨o,up _ _ ap.i2z e,r⟩
theorem Zg{Q:Qb Qc->Qd->Prop}(hh:A.handled=none)(ap:ZipApart z TI TO i1 i2 t1 t2)(hz:IsZip s.heap z TI TO .none)(hI:IsPair s.heap TI (.ref i1) (.ref i2))(hO:IsPair s.heap TO a b)
  (h1:s.heap.IsTupleIter i1 t1 k) (h2:s.heap.IsTupleIter i2 t2 k) (g1:s.heap.IsTuple t1 xs) (g2:s.heap.IsTuple t2 ys) (en:xs[k]?=none)
  (q:∀ h':Heap,(∀ c o,c≠z->c≠TO->c≠i1->c≠i2->s.heap.get? c=some o->h'.get? c=some o)->Q none {s with heap:=h'}):wpAny (model prog w) A (pyNext<|.ref z) Q E s:=by
 have kT:s.TypeIs (.ref z) "zip":=⟨_,hz,rfl⟩;unfold pyNext;refine qc<|wpAny_attempt<|wpAny_callSpecial?_slot (name:=Str.ofString "__next__") kT F.slot_zip_next<|wpAny_call_entry F.slot_zip_next kT F.entry_zip_next ?_<|F.args_zip_next_1 _;unfold Builtin.«zip.__next__»;refine qc<|qd ?_;refine qc<|wpAny_field hz rfl (x:=.bool false) rfl ?_;refine qc<|wpAny_field hz rfl (x:=.ref TI) rfl ?_;refine qc<|wpAny_seqItems hI rfl ?_;show wpAny _ _ (Builtin.SmallTypes.ownedTupleIsFree (.ref z) >>= _) _ _ s;unfold Builtin.SmallTypes.ownedTupleIsFree;refine qc<|qc<|wpAny_field hz rfl (x:=.none) rfl<|qd ?_;show wpAny _ _ (if true=true then _ else _) _ _ _;rw[if_pos rfl];refine qc<|wpAny_rule<|qc<|wpAny_field hz rfl (x:=.ref TO) rfl ?_;refine qc<|mZ hz (by simp) λha ka za fa=>?_;have AB:ha.IsTupleIter i1 t1 k:=by
  have(o,e,r):=h1;exact⟨o,fa _ _ ap.i1z e,r⟩
 have JN:ha.IsTuple t1 xs:=by
  have(o,e,r):=g1;exact⟨o,fa _ _ ap.l1z e,r⟩
 refine qc ?_;show wpAny _ _ (forIn [(Value.ref i1,0),(Value.ref i2,1)] (none,()) _) _ _ _;rw[List.forIn_cons];refine qc<|qc<|wpAny_onRaise ?_;show wpAny _ _ (Builtin.SmallTypes.nextOf (.ref i1) >>= _) _ _ _;refine qc<|OC (s:={s with heap:=ha}) hh AB JN en λhb e sb hZ=>?_;have(oe,ge,ce):=hZ;have kb:=sb z _ (Ne.symm ap.i1z) ka;refine mZ (s:={s with heap:=hb}) kb (by simp) λhc kc zc fc=>?_;have nez:e≠z:=λh=>by
  rw[h]at ge;have z1:=qB (ge.symm.trans kb);rw[z1]at ce;have z2 : "zip" = "StopIteration":=Value.type.inj ce;exact absurd z2 (by decide)
 show wpAny _ _ (isInstance (.ref e) (.type "StopIteration") >>= _) _ _ _;refine qc<|wpAny_isInstance (T := "StopIteration") (b:=true) ⟨oe,fc _ _ nez ge,ce⟩ isSubtype_stop ?_;exact qd<|q hc λc o n1 n2 n3 n4 e=>fc c o n1<|sb c o n3<|fa c o n1 e
end
def TV(K:qe)(a b:Qg):It :=
 ⟨λi H=>∃ xs ys x y,br K H a xs/\br K H b ys/\xs[i]?=some x/\ys[i]?=some y,λi H x H'=>∃ T,H T=none/\x=.ref T/\∀ xs ys v u,br K H a xs->br K H b ys->xs[i]?=some v->ys[i]?=some u->H'=upd H T (.tup [v,u]),λi H=>∃ xs ys,br K H a xs/\br K H b ys/\xs.length=i⟩
abbrev TN(z TI TO i1 i2 t1 t2:Qg)(i:Nat)(h:Heap):Prop:=IsZip h z TI TO .none/\IsPair h TI (.ref i1) (.ref i2)/\(∃ a b,IsPair h TO a b)/\h.IsTupleIter i1 t1 i/\h.IsTupleIter i2 t2 i
theorem Zf{k:Nat}(z TI TO i1 i2 t1 t2:Qg)(ap:ZipApart z TI TO i1 i2 t1 t2):
  Turn P w K (.Tuple elts k pos) (TV K t1 t2) [z,TI,TO,i1,i2] z (TN z TI TO i1 i2 t1 t2) where
 mem:=by simp
 obj:=λi h st c hc=>by
  obtain⟨hz,hI,⟨a,b,hO⟩,⟨o1,e1,_,d1⟩,⟨o2,e2,_,d2⟩⟩:=st;simp only[qy,List.not_mem_nil,or_false]at hc;rcases hc with rfl|rfl|rfl|rfl|rfl
  .exact⟨_,hz,λv q=>by
    have q':Data.fields _=Data.cell v:=q;cases q'⟩
  .exact⟨_,hI,λv q=>by
    have q':Data.seq _ _=Data.cell v:=q;cases q'⟩
  .exact⟨_,hO,λv q=>by
    have q':Data.seq _ _=Data.cell v:=q;cases q'⟩
  .exact⟨o1,e1,λv q=>by rw[d1]at q; cases q⟩
  .exact⟨o2,e2,λv q=>by rw[d2]at q; cases q⟩
 keep:=λi h h' st kk=>by
  obtain⟨hz,hI,⟨a,b,hO⟩,⟨o1,e1,r1⟩,⟨o2,e2,r2⟩⟩:=st;exact⟨kk z (by simp) _ hz,kk TI (by simp) _ hI,⟨a,b,kk TO (by simp) _ hO⟩,⟨o1,kk i1 (by simp) _ e1,r1⟩,⟨o2,kk i2 (by simp) _ e2,r2⟩⟩
 item:=by
  intro X hP hw hK hc i pins s σ H E I hf st hg;subst hP hw hK;have(xs,ys,x,y,pV,nO,hx,hy):=hg;obtain⟨hz,hI,⟨a,b,hO⟩,h1,h2⟩:=st;have(uP,DN,w4,_):=I.tuple pV;have(eC,IG,wZ,_):=I.tuple nO;have(u1,eu1,r1):=DN.get hx;have(u2,eu2,r2):=IG.get hy;refine zrN ap hz hI hO h1 h2 w4 wZ (by simpa using eu1) (by simpa using eu2) λh' z' O' k1 k2 kU kk=>?_;refine⟨_,rfl,wpAny_letOwnedTupleGo_zip (s:={s with heap:=h'}) z' λi6 z2 sb=>?_⟩;have nm:s.heap.objs.size∉[z,TI,TO,i1,i2]:=λhm=>by
   have:s.heap.objs.size < s.heap.objs.size:=by
    simp only[qy,List.not_mem_nil,or_false]at hm;have(_,e1,_):=h1;have(_,e2,_):=h2;rcases hm with h|h|h|h|h
    .exact qk (h▸qj hz) (qg _)
    .exact qk (h▸qj hI) (qg _)
    .exact qk (h▸qj hO) (qg _)
    .exact qk (h▸qj e1) (qg _)
    .exact qk (h▸qj e2) (qg _)
   exact Ë _ this
  have nz:s.heap.objs.size≠z:=λh=>nm (by rw[h]; simp);have I2:Inv X pins σ H {s with heap:=i6}:=I.dM (t':=s.toks) (wr:=[z,TI,TO,i1,i2]) (λc o hc q=>by
   simp only[qy,List.not_mem_nil,or_false,not_or]at hc;exact(sb.2 c hc.1).trans<|kk c o hc.1 hc.2.2.1 hc.2.2.2.1 hc.2.2.2.2 q) hf
  have fT:fQ X pins H s.heap.objs.size:=I.dE (qg _) (I.aE.fresh<|qg _);have I3:Inv X pins σ (upd H s.heap.objs.size<|.tup [x,y]) {s with heap:=i6}:=I2.lR fT I.sz ⟨by show 2<=sizeLine; decide,[u1,u2],.cons r1<|.cons r2 .nil,_,(sb.2 _ nz).trans kU,rfl,⟨_,rfl⟩,.inl rfl⟩;refine⟨.ref s.heap.objs.size,_,I3,rfl,⟨_,I.aE.fresh<|qg _,rfl,λwK pF v u Js Jr hv hu=>?_⟩,⟨z2,(sb.2 _ ap.TIz).trans<|kk _ _ ap.TIz ap.TITO ap.TIi1 ap.TIi2 hI,⟨_,_,(sb.2 _ ap.TOz).trans O'⟩,?_,?_⟩,λc hc=>?_⟩
  .cases I.cS pV Js
   cases I.cS nO Jr;rw[hx]at hv;rw[hy]at hu;cases hv;cases hu;rfl
  .have(o,e,r):=k1
   exact⟨o,(sb.2 _ ap.i1z).trans e,r⟩
  .have(o,e,r):=k2
   exact⟨o,(sb.2 _ ap.i2z).trans e,r⟩
  .have ne:c≠s.heap.objs.size:=λh=>nm<|h▸hc
   rw[zD ne];exact(hf c hc).1
 done:=by
  intro X hP hw hK hc i pins s σ H E I hf st hg;subst hP hw hK;have(xs,ys,pV,nO,hl):=hg;obtain⟨hz,hI,⟨a,b,hO⟩,h1,h2⟩:=st;have(uP,DN,w4,_):=I.tuple pV;have(eC,IG,wZ,_):=I.tuple nO;refine Zg (I.ok.hd hc) ap hz hI hO h1 h2 w4 wZ (by
   have:=DN.length;simp;omega) λh' kk=>⟨rfl,I.dM (t':=s.toks) (wr:=[z,TI,TO,i1,i2]) (λc o hc q=>by
   simp only[qy,List.not_mem_nil,or_false,not_or]at hc;exact kk c o hc.1 hc.2.2.1 hc.2.2.2.1 hc.2.2.2.2 q) hf⟩
 self:=λ_ _ _ _ _ st h=>wpAny_pyIter_zip st.1 h
section
theorem zrO{t1 t2:Qg}{xs ys:Array Qc}(h1:s.heap.IsTuple t1 xs)(h2:s.heap.IsTuple t2 ys)
  (h:∀ h':Heap,TN (s.heap.objs.size+4) (s.heap.objs.size+2) (s.heap.objs.size+3) s.heap.objs.size (s.heap.objs.size+1) t1 t2 0 h'->(∀ b o,s.heap.get? b=some o->h'.get? b=some o)->Q (.ref<|s.heap.objs.size+4) {s with heap:=h'}):
  wpAny (model prog w) A (call (.type "zip") [.ref t1,.ref t2]) Q E s:=by
 refine callType_new F.called_zip (by decide) (F.typeCall_zip_2 _ _) (F.newCall_zip_2 _ _) (λobj=>F.args_object_init_3 obj _ _) F.entry_zip_new (Zh t1 t2 xs ys) ⟨h1,h2,?_⟩;have z1:(wj s.heap t1).objs.size=s.heap.objs.size+1:=Heap.size_push ..;have z2:(x9 s.heap t1 t2).objs.size=s.heap.objs.size+2:=by rw[Heap.size_push,z1]
 have z3:(wg s.heap t1 t2).objs.size=s.heap.objs.size+3:=by rw[Heap.size_push,z2]
 have z4:(Cs s.heap t1 t2).objs.size=s.heap.objs.size+4:=by rw[Heap.size_push,z3]
 show _/\_;rw[z4];have ez:(Hm s.heap t1 t2).get? (s.heap.objs.size+4)=some {cls:=.type "zip",data:=.fields #[.none,.bool false,.bool false,.ref<|s.heap.objs.size+2,.ref<|s.heap.objs.size+3]}:=by
  have:=qi (Cs s.heap t1 t2) (o:={cls:=.type "zip",data:=.fields #[.none,.bool false,.bool false,.ref (x9 s.heap t1 t2).objs.size,.ref (wg s.heap t1 t2).objs.size]}) rfl;rw[z4,z2,z3]at this;rw[<-this];unfold Hm;rw[z2,z3]
 refine⟨⟨_,ez,rfl⟩,h _ ⟨ez,?_,⟨.none,.none,?_⟩,⟨{cls:=.type "tuple_iterator",data:=.fields #[.ref t1,.int 0 0]},?_,rfl,rfl⟩,⟨{cls:=.type "tuple_iterator",data:=.fields #[.ref t2,.int 0 0]},?_,rfl,rfl⟩⟩ λb o x=>?_⟩
 .have:=qi (x9 s.heap t1 t2) (o:={cls:=.type "tuple",data:=.seq #[.ref s.heap.objs.size,.ref (wj s.heap t1).objs.size]}) rfl
  rw[z2,z1]at this;refine qf _<|qf _ ?_;unfold wg;rw[z1];exact this
 .have:=qi (wg s.heap t1 t2) (o:={cls:=.type "tuple",data:=.seq #[.none,.none]}) rfl
  rw[z3]at this;exact qf _ this
 .exact qf _ (qf _<|qf _<|qf _<|qi _ rfl)
 .have:=qi (wj s.heap t1) (o:={cls:=.type "tuple_iterator",data:=.fields #[.ref t2,.int 0 0]}) rfl
  rw[z1]at this;exact qf _<|qf _<|qf _ this
 .exact qf _ (qf _<|qf _<|qf _<|qf _ x)
end
section
variable{X:Cx}{k:Nat}
def Rz(K:qe)(ta:TA):TI:=λσ H R=>ta σ H λvs H1=>∃ a b,vs=[.ref a,.ref b]/\(∃ xs,br K H1 a xs)/\(∃ ys,br K H1 b ys)/\R (TV K a b) H1
theorem LD{a b:Expr}{ta:TA}{p:Pos}(ha:Wr (PA X [a,b] ta))(hK:X.K=K:=by rfl)(hg:Gl X "zip":=by exact rfl)(hm:X.mg "zip"=none:=by exact rn ‹Bl _ _› (by decide))(hs:dY a=true:=by rfl)(nN:[b].all dY=true:=by rfl):
  Wr (PI X (.Tuple elts k pH) (.Call (.Name "zip" p) [a,b] [] pos)<|Rz K ta):=by
 subst hK;refine⟨?_⟩;intro pins s σ H R I h;refine Call_<|rD I hg hm boot_zip<|å (aH (ha.run pos pins s σ H _ I h) λus s1 hZ=>?_) (ju hs)<|rQ nN;have(vs,H1,I1,r1,q1):=hZ;obtain⟨t1,t2,e,⟨xs,pV⟩,⟨ys,nO⟩,q⟩:=q1;subst e;have(u1,u2,rfl,ru1,ru2):=E7 r1;cases ru1;cases ru2;have(uP,DN,w4,hz1):=I1.tuple pV;have(eC,IG,wZ,hz2):=I1.tuple nO;have tl1:t1 < s1.heap.objs.size:=by
  have(o,e,_):=w4;exact qj e
 have tl2:t2 < s1.heap.objs.size:=by
  have(o,e,_):=wZ;exact qj e
 have sC:∀ {x y:Nat},x < y->x≠y:=λh=>ql h;refine zrO (show s1.heap.IsTuple t1 uP.toArray from w4) (show s1.heap.IsTuple t2 eC.toArray from wZ) λh' w5 kk=>?_;have I2:Inv X pins σ H1 {s1 with heap:=h'}:=I1.kept (t':=s1.toks) kk;refine wpAny_pyIter_zip w5.1 ?_;have f:∀ j:Nat,fQ X pins H1 (s1.heap.objs.size+j):=λj=>I1.dE (Nat.le_add_right _ _)<|I1.aE.fresh<|Nat.le_add_right _ _;have ap:ZipApart (s1.heap.objs.size+4) (s1.heap.objs.size+2) (s1.heap.objs.size+3) s1.heap.objs.size (s1.heap.objs.size+1) t1 t2:=by
  generalize s1.heap.objs.size=n at tl1 tl2;constructor<;>(simp only[Qg]at *; omega)
 refine⟨_,_,_,_,H1,rfl,I2,Zf _ _ _ _ _ t1 t2 ap,w5,λc hc=>?_,q⟩;simp only[qy,List.not_mem_nil,or_false]at hc;rcases hc with rfl|rfl|rfl|rfl|rfl
 .exact f 4
 .exact f 2
 .exact f 3
 .exact f 0
 .exact f 1
end
def tJ:Qa D->Qa D->Qa D
 | x::xs,y::ys=>.tuple [x,y]::tJ xs ys
 | _,_=>[]
theorem L4:∀ {xs ys:Qa D} {i:Nat} {d:D},(tJ xs ys)[i]?=some d->∃ x y,xs[i]?=some x/\ys[i]?=some y/\d=.tuple [x,y]
 | [],ys,i,d,h=>by simp[tJ]at h
 | x::xs,[],i,d,h=>by simp[tJ]at h
 | x::xs,y::ys,0,d,h=>by cases h; exact⟨x,y,rfl,rfl,rfl⟩
 | x::xs,y::ys,i+1,d,h=>L4 (xs:=xs) (ys:=ys) (i:=i) h
theorem Nt:∀ (xs ys:Qa D),xs.length=ys.length->(tJ xs ys).length=xs.length
 | [],[],_=>rfl
 | [],y::ys,h=>by cases h
 | x::xs,[],h=>by cases h
 | x::xs,y::ys,h=>congrArg (·+1)<|Nt xs ys<|Nat.succ.inj h
def xu:Qa U->Qb (Qa D)
 | [.d<|.tuple xs,.d<|.tuple ys]=>if xs.length=ys.length then some (tJ xs ys)else none
 | _=>none
def AY(ma:MA):MI:=λρ=>(ma ρ).bind λp=>(bC p.2 p.1).bind λus=>(xu us).bind λds=>some (ds,p.2)
theorem LC{ta:TA}{ma:MA}(h:jc K ta ma):VI K (Rz K ta) (AY ma):=by
 intro ρ σ H ds av R r e q;obtain⟨⟨as,aw⟩,e1,e⟩:=bQ e;have(us,eu,e):=bQ e;have(zs,ez,e):=bQ e;cases e;refine h ρ σ H as aw _ r e1 λvs H1 g1 s1=>?_;have rp:=s1.lY r g1 eu;unfold xu at ez;split at ez
 .split at ez
  rotate_left
  .cases ez
  rename_i xs ys hl;cases ez;cases rp with
  | cons p1 t=>
   cases t with
   | cons p2 t=>
    cases t;have(a,vx,rfl,h1,d1):=DF.aI p1;have(b,vy,rfl,h2,d2):=DF.aI p2;refine⟨a,b,rfl,⟨vx,(aX.sq h1)⟩,⟨vy,(aX.sq h2)⟩,q _ _ g1 λH2 kk i=>⟨λd ed=>?_,λei=>?_⟩⟩
    .have(x,y,ex,ey,rfl):=L4 ed
     have(v,ev,dv):=(d1.kp kk).get ex;have(w,ew,dw):=(d2.kp kk).get ey;refine⟨⟨vx,vy,v,w,(aX.kp kk h1).sq,(aX.kp kk h2).sq,ev,ew⟩,λz H' y=>?_⟩;have(T,nT,rfl,y):=y;cases y vx vy v w ((aX.kp kk h1).sq) ((aX.kp kk h2).sq) ev ew;have sm:=zZ nT (.tup [v,w]);exact⟨sm,.tup (.inl zy)<|.cons (dv.kp sm.kp)<|.cons (dw.kp sm.kp) .nil⟩
    .exact⟨vx,vy,(aX.kp kk h1).sq,(aX.kp kk h2).sq,by rw[Nt _ _ hl]at ei; rw[d1.len]; exact ei.symm⟩
 .cases ez
section
theorem znd{b:Qg}{Q:Bool->Qd->Prop}(hT:s.TypeIs (.ref b) "tuple")(h:Q false s):wpAny (model prog w) A (Builtin.Dict.quietEq<|.ref b) Q E s:=by
 unfold Builtin.Dict.quietEq;refine qc<|wpAny_specialOf hT F.slot_tuple_eq.lookup<|qd ?_;exact h
theorem zne{id:String}{d:Qg}{o:Obj}{Q:Array DictEntry->Qd->Prop}(ho:s.heap.get? d=some o)(hd:o.data=.dict es ep)
  (hk:∀ e∈es.toList,∃ b,e.key=.ref b/\s.TypeIs (.ref b) "tuple") (hh:∀ e∈es.toList,¬(es.filter (·.hash==e.hash)).size > 1) (h:Q es s):
  wpAny (model prog w) A (Builtin.Dict.entriesForEmpty id d) Q E s:=by
 unfold Builtin.Dict.entriesForEmpty;refine qc<|wpAny_dictEntries ho hd ?_;refine qc ?_;rw[<-Array.forIn_toList];refine wpAny_forIn_list _ (λeh _ s'=>s'=s/\∀ e∈eh,e∈es.toList) _ ?_ ?_ _ _ ⟨rfl,λe h=>h⟩
 .rintro e eh b s' ⟨rfl,hr⟩
  have(c,ec,tc):=hk e (hr e qr);rw[ec];refine qc<|znd tc ?_;simp only[Bool.not_false,if_true];rw[if_neg<|hh e<|hr e qr];exact qd ⟨rfl,λe h=>hr e<|qq _ h⟩
 .rintro b s' ⟨rfl,_⟩
  exact qd h
theorem zBi(ne:es.isEmpty=false)(hk:∀ e∈es.toList,∃ b,e.key=.ref b):(decide (es.size<=8) && es.all λe=>(keyPart e.key).isSome)=false:=by
 have:(es.all λe=>(keyPart e.key).isSome)=false:=by
  rw[<-Array.all_toList];cases h:es.toList with
  | nil=>
   have:es=#[]:=by
    apply Array.ext';rw[h]
   rw[this]at ne;cases ne
  | cons e r=>
   have(b,eb):=hk e (by rw[h]; exact qr);rw[List.all_cons,eb];rfl
 rw[this,Bool.and_false]
theorem zj8{d:Qg}{o:Obj}(hdS:(d==sysModules)=false)(ho:s.heap.get? d=some o)(hx:o.ExactDict)(hd:o.data=.dict es ep)(hz:es.size<=sizeLine)
  (hk:∀ e∈es.toList,∃ b,e.key=.ref b/\s.TypeIs (.ref b) "tuple") (hh:∀ e∈es.toList,¬(es.filter (·.hash==e.hash)).size > 1)
  (h:∀ h':Heap,(∃ o' eQ,h'.get? s.heap.objs.size=some o'/\o'.ExactDict/\o'.data=.dict es eQ)->(∀ b u,s.heap.get? b=some u->h'.get? b=some u)->Q (.ref s.heap.objs.size) {s with heap:=h'}):
  wpAny (model prog w) A (call (.type "dict") [.ref d]) Q E s:=by
 refine callType_codes (Q₁:=λobj aG=>obj=.ref s.heap.objs.size/\aG={s with heap:=s.heap.push {cls:=.type "dict",data:=.dict #[]}}) F.kt_called_dict (F.kt_typeCall_dict_1 _) F.entry_dict_init (kt_code_dict_new _ ⟨rfl,rfl⟩) ?_;rintro obj aG ⟨rfl,rfl⟩;have nd:s.heap.objs.size≠d:=Ne.symm (ql<|qj ho);have hn:(s.heap.push {cls:=.type "dict",data:=.dict #[]}).get? s.heap.objs.size=some {cls:=.type "dict",data:=.dict #[]}:=qi _ rfl;have fO:(s.heap.push {cls:=.type "dict",data:=.dict #[]}).get? d=some o:=qf _ ho;have kk:∀ b u,s.heap.get? b=some u->(s.heap.push {cls:=.type "dict",data:=.dict #[]}).get? b=some u:=λb u e=>qf _ e;generalize s.heap.push {cls:=.type "dict",data:=.dict #[]}=h1 at hn fO kk ⊢;have tn:Shared.TypeIs {s with heap:=h1} (.ref s.heap.objs.size) "dict":=⟨_,hn,rfl⟩;have to:Shared.TypeIs {s with heap:=h1} (.ref d) "dict":=⟨_,fO,hx.1⟩;refine⟨tn,F.args_dict_init_2 _ _,?_⟩;unfold Builtin.«dict.__init__»;refine qc ?_;unfold Builtin.Dict.selfAndRest;refine qc<|wpAny_notOrdered_dict tn ?_;show wpAny _ _ (pure (s.heap.objs.size,[Value.ref d])) _ _ _;refine qd ?_;show wpAny _ _ (Builtin.Dict.updateFrom "dict.__init__" s.heap.objs.size (.ref d) [] .none) _ _ _;unfold Builtin.Dict.updateFrom;refine qc<|wpAny_typeOf to ?_;rw[if_neg (by decide)];refine qc ?_;unfold Builtin.Dict.merge;refine qc ?_;unfold Builtin.Dict.readDirectly;refine qc<|wpAny_isInstance to isSubtype_dict_dict ?_;simp only[Bool.not_true,Bool.false_eq_true,if_false];refine qc<|wpAny_specialOf to F.slot_dict_iter.lookup<|qd ?_;simp only[beq_self_eq_true,if_true];refine qc<|qd ?_;unfold Builtin.Dict.mergeDict;rw[if_neg (by simpa using nd)];unfold Builtin.Dict.showsAll;rw[if_neg (by rw[hdS]; exact qh)];refine qc<|qd ?_;refine qc<|wpAny_dictEntries fO hd ?_;cases ne:es.isEmpty with
 | true=>
  have e0:es=#[]:=Array.isEmpty_iff.mp ne;subst e0;have fw:(decide ((#[]:Array DictEntry).size<=8) && (#[]:Array DictEntry).all λe=>(keyPart e.key).isSome)=true:=by rw[<-Array.all_toList]; rfl
  simp only[fw,Bool.not_true,Bool.false_eq_true,if_false];refine qc<|wpAny_dictEpoch (s:={s with heap:=h1}) fO hd ?_;refine qc<|wpAny_dictEntries (s:={s with heap:=h1}) fO hd ?_;refine qc ?_;rw[Std.Legacy.Range.forIn_eq_forIn_range'];simp only[Std.Legacy.Range.size,Nat.sub_zero,Nat.add_sub_cancel,Nat.div_one,Array.size_empty,List.range'_zero,List.forIn_nil];refine qd<|qd ?_;exact qc<|qd<|qd ⟨rfl,h h1 ⟨_,0,hn,⟨rfl,rfl,rfl⟩,rfl⟩ kk⟩
 | false=>
  have fw:=zBi ne λe he=>let ⟨b,eb,_⟩:=hk e he; ⟨b,eb⟩;simp only[fw,Bool.not_false,if_true];refine qc<|wpAny_dictEntries hn rfl ?_;simp only[Array.isEmpty_empty,if_true];refine qc<|zne (s:={s with heap:=h1}) fO hd (λe he=>?_) hh ?_
  .have(b,eb,o2,eo,ec):=hk e he
   exact⟨b,eb,o2,kk _ _ eo,ec⟩
  simp only[ne,Bool.not_false,if_true];refine qc<|wpAny_updateDictKeysTo hn rfl ?_ (by show es.size<=_; omega);refine qd<|qc<|qd<|qd ⟨rfl,h _ ⟨_,_,Ù _ hn rfl,⟨rfl,rfl,rfl⟩,rfl⟩ λb u e=>?_⟩;exact((Õ ..).2 b<|ql<|qj e).trans<|kk b u e
end
def hK:Key->Int
 | .inl i=>hashInt i
 | .inr _=>0
def hT(ks:Qa Key):Int:=reduceHash (Builtin.Tuple.tupleHashOf<|ks.map hK)
def HN(ks:Qa Key):Bool:=ks.all λk=>match k with | .inl _=>true | .inr _=>false
def tU(Sm:Qa (Qa Key)):Bool:=Sm.all HN && decide ((Sm.map hT).Nodup)
theorem zDg:∀ {ks:Qa Key},HN ks=true->(tupleKind<|eV P w).hash ks=hT ks:=λ{ks} h=>by
 show reduceHash (Builtin.Tuple.tupleHashOf<|ks.map<|RU w)=_;unfold hT;congr 2;refine Ö λk hk=>?_;have:=é.mp h k hk;cases k with
 | inl i=>rfl
 | inr x=>cases this
theorem zoM{es:Qa DictEntry}(hn:(es.map (·.hash)).Nodup){e:DictEntry}(he:e∈es):(es.filter (·.hash==e.hash)).length<=1:=by
 induction es with
 | nil=>cases he
 | cons x es ih=>
  rw[List.map_cons,List.nodup_cons]at hn;rw[List.filter_cons];rcases qy.mp he with rfl|SH
  .rw[if_pos (by simp)]
   have:es.filter (·.hash==e.hash)=[]:=List.filter_eq_nil_iff.mpr λy hy z=>hn.1<|Ä.mpr ⟨y,hy,by simpa using z⟩;rw[this];simp
  .have:¬((x.hash==e.hash)=true):=λz=>hn.1<|Ä.mpr ⟨e,SH,by simpa using (beq_iff_eq.mp z).symm⟩
   rw[if_neg this];exact ih hn.2 SH
section
variable{X:Cx}
theorem VH{l:Qa (Qa Key×V)}{m:Qa (Qa Key×Qg×Qc)}(r:KT X.K H l m):m.map (·.1)=l.map (·.1):=by
 induction r with
 | nil=>rfl
 | cons hq t ih=>rw[List.map_cons,List.map_cons,ih,hq.1]
theorem VG(I:Inv X pins σ H s)(e:Rd H a (.dT kvs))(hh:tU (kvs.map (·.1))=true)(h:∀ p s',H p=none->Inv X pins σ (upd H p<|.dT kvs) s'->Q (.ref p) s'):wpAny (model X.prog X.w) A (call (.type "dict") [.ref a]) Q E s:=by
 have(z,y,xs,r,o,es,ep,h1,h2,h3,h4,h5):=(show bW X.prog X.w X.K H s.heap a (.dT kvs) from E4 I.aE e);have(_,_,wK,r',dd):=rA I.cc I.aE e;have hlen:es.size=kvs.length:=by
  have:=congrArg List.length h4;rw[Array.length_toList,List.length_map,<-yy r]at this;exact this
 have(hi,hn):=Ă.mp hh;have hn:=of_decide_eq_true hn;have l9:=VH r;have hashes:es.toList.map (·.hash)=(kvs.map (·.1)).map hT:=by
  rw[h4,<-l9,List.map_map,List.map_map];refine Ö λx hx=>?_;exact zDg<|é.mp hi x.1 (by rw[<-l9]; exact Ä.mpr ⟨x,hx,rfl⟩)
 refine zj8 y h1 h2 h3 (by omega) (λq hq=>?_) (λq hq=>?_) λh' ⟨o',eQ,n1,n2,n3⟩ kk=>?_
 .rw[h4]at hq
  have(x,hx,rfl):=Ä.mp hq;have key:∀ {l:Qa (Qa Key×V)} {m:Qa (Qa Key×Qg×Qc)},KT X.K H l m->∀ x∈m,aX X.K H x.2.1 (x.1.map kV):=by
   intro l m q
   induction q with
   | nil=>intro x hx; cases hx
   | cons hq _ ih=>
    intro x hx;rcases qy.mp hx with e|hx
    .subst e
     rw[<-hq.1];exact hq.2.1
    .exact ih x hx
  exact⟨x.2.1,rfl,(rH I.cc I.aE<|key r x hx).typeIs⟩
 .rw[<-hashes]at hn
  have:=zoM hn hq;rw[<-Array.length_toList,Array.toList_filter];omega
 .refine h _ _ (I.aE.fresh<|qg _) (I.laid (a:=s.heap.objs.size) (o:=.dT kvs) (t':=s.toks) kk (qg _) ⟨z,beq_eq_false_iff_ne.mpr<|Ne.symm<|ql I.AK,xs,?_,o',es,eQ,n1,n2,n3,h4,h5⟩)
  exact KT.keeps r λb ys hb=>by rw[zD (λz=>by rw[z,I.aE.fresh<|qg _]at hb; cases hb)]; exact hb
theorem zoN:fS X (.type "dict") (λxs H Q=>∃ a kvs,xs=[.ref a]/\Rd H a (.dT kvs)/\tU (kvs.map (·.1))=true/\∀ p,H p=none->Q (.ref p) (upd H p<|.dT kvs)):=by
 intro pins s σ H xs us Q I r h;have(a,kvs,rfl,hr,hh,q):=h;have(u,rfl,ru):=jS r;cases ru;exact VG I hr hh λp s' hp I'=>⟨.ref p,_,I',rfl,q p hp⟩
end
def tN:Qa (D×D)->Qb (Qa<|Qa Key×D)
 | []=>some []
 | (k,d)::r=>(dh k).bind λk=>(tN r).bind λr=>some<|(k,d)::r
def yk:U->Qb U
 | .t kvs=>if tU (kvs.map (·.1))=true then some (.t kvs)else none
 | .d (.dict kvs)=>if iV kvs=true then(tN kvs).bind λkvs=>if tU (kvs.map (·.1))=true then some (.t kvs)else none else none
 | _=>none
section
theorem Nr{ws:Qa (Qa Key×V)}{kvs:Qa (Qa Key×D)}(h:dH K H ws kvs):ws.map (·.1)=kvs.map (·.1):=by
 induction h with
 | nil=>rfl
 | cons hq t ih=>rw[List.map_cons,List.map_cons,ih,hq.1]
theorem GQ:∀ {kvs:Qa (D×D)} {ws:Qa (Qa Key×V)} {r:Qa (Qa Key×D)},iq K H ws kvs->tN kvs=some r->dH K H ws r
 | [],ws,r,h,e=>by cases h; cases e; exact .nil
 | (k,d)::kvs,ws,r,h,e=>by
  have(k',ek,e):=bQ (show(dh k).bind _=some r from e);have(r',er,e):=bQ e;cases e;cases h with
  | @cons k2 v _ vs ds hv t=>
   rw[CH]at ek;cases ek;exact .cons ⟨rfl,hv⟩<|GQ t er
theorem zrP:VC K (λxs H Q=>∃ a kvs,xs=[.ref a]/\Rd H a (.dT kvs)/\tU (kvs.map (·.1))=true/\∀ p,H p=none->Q (.ref p) (upd H p<|.dT kvs)) (f1 yk):=oz λv a u H Q h e q=>by
 unfold yk at e;split at e
 .split at e
  rotate_left
  .cases e
  rename_i kvs hh;cases e;have(b,ws,rfl,h1,h2):=h;refine⟨b,ws,rfl,.inl h1,by rw[Nr h2]; exact hh,λp hp=>?_⟩;have sm:=zZ hp (.dT ws);exact q _ _ sm ⟨p,ws,rfl,zy,h2.kp sm.kp⟩ λ_=>⟨p,rfl,hp⟩
 .split at e
  rotate_left
  .cases e
  rename_i nx;have(r,er,e):=bQ e;split at e
  rotate_left
  .cases e
  rename_i hh;cases e;have(b,o,ws,rfl,h1,h2):=DF.cw h nx;have kd:=GQ h2 er;refine⟨b,ws,rfl,.inr ⟨o,h1⟩,by rw[Nr kd]; exact hh,λp hp=>?_⟩;have sm:=zZ hp (.dT ws);exact q _ _ sm ⟨p,ws,rfl,zy,kd.kp sm.kp⟩ λ_=>⟨p,rfl,hp⟩
 .cases e
end
def Bw(i j:Int):Prop:=i.natAbs.log2 < 1000000/\j.natAbs.log2 < 1000000
theorem Nq{n:Int}(h:n.natAbs.log2 < 1000000):Builtin.Int.intBits n<=2^20:=by
 refine intBits_le ?_
 by_cases z:n.natAbs=0
 .rw[z]; exact Nat.two_pow_pos _
 .exact qk ((Nat.log2_lt z).mp h) (ã (by decide) (by decide))
section
variable{X:Cx}
theorem j0:bN X (binaryOp .Mult) (rI Bw λi j=>.int<|i * j):=wQ λ_ _ _ _ _ _ _ hc q=>mul_int q<|IntMulOk.of_bits (Nq hc.1)<|Nq hc.2
end
section
def iO:=nV Bw λi j=>.int<|i * j
theorem jZ:VO K (rI Bw λi j=>.int<|i * j) iO:=vS λi j H=>.int _
end
section
variable{ρ:En}{me ma mb mc mk mi md my mv mx mo:ME}{mA mK:MA}{mt mu:MT}{mI:MI}{mg:MG}{m1 m2:MS}{u:U}{x:D}
variable{QE:Ar×En->Prop}{QI:Qa D×En->Prop}
theorem znh:Wo (rE md my mx ρ) QE=Wo (md ρ) (Co (λp=>(p.1.get p.2).bind λu0=>if vM u0=true then(my p.2).bind λq=>(mx q.2).bind λz=>(p.1.get z.2).bind λu=>(q.1.get z.2).bind λy=>(z.1.get z.2).bind λx=>(mV u y).bind λo=>x.da.bind λx=>some (.u<|.d<|o.getD x,z.2)else none) ⟨0⟩ QE):=by
 have e:rE md my mx ρ=(md ρ).bind λp=>(p.1.get p.2).bind λu0=>if vM u0=true then(my p.2).bind λq=>(mx q.2).bind λz=>(p.1.get z.2).bind λu=>(q.1.get z.2).bind λy=>(z.1.get z.2).bind λx=>(mV u y).bind λo=>x.da.bind λx=>some (.u<|.d<|o.getD x,z.2)else none:=by
  unfold rE;refine bind_fn λp=>bind_fn λu0=>?_;split
  .refine bind_fn λq=>bind_fn λz=>bind_fn λu=>bind_fn λy=>bind_fn λx=>bind_fn λo=>?_
   cases x<;>rfl
  .rfl
 rw[e,zt]
theorem Ze:Wo (AY mA ρ) QI=Wo (mA ρ) (Co (λp=>(bC p.2 p.1).bind λus=>(xu us).bind λds=>some (ds,p.2)) ⟨0⟩ QI):=by
 show Wo (Option.bind _ _) QI=_;rw[zt]
theorem zqo{kvs:Qa (Qa Key×D)}:vM (.t kvs)=true:=rfl
theorem jV{a:Int}(h:a.natAbs.log2 < 1000000)(h2:b.natAbs.log2 < 1000000):iO (.d<|.int a) (.d<|.int b)=some (.d<|.int<|a * b):=vO (c:=Bw) ⟨h,h2⟩
theorem FW{g:α->D}{b:α->Bool}{e:α->D}{Q:Qa D×En->Prop}(hz:as.length<=sizeLine)
  (st:∀ a∈as,∀ ys,Wo (mg (g a) ρ)<|Co mt ⟨0⟩<|wX nt me ys λav zs=>av=ρ/\zs=if b a=true then ys++[e a]else ys) (q:Q ((as.filter b).map e,ρ)):Wo (iX nt mg mt me (as.map g) ρ []) Q:=by
 refine KH (λi av ys=>av=ρ/\ys=((as.take i).filter b).map e) (by rw[List.length_map]; exact hz) (λi av ys h=>?_) ⟨rfl,rfl⟩ (λi d av ys hd h=>?_) λav ys h=>?_
 .rw[h.2,List.length_map]
  exact qC (ý _ _) (by rw[List.length_take]; exact Nat.min_le_left _ _)
 .have(rfl,rfl):=h
  rw[List.getElem?_map]at hd;have(a,ha,rfl):=qv.mp hd;have:=st a (Ì ha) (((as.take i).filter b).map e);have en:((as.take<|i+1).filter b).map e=if b a=true then((as.take i).filter b).map e++[e a]else((as.take i).filter b).map e:=by
   rw[List.take_succ,ha,List.filter_append,List.map_append];show _++(([a]:Qa α).filter b).map e=_;rw[List.filter_cons];split<;>simp
  rw[en];exact this
 .have(rfl,rfl):=h
  rw[List.length_map,List.take_of_length_le<|qg _];exact q
end
def AX(K:qe)(tl:TE):TI:=λσ H R=>tl σ H λx H1=>∃ a,x=.ref a/\(((∃ xs,bu K H1 a xs)/\R (J3 K a) H1)\/((∃ xs,br K H1 a xs)/\R (J2 K a) H1))
section
variable{X:Cx}
theorem zBk{l:Expr}{tl:TE}(hl:PE X l tl):PI X tg l (AX X.K tl):=by
 intro pins s σ H R I h;refine aH (hl pins s σ H _ I h) λv s1 hZ=>?_;have(x,H1,I1,r1,q1):=hZ;have(a,e,z):=q1;subst e;cases r1;rcases z with⟨hx,q⟩|⟨hx,q⟩
 .have(xs,hq):=hx
  have(ah,rv,p,hz):=I1.list hq;refine wpAny_pyIter_list p.isList ?_;refine⟨s1.heap.objs.size,[s1.heap.objs.size],_,_,H1,rfl,I1.kept (t':=s1.toks) λb o e=>qf _ e,Ol a _,⟨_,qi _ rfl,rfl,rfl⟩,λb hb=>?_,q⟩;have e:b=s1.heap.objs.size:=by simpa using hb
  subst e;exact I1.dE (qg _)<|I1.aE.fresh<|qg _
 .have(xs,hq):=hx
  have(ah,rv,p,hz):=I1.tuple hq;refine wpAny_pyIter_tuple (show s1.heap.IsTuple a ah.toArray from p) ?_;refine⟨s1.heap.objs.size,[s1.heap.objs.size],_,_,H1,rfl,I1.kept (t':=s1.toks) λb o e=>qf _ e,O2 a _,⟨_,qi _ rfl,rfl,rfl⟩,λb hb=>?_,q⟩;have e:b=s1.heap.objs.size:=by simpa using hb
  subst e;exact I1.dE (qg _)<|I1.aE.fresh<|qg _
theorem zBl{l:Expr}{tl:TE}(K:qe)(hK:X.K=K)(hl:Wr (PE X l tl)):Wr (PI X tg l<|AX K tl):=hK▸⟨zBk hl.run⟩
end
def AW:U->Qb (Qa D)
 | .d (.list xs)=>some xs
 | .d (.tuple xs)=>some xs
 | _=>none
theorem zBm{me:ME}(h:VE K te me):VI K (AX K te) (de AW me):=by
 intro ρ σ H ds av R r e q;obtain⟨⟨a,aw⟩,e1,e⟩:=bQ e;have(u,eu,e):=bQ e;have(xs,ex,e):=bQ e;cases e;refine h ρ σ H a _ _ r e1 λv H1 g1 k1=>?_;have p:=k1.now r g1 eu;unfold AW at ex;split at ex
 .cases ex
  have(b,ys,rfl,h1,h2):=DF.lst_inv p;refine⟨b,rfl,.inl ⟨⟨ys,h1.sq⟩,q _ _ g1 λH2 k i=>⟨λd ed=>?_,λei=>?_⟩⟩⟩
  .have(v,ev,dv):=(h2.kp k).get ed
   refine⟨⟨ys,v,(h1.kp k).sq,ev⟩,λx H' y=>?_⟩;have(rfl,y):=y;have:=y ys (h1.kp k).sq;rw[ev]at this;cases this;exact⟨λ_ _ z=>z,dv⟩
  .exact⟨ys,(h1.kp k).sq,by rw[h2.len]; omega⟩
 .cases ex
  have(b,ys,rfl,h1,h2):=DF.aI p;refine⟨b,rfl,.inr ⟨⟨ys,(aX.sq h1)⟩,q _ _ g1 λH2 k i=>⟨λd ed=>?_,λei=>?_⟩⟩⟩
  .have(v,ev,dv):=(h2.kp k).get ed
   refine⟨⟨ys,v,(aX.kp k h1).sq,ev⟩,λx H' y=>?_⟩;have(rfl,y):=y;have:=y ys ((aX.kp k h1).sq);rw[ev]at this;cases this;exact⟨λ_ _ z=>z,dv⟩
  .exact⟨ys,(aX.kp k h1).sq,by rw[h2.len]; omega⟩
 .cases ex
end L2
namespace L2
open PySem
def mT(n d:Int):Int:=(if d < 0 then -n else n) / (Int.gcd n d:Nat)
def kZ(n d:Int):Int:=(if d < 0 then -d else d) / (Int.gcd n d:Nat)
theorem zrQ{n d:Int}(hd:d≠0):mT n d * d=n * kZ n d/\1<=kZ n d/\Int.gcd (mT n d) (kZ n d)=1/\kZ n d<=d.natAbs/\(mT n d).natAbs<=n.natAbs:=by
 have hg:0 < Int.gcd n d:=þ n hd;have(u,hu):=Int.gcd_dvd_left n d;have(v,hv):=Int.gcd_dvd_right n d;have D7:(0:Int) < (Int.gcd n d:Nat):=Int.natCast_pos.mpr hg;have hc:Int.gcd (n / (Int.gcd n d:Nat)) (d / (Int.gcd n d:Nat))=1:=Int.gcd_ediv_gcd_ediv_gcd hg;unfold mT kZ;generalize (Int.gcd n d:Nat)=g at *;have Eb:(g:Int)≠0:=by omega
 have eu:n / (g:Int)=u:=by rw[hu]; exact ñ u Eb
 have ev:d / (g:Int)=v:=by rw[hv]; exact ñ v Eb
 have SU:(-n) / (g:Int)=-u:=by rw[hu,<-Int.mul_neg]; exact ñ (-u) Eb
 have vi:(-d) / (g:Int)=-v:=by rw[hv,<-Int.mul_neg]; exact ñ (-v) Eb
 rw[eu,ev]at hc;have g1:1<=g:=hg;have an:n.natAbs=g * u.natAbs:=by rw[hu,Int.natAbs_mul]; rfl
 have ad:d.natAbs=g * v.natAbs:=by rw[hv,Int.natAbs_mul]; rfl
 have lu:u.natAbs<=n.natAbs:=by rw[an]; exact Nat.le_mul_of_pos_left _ hg
 have lv:v.natAbs<=d.natAbs:=by rw[ad]; exact Nat.le_mul_of_pos_left _ hg
 by_cases c:d < 0
 .rw[if_pos c,if_pos c,SU,vi]
  have hv0:v < 0:=by
   rcases(by omega:v < 0\/0<=v)with z|z
   .exact z
   .have:=Ĉ (à D7) z
    omega
  refine⟨?_,by omega,?_,by omega,by omega⟩
  .rw[hu,hv]
   simp only[Int.neg_mul,Int.mul_neg,Int.neg_inj]
   ac_rfl
  .rw[Int.neg_gcd,Int.gcd_neg]
   exact hc
 .rw[if_neg c,if_neg c,eu,ev]
  have hv0:0 < v:=by
   rcases(by omega:0 < v\/v<=0)with z|z
   .exact z
   .have:=Ĉ (à D7) (show 0<=-v by omega)
    rw[Int.mul_neg,<-hv]at this;omega
  refine⟨?_,by omega,hc,by omega,by omega⟩;rw[hu,hv]
  ac_rfl
theorem Zd{n d N D:Int}(hd:d≠0)(h1:1<=D)(hc:Int.gcd N D=1)(he:N * d=n * D):N=mT n d/\D=kZ n d:=by
 have(e,y1,c,_,_):=zrQ (n:=n) hd;generalize mT n d=x at *;generalize kZ n d=y at *;have k:N * y=x * D:=by
  have z:(N * y) * d=(x * D) * d:=by grind
  exact ă hd z
 have d1:D∣y:=by
  have t:D∣N * y:=⟨x,by rw[k]; ac_rfl⟩;have u:=ë.mpr t;rw[Int.gcd_comm,hc]at u;simpa using u
 have d2:y∣D:=by
  have t:y∣x * D:=⟨N,by rw[<-k]; ac_rfl⟩;have u:=ë.mpr t;rw[Int.gcd_comm,c]at u;simpa using u
 have l1:=Int.le_of_dvd (by omega) d1;have l2:=Int.le_of_dvd (by omega) d2;have e2:D=y:=by omega
 refine⟨?_,e2⟩;rw[e2]at k;exact ă (by omega) k
theorem Np(n d:Int){g:Int}(hg:0 < g):n.fdiv (if d < 0 then 0 - g else g)=(if d < 0 then -n else n) / g:=by
 split
 .rw[Int.zero_sub,<-Int.fdiv_eq_ediv_of_nonneg _ (Int.le_of_lt hg)]
  have:=Int.neg_fdiv_neg (-n) g;rw[Int.neg_neg]at this;exact this
 .rw[Int.fdiv_eq_ediv_of_nonneg _<|Int.le_of_lt hg]
theorem Yb(x y:Int):Int.gcd (if x < 0 then -x else x) (if y < 0 then -y else y)=Int.gcd x y:=by
 rw[Gn];split
 .exact Int.gcd_neg
 .rfl
theorem VF{n d:Int}(hd:d≠0):mT n d=(Rat.divInt n d).num/\kZ n d=((Rat.divInt n d).den:Int):=by
 have h:=Zd (n:=n) (d:=d) (N:=(Rat.divInt n d).num) (D:=((Rat.divInt n d).den:Int)) hd (by have:=(Rat.divInt n d).den_pos; omega) (by
  have:=(Rat.divInt n d).reduced;exact this) (by
  have e:Rat.divInt (Rat.divInt n d).num ((Rat.divInt n d).den:Int)=Rat.divInt n d:=Rat.num_divInt_den _;rw[Rat.divInt_eq_divInt_iff (by have:=(Rat.divInt n d).den_pos; omega) hd]at e;rw[e])
 exact⟨h.1.symm,h.2.symm⟩
def fR(r:Rat):D:=.tuple [.int r.num,.int (r.den:Int)]
theorem Lm{n d:Int}(hd:d≠0):PyData.tuple [.int<|mT n d,.int<|kZ n d]=fR (Rat.divInt n d):=by
 have(e1,e2):=VF (n:=n) hd;rw[e1,e2];rfl
theorem kY(r:Rat):1<=(r.den:Int):=by have:=r.den_pos; omega
theorem S2(r:Rat):Int.gcd r.num (r.den:Int)=1:=by
 have:=r.reduced;exact this
theorem VD(a b:Rat):Rat.divInt (a.num * b.den+b.num * a.den) ((a.den:Int) * b.den)=a+b:=by
 rw[Rat.add_def',<-Rat.divInt_ofNat,Int.natCast_mul]
theorem VB(a b:Rat):Rat.divInt (a.num * b.num) ((a.den:Int) * b.den)=a * b:=by
 rw[Rat.mul_def',<-Rat.divInt_ofNat,Int.natCast_mul]
theorem GP(r:Rat):r * (r.den:Rat)=(r.num:Rat):=by
 have e:(r.num:Rat) / ((r.den:Int):Rat)=r:=by rw[<-Rat.divInt_eq_div]; exact Rat.num_divInt_den r
 have n:((r.den:Int):Rat)≠0:=λh=>by
  have:=Rat.intCast_inj.mp (show((r.den:Int):Rat)=((0:Int):Rat) from h);have:=r.den_pos;omega
 have:=Rat.div_mul_cancel (a:=(r.num:Rat)) n;rw[e]at this;exact this
def Bd(M B:Nat)(r:Rat):Prop:=∃ k:Int,r * (M:Rat)=(k:Rat)/\k.natAbs<=B
section
variable{N C:Nat}{r s:Rat}
theorem Bd.le(h:Bd M B r)(c:B<=C):Bd M C r:=let ⟨k,e,b⟩:=h; ⟨k,e,qC b c⟩
theorem Bd.size(hM:0 < M)(h:Bd M B r):r.den<=M/\r.num.natAbs<=B:=by
 have(k,e,b):=h;have e2:r.num * (M:Int)=k * (r.den:Int):=by
  have h1:=GP r;have h2:((r.num * (M:Int):Int):Rat)=((k * (r.den:Int):Int):Rat):=by
   rw[Rat.intCast_mul,Rat.intCast_mul,<-h1,<-e,Rat.intCast_natCast,Rat.intCast_natCast,Rat.mul_assoc,Rat.mul_assoc,Rat.mul_comm (r.den:Rat)]
  exact Rat.intCast_inj.mp h2
 have dv:(r.den:Int)∣(M:Int):=by
  have t:(r.den:Int)∣r.num * (M:Int):=⟨k,by rw[e2,Int.mul_comm]⟩;have u:=ë.mpr t;rw[Int.gcd_comm,S2]at u;simpa using u
 have(c,hc):=dv;have dp:(0:Int) < r.den:=by have:=r.den_pos; omega
 have c0:0 < c:=by
  rcases(by omega:0 < c\/c<=0)with z|z
  .exact z
  .have:=Ĉ (à dp) (show 0<=-c by omega)
   rw[Int.mul_neg,<-hc]at this;omega
 have ek:k=r.num * c:=by
  rw[hc]at e2;have:k * (r.den:Int)=(r.num * c) * (r.den:Int):=by rw[<-e2]; ac_rfl
  exact ă (by omega) this
 constructor
 .have:(r.den:Int) * 1<=(r.den:Int) * c:=Int.mul_le_mul_of_nonneg_left (by omega) (by omega)
  omega
 .rw[ek,Int.natAbs_mul]at b
  exact qC (Nat.le_mul_of_pos_right _ (by omega)) b
theorem Bd.add(h:Bd M B r)(h':Bd M C s):Bd M (B+C) (r+s):=by
 have(k,e,b):=h;have(l,f,c):=h';exact⟨k+l,by rw[Rat.add_mul,e,f,Rat.intCast_add],qC (Int.natAbs_add_le _ _)<|Nat.add_le_add b c⟩
theorem Bd.mul(h:Bd M B r)(h':Bd N C s):Bd (M * N) (B * C) (r * s):=by
 have(k,e,b):=h;have(l,f,c):=h';refine⟨k * l,?_,by rw[Int.natAbs_mul]; exact ÿ b c⟩;rw[Rat.intCast_mul,<-e,<-f,Rat.natCast_mul];grind
theorem Bd.neg(h:Bd M B r):Bd M B (-r):=by
 have(k,e,b):=h;exact⟨-k,by rw[Rat.neg_mul,e,Rat.intCast_neg],by rw[Int.natAbs_neg]; exact b⟩
theorem Bd.zero:Bd M B 0:=⟨0,by rw[Rat.zero_mul]; rfl,Ç _⟩
theorem Bd.wide(h:Bd M B r)(c:Nat):Bd (M * c) (B * c) r:=by
 have(k,e,b):=h;refine⟨k * c,?_,by rw[Int.natAbs_mul,Int.natAbs_natCast]; exact Æ _ b⟩;rw[Rat.intCast_mul,<-e,Rat.natCast_mul,Rat.intCast_natCast,Rat.mul_assoc]
theorem Bd.one:Bd 1 1 1:=⟨1,by rw[Rat.one_mul]; rfl,qg _⟩
end
abbrev Pq(α:Type):=Qa (Qa Int×α)
section
def look(p:Pq α)(k:Qa Int):Qb α:=(p.find? λt=>decide<|t.1=k).map (·.2)
def cu(p:Pq α)(k:Qa Int)(x:α):Pq α:=if(p.any λt=>decide<|t.1=k)=true then p.map (λt=>if t.1=k then(t.1,x)else t)else p++[(k,x)]
def aT(p:Pq α):Prop:=(p.map (·.1)).Nodup
theorem Ha{p:Pq α}{k:Qa Int}:look p k=none↔(p.any λt=>decide<|t.1=k)=false:=by
 induction p with
 | nil=>simp[look]
 | cons t p ih=>
  unfold look at ih ⊢;rw[List.find?_cons,List.any_cons]
  by_cases h:t.1=k
  .simp[h]
  .rw[decide_eq_false h,Bool.false_or]
   exact ih
theorem Ya{p:Pq α}{k:Qa Int}:(look p k).isSome=(p.any λt=>decide<|t.1=k):=by
 cases h:look p k with
 | none=>rw[Ha.mp h]; rfl
 | some x=>
  cases z:(p.any λt=>decide<|t.1=k)with
  | true=>rfl
  | false=>rw[Ha.mpr z]at h; cases h
theorem X9(p:Pq α)(k:Qa Int)(x:α):(cu p k x).map (·.1)=if(p.any λt=>decide<|t.1=k)=true then p.map (·.1)else p.map (·.1)++[k]:=by
 unfold cu;split
 .rw[List.map_map]
  refine Ö λt _=>?_;show(if t.1=k then(t.1,x)else t).1=t.1;split<;>rfl
 .rw[List.map_append]
  rfl
theorem L3{p:Pq α}{k:Qa Int}{x:α}{t:Qa Int×α}(h:t∈cu p k x):(t∈p/\t.1≠k)\/t=(k,x):=by
 unfold cu at h;split at h
 .have(u,hu,rfl):=Ä.mp h
  by_cases c:u.1=k
  .rw[if_pos c]; exact .inr (by rw[c])
  .rw[if_neg c]; exact .inl ⟨hu,c⟩
 .rename_i hn
  rcases Ï.mp h with z|z
  .exact .inl ⟨z,λe=>hn<|ā.mpr ⟨t,z,decide_eq_true e⟩⟩
  .exact .inr (qu.mp z)
theorem aT.put{p:Pq α}(h:aT p)(k:Qa Int)(x:α):aT (cu p k x):=by
 unfold aT;rw[X9];split
 .exact h
 .rename_i hn
  refine List.nodup_append.mpr ⟨h,by simp,λa ha b hb=>?_⟩;have:b=k:=by simpa using hb
  rw[this];have(t,ht,rfl):=Ä.mp ha;exact λe=>hn<|ā.mpr ⟨t,ht,decide_eq_true e⟩
theorem L1(p:Pq α)(k:Qa Int)(x:α):(cu p k x).length<=p.length+1:=by
 unfold cu;split
 .rw[List.length_map]; omega
 .rw[qw]; exact qg _
def aQ[Add α][Zero α](acc:Pq α)(ts:Pq α):Pq α:=ts.foldl (λa t=>cu a t.1<|(look a t.1).getD 0+t.2) acc
end
section
variable[Add α][Zero α]
theorem m9(ts:Pq α):∀ {acc:Pq α},aT acc->aT (aQ acc ts):=by
 induction ts with
 | nil=>exact λh=>h
 | cons t ts ih=>exact λh=>ih<|h.put _ _
theorem rK(ts:Pq α):∀ (acc:Pq α),(aQ acc ts).length<=acc.length+ts.length:=by
 induction ts with
 | nil=>intro acc; exact qg _
 | cons t ts ih=>
  intro acc;have h1:=ih (cu acc t.1<|(look acc t.1).getD 0+t.2);have h2:=L1 acc t.1 ((look acc t.1).getD 0+t.2);rw[qx];show(aQ (cu acc t.1<|(look acc t.1).getD 0+t.2) ts).length<=_;omega
theorem CD(acc ts:Pq α)(t:Qa Int×α):aQ acc (ts++[t])=cu (aQ acc ts) t.1 ((look (aQ acc ts) t.1).getD 0+t.2):=by
 unfold aQ;rw[List.foldl_append];rfl
theorem Nn{Pk:Qa Int->Prop}(ts:Pq α):∀ {acc:Pq α},(∀ t∈acc,Pk t.1)->(∀ t∈ts,Pk t.1)->∀ t∈aQ acc ts,Pk t.1:=by
 induction ts with
 | nil=>exact λh _=>h
 | cons t ts ih=>
  intro acc h1 h2;refine ih (acc:=cu acc t.1 _) (λu hu=>?_) λu hu=>h2 u<|qq _ hu;rcases L3 hu with⟨z,_⟩|rfl
  .exact h1 u z
  .exact h2 t qr
end
theorem X8{p:Pq α}{k:Qa Int}{x:α}(h:look p k=some x):(k,x)∈p:=by
 unfold look at h;have(t,ht,rfl):=qv.mp h;have h1:=List.mem_of_find?_eq_some ht;have h2:t.1=k:=by simpa using List.find?_some ht
 rw[<-h2];exact h1
theorem nv{p:Pq α}(nd:aT p){t:Qa Int×α}(h:t∈p):look p t.1=some t.2:=by
 induction p with
 | nil=>cases h
 | cons u p ih=>
  have nI:u.1∉p.map (·.1)/\aT p:=æ.mp nd;unfold look at ih ⊢;rw[List.find?_cons];rcases qy.mp h with rfl|h
  .rw[decide_eq_true rfl]; rfl
  .rw[decide_eq_false λe=>nI.1<|List.mem_map.mpr ⟨t,h,e.symm⟩]
   exact ih nI.2 h
def aF(p:Pq Rat)(g:Qa Int->Rat):Rat:=(p.map λt=>t.2 * g t.1).sum
theorem gA(g:Qa Int->Rat):aF [] g=0:=rfl
theorem zM(t:Qa Int×Rat)(p:Pq Rat)(g:Qa Int->Rat):aF (t::p) g=t.2 * g t.1+aF p g:=rfl
theorem L0(p q:Pq Rat)(g:Qa Int->Rat):aF (p++q) g=aF p g+aF q g:=by
 induction p with
 | nil=>rw[List.nil_append,gA,Rat.zero_add]
 | cons t p ih=>rw[List.cons_append,zM,zM,ih,Rat.add_assoc]
theorem pA{p q:Pq Rat}(h:p.Perm q)(g:Qa Int->Rat):aF p g=aF q g:=by
 induction h with
 | nil=>rfl
 | cons t _ ih=>rw[zM,zM,ih]
 | swap t u p=>rw[zM,zM,zM,zM]; grind
 | trans _ _ i1 i2=>exact i1.trans i2
theorem vW(p:Pq Rat)(g:Qa Int->Rat):aF (p.filter λt=>decide<|t.2≠0) g=aF p g:=by
 induction p with
 | nil=>rfl
 | cons t p ih=>
  rw[List.filter_cons]
  by_cases h:t.2=0
  .rw[if_neg (by simp[h]),zM,h,ih]; grind
  .rw[if_pos (by simp[h]),zM,zM,ih]
theorem X7{p:Pq Rat}(nd:aT p){k:Qa Int}{x:Rat}(h:look p k=some x)(y:Rat)(g:Qa Int->Rat):aF (p.map λt=>if t.1=k then(t.1,x+y)else t) g=aF p g+y * g k:=by
 induction p with
 | nil=>cases h
 | cons t p ih=>
  have nI:t.1∉p.map (·.1)/\aT p:=æ.mp nd;rw[List.map_cons,zM,zM]
  by_cases c:t.1=k
  .have e:p.map (λt=>if t.1=k then(t.1,x+y)else t)=p:=by
    have:∀ u∈p,(λt:Qa Int×Rat=>if t.1=k then(t.1,x+y)else t) u=id u:=λu hu=>if_neg λz=>nI.1<|Ä.mpr ⟨u,hu,z.trans c.symm⟩;rw[List.map_congr_left this,List.map_id]
   have ex:t.2=x:=by
    unfold look at h;rw[List.find?_cons,decide_eq_true c]at h;exact qB h
   rw[e,if_pos c,ex,c];grind
  .have h':look p k=some x:=by
    unfold look at h ⊢;rw[List.find?_cons,decide_eq_false c]at h;exact h
   rw[if_neg c,ih nI.2 h'];grind
theorem VA{p:Pq Rat}(nd:aT p)(k:Qa Int)(y:Rat)(g:Qa Int->Rat):aF (cu p k<|(look p k).getD 0+y) g=aF p g+y * g k:=by
 unfold cu;cases h:look p k with
 | none=>
  rw[if_neg (by rw[Ha.mp h]; exact qh),L0,zM,gA,Option.getD_none];grind
 | some x=>
  rw[if_pos (by rw[<-Ya,h]; rfl),Option.getD_some];exact X7 nd h y g
theorem rJ(ts:Pq Rat)(g:Qa Int->Rat):∀ {acc:Pq Rat},aT acc->aF (aQ acc ts) g=aF acc g+aF ts g:=by
 induction ts with
 | nil=>intro acc _; rw[gA,Rat.add_zero]; rfl
 | cons t ts ih=>
  intro acc nd;show aF (aQ (cu acc t.1 _) ts) g=_;rw[ih<|nd.put _ _,VA nd,zM,Rat.add_assoc]
def wW(a b:Qa Int×α):Prop:=dS a.1 b.1=true
def ins(x:Qa Int×α):Pq α->Pq α
 | []=>[x]
 | y::l=>if dS x.1 y.1=true then x::y::l else y::ins x l
def fY:Pq α->Pq α
 | []=>[]
 | x::l=>ins x<|fY l
theorem GO(x:Qa Int×α):∀ l:Pq α,(ins x l).Perm<|x::l
 | []=>.refl _
 | y::l=>by
  unfold ins;split
  .exact .refl _
  .exact((GO x l).cons y).trans (List.Perm.swap x y l)
theorem h9:∀ l:Pq α,(fY l).Perm l
 | []=>.refl _
 | x::l=>(GO x<|fY l).trans<|(h9 l).cons x
theorem Nm(x:Qa Int×α):∀ {l:Pq α},l.Pairwise wW->(∀ y∈l,x.1≠y.1)->(ins x l).Pairwise wW
 | [],_,_=>by unfold ins; simp
 | y::l,h,ne=>by
  have(h1,h2):=Û.mp h;unfold ins;split
  .rename_i c
   refine Û.mpr ⟨λw hw=>?_,h⟩;rcases qy.mp hw with rfl|hw
   .exact c
   .exact wF c (h1 w hw)
  .rename_i c
   refine Û.mpr ⟨λw hw=>?_,Nm x h2 λw hw=>ne w<|qq _ hw⟩;rcases qy.mp ((GO x l).mem_iff.mp hw)with rfl|hw
   .exact(yw<|ne y qr).resolve_left c
   .exact h1 w hw
theorem wx:∀ {l:Pq α},aT l->(fY l).Pairwise wW
 | [],_=>.nil
 | x::l,nd=>by
  have nI:x.1∉l.map (·.1)/\aT l:=æ.mp nd;exact Nm x (wx nI.2) λy hy e=>nI.1<|Ä.mpr ⟨y,(h9 l).mem_iff.mp hy,e.symm⟩
structure Nf (p:Pq Rat):Prop where
 st:p.Pairwise wW
 nz:∀ t∈p,t.2≠0
theorem Cp{p:Pq Rat}{k:Qa Int}(h:∀ t∈p,t.1≠k):aF p (λe=>if e=k then 1 else 0)=0:=by
 induction p with
 | nil=>rfl
 | cons t p ih=>
  rw[zM,ih λu hu=>h u<|qq _ hu,if_neg<|h t qr];grind
theorem sC{a b:Qa Int×α}(h:wW a b):a.1≠b.1:=λe=>by
 unfold wW at h;rw[e,ug]at h;cases h
theorem Nf.tail{t:Qa Int×Rat}{p:Pq Rat}(h:Nf (t::p)):Nf p:=⟨(Û.mp h.st).2,λu hu=>h.nz u<|qq _ hu⟩
theorem Nf.gf{t:Qa Int×Rat}{p:Pq Rat}(h:Nf (t::p)):aF (t::p) (λe=>if e=t.1 then 1 else 0)=t.2:=by
 rw[zM,Cp λu hu e=>sC ((List.pairwise_cons.mp h.st).1 u hu) e.symm,if_pos rfl];grind
theorem Gz:∀ {p q:Pq Rat},Nf p->Nf q->(∀ g,aF p g=aF q g)->p=q
 | [],[],_,_,_=>rfl
 | [],t::q,_,hq,h=>by
  have:=h λe=>if e=t.1 then 1 else 0;rw[hq.gf,gA]at this;exact absurd this.symm<|hq.nz t qr
 | t::p,[],hp,_,h=>by
  have:=h λe=>if e=t.1 then 1 else 0;rw[hp.gf,gA]at this;exact absurd this<|hp.nz t qr
 | t::p,u::q,hp,hq,h=>by
  have key:t.1=u.1:=by
   by_cases c:t.1=u.1
   .exact c
   .exfalso
    rcases yw c with z|z
    .have:=h λe=>if e=t.1 then 1 else 0
     rw[hp.gf,Cp]at this
     .exact hp.nz t qr this
     .intro w hw e
      rcases qy.mp hw with rfl|hw
      .exact c e.symm
      .have:=wF z ((Û.mp hq.st).1 w hw)
       rw[e,ug]at this;cases this
    .have:=h λe=>if e=u.1 then 1 else 0
     rw[hq.gf,Cp]at this
     .exact hq.nz u qr this.symm
     .intro w hw e
      rcases qy.mp hw with rfl|hw
      .exact c e
      .have:=wF z ((Û.mp hp.st).1 w hw)
       rw[e,ug]at this;cases this
  have val:t.2=u.2:=by
   have:=h λe=>if e=t.1 then 1 else 0;rw[hp.gf,key,hq.gf]at this;exact this
  have tl:∀ g,aF p g=aF q g:=λg=>by
   have:=h g;rw[zM,zM,key,val]at this;grind
  rw[Gz hp.tail hq.tail tl,Prod.ext key val]
def nz(p:Pq Rat):Pq Rat:=p.filter λt=>decide<|t.2≠0
theorem Bv{p:Pq Rat}(h:aT p):aT (nz p):=h.sublist (List.filter_sublist.map _)
theorem nd0:aT ([]:Pq Rat):=Ø
def PB(M B:Nat)(p:Pq Rat):Prop:=∀ t∈p,Bd M B t.2
theorem Cn{p:Pq Rat}(h:PB M B p)(k:Qa Int):Bd M B ((look p k).getD 0):=by
 cases e:look p k with
 | none=>exact Bd.zero
 | some x=>exact h _<|X8 e
theorem FV(ts:Pq Rat):∀ {C:Nat} {acc:Pq Rat},PB M C acc->PB M B ts->PB M (C+ts.length * B) (aQ acc ts):=by
 induction ts with
 | nil=>intro C acc h _ t ht; exact(h t ht).le (by rw[List.length_nil]; omega)
 | cons t ts ih=>
  intro C acc h h' u hu;have hp:PB M (C+B) (cu acc t.1<|(look acc t.1).getD 0+t.2):=λv hv=>by
   rcases L3 hv with⟨z,_⟩|rfl
   .exact(h v z).le (by omega)
   .exact(Cn h _).add (h' t qr)
  exact(ih hp (λv hv=>h' v<|qq _ hv) u hu).le (by rw[qx,Nat.add_mul]; omega)
theorem Sb:PB M B []:=λt ht=>by cases ht
def aY(a b:Qa Int):Qa Int:=List.zipWith (·+·) a b
def bB[Mul α](p q:Pq α):Pq α:=p.flatMap λs=>q.map λt=>(aY s.1 t.1,s.2 * t.2)
theorem X6(s:Qa Int×Rat)(q:Pq Rat)(g:Qa Int->Rat):aF (q.map λt=>(aY s.1 t.1,s.2 * t.2)) g=s.2 * aF q λb=>g (aY s.1 b):=by
 induction q with
 | nil=>rw[List.map_nil,gA,gA,Rat.mul_zero]
 | cons t q ih=>rw[List.map_cons,zM,zM,ih]; grind
theorem Gy(p q:Pq Rat)(g:Qa Int->Rat):aF (bB p q) g=aF p λa=>aF q λb=>g (aY a b):=by
 induction p with
 | nil=>rfl
 | cons s p ih=>
  show aF (_++bB p q) g=_;rw[L0,X6,ih,zM]
theorem pz{p:Pq Rat}{g h:Qa Int->Rat}(e:∀ t∈p,g t.1=h t.1):aF p g=aF p h:=by
 induction p with
 | nil=>rfl
 | cons t p ih=>rw[zM,zM,e t qr,ih λu hu=>e u<|qq _ hu]
theorem zrR(p:Pq Rat)(g:Qa Int->Rat)(c:Rat):(aF p λe=>c * g e)=c * aF p g:=by
 induction p with
 | nil=>rw[gA,gA,Rat.mul_zero]
 | cons t p ih=>rw[zM,zM,ih]; grind
theorem CC[Mul α](p q:Pq α):(bB p q).length=p.length * q.length:=by
 induction p with
 | nil=>simp[bB]
 | cons s p ih=>
  show(_++bB p q).length=_;rw[qw,ih,List.length_map,qx,Nat.add_mul,Nat.one_mul,Nat.add_comm]
theorem Gx[Mul α]{p q:Pq α}{t:Qa Int×α}(h:t∈bB p q):∃ u∈p,∃ v∈q,t=(aY u.1 v.1,u.2 * v.2):=by
 have(u,hu,h):=List.mem_flatMap.mp h;have(v,hv,rfl):=Ä.mp h;exact⟨u,hu,v,hv,rfl⟩
theorem Vz{N C:Nat}{p q:Pq Rat}(h:PB M B p)(h':PB N C q):PB (M * N) (B * C) (bB p q):=λt ht=>by
 have(u,hu,v,hv,rfl):=Gx ht;exact(h u hu).mul<|h' v hv
def bY(c:Int)(p:Pq Int):Pq Rat:=p.map λt=>(t.1,Rat.divInt t.2 c)
theorem X5(φ:α->β)(p:Pq α)(k:Qa Int):look (p.map λt=>(t.1,φ t.2)) k=(look p k).map φ:=by
 unfold look
 induction p with
 | nil=>rfl
 | cons t p ih=>
  rw[List.map_cons,List.find?_cons,List.find?_cons]
  by_cases h:t.1=k
  .rw[decide_eq_true h]; rfl
  .rw[decide_eq_false h]; exact ih
theorem Vy(φ:α->β)(p:Pq α)(k:Qa Int)(x:α):(cu p k x).map (λt=>(t.1,φ t.2))=cu (p.map λt=>(t.1,φ t.2)) k (φ x):=by
 have any:((p.map λt=>(t.1,φ t.2)).any λt=>decide<|t.1=k)=(p.any λt=>decide<|t.1=k):=by rw[List.any_map]; rfl
 unfold cu;rw[any];split
 .rw[List.map_map,List.map_map]
  refine Ö λt _=>?_;show(λt:Qa Int×α=>(t.1,φ t.2)) (if t.1=k then(t.1,x)else t)=if t.1=k then(t.1,φ x)else(t.1,φ t.2);split<;>rfl
 .rw[List.map_append]; rfl
theorem LZ[Add α][Zero α][Add β][Zero β](φ:α->β)(h0:φ 0=0)(ha:∀ a b,φ (a+b)=φ a+φ b)(ts:Pq α):∀ acc:Pq α,(aQ acc ts).map (λt=>(t.1,φ t.2))=aQ (acc.map λt=>(t.1,φ t.2)) (ts.map λt=>(t.1,φ t.2)):=by
 induction ts with
 | nil=>intro acc; rfl
 | cons t ts ih=>
  intro acc;show(aQ (cu acc t.1 _) ts).map _=aQ (cu _ t.1 _) _;rw[ih,Vy,ha,X5];cases look acc t.1 with
  | none=>rw[Option.getD_none,h0]; rfl
  | some x=>rfl
theorem Vx(hc:c≠0)(ts:Pq Int):bY c (aQ [] ts)=aQ [] (bY c ts):=LZ (λk=>Rat.divInt k c) (Rat.zero_divInt c) (λa b=>by
 rw[Rat.divInt_eq_div,Rat.divInt_eq_div,Rat.divInt_eq_div,Rat.intCast_add,Rat.div_def,Rat.div_def,Rat.div_def,Rat.add_mul]) ts []
theorem zBn(hc:c≠0)(p:Pq Int):nz (bY c p)=bY c (p.filter λt=>!decide (t.2=0)):=by
 unfold nz bY;rw[List.filter_map];congr 1;refine List.filter_congr λt _=>?_;show decide (Rat.divInt t.2 c≠0)=!decide (t.2=0);rw[Bool.eq_iff_iff,Bool.not_eq_true',decide_eq_false_iff_not,decide_eq_true_iff];refine not_congr ⟨λh=>?_,λh=>by rw[h]; exact Rat.zero_divInt c⟩;rw[<-Rat.zero_divInt c,Rat.divInt_eq_divInt_iff hc hc]at h;rcases Int.mul_eq_zero.mp (show t.2 * c=0 by omega)with z|z
 .exact z
 .exact absurd z hc
def iv(m:Nat)(r:Rat):Int:=r.num * ((m:Int) / (r.den:Int))
theorem Bd.dvd{r:Rat}(h:Bd M B r):r.den∣M:=by
 have(k,e,b):=h;have e2:r.num * (M:Int)=k * (r.den:Int):=by
  have h1:=GP r;have h2:((r.num * (M:Int):Int):Rat)=((k * (r.den:Int):Int):Rat):=by
   rw[Rat.intCast_mul,Rat.intCast_mul,<-h1,<-e,Rat.intCast_natCast,Rat.intCast_natCast,Rat.mul_assoc,Rat.mul_assoc,Rat.mul_comm (r.den:Rat)]
  exact Rat.intCast_inj.mp h2
 have t:(r.den:Int)∣r.num * (M:Int):=⟨k,by rw[e2,Int.mul_comm]⟩;have u:=ë.mpr t;rw[Int.gcd_comm,S2]at u;have u:(r.den:Int)∣(M:Int):=by simpa using u
 exact ô.mp u
def bP(ks:Qa Int):D:=.tuple (ks.map PyData.int)
abbrev kL(ks:Qa Int):Qa Key:=ks.map Sum.inl
section
variable{c:α->D}
def aN(c:α->D)(p:Pq α):Qa (Qa Key×D):=p.map λt=>(kL t.1,c t.2)
def cp(c:α->D)(p:Pq α):Qa (D×D):=p.map λt=>(bP t.1,c t.2)
def eX(c:α->D)(p:Pq α):Qa D:=p.map λt=>.tuple [bP t.1,c t.2]
theorem vV(p:Pq α):eX c p=p.map λt=>.tuple [bP t.1,c t.2]:=rfl
theorem vU{a b:Qa Int}:kL a=kL b↔a=b:=Gi
theorem FU(k:Qa Int):kr (kL k)=bP k:=by
 unfold kr bP kL;rw[List.map_map];rfl
theorem rP(k:Qa Int):dh (bP k)=some (kL k):=by rw[<-FU,CH]
theorem M9(p:Pq α):(aN c p).map (λp=>(kr p.1,p.2))=cp c p:=by
 unfold aN cp;rw[List.map_map];refine Ö λt _=>?_;show(kr<|kL t.1,c t.2)=_;rw[FU]
theorem nC{p:Pq α}:U.fz (.t<|aN c p)=some (.dict<|cp c p):=by
 show some (PyData.dict _)=_;rw[M9]
theorem xQ(p:Pq α):iV (cp c p)=true:=by
 cases p with
 | nil=>rfl
 | cons t p=>rfl
theorem Vw(p:Pq α)(k:Qa Int):tj (aN c p) (kL k)=(look p k).map c:=by
 unfold tj aN look
 induction p with
 | nil=>rfl
 | cons t p ih=>
  rw[List.map_cons,List.find?_cons,List.find?_cons]
  by_cases h:t.1=k
  .rw[decide_eq_true h,decide_eq_true<|vU.mpr h]; rfl
  .rw[decide_eq_false h,decide_eq_false λz=>h<|vU.mp z]; exact ih
theorem X4(p:Pq α)(k:Qa Int):vP (cp c p) (kL k)=(look p k).map c:=by
 unfold vP cp look
 induction p with
 | nil=>rfl
 | cons t p ih=>
  rw[List.map_cons,List.find?_cons,List.find?_cons]
  by_cases h:t.1=k
  .rw[decide_eq_true h,decide_eq_true (show dh (bP t.1)=some (kL k) by rw[rP,h])]; rfl
  .rw[decide_eq_false h,decide_eq_false (show ¬dh (bP t.1)=some (kL k) by rw[rP]; exact λz=>h<|vU.mp<|qB z)]; exact ih
theorem zqu{p:Pq α}{k:Qa Int}:mV (.t<|aN c p) (.d<|bP k)=some ((look p k).map c):=by
 show(dh<|bP k).map _=_;rw[rP,Option.map_some,Vw]
theorem zqv{p:Pq α}{k:Qa Int}:mV (.d<|.dict<|cp c p) (.d<|bP k)=some ((look p k).map c):=by
 show(if iV (cp c p)=true then _ else _)=_;rw[if_pos<|xQ p];show(dh<|bP k).map _=_;rw[rP,Option.map_some,X4]
theorem X3{p:Pq α}:iV (cp c p)=true:=xQ p
theorem X2{p:Pq α}:(cp c p).map (λx=>x.1)=p.map λt=>bP t.1:=by
 unfold cp;rw[List.map_map];rfl
theorem znl{k:Qa Int}:dh (bP k)=some (kL k):=rP k
theorem BS(p:Pq α)(k:Qa Int)(x:α):gO (aN c p) (kL k) (c x)=aN c (cu p k x):=by
 have any:((aN c p).any λkv=>decide<|kv.1=kL k)=(p.any λt=>decide<|t.1=k):=by
  unfold aN;rw[List.any_map];congr 1
  funext t
  exact decide_eq_decide.mpr vU
 unfold gO cu;rw[any];split
 .unfold aN
  rw[List.map_map,List.map_map];refine Ö λt _=>?_;show(if kL t.1=kL k then _ else _)=(λt:Qa Int×α=>(kL t.1,c t.2)) (if t.1=k then(t.1,x)else t)
  by_cases h:t.1=k
  .rw[if_pos<|vU.mpr h,if_pos h]
  .rw[if_neg λz=>h<|vU.mp z,if_neg h]
 .unfold aN
  rw[List.map_append];rfl
theorem Ll(p:Pq α):(aN c p).length=p.length:=Ò ..
theorem tI{p:Pq α}{k:Qa Int}{x:α}(h:p.length < 16777216):xN (.t<|aN c p) (bP k) (c x)=some (.t<|aN c<|cu p k x):=by
 show(dh<|bP k).bind _=_;rw[rP,bd,if_pos (by rw[Ll]; exact h),BS]
theorem zkQ{p:Pq α}:nh (.d<|.dict<|cp c p)=some (eX c p):=by
 show(if iV (cp c p)=true then _ else _)=_;rw[if_pos<|xQ p];unfold cp eX;rw[List.map_map];rfl
theorem Nl:∀ p:Pq α,tN (cp c p)=some (aN c p)
 | []=>rfl
 | t::p=>by
  show(dh<|bP t.1).bind _=_;rw[rP,bd];show(tN<|cp c p).bind _=_;rw[Nl p,bd];rfl
theorem X0(p:Pq α):(aN c p).map (·.1)=(p.map (·.1)).map kL:=by
 unfold aN;rw[List.map_map,List.map_map];rfl
def ER(p:Pq α):Prop:=tU ((p.map (·.1)).map kL)=true
theorem KS{p:Pq α}(h:ER p):yk (.t<|aN c p)=some (.t<|aN c p):=by
 show(if _ then _ else _)=_;rw[if_pos (by rw[X0]; exact h)]
theorem EO(k:Qa Int)(d:D):pk (.tuple [bP k,d])=some k:=Hb k
theorem Lk:∀ p:Pq α,wO (eX c p)=some (p.map (·.1))
 | []=>rfl
 | t::p=>by
  show(pk<|.tuple [bP t.1,c t.2]).bind _=_;rw[EO,bd];show(wO<|eX c p).bind _=_;rw[Lk p];rfl
theorem zBo{p:Pq α}(nd:aT p)(hl:p.length < 64):F4 (.l<|eX c p)=some (.l<|eX c<|fY p):=by
 have e:BD (eX c p)=eX c (fY p):=NV ((h9 p).map _) (ú.mpr<|(wx nd).imp λ{a b} h=>⟨_,_,EO a.1 _,EO b.1 _,h⟩);show(some _).bind _=_;rw[bd,Lk,bd,if_pos ⟨by unfold eX; rw[List.length_map]; exact hl,nd⟩,e]
end
theorem Vv{r:Rat}:aS (.d<|fR r) (.d<|.int 0)=some (.d<|.int r.num):=rfl
theorem Vu{r:Rat}:aS (.d<|fR r) (.d<|.int 1)=some (.d<|.int (r.den:Int)):=rfl
theorem Lj(r:Rat):(!decide (r.num=0))=decide (r≠0):=by
 rw[Bool.eq_iff_iff,Bool.not_eq_true',decide_eq_false_iff_not,decide_eq_true_iff];exact not_congr Rat.num_eq_zero
theorem Nk{f:α->D}{g:β->D}:∀ (as:Qa α) (bs:Qa β),tJ (as.map f) (bs.map g)=(as.zip bs).map λt=>.tuple [f t.1,g t.2]
 | [],bs=>by cases bs<;>rfl
 | a::as,[]=>rfl
 | a::as,b::bs=>by rw[List.map_cons,List.map_cons,List.zip_cons_cons,List.map_cons,<-Nk as bs]; rfl
theorem Oa{f:α->D}{ks:Qa Int}(h:as.length=ks.length):xu [.d<|.tuple<|as.map f,.d<|bP ks]=some ((as.zip ks).map λt=>.tuple [f t.1,.int t.2]):=by
 show(if _ then _ else _)=_;rw[if_pos (by rw[List.length_map,List.length_map]; exact h),Nk]
theorem Hr{as ks:Qa Int}(h:as.length=ks.length):xu [.d<|bP as,.d<|bP ks]=some ((as.zip ks).map λt=>.tuple [.int t.1,.int t.2]):=Oa (f:=PyData.int) h
theorem BR{g:α->D}{e:α->D}{mg:MG}{mt:MT}{me:ME}{ρ:En}{Q:Qa D×En->Prop}(hz:as.length<=16777216)
  (st:∀ a∈as,∀ ys,Wo (mg (g a) ρ)<|Co mt ⟨0⟩<|wX nt me ys λav zs=>av=ρ/\zs=ys++[e a]) (q:Q (as.map e,ρ)):Wo (iX nt mg mt me (as.map g) ρ []) Q:=by
 refine FW (b:=λ_=>true) (e:=e) (by rw[qV]; exact hz) (λa ha ys=>?_) ?_
 .simp only[if_true]
  exact st a ha ys
 .rw[show as.filter (λ_=>true)=as from List.filter_eq_self.mpr λ_ _=>rfl]
  exact q
theorem Li:PyData.tuple [.int 1,.int 1]=fR 1:=rfl
theorem XZ{o:Qb Rat}:(Option.map fR o).getD (.tuple [.int 0,.int 1])=fR (o.getD 0):=by cases o<;>rfl
theorem zrS[Mul α](p q:Pq α)(s:Qa Int×α):bB (p++[s]) q=bB p q++q.map λt=>(aY s.1 t.1,s.2 * t.2):=by
 unfold bB;rw[List.flatMap_append];simp
def mon:Qa (Rat×Int)->Rat
 | []=>1
 | t::l=>t.1^t.2.toNat * mon l
def mono(pt:Qa Rat)(e:Qa Int):Rat:=mon (pt.zip e)
def gT(s:Int)(q:Pq Rat):Pq Rat:=q.map λt=>(t.1,(s:Rat) * t.2)
theorem zBp{s:Int}(hs:s=1\/s=-1)(r:Rat):PyData.tuple [.int<|s * r.num,.int (r.den:Int)]=fR ((s:Rat) * r):=by
 rcases hs with rfl|rfl
 .rw[Int.one_mul,show((1:Int):Rat)=1 from rfl,Rat.one_mul]; rfl
 .rw[show((-1:Int):Rat)=-1 from rfl,Rat.neg_mul,Rat.one_mul,Int.neg_mul,Int.one_mul]; rfl
theorem Lh{s:Int}(hs:s=1\/s=-1){q:Pq Rat}(h:PB M B q):PB M B (gT s q):=λt ht=>by
 have(u,hu,rfl):=Ä.mp ht;rcases hs with rfl|rfl
 .show Bd M B (((1:Int):Rat) * u.2)
  rw[show((1:Int):Rat)=1 from rfl,Rat.one_mul];exact h u hu
 .show Bd M B (((-1:Int):Rat) * u.2)
  rw[show((-1:Int):Rat)=-1 from rfl,Rat.neg_mul,Rat.one_mul];exact(h u hu).neg
theorem LY(q:Pq Rat):gT 1 q=q:=by
 unfold gT;have:∀ t∈q,(λt:Qa Int×Rat=>(t.1,((1:Int):Rat) * t.2)) t=id t:=λt _=>by
  show(t.1,((1:Int):Rat) * t.2)=t;rw[show((1:Int):Rat)=1 from rfl,Rat.one_mul]
 rw[List.map_congr_left this,List.map_id]
theorem Ox{p:Pq α}{k:Qa Int}{x:α}(h:∀ t∈p,t.1≠k):cu p k x=p++[(k,x)]:=by
 unfold cu;rw[if_neg];intro z;have(t,ht,e):=ā.mp z;exact h t ht<|of_decide_eq_true e
theorem Nj{bs cs:Pq α}{t:Qa Int×α}(nd:aT (bs++t::cs)):∀ u∈bs,u.1≠t.1:=λu hu e=>by
 unfold aT at nd;rw[List.map_append,List.map_cons]at nd;exact(List.nodup_append.mp nd).2.2 u.1 (Ä.mpr ⟨u,hu,rfl⟩) t.1 qr e
theorem LX(bs:Pq Rat)(t:Qa Int×Rat):nz (bs++[t])=if t.2=0 then nz bs else nz bs++[t]:=by
 unfold nz;rw[List.filter_append,List.filter_cons]
 by_cases h:t.2=0
 .rw[if_pos h,if_neg (by simp[h])]; simp
 .rw[if_neg h,if_pos (by simp[h])]; rfl
theorem Lg{bs cs:Pq Rat}{t:Qa Int×Rat}(nd:aT (bs++t::cs)):cu (nz bs) t.1 t.2=nz bs++[t]:=Ox λu hu=>Nj nd u (Ú.mp hu).1
theorem BQ{f:α->β}:∀ {l:Qa α},(l.map f).Nodup->∀ a∈l,∀ b∈l,f a=f b->a=b
 | [],_,a,ha,_,_,_=>by cases ha
 | x::l,nd,a,ha,b,hb,e=>by
  rw[List.map_cons,List.nodup_cons]at nd;rcases qy.mp ha with h1|h1
  .rcases qy.mp hb with h2|h2
   .rw[h1,h2]
   .exact(nd.1<|Ä.mpr ⟨b,h2,by rw[<-e,h1]⟩).elim
  .rcases qy.mp hb with h2|h2
   .exact(nd.1<|Ä.mpr ⟨a,h1,by rw[e,h2]⟩).elim
   .exact BQ nd.2 a h1 b h2 e
theorem zBq{n d:Int}(hd:0 < d)(h:d∣(M:Int))(h0:0 < M):Bd M (n.natAbs * M) (Rat.divInt n d):=by
 have(c,hc):=h;have c0:0 < c:=by
  rcases(by omega:0 < c\/c<=0)with z|z
  .exact z
  .have:=Ĉ (à hd) (show 0<=-c by omega)
   rw[Int.mul_neg,<-hc]at this;omega
 have dr:((d:Int):Rat)≠0:=λz=>by
  have:=Rat.intCast_inj.mp (show((d:Int):Rat)=((0:Int):Rat) from z);omega
 refine⟨n * c,?_,?_⟩
 .have e:(M:Rat)=((d:Int):Rat) * ((c:Int):Rat):=by rw[<-Rat.intCast_mul,<-hc,Rat.intCast_natCast]
  rw[e,Rat.divInt_eq_div,Rat.intCast_mul];grind
 .rw[Int.natAbs_mul]
  refine è _ ?_;have:1 * c<=d * c:=Int.mul_le_mul_of_nonneg_right (by omega) (by omega);omega
end L2
namespace L2
open PySem PySem.Spec PyProof.Rows
open PySem.AutoSeq1 (wpAny_loadPart')
theorem zoT(t:Qg)(items:Array Qc)(n:Nat)(dd:Qb Qg)(sl:Array (Qb Qc))(u:Tok):
  Meets (Builtin.«tuple.__mul__» ⟨[.ref t,.int 1 u],[]⟩) (λ_ R s=>s.heap.get? t=some {cls:=.type "tuple",dict:=dd,data:=.seq items n,slots:=sl}/\R (.ok<|.ret<|.ref t) s):=
 .of_wp λprog w A R s h=>by
  have(hp,g,d,tk,os):=s;have(hl,h):=h
  wp_walk using wpAny_loadPart' hl
  exact⟨_,rfl,h⟩
theorem zoU(t:Qg)(items:Array Qc)(n:Nat)(dd:Qb Qg)(sl:Array (Qb Qc))(x:Int)(u:Tok)(hf:(decide (x < -2^63) || decide (x>=2^63))=false)(h1:(items.isEmpty || x==1)=false)(h0:(decide (x<=0) || items.isEmpty)=true):
  Meets (Builtin.«tuple.__mul__» ⟨[.ref t,.int x u],[]⟩) (λ_ R s=>s.heap.get? t=some {cls:=.type "tuple",dict:=dd,data:=.seq items n,slots:=sl}/\
   R (.ok<|.ret<|.ref s.heap.objs.size) {s with heap:=s.heap.push {cls:=.type "tuple",data:=.seq #[]}}):=
 .of_wp λprog w A R s h=>by
  have(hp,g,d,tk,os):=s;have(hl,h):=h
  wp_walk using wpAny_loadPart' hl
  refine wpAny_ite_false (by rw[hf]; rfl) ?_
  wp_walk using wpAny_loadPart' hl
  exact⟨_,rfl,h⟩
theorem zoV(t:Qg)(items:Array Qc)(n:Nat)(dd:Qb Qg)(sl:Array (Qb Qc))(x:Int)(u:Tok)(hf:(decide (x < -2^63) || decide (x>=2^63))=false)(h1:(items.isEmpty || x==1)=false)(h0:(decide (x<=0) || items.isEmpty)=false)
  (hm:¬((items.size:Int) * x > (2^63 - 1) / 8)) (ht:Builtin.Tuple.tupleTooMany ((items.size:Int) * x)=false) (hz:(List.foldl (λx1 x2=>x1++x2) #[] (List.replicate x.toNat items)).size<=sizeLine):
  Meets (Builtin.«tuple.__mul__» ⟨[.ref t,.int x u],[]⟩) (λ_ R s=>s.heap.get? t=some {cls:=.type "tuple",dict:=dd,data:=.seq items n,slots:=sl}/\
   R (.ok<|.ret<|.ref s.heap.objs.size) {s with heap:=s.heap.push {cls:=.type "tuple",data:=.seq (List.foldl (λx1 x2=>x1++x2) #[] (List.replicate x.toNat items))}}):=
 .of_wp λprog w A R s h=>by
  have(hp,g,d,tk,os):=s;have(hl,h):=h
  wp_walk using wpAny_loadPart' hl
  refine wpAny_ite_false (by rw[hf]; rfl) ?_
  wp_walk using wpAny_loadPart' hl
  refine wpAny_ite_false (decide_eq_false hm) ?_
  wp_walk using wpAny_loadPart' hl
  exact⟨_,rfl,h⟩
theorem zhw:fillsNumberSlot (.type "tuple") "mul"=pure false :=
 PySem.fillsNumberSlot_seq (id := "tuple.__mul__") (r:=some (.builtin "tuple.__rmul__")) F.slot_tuple_mul.lookup (by decide +kernel) F.slot_tuple_rmul.lookup (by decide +kernel)
theorem zlT:seqRepeat? (.type "tuple")=pure (some<|.builtin "tuple.__mul__"):=by
 unfold seqRepeat?;rw[PySem.seqSlot_of (T := "tuple") (name := "__mul__") (id := "tuple.__mul__") F.slot_tuple_mul.lookup (by decide +kernel),PySem.seqSlot_of (T := "tuple") (name := "__rmul__") (id := "tuple.__rmul__") F.slot_tuple_rmul.lookup (by decide +kernel)];rfl
theorem zjn(a:Int)(t:Tok)(l:Qg)(items:Array Qc)(n:Nat)(dd:Qb Qg)(sl:Array (Qb Qc)):
  Meets (Builtin.«int.__rmul__» ⟨[.int a t,.ref l],[]⟩) (λ_ R s=>s.heap.get? l=some {cls:=.type "tuple",dict:=dd,data:=.seq items n,slots:=sl}/\R (.ok<|.ret Value.notImplemented) s):=
 .of_wp λprog w A R s h=>by have(hp,g,d,tk,os):=s; have(hl,h):=h; wp_walk; exact⟨_,rfl,h⟩
section
variable{X:Cx}
def KQ(K:qe):R2:=λx y H Q=>∃ l k xs,x=.ref l/\y=.int k/\br K H l xs/\xs≠[]/\k < 1000000/\-1000000 < k/\xs.length * k.toNat<=1000000/\
 ((k=1/\Q x H)\/(k≠1/\∀ p,H p=none->Q (.ref p) (upd H p<|.tup (List.replicate k.toNat xs).flatten)))
theorem yj(K:qe)(hK:X.K=K:=by rfl):bN X (binaryOp .Mult) (KQ K):=by
 subst hK;intro pins s σ H x y v u Q I rx ry h;have(l,k,xs,rfl,rfl,hq,pY,hk,SF,hz,q):=h;cases rx;have(t,rfl):=ry;have(ah,rv,ht,hzz):=I.tuple hq;obtain⟨⟨c,gk,dt,sl⟩,hl,hc,n,hd⟩:=ht;replace hc:c=.type "tuple":=hc;replace hd:dt=.seq ah.toArray n:=hd;subst hc hd;have lv:=rv.length;have Sr:ah.toArray.isEmpty=false:=by
  cases ah with
  | nil=>cases rv; exact absurd rfl pY
  | cons a r=>rfl
 have hf:(decide (k < -2^63) || decide (k>=2^63))=false:=by
  rw[Bool.or_eq_false_iff];exact⟨decide_eq_false (by omega),decide_eq_false (by omega)⟩
 have f0:List.foldl (λx1 x2=>x1++x2) #[] (List.replicate k.toNat ah.toArray)=(List.replicate k.toNat ah).flatten.toArray:=by
  have:=Hf ah k.toNat [];rw[List.nil_append]at this;exact this
 have ln:(List.replicate k.toNat xs).flatten.length<=sizeLine:=by
  rw[Gs,Nat.mul_comm];have:sizeLine=16777216:=qV;omega
 refine wpAny_binaryOp_repeat_ref (T := "tuple") (U := "int") (by decide) ⟨_,hl,rfl⟩ (λs'=>typeIs_int s' k t) zhw F.fills_int_mul F.slot_int_rmul zlT F.slot_int_index.lookup
  (call_meets F.slot_int_rmul (typeIs_int s k t) F.entry_int_rmul (F.args_int_rmul_2 _ _) (zjn k t l ah.toArray n gk sl) ⟨hl,rfl,⟨_,hl,rfl⟩,?_⟩)
 rcases q with⟨rfl,q⟩|⟨k1,q⟩
 .exact call_meets F.slot_tuple_mul ⟨_,hl,rfl⟩ F.entry_tuple_mul (F.args_tuple_mul_2 _ _) (zoT l ah.toArray n gk sl t) ⟨hl,.ref l,H,I,rfl,q⟩
 .have h1:(ah.toArray.isEmpty || k==1)=false:=by rw[Sr,Bool.false_or]; simpa using k1
  by_cases k0:k<=0
  .refine call_meets F.slot_tuple_mul ⟨_,hl,rfl⟩ F.entry_tuple_mul (F.args_tuple_mul_2 _ _) (zoU l ah.toArray n gk sl k t hf h1 (by rw[decide_eq_true k0]; rfl)) ⟨hl,.ref _,_,I.laid (t':=s.toks) (o:=.tup []) (λ_ _ q=>qf _ q) (qg _) ⟨Ç _,[],.nil,_,qi _ rfl,rfl,⟨_,rfl⟩,.inl rfl⟩,rfl,?_⟩
   have:=q _ I.fresh;rw[show k.toNat=0 by omega]at this;exact this
  .have m63:(ah.toArray.size:Int) * k<=1000000:=by
    have e1:(ah.toArray.size:Int)=(xs.length:Int):=by rw[List.size_toArray,lv]
    have e2:k=(k.toNat:Int):=by omega
    rw[e1,e2,<-Int.natCast_mul];omega
   refine call_meets F.slot_tuple_mul ⟨_,hl,rfl⟩ F.entry_tuple_mul (F.args_tuple_mul_2 _ _) (zoV l ah.toArray n gk sl k t hf h1 (by rw[decide_eq_false k0,Sr]; rfl) (by omega) (decide_eq_false (by rw[show((sizeLine:Nat):Int)=16777216 by rw[qV]; rfl]; omega)) ?_) ⟨hl,.ref _,_,I.laid (t':=s.toks) (o:=.tup (List.replicate k.toNat xs).flatten) (λ_ _ q=>qf _ q) (qg _) ⟨ln,(List.replicate k.toNat ah).flatten,rv.rep k.toNat,_,qi _ rfl,rfl,⟨0,?_⟩,.inl rfl⟩,rfl,q _ I.fresh⟩
   .rw[f0,List.size_toArray,Gs,Nat.mul_comm]
    have:sizeLine=16777216:=qV;rw[<-lv];omega
   .show Data.seq (List.foldl (λx1 x2=>x1++x2) #[] (List.replicate k.toNat ah.toArray)) _=_
    rw[f0]
end
def oO:U->U->Qb U
 | .d (.tuple xs),.d (.int k)=>if xs≠[]/\k < 1000000/\-1000000 < k/\xs.length * k.toNat<=1000000 then some (.d<|.tuple (List.replicate k.toNat xs).flatten)else none
 | _,_=>none
theorem Gw{ds:Qa D}(h:aR K H vs ds):∀ n:Nat,aR K H (List.replicate n vs).flatten (List.replicate n ds).flatten
 | 0=>.nil
 | n+1=>by
  rw[List.replicate_succ,List.replicate_succ,List.flatten_cons,List.flatten_cons];exact h.app<|Gw h n
theorem yi:VO K (KQ K) oO:=by
 intro x y a b u H Q ha hb e q;unfold oO at e;split at e
 .split at e
  rotate_left
  .cases e
  rename_i xs k hc;cases e;have(l,vs,rfl,h1,h2):=DF.aI ha;cases DF.int_inv hb;have ln:=h2.len;refine⟨l,k,vs,rfl,rfl,(aX.sq h1),λz=>hc.1<|List.eq_nil_of_length_eq_zero (by rw[<-ln,z]; rfl),hc.2.1,hc.2.2.1,by rw[ln]; exact hc.2.2.2,?_⟩
  by_cases k1:k=1
  .subst k1
   refine .inl ⟨rfl,q _ _ (λ_ _ z=>z) ?_ Nw.data⟩;have e:(List.replicate (1:Int).toNat xs).flatten=xs:=by simp
   rw[e];exact DF.tup h1 h2
  .refine .inr ⟨k1,λp hp=>?_⟩
   have sm:=zZ hp (.tup (List.replicate k.toNat vs).flatten);exact q _ _ sm (.tup (.inl zy)<|(Gw h2 _).kp sm.kp) Nw.data
 .cases e
theorem N9{xs:Qa D}{k:Int}(h:0 < xs.length)(h2:k < 1000)(h3:-1000 < k)(h4:xs.length < 1000):oO (.d<|.tuple xs) (.d<|.int k)=some (.d<|.tuple (List.replicate k.toNat xs).flatten):=by
 show(if _ then _ else _)=_;rw[if_pos ⟨λz=>by rw[z]at h; exact Ë _ h,by omega,by omega,qC (ÿ (Nat.le_of_lt h4) (show k.toNat<=1000 by omega)) (by decide)⟩]
end L2
namespace L2
open PySem PySem.Spec PyProof.Rows
def FT(K:qe)(tk tv:TE):TE:=λσ H Q=>∀ p,H p=none->tk σ (upd H p<|.dT []) λx H1=>tv σ H1 λy H2=>H2 p=some (.dT [])/\∃ k b,x=.ref b/\aX K H2 b (k.map kV)/\Q (.ref p) (upd H2 p<|.dT [(k,y)])
theorem XY{X:Cx}{k v:Expr}(hu:X.A.units+1 < cLine)(hk:PE X k tk)(hv:PE X v tv):PE X (.Dict [some k] [v] pos) (FT X.K tk tv):=by
 intro pins s σ H Q I q;have hn:=I.aE.fresh (qg s.heap.objs.size);have I1:=I.laid (a:=s.heap.objs.size) (o:=.dT []) (h':=s.heap.push {cls:=.type "dict",data:=.dict #[]}) (t':=s.toks) (λ_ _ q=>qf _ q) (qg _) (CA s.heap I.AK);refine wpAny_Dict_any rfl rfl (by simp) (by show 1<=15; decide)<|pairTrees_cons_walk<|aH (hk pins _ σ _ _ I1<|q _ hn) λu s1 ⟨x,H1,I1,rx,q1⟩=>aH (hv pins s1 σ H1 _ I1 q1) λw2 s2 ⟨y,H2,I2,ry,e,ks,b,ex,eb,q2⟩=>pairTrees_nil_walk ?_;subst ex;cases rx;unfold storeAll;rw[List.forIn_cons];have(z,hd,xs,rel,dd):=Fs I2.cc I2.aE e;cases rel;refine qc<|qc<|wpAny_dictSet_heap (hsz:=Ç _) (show X.A.units < cLine from Nat.lt_of_succ_lt hu) (rH I2.cc I2.aE eb) dd λh' sU hs=>qd ?_;dsimp only;rw[List.forIn_nil];refine qd ?_;have(q',es,ep,hq,h2,h3,h4,_,h5):=sU;refine⟨.ref s.heap.objs.size,_,Cb (ob:=.dT [(ks,y)]) I2 (by rw[e]; exact True.intro) hs ⟨q',hq⟩ ⟨by show 1<=sizeLine; decide,hd,_,(KT.put (kvs:=[]) .nil ks eb ry).keeps λc ys ec=>?_,q',es,ep,hq,h2,h3,h4,h5⟩,rfl,q2⟩;rw[zD<|oM ec e λz=>nomatch z];exact ec
theorem Gv{X:Cx}{k v:Expr}(hr:aM n X.A)(hk:Wr (PE X k tk))(hv:Wr (PE X v tv)):Wr (PE X (.Dict [some k] [v] pos)<|FT X.K tk tv):=⟨XY (xC hr) hk.run hv.run⟩
section
variable{ρ aw av:En}
theorem Rs.free{p:Qg}{c o:HO}(r:Rs K ρ σ H)(hc:H p=some c)(m:Mo c)(n:¬Ow ρ σ p):Rs K ρ σ (upd H p o):=by
 have kp:=kN hc m o;refine⟨r.len,λi u e=>?_,r.apart⟩;have(v,ev,q):=r.rep i u e;refine⟨v,ev,q.kp kp λou a c' ea ha=>?_⟩;have ne:a≠p:=by
  rintro rfl;exact n ⟨i,u,e,ou,by rw[ev,ea]⟩
 rw[zD ne];exact ha
theorem Go.free{p:Qg}{c o:HO}(g:Go K ρ σ H av H')(hp:H p=none)(hc:H' p=some c)(m:Mo c)(n:¬Ow av σ p):Go K ρ σ H av (upd H' p o):=by
 refine⟨g.rs.free hc m n,λa ob ha hn=>?_,g.shr,λa ha=>?_⟩
 .have ne:a≠p:=by
   rintro rfl;rw[hp]at ha;cases ha
  rw[zD ne];exact g.fr a ob ha hn
 .by_cases e:a=p
  .subst e
   exact hp
  .rw[zD e]at ha
   exact g.dm a ha
def xP(mk mv:ME):ME:=λρ=>(mk ρ).bind λp=>(mv p.2).bind λq=>(p.1.get q.2).bind λk=>(q.1.get q.2).bind λv=>k.da.bind λk=>v.da.bind λv=>(dh k).bind λk=>some (.u<|.t [(k,v)],q.2)
theorem Cm{w:U}{x:D}(h:w.da=some x):w=.d x:=by
 cases w<;>first | (cases h; rfl) | cases h
theorem Gu{mk mv:ME}(hk:VE K tk mk)(hv:VE K tv mv):VE K (FT K tk tv) (xP mk mv):=by
 intro ρ σ H a av Q r e q;obtain⟨⟨a1,aw⟩,e1,e⟩:=bQ e;obtain⟨⟨b1,aB⟩,e2,e⟩:=bQ e;have(uk,ek,e):=bQ e;have(uv,ev,e):=bQ e;have(dk,JT,e):=bQ e;have(dv,JS,e):=bQ e;have(ks,JR,e):=bQ e;cases e;cases Cm JT;cases Cm JS;intro p hp;have sm:=zZ hp (.dT []);have g0:=Go.grow r sm;have n0:¬Ow ρ σ p:=λz=>by
  have(c,hc,_):=r.ow z;rw[hp]at hc;cases hc
 refine hk ρ σ (upd H p<|.dT []) a1 aw _ g0.rs e1 λx H1 g1 k1=>hv aw σ H1 b1 _ _ g1.rs e2 λy H2 g2 k2=>?_;have n1:¬Ow aw σ p:=λz=>n0<|g1.shr.ow z;have n2:¬Ow aB σ p:=λz=>n1<|g2.shr.ow z;have Ai:H2 p=some (.dT []):=g2.fr p _ (g1.fr p _ zy n0) n1;have pk:=k1.later g0.rs g1 g2 ek;have pv:=k2.now g1.rs g2 ev;have(b,rfl,hb):=uf pk JR;have kp:=kN Ai trivial (.dT [(ks,y)]);refine⟨Ai,ks,b,rfl,hb,q _ _ (((g0.trans g1).trans g2).free hp Ai trivial n2) ⟨⟨p,[(ks,y)],rfl,zy,.cons ⟨rfl,DF.kp kp pv⟩ .nil⟩,λ_=>⟨p,rfl,hp⟩⟩⟩
end
section
variable{X:Cx}{k:Nat}
end
section
variable{ρ:En}{mk mv:ME}{mA:MA}{f:Qa D->Qa D}{QE:Ar×En->Prop}{QI:Qa D×En->Prop}
theorem znp:Wo (xP mk mv ρ) QE=Wo (mk ρ) (Co (λp=>(mv p.2).bind λq=>(p.1.get q.2).bind λk=>(q.1.get q.2).bind λv=>k.da.bind λk=>v.da.bind λv=>(dh k).bind λk=>some (.u<|.t [(k,v)],q.2)) ⟨0⟩ QE):=by
 show Wo (Option.bind _ _) QE=_;rw[zt]
end
end L2
namespace L2
open PySem
def ch:Nat->Nat->Nat
 | _,0=>1
 | 0,_+1=>0
 | n+1,k+1=>ch n k+ch n (k+1)
theorem AV{a b:Qa Int}(h:a.length+b.length<=1000):rF (.d<|bP a) (.d<|bP b)=some (.d<|bP<|a++b):=by
 have:=Ob (xs:=a.map PyData.int) (ys:=b.map PyData.int) (by rw[List.length_map,List.length_map]; omega);rw[<-List.map_append]at this;exact this
theorem Lf{k:Int}:PyData.tuple [.int k]=bP [k]:=rfl
end L2
namespace L2
open PySem PySem.Spec PyProof.Rows
open PySem.AutoSeq1 (wpAny_loadPart')
open MeetsSeq MeetsSeq2 MeetsSeq3 SeqRoads2
end L2
namespace L2
open PySem PySem.Spec PyProof.Rows
section
variable{l b:Qg}{items bI:Array Qc}{xs ys:Qa Int}
end
section
variable{X:Cx}{k:Nat}
end
section
end
section
variable{X:Cx}{a b c d:Expr}{tc:TE}
end
section
end
section
variable{f f' f'':U->U->Qb U}{ma mb mc md:ME}{ρ:En}{QE:Ar×En->Prop}
end
end L2
namespace HT
open PySem PySem.Spec PyProof.Rows
section
variable{prog:Program} {w:World} {A:Around} {E:Value->Shared->Prop} {s:Shared}
end
end HT
namespace L2
open PySem PySem.Spec PyProof.Rows
section
variable{X:Cx}{st:Expr}{ts:TE}{p2:Pos}
end
section
end
section
end
section
end
end L2
namespace L2
open PySem PySem.Calls PySem.Spec PyProof.Rows
section
end
section
end
end L2
namespace L2
open PySem PySem.Spec PyProof.Rows
section
variable{X:Cx}{CX:jN}{k:Nat}{f C:Qg}{dvs:Qa V}{ds:Qa Qc}{E:XK}{m:Str}{p:Pos}{es:Qa Expr}{t:TA}
end
section
variable{X:Cx}{k:Nat}{p:Pos}{es:Qa Expr}{t:TA}
end
section
end
section
end
section
variable{X:Cx}{k:Nat}
end
section
end
end L2
namespace L2
open PySem
section
variable{mA:MA}{ρ:En}{QI:Qa D×En->Prop}
end
end L2
namespace L2
open PySem PySem.Spec PyProof.Rows
open Classical in
def iB(i:Nat)(kW:Qa D)(mg:MG)(mb:MS):Qa D->En->Qb Fl
 | [],ρ=>if ρ[i]?=some (some<|.l kW)then some (.nx ρ)else none
 | d::ds,ρ=>if ρ[i]?=some (some<|.l kW)then(mg d ρ).bind λaw=>(mb aw).bind λf=>match f with
  | .nx aB=>iB i kW mg mb ds aB
  | .ct aB=>iB i kW mg mb ds aB
  | .bk aB=>some<|.nx aB
  | .rt u aB=>some<|.rt u aB
  | .ex x aB=>some (.ex x aB)else none
def tM(i:Nat)(mg:MG)(mb:MS):MS:=λρ=>match ρ[i]? with
 | some (some<|.l ds)=>iB i ds mg mb ds ρ
 | some (some<|.d<|.tuple ds)=>gv mg mb ds ρ
 | _=>none
section
variable{EX:jf}
theorem GL{kW ds:Qa D}{mg:MG}{mb:MS}{ρ:En}{f:Fl}(h:iB i kW mg mb ds ρ=some f):ρ[i]?=some (some<|.l kW):=by
 cases ds with
 | nil=>
  unfold iB at h;split at h
  .assumption
  .cases h
 | cons d ds=>
  unfold iB at h;split at h
  .assumption
  .cases h
theorem zBr{tb:TS}{mg:MG}{mb:MS}(hp:i∈pn)(hg:qI K pn g mg)(hb:VS K pn EX tb mb):VS K pn EX (Bo (AX K<|iA i) g tb) (tM i mg mb):=by
 intro ao A aA aC ρ σ H f D s e k;unfold tM at e;split at e
 .rename_i ds eu
  have(v,ev,p):=s.rs.rep i _ eu;have(a,us,rfl,h1,h2):=p;have sa:ao[i]?=some (some<|.ref a):=by rw[<-s.pin i hp]; exact ev
  refine⟨.ref a,ev,a,rfl,.inl ⟨⟨us,bu.of h1⟩,?_⟩⟩;refine⟨λj m aJ H'=>m=ds.length - j/\j<=ds.length/\∃ av,Sn K pn ao A aA H av aJ H'/\iB i ds mg mb (ds.drop j) av=some f,⟨ds.length,by simp,Ç _,ρ,s.at,e⟩,?_⟩;rintro j m aJ H' ⟨rfl,hj,av,s',el⟩;have now:∃ gC,H' a=some (.lst gC)/\aR K H' gC ds:=by
   have(v',e1,p'):=s'.rs.rep i _ (GL el);have(a',gC,rfl,q1,q2):=p';have:some (some<|V.ref a')=some (some<|V.ref a):=by rw[<-e1,s'.pin i hp,sa]
   cases this;exact⟨gC,q1,q2⟩
  have(gC,q1,q2):=now
  by_cases eO:j < ds.length
  .rw[List.drop_eq_getElem_cons eO]at el
   have i9:=el;unfold iB at i9;rw[if_pos<|GL el]at i9;have(aB,e2,i9):=bQ i9;have(fb,eb,i9):=bQ i9;have(x,ex,dx):=q2.get (qo eO);refine .inr ⟨⟨gC,x,bu.of q1,ex⟩,λdu H3=>∃ gM,Sn K pn ao A aA H gM du H3/\iB i ds mg mb (ds.drop<|j+1) gM=some f,λdu H3 ⟨gM,s3,e3⟩=>⟨ds.length - (j+1),by omega,rfl,eO,gM,s3,e3⟩,λy H2 hy=>?_⟩;have(rfl,hy):=hy;have:=hy gC (bu.of q1);rw[ex]at this;cases this;refine hg.run ao A aA H av aJ H2 x ds[j] aB _ s' dx e2 λdu s3=>?_;refine hb ao A aA H aB du H2 fb _ s3 eb ?_;cases fb with
   | nx cz=>exact λfq H4 s4=>⟨cz,s4,i9⟩
   | ct cz=>exact λfq H4 s4=>⟨cz,s4,i9⟩
   | bk cz=>cases i9; exact λfq H4 s4=>k fq H4<|s4.re s.kp
   | rt u cz=>cases i9; exact λv fq H4 s4 p n=>k v fq H4 (s4.re s.kp) p n
   | ex x cz=>cases i9; exact λa fq H4 s4 p n=>k a fq H4 (s4.re s.kp) p n
  .have ej:j=ds.length:=by omega
   subst ej;rw[List.drop_length]at el;have i9:=el;unfold iB at i9;rw[if_pos<|GL el]at i9;cases i9;exact .inl ⟨⟨gC,bu.of q1,by rw[q2.len]; exact qg _⟩,k aJ H'<|s'.re s.kp⟩
 .rename_i ds eu
  have g1:zi i ρ=some (.s i,ρ):=by unfold zi; rw[eu]
  have g2:Ar.get ρ (.s i)=some (.d<|.tuple ds):=by show(ρ[i]?).join=_; rw[eu]; rfl
  have e':cW (de AW<|zi i) mg mb ρ=some f:=by
   simp only[cW,de,g1,Option.bind_some,g2,AW];exact e
  exact dI (zBm zd) hg hb ao A aA aC ρ σ H f D s e' k
 .cases e
end
section
variable{mg:MG}{mb:MS}{ρ:En}{Q:Fl->Prop}
theorem zBs{ds:Qa D}(h:ρ[i]?=some (some<|.l ds)):tM i mg mb ρ=iB i ds mg mb ds ρ:=by unfold tM; rw[h]
theorem zBt{ds:Qa D}(h:ρ[i]?=some (some<|.d<|.tuple ds)):tM i mg mb ρ=gv mg mb ds ρ:=by unfold tM; rw[h]
theorem XX{kW:Qa D}(P:Nat->En->Prop){ds:Qa D}(h0:P 0 ρ)(hP:∀ i' ρ,P i' ρ->ρ[i]?=some (some<|.l kW))(st:∀ i d ρ,ds[i]?=some d->P i ρ->Wo (mg d ρ) (Co mb ⟨0⟩<|oP Q<|P<|i+1))(hQ:∀ ρ,P ds.length ρ->Q (.nx ρ)):Wo (iB i kW mg mb ds ρ) Q:=by
 have main:∀ (es:Qa D) (n:Nat) (ρ:En),n+es.length=ds.length->(∀ j,es[j]?=ds[n+j]?)->P n ρ->Wo (iB i kW mg mb es ρ) Q:=by
  intro es
  induction es with
  | nil=>
   intro n ρ hn _ hp;unfold iB;rw[if_pos<|hP n ρ hp,eW];rw[List.length_nil,Nat.add_zero]at hn;exact hQ ρ<|hn▸hp
  | cons d es ih=>
   intro n ρ hn he hp;have e0:=he 0;rw[List.getElem?_cons_zero,Nat.add_zero]at e0;have(aw,e1,f,e2,k):=st n d ρ e0.symm hp;have jz:∀ aB,P (n+1) aB->Wo (iB i kW mg mb es aB) Q:=λaB z=>ih (n+1) aB (by rw[qx]at hn; omega) (λj=>by
    have:=he (j+1);rw[List.getElem?_cons_succ]at this;rw[this,show n+(j+1)=n+1+j by omega]) z
   unfold iB;rw[if_pos<|hP n ρ hp,zt];refine⟨aw,e1,?_⟩;rw[iM,zt];refine⟨f,e2,?_⟩;rw[iM];cases f with
   | nx aB=>exact jz aB k
   | ct aB=>exact jz aB k
   | bk aB=>exact⟨_,rfl,k⟩
   | rt u aB=>exact⟨_,rfl,k⟩
   | ex x aB=>exact⟨_,rfl,k⟩
 exact main ds 0 ρ (by omega) (λj=>by rw[Nat.zero_add]) h0
end
end L2
namespace L2
open PySem PySem.Spec PyProof.Rows
theorem Ov{X:Cx}{b:Qg}{r:Qc}{k:Qa Key}{Q:Unit->Qd->Prop}(hu:A.units+1 < cLine)(I:Inv X pins σ H s)
  (e:H a=some (.dT kvs)) (eb:aX X.K H b (k.map kV)) (l:kvs.length < sizeLine) (rv:aO v r) (h:∀ s',Inv X pins σ (upd H a<|.dT<|eJ kvs k v) s'->Q () s'):wpAny (model X.prog X.w) A (dictSet a (.ref b) r) Q E s:=by
 have(z,hd,xs,rel,dd):=Fs I.cc I.aE e;have hz:xs.length<=sizeLine:=by rw[<-Paired.length rel]; exact z
 have hl:(eJ kvs k v).length<=sizeLine:=by have:=CY kvs k v; omega
 refine wpAny_dictSet_heap (hsz:=hz) (show A.units < cLine from Nat.lt_of_succ_lt hu) (rH I.cc I.aE eb) dd λh' sU hs=>h _ ?_;have(q,es,ep,hq,h2,h3,h4,_,h5):=sU;refine Cb I (by rw[e]; exact True.intro) hs ⟨q,hq⟩ ⟨hl,hd,_,(rel.put k eb rv).keeps λc ys ec=>?_,q,es,ep,hq,h2,h3,h4,h5⟩;rw[zD<|oM ec e λz=>nomatch z];exact ec
theorem znq{kx vx target:Expr}{it:Qc}{D:Qg}(I:Nat->Qd->Prop)
  (turn:∀ n s,I n s->∀ E,wpAny (model prog w) A (pyNext it) (λr s1=>match r with
   | none=>R (.ok .next) s1
   | some v=>wpAny (model prog w) A (letOwnedTupleGo target it v) (λ_ s2=>wpAny (model prog w) A (assign target env v) (λ_ s3=>
     wpAny (model prog w) A (forIn ifs true λc r=>if r=true then do let ok <-isTrue c env (eval c env); pure (ForInStep.yield ok)else pure (ForInStep.yield r)) (λok s4=>
      (ok=true->wpAny (model prog w) A (eval kx env) (λk s5=>wpAny (model prog w) A (eval vx env) (λv s6=>wpAny (model prog w) A (dictSet D k v) (λ_ s7=>∃ m,m < n/\I m s7) E s6) E s5) E s4)/\
      (ok=false->∃ m,m < n/\I m s4)) E s3) E s2) E s1) E s)
  (n:Nat) (h:I n s):codeAny (model prog w) A (.compLoop (.DictComp kx vx [⟨target,iter,ifs,0⟩] scope pos) 0 it (.ref D) env) R s:=by
 refine codeAny_loop rfl I (λn s hI=>?_) n h;show wpAny _ A ((compTurn _ 0 it (.ref D) env).onRaise (λx=>do noteFrame x env; theTreesLotGoes x)) _ _ s;refine wpAny_noted ?_;rw[compTurn_dict];refine qc<|wpAny_standAt<|qc<|wpAny_mono (turn n s hI _) (λr s1 h1=>?_) λ_ _ z=>z;cases r with
 | none=>exact qd h1
 | some v=>
  refine qc<|wpAny_mono h1 (λ_ s2 h2=>?_) λ_ _ z=>z;refine qc<|wpAny_mono h2 (λ_ s3 h3=>?_) λ_ _ z=>z;refine qc<|wpAny_mono h3 (λok s4 h4=>?_) λ_ _ z=>z;cases ok with
  | false=>exact qd ⟨rfl,h4.2 rfl⟩
  | true=>
   refine qc<|qc<|wpAny_mono (h4.1 rfl) (λx s5 h5=>?_) λ_ _ z=>z;refine qc<|wpAny_holding<|wpAny_mono h5 (λy s6 h6=>?_) λ_ _ z=>z;exact qc<|wpAny_standAt<|wpAny_holding<|wpAny_mono h6 (λ_ s7 h7=>qd ⟨rfl,h7⟩) λ_ _ z=>z
def HM(K:qe)(J:It)(jO:St)(g:TG)(tt:TT)(tk tv:TE)(D:Qg)(Z:Hp->Prop)(H1:Hp):Prop :=
 ∃ W:Nat->Nat->Hp->Prop,(∃ m,W 0 m H1)/\∀ i m H,W i m H->
  (J.stop i H/\Z H)\/(J.go i H/\∃ N:Hp->Prop,(∀ H',N H'->∃ m',m' < m/\W (i+1) m' H')/\
   ∀ x H',J.wJ i H x H'->g x jO H' λft H2=>tt ft H2 λb H3=>if b=true then tk ft H3 λy H4=>tv ft H4 λv H5=>∃ kvs k p,y=.ref p/\H5 D=some (.dT kvs)/\aX K H5 p (k.map kV)/\kvs.length < sizeLine/\N (upd H5 D<|.dT<|eJ kvs k v)else N H3)
section
variable{X:Cx}{xs:Qa Str}{ts:Qa Str}
theorem zoX{kx vx:Expr}{J:It}{D:Qg}{Z:Hp->Prop}{h1:Heap}{m1:Str->Qb Qc}{t1:Nat}
  (hu:X.A.units+1 < cLine) (hc:X.calm=true) (I:Inv X pins σ H s) (S:qJ scope xs) (f:aW X cl xs js) (iF:ts.length=nt) (T:Turn X.prog X.w X.K tg J fp it tn) (st:tn 0 s.heap) (hf:∀ b∈fp,fQ X pins H b)
  (hg:∀ C s H ex,PG (zX X scope cl (ts++xs) C s H ex) tg g) (ht:∀ C s H ex,lA (zX X scope cl (ts++xs) C s H ex) ifs tt) (hk:∀ C s H ex,PE (zX X scope cl (ts++xs) C s H ex) kx tk) (hv:∀ C s H ex,PE (zX X scope cl (ts++xs) C s H ex) vx tv)
  (gw:GW (c0 nt js σ) g) (h:HM X.K J (c0 nt js σ) g tt tk tv D Z H) (sL:h1.Ns s.heap.objs.size m1) (old:∀ b o,s.heap.get? b=some o->h1.get? b=some o) (ck:CellsOk h1 (s.heap.objs.size+1) (cellsFrom (s.heap.objs.size+1) scope.names []))
  (hR:∀ (m:Str->Qb Qc) (s':Qd) (H':Hp),Z H'->Inv X pins σ H' s'->s'.heap.Ns s.heap.objs.size m->H' s.heap.objs.size=none->s.heap.objs.size≠X.env.locals->
   (∀ x c,X.env.cells.lookup x=some c->c≠s.heap.objs.size)->X.bp.heap.objs.size<=s.heap.objs.size->(∀ p∈X.pn++pins,p.1≠s.heap.objs.size)->R (.ok .next) s'):
  codeAny (model X.prog X.w) X.A (.compStart (.DictComp kx vx [⟨tg,iter,ifs,0⟩] scope pos) 0 (.ref it) (.ref D)<|compEnvC scope (cellsFrom (s.heap.objs.size+1) scope.names cl) s.heap.objs.size X.env) R {s with heap:=h1,toks:=t1}:=by
 have hl:∀ b∈fp,b < s.heap.objs.size:=λb hb=>by
  have(o,e,_):=T.obj _ _ st b hb;exact qj e
 have J0:Inv (zX X scope cl (ts++xs) s.heap.objs.size s H fp) [] (c0 nt js σ) H {s with heap:=h1,toks:=t1}:=NN I S f iF (qg _) hf hl old sL ck;obtain⟨W,⟨m0,w0⟩,turn⟩:=h;have kR:tn 0 h1:=T.keep _ _ _ st λb hb o e=>old b o e;have vg:∀ {H':Hp},(∀ b∈fp,H' b=none)->∀ b∈fp,fQ (zX X scope cl (ts++xs) s.heap.objs.size s H fp) [] H' b:=λ{H'} hn b hb=>by
  refine⟨hn b hb,ql<|hl b hb,λz=>?_,.inl hb,λx c e=>((Gq I S f ck (qg _) hf hl (ts:=ts)).AH b hb).2 x c e,λp Jt=>by cases Jt⟩;rcases qy.mp (I.fG b z)with q|q
  .exact(hf b hb).2.1 q
  .exact(hf b hb).2.2.1 q
 have loop:codeAny (model X.prog X.w) X.A (.compLoop (.DictComp kx vx [⟨tg,iter,ifs,0⟩] scope pos) 0 (.ref it) (.ref D)<|compEnvC scope (cellsFrom (s.heap.objs.size+1) scope.names cl) s.heap.objs.size X.env) R {s with heap:=h1,toks:=t1}:=by
  refine znq (λn s'=>∃ i H',Inv (zX X scope cl (ts++xs) s.heap.objs.size s H fp) [] (c0 nt js σ) H' s'/\tn i s'.heap/\(∀ b∈fp,H' b=none)/\W i n H') ?_ m0 ⟨0,H,J0,kR,λb hb=>(hf b hb).1,w0⟩;rintro n s3 ⟨i,H3,I3,rW,sQ,w3⟩ E';rcases turn i n H3 w3 with⟨stop,qz⟩|⟨go,N,hN,step⟩
  .refine aH (T.done (zX X scope cl (ts++xs) s.heap.objs.size s H fp) rfl rfl rfl hc i _ s3 _ H3 E' I3 (vg sQ) rW stop) λr s4 hZ=>?_
   have(hr,I4):=hZ;subst hr;have(m4,n4,_):=I4.loc;refine hR m4 s4 H3 qz (I.sW I4.os I4.base I4.aE I4.bare λb hb=>⟨(hf b hb).2.2.2.1,(hf b hb).2.1,(hf b hb).2.2.2.2.1,λp hp=>(hf b hb).2.2.2.2.2 p hp⟩) n4 I4.free ?_ ?_ I.sz ?_
   .exact λz=>absurd I.lt (by rw[<-z]; exact Ë _)
   .intro x c e z
    have(v,ob,q,_):=I.cell x c e;exact absurd (qj q) (by rw[z]; exact Ë _)
   .intro p hp z
    have q:=(I.pin p hp).1;exact absurd (qj q) (by rw[z]; exact Ë _)
  .refine aH (T.item (zX X scope cl (ts++xs) s.heap.objs.size s H fp) rfl rfl rfl hc i _ s3 _ H3 E' I3 (vg sQ) rW go) λr s4 hZ=>?_
   have(u,hr,h4):=hZ;subst hr;refine aH h4 λ_ s5 hZ=>?_;have(x,H5,I5,r5,y5,lV,AE):=hZ;have AO:=I5.pinned (vg AE) (T.obj _ _ lV);refine tE (hg _ _ _ _ _ s5 _ H5 x u _ AO r5<|gw _ _ _<|step x H5 y5) λ_ s6 hZ=>?_;have(mQ,H6,I6,yD,q6):=hZ;refine tE (ht _ _ _ _ _ s6 mQ H6 _ I6 q6) λok s7 hZ=>?_;have(H7,I7,q7):=hZ;have after:∀ {H8:Hp} {s8:Qd},Inv (zX X scope cl (ts++xs) s.heap.objs.size s H fp) ([]++we fp s5.heap) mQ H8 s8->
     tn (i+1) s8.heap/\(∀ b∈fp,H8 b=none)/\Inv (zX X scope cl (ts++xs) s.heap.objs.size s H fp) [] (c0 nt js σ) H8 s8:=λ{H8 s8} I8=>by
    refine⟨T.keep _ _ _ lV λb hb o e=>(I8.pin (b,o)<|qA _<|qA _<|uw hb e).1,λb hb=>?_,?_⟩
    .have(o,e,d):=T.obj _ _ lV b hb
     exact(I8.pin (b,o)<|qA _<|qA _<|uw hb e).2.1
    .exact(I8.weak yD.1 yD.2).cT λp hp=>by cases hp
   refine⟨λaE=>?_,λaE=>?_⟩
   .subst aE
    rw[if_pos rfl]at q7;refine tE (hk _ _ _ _ _ s7 mQ H7 _ I7 q7) λkv s8 hZ=>?_;have(y,H8,I8,ry,q8):=hZ;refine tE (hv _ _ _ _ _ s8 mQ H8 _ I8 q8) λvv s9 hZ=>?_;have(v,H9,I9,rv,q9):=hZ;have(kvs,k,p,ey,eD,ep,hz,q10):=q9;subst ey;cases(show kv=Value.ref p from ry);refine Ov (X:=zX X scope cl (ts++xs) s.heap.objs.size s H fp) hu I9 eD ep hz rv λs10 I10=>?_;have(ID,JQ,J6):=after I10;have(m',hm,w10):=hN _ q10;exact⟨m',hm,i+1,_,J6,ID,JQ,w10⟩
   .subst aE
    rw[if_neg qh]at q7;have(IC,JP,J5):=after I7;have(m',hm,w7):=hN _ q7;exact⟨m',hm,i+1,H7,J5,IC,JP,w7⟩
 exact codeAny_compStart_dict loop<|T.self _ _ _ _ _ kR loop
theorem znr{kx vx:Expr}{J:It}{Z:Qg->Hp->Prop}
  (hu:X.A.units+1 < cLine) (hc:X.calm=true) (I:Inv X pins σ H s) (S:qJ scope xs) (f:aW X cl xs js) (iF:ts.length=nt) (T:Turn X.prog X.w X.K tg J fp it tn) (st:tn 0 s.heap) (hf:∀ b∈fp,fQ X pins H b)
  (hg:∀ C s H ex,PG (zX X scope cl (ts++xs) C s H ex) tg g) (ht:∀ C s H ex,lA (zX X scope cl (ts++xs) C s H ex) ifs tt) (hk:∀ C s H ex,PE (zX X scope cl (ts++xs) C s H ex) kx tk) (hv:∀ C s H ex,PE (zX X scope cl (ts++xs) C s H ex) vx tv)
  (gw:GW (c0 nt js σ) g) (h:∀ D,H D=none->HM X.K J (c0 nt js σ) g tt tk tv D (Z D) (upd H D<|.dT []))
  (JI:∀ (D C:Qg) (m:Str->Qb Qc) (s':Qd) (H':Hp),Z D H'->Inv X pins σ H' s'->s'.heap.Ns C m->H' C=none->C≠X.env.locals->
   (∀ x c,X.env.cells.lookup x=some c->c≠C)->X.bp.heap.objs.size<=C->(∀ p∈X.pn++pins,p.1≠C)->RR (.ref D) C (.ok .next) s'):
  wpAny (model X.prog X.w) X.A newDict (λacc s3=>wpAny (model X.prog X.w) X.A (newFunctionEnv scope X.env.globals cl [] X.env.qual none .none<|some X.env) (λmJ s4=>
   codeAny (model X.prog X.w) X.A (.compStart (.DictComp kx vx [⟨tg,iter,ifs,0⟩] scope pos) 0 (.ref it) acc {mJ with scope:=relabel scope X.env}) (RR acc mJ.locals) s4) E s3) E s:=by
 refine qD<|NP λh1 sL i4 ck=>?_;dsimp only at sL i4 ck ⊢;have JK:H s.heap.objs.size=none:=I.aE.fresh (qg _);have I1:=I.laid (a:=s.heap.objs.size) (o:=.dT []) (h':=s.heap.push {cls:=.type "dict",data:=.dict #[]}) (t':=s.toks) (λ_ _ q=>qf _ q) (qg _) (CA s.heap I.AK);have h2:=h _ JK;have Am:∀ b∈fp,b < s.heap.objs.size:=λb hb=>by
  have(o,e,_):=T.obj _ _ st b hb;exact qj e
 have st0:tn 0 (s.heap.push {cls:=.type "dict",data:=.dict #[]}):=T.keep _ _ _ st λb hb o e=>qf _ e;have hf0:∀ b∈fp,fQ X pins (upd H s.heap.objs.size<|.dT []) b:=λb hb=>⟨by rw[zD<|ql<|Am b hb]; exact(hf b hb).1,(hf b hb).2⟩;have hp:s.heap.objs.size < (s.heap.push {cls:=.type "dict",data:=.dict #[]}).objs.size:=by rw[Heap.size_push]; exact Ý _
 refine zoX (s:={s with heap:=s.heap.push {cls:=.type "dict",data:=.dict #[]},toks:=s.toks}) hu hc I1 S f iF T st0 hf0 hg ht hk hv gw h2 sL i4 ck λm s' H' z I' hn u9 p4 pZ nR u7=>JI _ _ m s' H' z I' hn u9 p4 pZ nR u7
def R1(K:qe)(wi:TI)(nt:Nat)(js:Qa Nat)(g:TG)(tt:TT)(tk tv:TE):TE:=λσ H Q=>wi σ H λJ H1=>
 ∀ D,H1 D=none->HM K J (c0 nt js σ) g tt tk tv D (λH2=>Q (.ref D) H2) (upd H1 D<|.dT [])
theorem EN{y:Str}{py lW:Pos}{kx vx:Expr}(hr:aM n X.A)(hi:Wr (PI X tg iter wi))(hg:∀ {C s H ex},Wr<|PG (zX X scope (iy X js) (jv tg++gZ X js) C s H ex) tg g)(ht:∀ {C s H ex},Wr<|lA (zX X scope (iy X js) (jv tg++gZ X js) C s H ex) ifs tt)
  (hk:∀ {C s H ex},Wr<|PE (zX X scope (iy X js) (jv tg++gZ X js) C s H ex) kx tk) (hv:∀ {C s H ex},Wr<|PE (zX X scope (iy X js) (jv tg++gZ X js) C s H ex) vx tv)
  (hN:X.N.Nodup:=by first|assumption|exact yf rfl) (ie:X.N[i]?=some y:=by rfl) (hy:Loc X.env.scope y:=by first|exact Or.inl rfl|exact Or.inr rfl)
  (f:aW X (iy X js) (gZ X js) js:=by repeat (first|exact aW.nil|refine aW.cons rfl (by first|exact Or.inl rfl|exact Or.inr rfl) rfl ?_)) (fJ:closureFor scope X.env=pure (iy X js):=by rfl) (S:qJ scope (gZ X js):=by exact⟨rfl,of_decide_eq_true rfl,of_decide_eq_true rfl,of_decide_eq_true rfl,of_decide_eq_true rfl⟩) (iF:(jv tg).length=nt:=by rfl) (hc:X.calm=true:=by rfl) (gw:∀ σ:St,GW (c0 nt js σ) g:=by first|exact Gp (by decide) | exact Fn<|Gm (by repeat (first|exact G3|refine Hd (by decide) ?_))) (hs:∀ x,foldedSetIterable iter X.env x=pure x:=by intro _; rfl)
  (Jp:swapsWith (.DictComp kx vx [⟨tg,iter,ifs,0⟩] scope pos) (some<|.Name y py) lW.line X.env=pure true:=by rfl)
  (hf:X.fn y=true\/X.env.scope.names.lookup y=some .local:=by first|exact .inl rfl|exact .inr rfl|assumption):
  Wr (PS X (.Assign [.Name y py] (.DictComp kx vx [⟨tg,iter,ifs,0⟩] scope pos) lW)<|oH (R1 X.K wi nt js g tt tk tv)<|jT i):=by
 refine⟨?_⟩;intro pins s σ H D I h;rw[exec_Assign_Name_used _ _ _ _ Jp];refine qc<|wpAny_standAt<|qc ?_;show wpAny _ X.A (do let _ <-comprehension (.DictComp kx vx [⟨tg,iter,ifs,0⟩] scope pos) scope X.env _ newDict false (eval iter X.env) (some<|assign (.Name y py) X.env)) _ _ s;refine qc<|wpAny_mono (wpAny_comprehension_free (use:=some (assign (.Name y py) X.env)) (Q:=λ_ s'=>SP X pins D .next s') rfl hs fJ S.kind S.names
  (aH (hi.run pins s σ H _ I h) λv s1 h1=>aH h1 λsF s2 h2=>?_)) (λ_ s' hq=>qd<|qd hq) λ_ _ e=>e
 have(it,fp,tn,J,H2,e,I2,T,kQ,f2,q):=h2;subst e;refine znr (RR:=λacc C=>compPost (model X.prog X.w) X.A X.xe (some<|assign (.Name y py) X.env) (λ_ s'=>SP X pins D .next s') acc C) (xC hr) hc I2 S f iF T kQ f2 (λC s H ex=>hg.run) (λC s H ex=>ht.run) (λC s H ex=>hk.run) (λC s H ex=>hv.run) (gw σ) q ?_;intro D' C m s' H' z I' hn u9 p4 pZ nR u7;show wpAny _ _ (assign (.Name y py) X.env<|.ref D') _ _ _;refine wpAny_assign_Name<|Hj (v:=.ref D') I' hN ie hy rfl (λwN J7 hZ=>?_) hf;have(a,sb,ha):=hZ;have ne:C≠a:=by
  rcases ha with rfl|ha
  .exact p4
  .exact(pZ _ _ ha).symm
 exact⟨m,hn.sameBut sb ne,λh' mr=>⟨_,_,J7.turned (it:=C) (λb o hb e=>mr.extBut b o hb e) u9 p4 (.inr nR) pZ u7,z⟩⟩
end
section
variable{ρ av aw:En}{H1:Hp}
theorem Sn.free{A:Qg->Prop}{D:Qg}{c o:HO}(s:Sn K pn ao A aA aC ρ σ H)(hc:H D=some c)(m:Mo c)(n:¬Ow ρ σ D)(hA:A D):Sn K pn ao A aA aC ρ σ (upd H D o):=by
 refine⟨s.rs.free hc m n,λa ob h nA=>?_,s.ow,s.pin,λa h=>?_,s.kp.trans<|kN hc m o⟩
 .have ne:a≠D:=by rintro rfl; exact nA hA
  rw[zD ne];exact s.fr a ob h nA
 .by_cases e:a=D
  .subst e; rw[zy]at h; cases h
  .rw[zD e]at h; exact s.dm a h
theorem EM{D:Qg}{A:Qg->Prop}{xo:En}{Kf:St}{Hx:Hp}(r:Rs K aw σ H1)(hD:H1 D=none)(s:Sn K (zev nt js.length) (c0 nt js σ) A (upd H1 D<|.dT []) H1 xo Kf Hx)
  (own:∀ (i:Nat) (u:U),nt<=i->xo[i]?=some (some u)->u.own=true->∃ w,(eR nt js aw)[i]?=some (some w)/\w.own=true):¬Ow xo Kf D:=by
 rintro⟨i,u,e,ou,es⟩;rcases s.ow i u D e ou es with⟨hi,_⟩|z
 .have ie:=rL.mp hi
  have(w,ew,ow):=own i u ie.1 e ou;have(p,j,rfl,hj,hr):=vY ew;rw[s.pin _ hi,Ft hj]at es;have e2:σ[j]?=some (some<|.ref D):=by
   rw[qE]at es;cases q:σ[j]? with
   | none=>rw[q]at es; cases es
   | some o=>rw[q]at es; exact congrArg some<|qB es
  have(c,hc,_):=r.ow ⟨j,w,hr,ow,e2⟩;rw[hD]at hc;cases hc
 .rw[zy]at z; cases z
def nW(nt:Nat)(mg:MG)(mt:MT)(mk mv:ME):Qa D->En->Qa (Qa Key×D)->Qb (Qa (Qa Key×D)×En)
 | [],ρ,ys=>some (ys,ρ)
 | d::ds,ρ,ys=>if ys.length < sizeLine then(mg d ρ).bind λaw=>(mt aw).bind λb=>if b.1=true then(mk b.2).bind λp=>(mv p.2).bind λq=>(p.1.get q.2).bind λuk=>(q.1.get q.2).bind λuv=>uk.da.bind λdk=>uv.da.bind λdv=>(dh dk).bind λk=>
   nW nt mg mt mk mv ds (reset nt q.2) (gO ys k dv)else nW nt mg mt mk mv ds (reset nt b.2) ys else none
def wV(mi:MI)(nt:Nat)(js:Qa Nat)(mg:MG)(mt:MT)(mk mv:ME):ME:=λρ=>(mi ρ).bind λp=>(nW nt mg mt mk mv p.1 (eR nt js p.2) []).bind λq=>some (.u<|.t q.1,back js (q.2.drop nt) p.2)
theorem HL{mi:MI}{mg:MG}{mt:MT}{mk mv:ME}(hi:VI K wi mi)(hg:qI K (zev nt js.length) g mg)(ht:VT K tt mt)(hk:VE K tk mk)(hv:VE K tv mv)(nd:js.Nodup:=by decide):
  VE K (R1 K wi nt js g tt tk tv) (wV mi nt js mg mt mk mv):=by
 intro ρ σ H a av Q r e q;obtain⟨⟨ds,aw⟩,e1,e⟩:=bQ e;obtain⟨⟨zs,sZ⟩,e2,e⟩:=bQ e;cases e;refine hi ρ σ H ds aw _ r e1 λJ H1 g1 run=>λD hD=>?_;have sm0:=zZ hD (.dT []);have s0:=MP (nt:=nt) (js:=js) g1.rs nd;have s1:Sn K (zev nt js.length) (c0 nt js σ) (λa=>kI aw σ js a\/a=D) (upd H1 D<|.dT []) H1 (eR nt js aw) (c0 nt js σ) (upd H1 D<|.dT []):=by
  have s2:=s0.go (Go.grow s0.rs sm0);refine⟨s2.rs,λa o h n=>h,λi u a e o es=>?_,s2.pin,λa h=>h,s2.kp⟩;rcases s2.ow i u a e o es with z|z
  .exact .inl ⟨z.1,.inl z.2⟩
  .exact absurd z (by
    have(v,ev,p):=s0.rs.rep i u e;rw[es]at ev;cases ev;have(b,c,eb,hb,_):=p.own o;cases eb;rw[hb];exact λz=>nomatch z)
 refine⟨λi m H'=>m=ds.length - i/\i<=ds.length/\∃ fP kd ws,Sn K (zev nt js.length) (c0 nt js σ) (λa=>kI aw σ js a\/a=D) (upd H1 D<|.dT []) H1 fP (c0 nt js σ) H'/\fj (eR nt js aw) fP/\(∀ k,k < nt->fP[k]?=some none)/\H' D=some (.dT ws)/\dH K H' ws kd/\nW nt mg mt mk mv (ds.drop i) fP kd=some (zs,sZ),
  ⟨ds.length,by simp,Ç _,_,[],[],s1,fj.refl _,λk hk=>LQ hk,zy,.nil,e2⟩,?_⟩
 rintro i m H' ⟨rfl,ie,fP,kd,ws,s',sh,lo,hw,dy,el⟩;have lc:fP.length=nt+js.length:=by rw[sh.len,Ge]
 by_cases eO:i < ds.length
 .rw[List.drop_eq_getElem_cons eO]at el
  unfold nW at el;split at el
  .rename_i hz
   have(aB,e3,el):=bQ el;obtain⟨⟨b,gM⟩,e4,el⟩:=bQ el;have(l2,p2):=hg.ok _ _ _ e3;have(go,yl):=(run H' s'.kp i).1 ds[i] (qo eO);refine .inr ⟨go,λH2=>∃ d5 DU wL,Sn K (zev nt js.length) (c0 nt js σ) (λa=>kI aw σ js a\/a=D) (upd H1 D<|.dT []) H1 d5 (c0 nt js σ) H2/\fj (eR nt js aw) d5/\(∀ k,k < nt->d5[k]?=some none)/\H2 D=some (.dT wL)/\dH K H2 wL DU/\nW nt mg mt mk mv (ds.drop<|i+1) d5 DU=some (zs,sZ),
    λH2 ⟨d5,DU,wL,z⟩=>⟨ds.length - (i+1),by omega,rfl,eO,d5,DU,wL,z⟩,λx H2 y=>?_⟩
   have(sm,dx):=yl x H2 y;have s2:=s'.go (Go.grow s'.rs sm);refine hg.run _ _ _ _ fP _ H2 x ds[i] aB _ s2 dx e3 λdu s3=>?_;have IL:∀ (i:Nat) (u:U),nt<=i->aB[i]?=some (some u)->u.own=true->∃ w,(eR nt js aw)[i]?=some (some w)/\w.own=true:=λk u hk ek ou=>by
    have lk:k < nt+js.length:=by rw[<-l2.trans lc]; exact(qm.mp ek).1
    rw[p2 k<|rL.mpr ⟨hk,lk⟩]at ek;exact sh.own k u ek ou
   have n2:¬Ow aB du D:=EM g1.rs hD s3 IL;have toEnd:∀ {cz:En} {H4:Hp},Go K aB du H2 cz H4->Sn K (zev nt js.length) (c0 nt js σ) (λa=>kI aw σ js a\/a=D) (upd H1 D<|.dT []) H1 (L2.reset nt cz) (c0 nt js σ) H4/\fj (eR nt js aw) (L2.reset nt cz):=λ{cz H4} g4=>by
    have l4:cz.length=nt+js.length:=by rw[g4.shr.len,l2,lc]
    refine⟨(s3.go g4).reset l4 FH,sh.trans<|fj.lZ lc lo l4 (λk u hk ek ou=>?_) λk u hk ek=>?_⟩
    .have(w,ew,ow):=g4.shr.own k u ek ou
     have lk:k < nt+js.length:=by rw[<-l2.trans lc]; exact(qm.mp ew).1
     rw[p2 k<|rL.mpr ⟨hk,lk⟩]at ew;exact⟨w,ew,ow⟩
    .have lk:k < nt+js.length:=by rw[<-lc]; exact(qm.mp ek).1
     rw[<-p2 k (rL.mpr ⟨hk,lk⟩)]at ek;exact g4.shr.live k u ek
   have Jm:H2 D=some (.dT ws):=sm _ _ hw;refine ht aB du H2 b gM _ s3.rs e4 λH3 g3=>?_;dsimp only at el;split at el
   .rename_i hb
    rw[if_pos hb];obtain⟨⟨a4,cz⟩,e5,el⟩:=bQ el;obtain⟨⟨a5,Kg⟩,e6,el⟩:=bQ el;have(uk,ek,el):=bQ el;have(uv,ev,el):=bQ el;have(dk,JT,el2):=bQ el;have(dv,JS,el3):=bQ el2;have(ks,JR,el4):=bQ el3;cases Cm JT;cases Cm JS;refine hk gM du H3 a4 cz _ g3.rs e5 λkx H4 g4 k4=>hv cz du H4 a5 Kg _ g4.rs e6 λvx H5 g5 k5=>?_;have pk:=k4.later g3.rs g4 g5 ek;have pv:=k5.now g4.rs g5 ev;have(p,rfl,hp):=uf pk JR;have JM:=(g3.trans g4).trans g5;have Jl:H5 D=some (.dT ws):=JM.fr D _ Jm n2;have(sn,sr):=toEnd JM;have SY:dH K H5 ws kd:=(dy.kp sm.kp).kp (JM.kp s3.rs);have kp:=kN Jl trivial (.dT<|eJ ws ks vx);have nE:¬Ow (L2.reset nt Kg) (c0 nt js σ) D:=EM g1.rs hD sn λk u _ ek ou=>sr.own k u ek ou;exact⟨ws,ks,p,rfl,Jl,hp,by rw[SY.len]; exact hz,_,_,_,sn.free Jl trivial nE<|.inr rfl,sr,λk hk=>Ct hk,zy,(SY.kp kp).put ks<|DF.kp kp pv,el4⟩
   .rename_i hb
    rw[if_neg hb];have(sn,sr):=toEnd g3;exact⟨_,_,_,sn,sr,λk hk=>Ct hk,g3.fr D _ Jm n2,(dy.kp sm.kp).kp<|g3.kp s3.rs,el⟩
  .cases el
 .have ei:i=ds.length:=by omega
  subst ei;rw[List.drop_length]at el;cases el;refine .inl ⟨(run H' s'.kp _).2 rfl,?_⟩;have nE:¬Ow sZ (c0 nt js σ) D:=EM g1.rs hD s' λk u _ ek ou=>sh.own k u ek ou;have s4:Sn K (zev nt js.length) (c0 nt js σ) (kI aw σ js) H1 H1 sZ (c0 nt js σ) H':=by
   refine⟨s'.rs,λa o h n=>?_,λi u a e o es=>?_,s'.pin,λa h=>?_,s'.kp⟩
   .have ne:a≠D:=by rintro rfl; rw[hD]at h; cases h
    exact s'.fr a o (by rw[zD ne]; exact h) λz=>z.elim n ne
   .rcases s'.ow i u a e o es with⟨z1,z2|z2⟩|z
    .exact .inl ⟨z1,z2⟩
    .subst z2; exact absurd ⟨i,u,e,o,es⟩ nE
    .by_cases ea:a=D
     .subst ea; exact .inr hD
     .rw[zD ea]at z; exact .inr z
   .have z:=s'.dm a h
    by_cases ea:a=D
    .subst ea; exact hD
    .rw[zD ea]at z; exact z
  have gb:=Sn.comp_back g1.rs s4 lc sh;exact q _ _ (g1.trans gb) ⟨⟨D,ws,rfl,hw,dy⟩,λ_=>⟨D,rfl,g1.dm _ hD⟩⟩
end
section
variable{d:Qg}
theorem Z9{Q:Qb Qc->Qd->Prop}(k:s.heap.IsValIter it d i es.size ep)(r:ix s.heap d es ep){x:DictEntry}(hx:es[i]?=some x)
  (q:∀ h':Heap,h'.IsValIter it d (i+1) es.size ep->Heap.SameBut it s.heap h'->Q (some x.val) {s with heap:=h'}):wpAny (model prog w) A (pyNext<|.ref it) Q E s:=by
 have kT:=k.typeIs;have(oi,ei,ci,fi):=id k;have(o,e,_,dat):=r;unfold pyNext;refine qc<|wpAny_attempt (wpAny_callSpecial?_slot (name:=Str.ofString "__next__") kT Ü
  (wpAny_call_entry Ü kT F.entry_dict_valueiterator_next ?_<|F.args_dict_valueiterator_next_1 _))
 refine qc<|qd<|qc<|qc ?_;refine qc<|wpAny_typeNameOfWhole_valiter kT<|qd<|qc<|wpAny_fieldsOf ei fi ?_;simp only[show Builtin.Dict_items.ownsTuple "dict_valueiterator"=false by decide,Bool.false_eq_true,if_false];show wpAny _ _ (if(Value.ref d==Value.none)=true then _ else _) _ _ s;rw[if_neg (show ¬((Value.ref d==Value.none)=true) from qh)];refine qc<|qd<|qc<|wpAny_dictEntries e dat ?_;rw[if_neg (by simp)];refine qc<|qd<|qc<|wpAny_dictEpoch e dat ?_;rw[if_neg (by simp)];refine qd ?_;simp only[show ¬((i:Int) < 0) from by omega,if_false,Int.toNat_natCast,hx];refine qc<|qc<|wpAny_typeNameOfWhole_valiter kT<|qd<|qc<|wpAny_isOneOf_valiter kT ?_;show wpAny _ _ (setField (.ref it) 1 (rawInt<|(i:Int)+1) >>= _) _ _ s;refine qc<|wpAny_setField ei fi (by simp) ?_;have k':(s.heap.update it<|Obj.mapFields (·.setIfInBounds 1 (rawInt<|(i:Int)+1))).IsValIter it d (i+1) es.size ep :=
  ⟨_,Ù _ ei<|û<|ć fi _,(Obj.cls_mapFields ..).trans ci,by rw[Obj.data_mapFields fi]; simp[rawInt]⟩
 refine qc<|wpAny_holding<|qc<|wpAny_isOneOf_valiter (s:={s with heap:=s.heap.update it (Obj.mapFields (·.setIfInBounds 1 (rawInt<|(i:Int)+1)))}) k'.typeIs ?_;refine qc<|wpAny_isOneOf_valiter (s:={s with heap:=s.heap.update it (Obj.mapFields (·.setIfInBounds 1 (rawInt<|(i:Int)+1)))}) k'.typeIs ?_;show wpAny _ _ (pure x.val) _ _ _;exact qd<|qd ⟨_,rfl,qd<|q _ k'<|Õ ..⟩
theorem Ys{Q:Qb Qc->Qd->Prop}(hh:A.handled=none)(k:s.heap.IsValIter it d i es.size ep)(r:ix s.heap d es ep)(hx:es.size<=i)
  (q:∀ h':Heap,Heap.ExtBut it s.heap h'->Q none {s with heap:=h'}):wpAny (model prog w) A (pyNext<|.ref it) Q E s:=by
 have kT:=k.typeIs;have(oi,ei,ci,fi):=id k;have(o,e,_,dat):=r;unfold pyNext;refine qc<|wpAny_attempt (wpAny_callSpecial?_slot (name:=Str.ofString "__next__") kT Ü
  (wpAny_call_entry Ü kT F.entry_dict_valueiterator_next ?_<|F.args_dict_valueiterator_next_1 _))
 refine qc<|qd<|qc<|qc ?_;refine qc<|wpAny_typeNameOfWhole_valiter kT<|qd<|qc<|wpAny_fieldsOf ei fi ?_;simp only[show Builtin.Dict_items.ownsTuple "dict_valueiterator"=false by decide,Bool.false_eq_true,if_false];show wpAny _ _ (if(Value.ref d==Value.none)=true then _ else _) _ _ s;rw[if_neg (show ¬((Value.ref d==Value.none)=true) from qh)];refine qc<|qd<|qc<|wpAny_dictEntries e dat ?_;rw[if_neg (by simp)];refine qc<|qd<|qc<|wpAny_dictEpoch e dat ?_;rw[if_neg (by simp)];refine qd ?_;simp only[show ¬((i:Int) < 0) from by omega,if_false,Int.toNat_natCast,Array.getElem?_eq_none hx];refine qc<|qc<|wpAny_typeNameOfWhole_valiter kT<|qd ?_;show wpAny _ _ (setField (.ref it) 0 .none >>= _) _ _ s;refine qc<|wpAny_setField ei fi (by simp) ?_;show wpAny _ _ (newExc (.type "StopIteration") [] >>= _) _ _ _;refine qc ?_;simp only[newExc,newTuple];refine qc<|qD ?_ (by show(0:Nat)<=sizeLine; exact Ç _);refine qc (m:=firstArgMember _ _)<|wpAny_of_eq (a:=Value.none) (by first|rfl | (simp only[firstArgMember]; rfl)) ?_;refine qD ?_ (by first|trivial|size_fits);simp only[raiseNew];refine qc<|wpAny_handled ?_;rw[show A.in1.handled=none from hh];refine qc<|qd<|wpAny_throw ?_;refine qc<|wpAny_isInstance (T := "StopIteration") (b:=true) ⟨_,qi _ rfl,rfl⟩ isSubtype_stop ?_;exact qd<|q _<|((Õ ..).extBut.push _).push _
theorem zoY(hd:(d==sysModules)=false)(r:ix s.heap d es ep)
  (q:Q (.ref s.heap.objs.size) {s with heap:=s.heap.push {cls:=.type "dict_values",data:=.fields #[.ref d]}}):wpAny (model prog w) A (call (.builtin "dict.values") [.ref d]) Q E s:=by
 have hT:=r.typeIs;have(o,e,_,dat):=r;refine wpAny_call_entry F.slot_dict_values hT F.entry_dict_values ?_<|F.args_dict_values_1 _;refine qc ?_;unfold Builtin.Dict.noArgs;refine qc<|wpAny_notOrdered_dict hT ?_;show wpAny _ _ (pure d) _ _ s;refine qd ?_;show wpAny _ _ (Builtin.Dict.showsAll d >>= _) _ _ s;unfold Builtin.Dict.showsAll;rw[if_neg (by rw[hd]; exact qh)];refine qc<|qd ?_;exact qc<|qD<|qd ⟨_,rfl,q⟩
theorem Z8{v:Qg}(hv:s.heap.IsValuesView v d)(r:ix s.heap d es ep)
  (q:∀ h':Heap,h'.IsValIter s.heap.objs.size d 0 es.size ep->(∀ b o,s.heap.get? b=some o->h'.get? b=some o)->Q (.ref s.heap.objs.size) {s with heap:=h'}):wpAny (model prog w) A (pyIter<|.ref v) Q E s:=by
 have(o,e,_,dat):=r;have(o2,e2,c2,d2):=id hv;have hT:=hv.typeIs (s:=s);refine wpAny_pyIter_slot hT F.slot_dict_values_iter<|wpAny_call_entry F.slot_dict_values_iter hT F.entry_dict_values_iter ?_<|F.args_dict_values_iter_1 _;unfold Builtin.«dict_values.__iter__»;refine qc<|qd ?_;unfold Builtin.Dict_items.dictOf;refine qc<|qc<|wpAny_field e2 d2 (x:=.ref d) rfl<|qd ?_;unfold Builtin.Dict_items.newIterator;refine qc<|qc<|wpAny_dictEntries e dat<|qc<|wpAny_dictEpoch e dat ?_;have Ju:Builtin.Dict_items.ownsTuple "dict_valueiterator"=false:=by decide
 simp only[Ju,Bool.false_eq_true,if_false];refine qD<|qd ⟨_,rfl, "dict_valueiterator",_,⟨_,qi _ rfl,rfl⟩,Ü.lookup,?_⟩;exact q _ ⟨_,qi _ rfl,rfl,by simp[rawInt]⟩ λb o z=>qf _ z
end
def TY(a:Qg)(o:Obj)(kvs:Qa (Qa Key×V)):It :=
 ⟨λi H=>H a=some (.aZ o<|.dT kvs)/\i < kvs.length,λi H x H'=>H'=H/\∀ k v,kvs[i]?=some (k,v)->x=v,λi H=>H a=some (.aZ o<|.dT kvs)/\kvs.length<=i⟩
theorem Z7(a it:Qg)(o:Obj)(kvs:Qa (Qa Key×V))(ep:Nat)(sN:∃ es,o.data=.dict es ep):Turn P w K tg (TY a o kvs) [it] it (λi h=>h.IsValIter it a i kvs.length ep) where
 mem:=by simp
 obj:=λi h st b hb=>by
  have e:b=it:=by simpa using hb
  subst e;have(oi,e,c,d):=st;exact⟨oi,e,λv z=>by rw[d]at z; cases z⟩
 keep:=λi h h' st k=>by
  have(oi,e,c,d):=st;exact⟨oi,k it (by simp) _ e,c,d⟩
 item:=by
  intro X hP hw hK hc i pins s σ H E I hf st hg;subst hP hw hK;have(e,hi):=hg;have(mq,es,eQ,ea,xd,dat,hsz,ent):=wy I e;have mH:eQ=ep:=by
   have(mF,z):=sN;rw[dat]at z;injection z
  subst mH;have(b,x,ex,kx,hb,rv):=ent i kvs[i].1 kvs[i].2 (qo hi);have(f0,f1,f2,f3,f4,f5):=hf it (by simp);refine Z9 (es:=es) (by rw[hsz]; exact st) ⟨o,ea,xd,dat⟩ ex λh' eF sb=>?_;have I1:Inv X pins σ H {s with heap:=h'}:=I.turned (t':=s.toks) (λb o hb e=>(sb.2 b hb).trans e) f0 f1 f3 f4 f5;have(oi,e',c',d'):=id eF;refine⟨x.val,rfl,xF (s:={s with heap:=h'}) e' c' d' (by decide) ⟨kvs[i].2,H,I1,rv,⟨rfl,λk v jF=>?_⟩,by rw[hsz]at eF; exact eF,λb hb=>(hf b hb).1⟩⟩;rw[qo hi]at jF;rw[qB jF]
 done:=by
  intro X hP hw hK hc i pins s σ H E I hf st hg;subst hP hw hK;have(e,hi):=hg;have(mq,es,eQ,ea,xd,dat,hsz,ent):=wy I e;have mH:eQ=ep:=by
   have(mF,z):=sN;rw[dat]at z;injection z
  subst mH;have(f0,f1,f2,f3,f4,f5):=hf it (by simp);exact Ys (es:=es) (I.ok.hd hc) (by rw[hsz]; exact st) ⟨o,ea,xd,dat⟩ (by omega) λh' eb=>⟨rfl,I.turned (t':=s.toks) (λb o hb e=>eb b o hb e) f0 f1 f3 f4 f5⟩
 self:=λ_ _ _ _ _ st h=>wpAny_pyIter_valiter st h
section
variable{X:Cx}
def KP(td:TE):TI:=λσ H R=>td σ H λx H1=>∃ a o kvs,x=.ref a/\H1 a=some (.aZ o<|.dT kvs)/\R (TY a o kvs) H1
theorem zBw{d:Expr}(hd:Wr (PE X d td))(cI:attributeBase d "values" X.env (eval d X.env)=eval d X.env:=by rfl)(cG:(apos.endLine==bj.line)=true:=by rfl):Wr (PI X tg (.Call (.Attribute d "values" apos) [] [] bj)<|KP td):=by
 refine⟨?_⟩;intro pins s σ H R I h;refine wpAny_Call_method0_late cI cG<|aH (hd.run pins s σ H _ I h) λv s1 hZ=>?_;have(x,H1,I1,r1,q1):=hZ;have(a,o,kvs,rfl,e,q):=q1;cases r1;have(mq,es,ep,ea,xd,dat,hsz,_):=wy I1 e;have yP:ix s1.heap a es ep:=⟨o,ea,xd,dat⟩;refine⟨"dict", "dict.values",F.plainAttrs_dict,F.slot_dict_values,F.type_dict_values,yP.typeIs,λb hb=>?_,ê rfl<|PySem.evalArgs_none<|zoY mq yP ?_⟩
 .cases hb
  exact⟨o,ea,xd.2.1⟩
 have I2:Inv X pins σ H1 {s1 with heap:=s1.heap.push {cls:=.type "dict_values",data:=.fields #[.ref a]}}:=I1.kept (t':=s1.toks) λb o z=>qf _ z;refine Z8 (v:=s1.heap.objs.size) (s:={s1 with heap:=s1.heap.push {cls:=.type "dict_values",data:=.fields #[.ref a]}}) ⟨_,qi _ rfl,rfl,rfl⟩ ⟨o,qf _ ea,xd,dat⟩ λh' hit nL=>?_;refine⟨_,_,_,_,H1,rfl,I2.kept (t':=s1.toks) nL,Z7 a _ o kvs ep ⟨es,dat⟩,by rw[<-hsz]; exact hit,λb hb=>?_,q⟩;rw[qu.mp hb];exact I2.dE (qg _)<|I2.aE.fresh<|qg _
end
def Bu:U->Qb (Qa D)
 | .d (.dict kvs)=>if iV kvs=true then some (kvs.map (·.2))else none
 | _=>none
theorem Wi{me:ME}(h:VE K te me):VI K (KP te) (de Bu me):=by
 intro ρ σ H ds av R r e q;obtain⟨⟨a,aw⟩,e1,e⟩:=bQ e;have(u,eu,e):=bQ e;have(xs,ex,e):=bQ e;cases e;refine h ρ σ H a _ _ r e1 λv H1 g1 k1=>?_;have p:=k1.now r g1 eu;unfold Bu at ex;split at ex
 .split at ex
  rotate_left
  .cases ex
  rename_i nx;cases ex;have(b,o,ws,rfl,h1,h2):=DF.cw p nx;refine⟨b,o,ws,rfl,h1,q _ _ g1 λH2 k i=>?_⟩;have jG:=k.aZ _ _ _ h1;refine⟨λd ed=>?_,λei=>?_⟩
  .rw[List.getElem?_map]at ed
   obtain⟨⟨kd,vd⟩,ew,rfl⟩:=qv.mp ed;have(ks,w,ff,rfl,dv):=GB h2 ew;refine⟨⟨jG,(qm.mp ff).1⟩,λx H' y=>?_⟩;have(rfl,y):=y;rw[y ks w ff];exact⟨λ_ _ z=>z,dv.kp k⟩
  .rw[List.length_map,<-GA h2]at ei
   exact⟨jG,Ć ei.symm⟩
 .cases ex
section
variable{X:Cx}{C dx:Qg}{fs:Qa (Str×V)}{f:Str}
theorem Inv.JO(I:Inv X pins σ H s)(e:H a=some (.ins C dx fs)):∃ o,Inv X pins σ (upd H a<|.aZ o<|.ins C dx fs) s:=by
 have ok:=(show bW X.prog X.w X.K H s.heap a (.ins C dx fs) from I.aE a _ e);have(d,z,ne,ob,_):=id ok;refine⟨PySem.W.instObj C dx,?_⟩;have yT:bW X.prog X.w X.K (upd H a<|.aZ (PySem.W.instObj C dx)<|.ins C dx fs) s.heap a (.ins C dx fs):=
  ok.eM (λ_ _ _ q=>q) (λb q=>by rw[zD<|oM q e (by intro z; cases z)]; exact q) λb ys q=>by rw[zD<|oM q e (by intro z; cases z)]; exact q
 exact I.write (t':=s.toks) (h':=s.heap) (by rw[e]; trivial) (.inl rfl) (λ_ _ _ q=>q) ⟨_,ob⟩ ⟨ob,yT⟩
theorem zns{b:Bool}{o:Obj}(I:Inv X pins σ H s)(e:H a=some (.aZ o<|.ins C dx fs))(c:n6 X.K C)(n:iC X.K C f)(l:fs.lookup f=some v)
  (h:∀ u s',Inv X pins σ H s'->aO v u->Q u s'):wpAny (model X.prog X.w) A (getAttr (.ref a) f b) Q E s:=by
 have(_,d,z,ne,ob,mA,nn,r,q):=(show bW X.prog X.w X.K H s.heap a (.aZ o<|.ins C dx fs) from I.aE a _ e);have(u,hu,ru):=iK.some_of (v:=v) (o:=mA f) (by rw[<-l]; exact r f);exact WL I.cc (⟨ob,nn,ne⟩:jd s.heap a dx C mA) (c.get f) c.hd n hu (ZY ru)<|h u _ (I.tok _) ru
end
def KO(K:qe)(f:Str):V->Hp->VK->Prop:=λx H Q=>∃ a C dx o fs v,x=.ref a/\H a=some (.aZ o<|.ins C dx fs)/\n6 K C/\iC K C f/\fs.lookup f=some v/\Q v H
section
variable{X:Cx}{value:Expr}{f:Str}
theorem iD(K:qe)(hK:X.K=K)(he:Wr (PE X e ta))(hb:attributeBase e f X.env (eval e X.env)=eval e X.env):Wr (PE X (.Attribute e f pos)<|DK (KO K f) ta):=by
 subst hK;refine⟨?_⟩;intro pins s σ H Q I h;refine WJ hb<|aH (he.run pins s σ H _ I h) λu s1 hZ=>?_;have(x,H1,I1,rx,a,C,dx,oo,fs,v,ex,ea,c,n,l,q):=hZ;subst ex;obtain rfl:u=Value.ref a:=rx;exact zns I1 ea c n l λu' s2 I2 ru=>⟨v,H1,I2,ru,q⟩
end
def DM(K:qe)(C:Qg)(fl:Qa Str):Sp:=λvs H Q _=>∃ a dx us,vs=.ref a::us/\us.length=fl.length/\H a=some (.ins C dx [])/\Q .aP (upd H a<|.ins C dx<|fl.zip us)
theorem Wh{C:Qg}{Q:VK}{E:XK}(h:DM K C fl vs H Q E):vs.length=fl.length+1:=by
 have(a,dx,us,rfl,l,_):=h;rw[qx,l]
theorem ln3{us:Qa α}(l:us.length=3):∃ u v w,us=[u,v,w]:=by
 rcases us with _|⟨u,_|⟨v,_|⟨w,_|⟨x,us⟩⟩⟩⟩<;>simp at l;exact⟨u,v,w,rfl⟩
theorem Yr{C:Qg}{f g h:Str}{Q:VK}{E:XK}(c:n6 K C)(n1:iC K C f)(n2:iC K C g)(n3:iC K C h)(d1:¬f=g)(d2:¬f=h)(d3:¬g=h)(q:DM K C [f,g,h] vs H Q E):
  xv (A8 K (iA 0) (iA 1) f) (xv (A8 K (iA 0) (iA 2) g)<|A8 K (iA 0) (iA 3) h) {nx:=λ_ H'=>Q .aP H',rt:=Q} (gQ N vs) H:=by
 have(a,dx,us,rfl,l,e,q):=q;have(u,v,w,rfl):=ln3 l;refine⟨u,rfl,.ref a,rfl,a,C,dx,[],rfl,e,c,n1,by decide,?_⟩;refine⟨v,rfl,.ref a,rfl,a,C,dx,_,rfl,zy,c,n2,?_,?_⟩
 .show(fA f u []).length < 1000
  simp[fA]
 refine⟨w,rfl,.ref a,rfl,a,C,dx,_,rfl,zy,c,n3,?_,?_⟩
 .simp only[fA]
  split<;>simp
 .show Q .aP _
  rw[Cc,Cc];have e3:fA h w (fA g v<|fA f u [])=[f,g,h].zip [u,v,w]:=by
   simp[fA,d1,d2,d3,List.zip]
  rw[e3];exact q
def Ry(K:qe)(C:Qg)(fl:Qa Str)(t:TA):TE:=λσ H Q=>KY C (DM K C fl) [] E0 t σ H λv H2=>∃ a dx fs,v=.ref a/\H2 a=some (.ins C dx fs)/\∀ o,Q v<|upd H2 a<|.aZ o<|.ins C dx fs
structure vp (P:Qe) (w:Qh) (K:qe) (mg:Str->Qb Qc) (base:Heap) (n:Str) (C:Qg) (fl:Qa Str):Prop where
 xn:XN K n C
 cl:n6 K C
 na:∀ f∈fl,iC K C f
 gm:mg n=some (.ref C)
 fn:∃ (f:Qg) (fd:FuncData) (ps:Qa Str),Mk K C f/\m5 K fd ps []/\cL P w K mg base jg 1 f fd ps (DM K C fl)
section
variable{X:Cx}{C:Qg}{k:Nat}{p:Pos}{es:Qa Expr}{t:TA}
theorem EW(O:vp X.prog X.w X.K X.mg X.base x C fl)(ha:Wr (PA X (e::es) t))(hr:aM 2 X.A:=by exact aM.mono ‹aM _ _› (by decide))(hg:Gl X x:=by exact rfl)(dG:(x==("__debug__":Str))=false:=by decide)
  (he:dY e=true:=by rfl) (eG:es.all dY=true:=by rfl):Wr (PE X (.Call (.Name x p) (e::es) [] pos)<|Ry X.K C fl t):=by
 have(f,fd,ps,M,hb,F):=O.fn;refine⟨λpins s σ H Q I h=>?_⟩;refine aH (WG (p:=p) (pos:=pos) (dvs:=[]) (E:=E0) M F hr hg O.gm hb .nil KU ha.run dG (ju he) (rQ eG) pins s σ H _ I h) λu s1 hZ=>?_;have(v,H2,I2,r,a,dx,fs,ev,e,q):=hZ;have(o,I3):=I2.JO e;exact⟨v,_,I3,r,q o⟩
end
section
variable{n:Str}{C:Qg}{f:Str}
def wR:Qa Str->Qa D->Qa (D×D)
 | f::fl,d::ds=>(.str f,d)::wR fl ds
 | _,_=>[]
theorem Lr:∀ {fl:Qa Str} {vs:Qa V} {ds:Qa D},aR K H vs ds->ir K H (fl.zip vs) (wR fl ds)
 | [],_,_,_=>.nil
 | _::_,_,_,.nil=>.nil
 | _::_,_,_,.cons h t=>.cons h<|Lr t
def tH(n:Str)(fl:Qa Str)(ds:Qa D):D:=.dict ((.bool true,.str n)::wR fl ds)
def vE(n:Str)(fl:Qa Str)(ma:MA):ME:=λρ=>(ma ρ).bind λp=>(bC p.2 p.1).bind λus=>(iP us).bind λds=>if ds.length=fl.length then some (.u<|.d<|tH n fl ds,p.2)else none
theorem EV{t:TA}{m:MA}(xn:XN K n C)(h:jc K t m):VE K (Ry K C fl t) (vE n fl m):=by
 intro ρ σ H a av Q rs e q;obtain⟨⟨as,aw⟩,e1,e⟩:=bQ e;have(us,eu,e):=bQ e;have(ds,ed,e):=bQ e;split at e
 rotate_left
 .cases e
 rename_i hl;cases e;refine h ρ σ H as aw _ rs e1 λvs H1 g1 s1=>?_;have df:=FI (s1.lY rs g1 eu) ed;intro x dx hx hdx ne;refine⟨x,dx,vs,by rw[List.append_nil],by rw[df.len,hl],zy,rfl,x,dx,_,rfl,zy,λo=>?_⟩;rw[Cc,Cc];have sm:cN H1 (upd (upd H1 dx<|.own x) x<|.aZ o<|.ins C dx<|fl.zip vs):=λb u hb=>by
  rw[zD<|gR hb hx,zD<|gR hb hdx];exact hb
 exact q _ _ (g1.trans<|Go.grow g1.rs sm) ⟨DF.obj zy xn<|Lr<|df.kp sm.kp,Nw.data⟩
theorem DF.pP{ds:Qa (D×D)}(h:DF K H v (.dict<|(.bool true,.str n)::ds)):∃ a C dx o fs,v=.ref a/\H a=some (.aZ o<|.ins C dx fs)/\XN K n C/\ir K H fs ds:=by
 generalize eq:(PyData.dict<|(.bool true,.str n)::ds)=z at h;cases h with
 | gk h t=>
  cases eq;generalize eq2:((PyData.bool true,PyData.str n)::ds)=y at t;cases t with
  | nil=>cases eq2
  | cons=>cases eq2
 | exc h e t=>cases eq
 | obj h e t=>cases eq; exact⟨_,_,_,_,_,rfl,h,e,t⟩
 | _=>cases eq
def eU(n f:Str):U->Qb U
 | .d (.dict<|(.bool true,.str m)::ds)=>if m=n then(tL f ds).map .d else none
 | _=>none
theorem iE(xn:XN K n C)(c:n6 K C)(na:iC K C f):VU K (KO K f) (eU n f):=by
 intro x a u H Q h e q;unfold eU at e;split at e
 .rename_i m ds
  split at e
  .rename_i hn
   subst hn;have(d,ed,rfl):=qv.mp e;have(a,C',dx,o,fs,rfl,ha,xn',t):=DF.pP h;have(v,ev,hv):=t.get ed;have:C'=C:=by
    have z:=(show PySem.W.nsIn K mainGlobals m=some (some<|.ref C') from xn').symm.trans (show PySem.W.nsIn K mainGlobals m=some (some<|.ref C) from xn);injection z with z;injection z with z;injection z
   subst this;exact⟨a,C',dx,o,fs,v,rfl,ha,c,na,ev,q v H (cN.refl H) hv Nw.data⟩
  .cases e
 .cases e
end
section
variable{X:Cx}
theorem Ni:∀ (ns:Qa Int),aR K H (ns.map V.int)<|ns.map PyData.int
 | []=>.nil
 | n::ns=>.cons (.int n)<|Ni ns
theorem F9{g:Qg}(gt:nZ K g ns)(hn:ns≠[]:=by decide):VE K (tC<|.ref g) (mC<|.tuple<|ns.map PyData.int):=by
 intro ρ σ H a av Q rs e q;cases e;have(o,i,n,z1,z2,z3,z4,z5):=gt;refine q _ _ (Go.refl rs) ⟨DF.tup (.inr ⟨o,i,n,z1,z2,z3,z4,z5,?_⟩)<|Ni ns,Nw.data⟩;cases ns with
 | nil=>exact absurd rfl hn
 | cons a r=>exact⟨a,_,rfl⟩
def oN(i:Int):Int:=(Builtin.Int.intBits i:Nat)
def KN:V->Qa V->Hp->VK->Prop:=λx xs H Q=>∃ i,x=.int i/\xs=[]/\Q (.int<|oN i) H
theorem LW:xm X "int.bit_length" KN:=by
 intro pins s σ H x xs v us Q I rx rv h;have(i,rfl,rfl,q):=h;have(t,rfl):=rx;cases rv;exact call_int_bit_length ⟨.int<|oN i,H,I.tok _,⟨_,rfl⟩,q⟩
def xB:U->Qb U
 | .d (.int i)=>some<|.d<|.int<|oN i
 | _=>none
theorem Lq{to:TE}{mo:ME}(h:VE K to mo):VE K (Ia K "int" KN to) (b9 xB mo):=by
 intro ρ σ H a av Q rs e q;obtain⟨⟨a1,aw⟩,e1,e⟩:=bQ e;have(x,ex,e):=bQ e;have(u,eu,e):=bQ e;cases e;refine h ρ σ H a1 _ _ rs e1 λv1 H1 g1 k1=>?_;have p:=k1.now rs g1 ex;unfold xB at eu;split at eu
 .rename_i z
  cases eu;cases DF.int_inv p;exact⟨rfl,z,rfl,rfl,q _ _ g1 ⟨DF.int _,Nw.data⟩⟩
 .cases eu
theorem zo1{d:Qg}{Q:Bool->Qd->Prop}(hd:(d==sysModules)=false)(r:ix s.heap d es ep)(As:(es.size:Int) < 2^63)
  (h:Q (es.size != 0) {s with toks:=s.toks+1+1}):wpAny (model prog w) A (truthy<|.ref d) Q E s:=by
 have hT:=r.typeIs;have(o,e,_,dat):=r;have pY:((es.size:Int) != 0)=(es.size != 0):=by
  cases z:es.size with
  | zero=>rfl
  | succ n=>
   rw[bne_iff_ne.mpr (by omega),bne_iff_ne.mpr (by omega)]
 have key:wpAny (model prog w) A (runValue<|.builtin "len" ⟨[.ref d],[]⟩) (λr s'=>r=.int es.size (s.toks+1)/\Q (es.size != 0) s') E s:=by
  refine wpAny_runValue<|codeAny_builtin entry_len ?_;rw[Around.under_plainId plain_len _];unfold Builtin.«len»;refine qc (m:=oneArg "len" _)<|qd ?_;refine qc (m:=callSpecial? (.ref d) (Str.ofString "__len__")) (wpAny_callSpecial?_slot (name:=Str.ofString "__len__") hT F.slot_dict_len
   (wpAny_call_entry F.slot_dict_len hT F.entry_dict_len ?_<|F.args_dict_len_1 _))
  show wpAny _ _ (dictSize d >>= _) _ _ s;unfold dictSize;refine qc<|qc<|wpAny_dictEntries e dat<|qd ?_;show wpAny _ _ (Builtin.Dict.pendingCount d >>= _) _ _ s;refine qc<|wpAny_pendingCount_other hd ?_;refine wpAny_ret_mkInt ?_;show wpAny _ _ _ _ _ {s with toks:=s.toks+1};refine qc<|wpAny_holding<|qd ?_;refine qc<|wpAny_letGo ?_;show wpAny _ _ (if((es.size+0:Nat):Int) < 0 then _ else _) _ _ _;rw[if_neg (by omega)];show wpAny _ _ (if((es.size+0:Nat):Int)>=2^63 then _ else _) _ _ _;rw[if_neg (by rw[Nat.add_zero]; omega)];exact qc<|wpAny_mkInt<|qd ⟨rfl,h⟩
 unfold truthy
 first
  | refine qc<|wpAny_callSpecial?_none (name:=Str.ofString "__bool__") hT noBool_dict ?_
  | refine qc (qd<|qc<|wpAny_callSpecial?_none (name:=Str.ofString "__bool__") hT noBool_dict ?_)
 first
  | refine qc<|wpAny_specialOf (name:=Str.ofString "__len__") hT F.slot_dict_len.lookup ?_
  | refine qc (qd<|qc<|wpAny_specialOf (name:=Str.ofString "__len__") hT F.slot_dict_len.lookup ?_)
 first
  | exact qc<|wpAny_mono key (λr s' h'=>by have(rfl,hq):=h'; exact qd<|pY▸hq) λ_ _ e=>e
  | exact qc<|qd<|qc<|wpAny_mono key (λr s' h'=>by have(rfl,hq):=h'; exact qd<|pY▸hq) λ_ _ e=>e
def KL(ta:TE):TT:=λσ H Q=>ta σ H λx H1=>∃ p kvs,x=.ref p/\H1 p=some (.dT kvs)/\Q (!kvs.isEmpty) H1
theorem zBx{a:Expr}(ha:Wr (PE X a ta))(he:∀ whole,isTrue a X.env whole=(do let v <-whole; standAt a.pos; holding [v] (truthy v)):=by intro _; rfl):Wr (PT X a<|KL ta):=by
 refine⟨?_⟩;intro pins s σ H Q I h;refine isTrue_plain (aH (ha.run pins s σ H _ I h) λv s1 hZ=>?_)<|he _;have(x,H1,I1,r1,p,kvs,ex,ep,q1):=hZ;subst ex;cases r1;have(z,y,xs,r,o,es,eq,h1,h2,h3,h4,h5):=(show bW X.prog X.w X.K H1 s1.heap p (.dT kvs) from I1.aE p _ ep);have hl:es.size=kvs.length:=by
  have:=congrArg List.length h4;rw[Array.length_toList,List.length_map,<-yy r]at this;exact this
 have hs:sizeLine=16777216:=sizeLine_eq;refine zo1 y ⟨o,h1,h2,h3⟩ (by omega) ⟨H1,I1.tok _,?_⟩;have e2:(es.size != 0)=!kvs.isEmpty:=by
  rw[hl];cases kvs<;>rfl
 rw[e2];exact q1
def xA(ma:ME):MT:=λρ=>(ma ρ).bind λp=>(p.1.get p.2).bind λu=>match u with
 | .t kvs=>some (!kvs.isEmpty,p.2)
 | _=>none
theorem Wg{ma:ME}(ha:VE K ta ma):VT K (KL ta) (xA ma):=by
 intro ρ σ H b av Q r e q;obtain⟨⟨a,aw⟩,e1,e⟩:=bQ e;have(u,eu,e):=bQ e;refine ha ρ σ H a _ _ r e1 λv H1 g1 k1=>?_;have p:=k1.now r g1 eu;cases u with
 | t kvs=>
  cases e;have(a,ws,rfl,h1,h2):=p;refine⟨a,ws,rfl,h1,?_⟩;have e2:(!ws.isEmpty)=!kvs.isEmpty:=by cases h2<;>rfl
  rw[e2];exact q _ g1
 | _=>cases e
end
theorem na3{C:Qg}{f g h:Str}(a:iC K C f)(b:iC K C g)(c:iC K C h):∀ x∈[f,g,h],iC K C x:=λx hx=>by
 rcases qy.mp hx with rfl|hx
 .exact a
 rcases qy.mp hx with rfl|hx
 .exact b
 rcases qy.mp hx with rfl|hx
 .exact c
 cases hx
section
variable{c:β->D}{mI:MI}{mg:MG}{mt:MT}{mk mv me ma:ME}{mA:MA}{ρ:En}{QE:Ar×En->Prop}{QT:Bool×En->Prop}
theorem Yq:Wo (wV mI nt js mg mt mk mv ρ) QE=Wo (mI ρ) (Co (λp=>(nW nt mg mt mk mv p.1 (eR nt js p.2) []).bind λq=>some (.u<|.t q.1,back js (q.2.drop nt) p.2)) ⟨0⟩ QE):=by
 unfold wV;rw[zt]
def HK(nt:Nat)(mk mv:ME)(ys:Qa (Qa Key×D))(P:En->Qa (Qa Key×D)->Prop)(p:Bool×En):Prop :=
 if p.1=true then Wo (mk p.2) (Co (λp=>(mv p.2).bind λq=>(p.1.get q.2).bind λuk=>(q.1.get q.2).bind λuv=>uk.da.bind λdk=>uv.da.bind λdv=>(dh dk).bind λk=>some (reset nt q.2,gO ys k dv)) ⟨0⟩ λz=>P z.1 z.2)else P (reset nt p.2) ys
theorem Yp{ys:Qa (Qa Key×D)}{P:En->Qa (Qa Key×D)->Prop}:HK nt mk mv ys P (true,ρ)=Wo (mk ρ) (Co (λp=>(mv p.2).bind λq=>(p.1.get q.2).bind λuk=>(q.1.get q.2).bind λuv=>uk.da.bind λdk=>uv.da.bind λdv=>(dh dk).bind λk=>some (reset nt q.2,gO ys k dv)) ⟨0⟩ λz=>P z.1 z.2):=rfl
theorem Yo{ys:Qa (Qa Key×D)}{P:En->Qa (Qa Key×D)->Prop}:HK nt mk mv ys P (false,ρ)=P (reset nt ρ) ys:=rfl
def Eg(l:Pq β):Pq β:=l.foldl (λys t=>cu ys t.1 t.2) []
theorem Wf{l:Pq β}:∀ {acc:Pq β},aT (acc++l)->l.foldl (λys t=>cu ys t.1 t.2) acc=acc++l:=by
 induction l with
 | nil=>intro acc _; simp
 | cons t l ih=>
  intro acc h;have e:cu acc t.1 t.2=acc++[t]:=by
   unfold cu;rw[if_neg];intro z;have(u,hu,e):=ā.mp z;have e:=of_decide_eq_true e;have:(acc++t::l).map (·.1)=acc.map (·.1)++t.1::l.map (·.1):=by simp
   rw[aT,this,List.nodup_append]at h;exact h.2.2 u.1 (Ä.mpr ⟨u,hu,rfl⟩) t.1 (by simp) e
  rw[List.foldl_cons,e,ih (by rw[List.append_assoc]; exact h)];simp
theorem F8{l:Pq β}(h:aT l):Eg l=l:=Wf (acc:=[]) h
theorem BY{g:α->D}{b:α->Bool}{k:α->Qa Int}{v:α->β}{Q:Qa (Qa Key×D)×En->Prop}(hz:as.length<=16777216)
  (st:∀ a∈as,∀ ys:Pq β,Wo (mg (g a) ρ)<|Co mt ⟨0⟩<|HK nt mk mv (aN c ys) λav zs=>av=ρ/\zs=aN c (if b a=true then cu ys (k a) (v a)else ys))
  (q:Q (aN c<|Eg<|(as.filter b).map λa=>(k a,v a),ρ)):Wo (nW nt mg mt mk mv (as.map g) ρ []) Q:=by
 have main:∀ (es:Qa α) (acc:Pq β),(∀ a∈es,a∈as)->acc.length+es.length<=16777216->Q (aN c<|((es.filter b).map λa=>(k a,v a)).foldl (λys t=>cu ys t.1 t.2) acc,ρ)->Wo (nW nt mg mt mk mv (es.map g) ρ<|aN c acc) Q:=by
  intro es
  induction es with
  | nil=>intro acc _ _ q; exact⟨_,rfl,q⟩
  | cons a es ih=>
   intro acc hm hl q;rw[qx]at hl;obtain⟨aw,e1,⟨bb,aB⟩,e2,kk⟩:=st a (hm a qr) acc;rw[List.map_cons];unfold nW;rw[if_pos (by rw[Ll]; show _ < 16777216; omega),zt];refine⟨aw,e1,?_⟩;rw[iM,zt];refine⟨_,e2,?_⟩;rw[iM];rw[List.filter_cons]at q;have pl:=L1 acc (k a) (v a);cases bb with
   | false=>
    have(e3,e4):=kk;rw[if_neg qh,e3,e4]
    by_cases hb:b a=true
    .rw[if_pos hb]
     rw[if_pos hb]at q;exact ih _ (λx hx=>hm x<|qq _ hx) (by omega) q
    .rw[if_neg hb]
     rw[if_neg hb]at q;exact ih _ (λx hx=>hm x<|qq _ hx) (by omega) q
   | true=>
    rw[if_pos rfl,zt];have(p,e3,kk):=kk;refine⟨p,e3,?_⟩;rw[iM];have(z,e4,e5,e6):=kk;have(q1,f1,e4):=bQ e4;have(uk,f2,e4):=bQ e4;have(uv,f3,e4):=bQ e4;have(dk,f4,e4):=bQ e4;have(dv,f5,e4):=bQ e4;have(kk,f6,e4):=bQ e4;cases e4;rw[f1,bd,f2,bd,f3,bd,f4,bd,f5,bd,f6,bd];dsimp only at e5 e6;rw[e5,e6]
    by_cases hb:b a=true
    .rw[if_pos hb]
     rw[if_pos hb]at q;exact ih _ (λx hx=>hm x<|qq _ hx) (by omega) q
    .rw[if_neg hb]
     rw[if_neg hb]at q;exact ih _ (λx hx=>hm x<|qq _ hx) (by omega) q
 exact main as [] (λ_ h=>h) (by simpa using hz) q
theorem Yn{n:Str}:Wo (vE n fl mA ρ) QE=Wo (mA ρ) (Co (λp=>(bC p.2 p.1).bind λus=>(iP us).bind λds=>if ds.length=fl.length then some (.u<|.d<|tH n fl ds,p.2)else none) ⟨0⟩ QE):=by
 unfold vE;rw[zt]
def jH(p:Pq Int)(b r:Int):D:=tH "Form" ["numbers", "beneath", "room"] [.dict<|cp .int p,.int b,.int r]
theorem Ym{p:Pq Int}{r:Int}:tH "Form" ["numbers", "beneath", "room"] [.dict<|cp .int p,.int b,.int r]=jH p b r:=id rfl
theorem Yl{p:Pq Int}{r:Int}:eU "Form" "numbers" (.d<|jH p b r)=some (.d<|.dict<|cp .int p):=by
 unfold jH tH;simp[eU,wR,tL]
theorem Yk{p:Pq Int}{r:Int}:eU "Form" "beneath" (.d<|jH p b r)=some (.d<|.int b):=by
 unfold jH tH;simp only[eU,wR,tL,if_true];rw[if_neg (by decide)];rfl
theorem Yj{p:Pq Int}{r:Int}:eU "Form" "room" (.d<|jH p b r)=some (.d<|.int r):=by
 unfold jH tH;simp only[eU,wR,tL,if_true];rw[if_neg (by decide),if_neg (by decide)];rfl
def EU:U->Qb Bool
 | .t kvs=>some (!kvs.isEmpty)
 | _=>none
theorem zqA:Wo (xA ma ρ) QT=Wo (ma ρ) (Co (λp=>(p.1.get p.2).bind λu=>(EU u).bind λb=>some (b,p.2)) ⟨0⟩ QT):=by
 have e:xA ma ρ=(ma ρ).bind λp=>(p.1.get p.2).bind λu=>(EU u).bind λb=>some (b,p.2):=by
  unfold xA;congr 1
  funext p
  congr 1
  funext u
  cases u<;>rfl
 rw[e,zt]
theorem zqB{p:Pq β}:EU (.t<|aN c p)=some (!p.isEmpty):=by
 show some (!(aN c p).isEmpty)=_;unfold aN;rw[List.isEmpty_map]
theorem znw{p:Pq β}:Bu (.d<|.dict<|cp c p)=some (p.map λt=>c t.2):=by
 show(if iV (cp c p)=true then _ else _)=_;rw[if_pos<|xQ p];unfold cp;rw[List.map_map];rfl
theorem zqC{i:Int}:xB (.d<|.int i)=some (.d<|.int<|oN i):=id rfl
end
section
variable{X:Cx}{i v f:Expr}{tx:TE}{k:Nat}(K:qe)(hK:X.K=K)
include hK
end
theorem GK:isSubtype (.type "AttributeError") (.type "AttributeError")=pure true:=by rw[isSubtype_type]; kernel_rfl
section
theorem Z6{e:Qg}{x o nm:Qc}{gk:Qb Qg}{Q:Unit->Qd->Prop}(he:s.heap.get? e=some ⟨.type "AttributeError",gk,.fields<|#[x,.none,.none,.none,.bool false,.none]++#[unsetMember,unsetMember],sl⟩)
  (hq:Q () {s with heap:=s.heap.update e (Obj.mapFields λvs=>vs.extract 0 6++#[nm,o])}):wpAny (model prog w) A (noteAttr (.ref e) o nm) Q E s:=by
 have hT:s.TypeIs (.ref e) "AttributeError":=⟨_,he,rfl⟩;unfold noteAttr;refine qc ?_;unfold lacksNameAndObj;refine qc<|wpAny_isInstance hT GK ?_;simp only[Bool.not_true,Bool.false_eq_true,if_false];refine qc<|wpAny_load he ?_;refine qd ?_;show wpAny _ _ (rule _ >>= _) _ _ _;refine qc<|wpAny_rule<|qc<|wpAny_typeOf hT ?_;show wpAny _ _ (layMembers e 6 #[nm,o]) _ _ _;unfold layMembers;refine qc<|wpAny_load he ?_;exact wpAny_update he hq
end
def A6(h h':Heap)(e:Qg):Prop:=(∀ b o,h.get? b=some o->h'.get? b=some o)/\∃ ob,h'.get? e=some ob/\ob.cls=.type "AttributeError"
section
theorem zo3{o:Qc}{nm msg:Str}{Q:α->Qd->Prop}(hh:A.handled=none)(hm:msg.length<=sizeLine)(hq:∀ h' tk e,A6 s.heap h' e->E (.ref e) {s with heap:=h',toks:=tk}):
  wpAny (model prog w) A (raiseAttrError o nm msg:Sem α) Q E s:=by
 unfold raiseAttrError;refine qc<|wpAny_mkStr (qc ?_) hm;unfold newExc newTuple;refine qc<|qD ?_;refine qc (m:=firstArgMember _ _)<|wpAny_of_eq (a:=Value.none) (by kernel_rfl) ?_;refine qD ?_;refine qc<|wpAny_mkText ?_;refine qc<|Z6 (qi _ rfl) ?_;unfold raiseNew;refine qc<|wpAny_handled ?_;rw[hh]
 first
  | refine wpAny_throw ?_
  | refine qc<|qd<|wpAny_throw ?_
 refine hq _ _ _ ⟨λb o hb=>?_,_,Ù _ (qi _ rfl) rfl,Obj.cls_mapFields _ _⟩;rw[Heap.get?_update_other _ _<|Nat.ne_of_gt<|qk (qj hb) (by simp)];exact qf _<|qf _ hb
end
section
variable{g:Array GenState}{d:Drawn}{t:Nat}{os:OsState}{items:Array Qc}
end
theorem QQ:entryFor table "dict.update.loop"=some Builtin.«dict.update.loop»:=entryFor_of_tree (by kernel_rfl)
theorem DC:plainId "dict.update.loop"=true:=by decide +kernel
def iQ(acc:Qa (Qa Key×V))(kvs:Qa (Qa Key×V)):Qa (Qa Key×V):=kvs.foldl (λa p=>eJ a p.1 p.2) acc
inductive dn (K:qe) (H:Hp):Qa V->Qa (Qa Key×V)->Prop where
 | nil:dn K H [] []
 | cons {q k:Qg} {ks:Qa Key} {v:V} {xs:Qa V} {kvs:Qa (Qa Key×V)} (hq:br K H q [.ref k,v]) (hk:aX K H k (ks.map kV)) (t:dn K H xs kvs):dn K H (.ref q::xs) ((ks,v)::kvs)
theorem dn.at(h:dn K H xs kvs):∀ {i:Nat},i < xs.length->∃ q k ks v,xs[i]?=some (.ref q)/\kvs[i]?=some (ks,v)/\br K H q [.ref k,v]/\aX K H k (ks.map kV):=by
 induction h with
 | nil=>intro i hi; cases hi
 | @cons q k ks v xs kvs hq hk t ih=>
  intro i hi;cases i with
  | zero=>exact⟨q,k,ks,v,rfl,rfl,hq,hk⟩
  | succ i=>exact ih (by simpa using hi)
theorem dn.len(h:dn K H xs kvs):kvs.length=xs.length:=by
 induction h with
 | nil=>rfl
 | cons _ _ _ ih=>simp[ih]
theorem zo4(kvs:Qa (Qa Key×V)):∀ acc:Qa (Qa Key×V),(iQ acc kvs).length<=acc.length+kvs.length:=by
 induction kvs with
 | nil=>intro acc; exact qg _
 | cons p r ih=>
  intro acc;have:=ih (eJ acc p.1 p.2);have h2:=CY acc p.1 p.2;show(iQ (eJ acc p.1 p.2) r).length<=_;rw[qx];omega
theorem We{D:Qg}{o:HO}(hD:H D=none)(h:br K H a xs):br K (upd H D o) a xs:=by
 rcases h with (h|⟨ob,h⟩) | h
 .exact .inl (.inl (by rw[zD<|gR h hD]; exact h))
 .exact .inl (.inr ⟨ob,by rw[zD<|gR h hD]; exact h⟩)
 .exact .inr h
theorem zD3{k:Qg}{qs:Qa Qc}(h:zW [.ref k,v] qs):∃ u2,qs=[.ref k,u2]/\aO v u2:=by
 cases h with
 | cons r1 t=>
  cases t with
  | cons r2 t=>
   cases t;cases r1;exact⟨_,rfl,r2⟩
section
variable{X:Cx}{D:Qg}
end
section
variable{X:Cx}
end
def oA:D->Qb (Qa Key×D)
 | .tuple [k,v]=>(dh k).bind λk=>some (k,v)
 | _=>none
def ET(kvs:Qa (Qa Key×D)):Qa (Qa Key×D):=kvs.foldl (λa p=>gO a p.1 p.2) []
section
theorem Wd{d:D}{k:Qa Key}{x:D}(h:DF K H v d)(e:oA d=some (k,x)):∃ q b y,v=.ref q/\br K H q [.ref b,y]/\aX K H b (k.map kV)/\DF K H y x:=by
 unfold oA at e;split at e
 .rename_i dk dx
  have(k',ek,e):=bQ e;cases e;have(q,vs,rfl,tp,ts):=DF.aI h;cases ts with
  | cons h1 ts=>
   cases ts with
   | cons h2 ts=>
    cases ts;have(b,rfl,tb):=uf h1 ek;exact⟨q,b,_,rfl,tp.sq,tb,h2⟩
 .cases e
theorem Lp:∀ {vs:Qa V} {ds:Qa D} {kvs:Qa (Qa Key×D)},aR K H vs ds->ds.mapM oA=some kvs->∃ ws,dn K H vs ws/\dH K H ws kvs
 | _,_,kvs,.nil,e=>by
  cases(show some []=some kvs from e);exact⟨[],.nil,.nil⟩
 | _,_,kvs,.cons (d:=d) (ds:=ds) h t,e=>by
  rw[List.mapM_cons]at e;have(p,ep,e):=bQ (show(oA d).bind _=some kvs from e);have(r,er,e):=bQ (show(ds.mapM oA).bind _=some kvs from e);cases(show some (p::r)=some kvs from e);have(q,b,y,rfl,h1,h2,h3):=Wd (k:=p.1) (x:=p.2) h ep;have(ws,h4,h5):=Lp t er;exact⟨(p.1,y)::ws,.cons h1 h2 h4,.cons ⟨rfl,h3⟩ h5⟩
theorem Wc{ws:Qa (Qa Key×V)}{kvs:Qa (Qa Key×D)}(h:dH K H ws kvs):∀ {a:Qa (Qa Key×V)} {b:Qa (Qa Key×D)},dH K H a b->dH K H (iQ a ws) (kvs.foldl (λa p=>gO a p.1 p.2) b):=by
 induction h with
 | nil=>intro a b q; exact q
 | @cons p q ws kvs hq t ih=>
  intro a b z;show dH K H (iQ (eJ a p.1 p.2) ws) (kvs.foldl _<|gO b q.1 q.2);rw[hq.1];exact ih<|z.put q.1 hq.2
end
end L2
namespace L2
open PySem PySem.Calls PySem.Spec PyProof.Rows
abbrev kG:=Qa (Qa Key×Qa Key)
def rT(g:kG)(k:Qa Key):Qb (Qa Key):=(g.find? λq=>decide<|q.1=k).map (·.2)
def jI(f g:kG):Bool:=(f.length==g.length) && f.all λp=>decide<|rT g p.1=some p.2
theorem ES{F:α->β->Prop}{l:Qa α}{m:Qa β}(h:Paired F l m):∀ {i:Nat} {x:α},l[i]?=some x->∃ y,m[i]?=some y/\F x y:=by
 induction h with
 | nil=>intro i x e; cases e
 | cons hq t ih=>
  intro i x e;cases i with
  | zero=>cases(show some _=some x from e); exact⟨_,rfl,hq⟩
  | succ i=>exact ih e
theorem BP{F:α->β->Prop}{l:Qa α}{m:Qa β}(h:Paired F l m):l.length=m.length:=by
 induction h with
 | nil=>rfl
 | cons _ _ ih=>simp[ih]
theorem Nh{g:kG}(hn:(g.map (·.1)).Nodup){k v:Qa Key}(e:g[j]?=some (k,v)):rT g k=some v:=by
 induction g generalizing j with
 | nil=>cases e
 | cons q r ih=>
  rw[List.map_cons,List.nodup_cons]at hn;cases j with
  | zero=>
   cases(show some q=some (k,v) from e);unfold rT;rw[List.find?_cons,decide_eq_true rfl];rfl
  | succ j=>
   have m:k∈r.map (·.1):=Ä.mpr ⟨_,Ì (show r[j]?=some (k,v) from e),rfl⟩;have ne:¬q.1=k:=λz=>hn.1<|z▸m;unfold rT;rw[List.find?_cons,decide_eq_false ne];exact ih hn.2 (show r[j]?=some (k,v) from e)
theorem Yi{g:kG}{k:Qa Key}(h:∀ (j:Nat) (v:Qa Key),g[j]?≠some (k,v)):rT g k=none:=by
 unfold rT;rw[List.find?_eq_none.mpr]
 .rfl
 .intro q hq z
  have(j,hj):=List.mem_iff_getElem?.mp hq;exact h j q.2 (by rw[hj,<-of_decide_eq_true z])
section
abbrev TK(prog:Qe)(w:Qh):=tupleKind (eV prog w)
def xj(prog:Qe)(w:Qh)(h:Heap)(xs:Qa (Qa Key×Qg×Qc))(f:kG):Prop:=Paired (λx p=>x.1=p.1/\∃ c,x.2.2=.ref c/\(TK prog w).is h p.2 c) xs f
theorem Yh{xs:Qa (Qa Key×Qg×Qc)}{f:kG}(v:xj prog w h xs f):f.map (·.1)=xs.map (·.1):=by
 induction v with
 | nil=>rfl
 | cons hq _ ih=>rw[List.map_cons,List.map_cons,ih,hq.1]
theorem Ng{nm:String}{b:Qg}{oa ob:Obj}{fs:Array DictEntry}{eQ:Nat}{xs:Qa (Qa Key×Qg×Qc)}{f g:kG}{Q:Bool->Qd->Prop}(hu:(TK prog w).room A)(ha:(a==sysModules)=false)(hb:(b==sysModules)=false)
  (sJ:s.heap.get? a=some oa) (u4:oa.data=.dict es ep) (uW:s.heap.get? b=some ob) (dG:ob.data=.dict fs eQ) (hx:es.toList=xs.map (entryOfKey<|TK prog w)) (hy:fs.toList=ys.map (entryOfKey<|TK prog w))
  (DZ:∀ x∈xs,(TK prog w).is s.heap x.1 x.2.1) (DY:∀ x∈ys,(TK prog w).is s.heap x.1 x.2.1) (ny:(ys.map (·.1)).Nodup) (vx:xj prog w s.heap xs f) (vy:xj prog w s.heap ys g) (h:Q (jI f g) s):
  wpAny (model prog w) A (Builtin.Dict.samePairs nm a b) Q E s:=by
 have sx:es.size=f.length:=(size_of_entries hx).trans (BP vx);have sy:fs.size=g.length:=(size_of_entries hy).trans (BP vy);have ng:(g.map (·.1)).Nodup:=by rw[Yh vy]; exact ny
 unfold Builtin.Dict.samePairs Builtin.Dict.showsAll;rw[if_neg (show ¬(a==sysModules)=true by rw[ha]; exact qh),if_neg (show ¬(b==sysModules)=true by rw[hb]; exact qh)];refine qc<|qd<|qc<|qd ?_;refine qc<|wpAny_dictEntries sJ u4 ?_;dsimp only;refine qc<|wpAny_dictEntries uW dG ?_
 by_cases hsz:es.size=fs.size
 .rw[if_neg (by simpa using hsz)]
  refine qc<|wpAny_dictEpoch sJ u4 ?_;refine qc ?_;rw[Std.Legacy.Range.forIn_eq_forIn_range'];simp only[Std.Legacy.Range.size,Nat.sub_zero,Nat.add_sub_cancel,Nat.div_one];have hlen:(f.length==g.length)=true:=by rw[<-sx,<-sy,hsz]; exact beq_self_eq_true _
  refine wpAny_forIn_list _ (λeh r s'=>s'=s/\r=(none,())/\∃ i,i<=f.length/\eh=List.range' i (f.length - i)/\∀ j p,j < i->f[j]?=some p->rT g p.1=some p.2) _ ?_ ?_ _ _ ⟨rfl,rfl,0,Ç _,by rw[sx,Nat.sub_zero],λj p hj=>absurd hj<|Nat.not_lt_zero _⟩
  .rintro x eh r s' ⟨rfl,rfl,i,hi,hr,aE⟩
   have eO:i < f.length:=by
    rcases ß i f.length with z|z
    .exact z
    .rw[Nat.sub_eq_zero_of_le z]at hr; cases hr
   obtain⟨n,hn⟩:∃ n,f.length - i=n+1:=⟨f.length - i - 1,by omega⟩;rw[hn,List.range'_succ]at hr;injection hr with hr1 hr2;subst hr1;obtain⟨⟨k,c,v⟩,jF⟩:∃ y,xs[x]?=some y:=⟨xs[x]'(by rw[BP vx]; exact eO),qo _⟩;obtain⟨⟨k',kv⟩,hf,e1,cv,e2,hcv⟩:=ES vx jF;cases(show k=k' from e1);cases(show v=.ref cv from e2);have hex:es[x]?=some ⟨(TK prog w).hash k,.ref c,.ref cv⟩:=by rw[entry_at hx x,jF]; rfl
   refine qc<|wpAny_dictEntries sJ u4 ?_;rw[hex];dsimp only;have bad:¬rT g k=some kv->Q false s':=λpY=>by
    have:jI f g=false:=by
     unfold jI;rw[hlen,Bool.true_and];exact List.all_eq_false.mpr ⟨_,Ì hf,by rw[decide_eq_false pY]; exact qh⟩
    rw[<-this];exact h
   refine qc<|wpAny_holding<|qc<|wpAny_dictFind_heap hu (DZ _<|Ì jF) uW dG hy DY ny (λJy=>?_) λj p hj=>?_
   .refine qd ?_
    simp only[Bool.not_false,if_true];refine qd ?_;refine qd<|bad ?_;rw[Yi λj v z=>?_]
    .intro z; cases z
    .obtain⟨y,D0,hy2⟩:∃ y,ys[j]?=some y/\y.1=k:=by
      obtain⟨y,D0⟩:∃ y,ys[j]?=some y:=⟨ys[j]'(by rw[BP vy]; exact(qm.mp z).1),qo _⟩;have(q,pV,nO,_):=ES vy D0;rw[z]at pV;cases pV;exact⟨y,D0,nO⟩
     exact Jy j y.2 (by rw[D0,<-hy2])
   .obtain⟨⟨k2,kb⟩,hg,e3,cb,e4,hcb⟩:=ES vy hj
    have(pa,vb):=p;cases(show k=k2 from e3);cases(show vb=.ref cb from e4);have hfj:fs[j]?=some ⟨(TK prog w).hash k,.ref pa,.ref cb⟩:=by rw[entry_at hy j,hj]; rfl
    refine qc<|wpAny_dictEntries uW dG ?_;rw[hfj];dsimp only;refine wpAny_holding<|(TK prog w).eqBool hu hcv hcb ?_;have va:=Nh ng hg
    by_cases q:kv=kb
    .rw[decide_eq_true q]
     simp only[Bool.not_true,Bool.false_eq_true,if_false];refine qc<|wpAny_dictEpoch sJ u4 ?_;rw[if_neg (by simp)];refine qd ⟨rfl,rfl,x+1,eO,?_,λj p hj hp=>?_⟩
     .rw[hr2,show f.length - (x+1)=n by omega]
     .rcases ß j x with z|z
      .exact aE j p z hp
      .cases(show j=x by omega)
       rw[hf]at hp;cases hp;rw[q];exact va
    .rw[decide_eq_false q]
     simp only[Bool.not_false,if_true];refine qd ?_;refine qd<|bad ?_;rw[va];intro z;cases z;exact q rfl
  .rintro r s' ⟨rfl,rfl,i,hi,hr,aE⟩
   have hi2:f.length<=i:=by
    rcases ß i f.length with z|z
    .obtain⟨n,hn⟩:∃ n,f.length - i=n+1:=⟨f.length - i - 1,by omega⟩
     rw[hn,List.range'_succ]at hr;cases hr
    .exact z
   have:jI f g=true:=by
    unfold jI;rw[hlen,Bool.true_and];refine é.mpr λp hp=>?_;have(j,hj):=List.mem_iff_getElem?.mp hp;exact decide_eq_true<|aE j p (qk (qm.mp hj).1 hi2) hj
   rw[this]at h;exact qd h
 .rw[if_pos (by simpa using hsz)]
  have AA:jI f g=false:=by
   unfold jI;rw[show(f.length==g.length)=false by rw[<-sx,<-sy]; simpa using hsz,Bool.false_and]
  rw[AA]at h;exact qc<|wpAny_rule<|qd h
theorem zDi{wanted:Bool}{nm:String}{b:Qg}{xs:Qa (Qa Key×Qg×Qc)}{f g:kG}(Jv:(op=.Eq/\wanted=true)\/(op=.NotEq/\wanted=false))(ha:(a==sysModules)=false)(hb:(b==sysModules)=false)
  (da:s.heap.DictOfH (TK prog w) a xs) (db:s.heap.DictOfH (TK prog w) b ys) (vx:xj prog w s.heap xs f) (vy:xj prog w s.heap ys g) (hu:A.units+8 < cLine) (h:Q (.bool<|jI f g==wanted) s):
  wpAny (model prog w) A (compareOp op (.ref a)<|.ref b) Q E s:=by
 have(oa,es,ep,sJ,ca,u4,hx,DZ,nx):=da;have(ob,fs,eQ,uW,cb,dG,hy,DY,ny):=db;have ta:s.TypeIs (.ref a) "dict":=⟨_,sJ,ca.1⟩;have tb:s.TypeIs (.ref b) "dict":=⟨_,uW,cb.1⟩;rcases Jv with⟨rfl,rfl⟩|⟨rfl,rfl⟩
 .refine wpAny_richCompare_same_room (op:=.Eq) ta tb PySem.F.slot_dict_eq (wpAny_call_entry PySem.F.slot_dict_eq ta PySem.F.entry_dict_eq ?_<|PySem.F.args_dict_eq_2 _ _) (Å (Nat.le_add_right _ 8) hu)
  show wpAny _ _ (Builtin.Dict.dictSlotArgs "__eq__" ⟨[.ref a,.ref b],[]⟩ >>= _) _ _ s;refine qc ?_;unfold Builtin.Dict.dictSlotArgs;refine qc<|wpAny_notOrdered_dict ta ?_;show wpAny _ _ (pure (Value.ref a,Value.ref b)) _ _ s;refine qd ?_;refine qc<|wpAny_isInstance (T := "dict") tb PySem.F.sub_dict_dict ?_;simp only[Bool.not_true,Bool.false_eq_true,if_false];refine qc<|qd<|qc<|qd ?_;refine qc<|Ng (show _ < cLine from by dsimp only[Around.in1]; omega) ha hb sJ u4 uW dG hx hy DZ DY ny vx vy ?_;refine qd ⟨_,rfl,?_,?_⟩
  .exact λx=>nomatch x
  .simpa using h
 .refine wpAny_richCompare_same_room (op:=.NotEq) ta tb PySem.F.slot_dict_ne (wpAny_call_entry PySem.F.slot_dict_ne ta PySem.F.entry_dict_ne ?_<|PySem.F.args_dict_ne_2 _ _) (Å (Nat.le_add_right _ 8) hu)
  show wpAny _ _ (Builtin.Dict.dictSlotArgs "__ne__" ⟨[.ref a,.ref b],[]⟩ >>= _) _ _ s;refine qc ?_;unfold Builtin.Dict.dictSlotArgs;refine qc<|wpAny_notOrdered_dict ta ?_;show wpAny _ _ (pure (Value.ref a,Value.ref b)) _ _ s;refine qd ?_;refine qc<|wpAny_isInstance (T := "dict") tb PySem.F.sub_dict_dict ?_;simp only[Bool.not_true,Bool.false_eq_true,if_false];refine qc<|qd<|qc<|qd ?_;refine qc<|Ng (show _ < cLine from by dsimp only[Around.in1]; omega) ha hb sJ u4 uW dG hx hy DZ DY ny vx vy ?_;refine qd ⟨_,rfl,?_,?_⟩
  .exact λx=>nomatch x
  .simpa using h
end
def Em(K:qe)(H:Hp)(kvs:Qa (Qa Key×V))(f:kG):Prop:=Paired (λp q=>p.1=q.1/\∃ c,p.2=.ref c/\aX K H c (q.2.map kV)) kvs f
theorem F7(jD:K.In h)(ok:cK P w K H h):∀ {kvs:Qa (Qa Key×V)} {xs:Qa (Qa Key×Qg×Qc)} {f:kG},KT K H kvs xs->Em K H kvs f->xj P w h xs f
 | _,_,_,.nil,.nil=>.nil
 | _,_,_,.cons hq t,.cons hp u=>by
  have(e1,_,rv):=hq;have(e2,c,e3,tp):=hp;rw[e3]at rv;exact .cons ⟨e1.symm.trans e2,c,rv,rH jD ok tp⟩<|F7 jD ok t u
def KJ(K:qe)(wanted:Bool):R2:=λx y H Q=>∃ a b kvs DT f g,x=.ref a/\y=.ref b/\Rd H a (.dT kvs)/\Rd H b (.dT DT)/\Em K H kvs f/\Em K H DT g/\Q (.bl<|jI f g==wanted) H
theorem Mn{X:Cx}{k:Nat}{wanted:Bool}(Jv:(op=.Eq/\wanted=true)\/(op=.NotEq/\wanted=false))(K:qe)(hK:X.K=K)(hr:aM k X.A):bN X (compareOp op) (KJ K wanted):=by
 subst hK;intro pins s σ H x y v u Q I rx ry h;have(a,b,kvs,DT,f,g,rfl,rfl,ea,eb,tf,tg,q):=h;cases rx;cases ry;have(_,ya,xs,ra,da):=rA I.cc I.aE ea;have(_,yb,ys,rb,db):=rA I.cc I.aE eb;exact zDi (nm := "") Jv ya yb da db (F7 I.cc I.aE ra tf) (F7 I.cc I.aE rb tg) (by have:=hr.units; omega) ⟨.bl _,H,I,rfl,q⟩
section
def vk:U->Qb (Qa<|Qa Key×D)
 | .t kvs=>some kvs
 | .d (.dict ds)=>if iV ds=true then tN ds else none
 | _=>none
def sD:Qa (Qa Key×D)->Qb kG
 | []=>some []
 | (k,d)::r=>(dh d).bind λv=>(sD r).bind λr=>some<|(k,v)::r
def xx(wanted:Bool)(u v:U):Qb U:=(vk u).bind λa=>(vk v).bind λb=>(sD a).bind λf=>(sD b).bind λg=>some<|.d<|.bool<|jI f g==wanted
theorem Lo{u:U}{kvs:Qa (Qa Key×D)}(h:Rp K H v u)(e:vk u=some kvs):∃ a ws,v=.ref a/\Rd H a (.dT ws)/\dH K H ws kvs:=by
 unfold vk at e;split at e
 .cases e
  have(a,ws,rfl,h1,h2):=h;exact⟨a,ws,rfl,.inl h1,h2⟩
 .split at e
  .rename_i nx
   have(a,o,ws,rfl,h1,h2):=DF.cw h nx;exact⟨a,ws,rfl,.inr ⟨o,h1⟩,GQ h2 e⟩
  .cases e
 .cases e
theorem F6:∀ {ws:Qa (Qa Key×V)} {kvs:Qa (Qa Key×D)} {f:kG},dH K H ws kvs->sD kvs=some f->Em K H ws f
 | _,_,f,.nil,e=>by cases e; exact .nil
 | _,(k,d)::r,f,.cons hq t,e=>by
  have(v,ev,e):=bQ (show(dh d).bind _=some f from e);have(r',er,e):=bQ e;cases e;have(b,e2,tb):=uf hq.2 ev;exact .cons ⟨hq.1,b,e2,tb⟩<|F6 t er
theorem Mm{wanted:Bool}:VO K (KJ K wanted) (xx wanted):=by
 intro x y a b u H Q ha hb e q;have(k1,e1,e):=bQ e;have(k2,e2,e):=bQ e;have(f,e3,e):=bQ e;have(g,e4,e):=bQ e;cases e;have(c,ws,rfl,h1,h2):=Lo ha e1;have(c',wL,rfl,h3,h4):=Lo hb e2;exact⟨c,c',ws,wL,f,g,rfl,rfl,h1,h3,F6 h2 e3,F6 h4 e4,q _ _ (λ_ _ z=>z) (.bl _) Nw.data⟩
end
end L2
namespace L2
open PySem PySem.Spec PyProof.Rows
section
variable{X:Cx}
end
section
def vD:U->U->Qb U
 | .l xs,.d (.int k)=>if -1000000 < k/\k < 1000000/\xs.length * k.toNat<=sizeLine then some (.l (List.replicate k.toNat xs).flatten)else none
 | _,_=>none
theorem zBz:VO K RN vD:=by
 intro x y a b u H Q ha hb e q;unfold vD at e;split at e
 .split at e
  .rename_i xs k hz
   cases e;have(p,us,rfl,h1,h2):=ha;cases DF.int_inv hb;refine⟨p,k,us,rfl,rfl,h1,by omega,by omega,by rw[h2.len]; exact hz.2.2,λr hr=>?_⟩;have s:=zZ hr (.lst (List.replicate k.toNat us).flatten);exact q _ _ s ⟨r,_,rfl,zy,(Gw h2 _).kp s.kp⟩ λ_=>⟨r,rfl,hr⟩
  .cases e
 .cases e
end
section
variable{X:Cx}{k:Nat}
end
section
variable{X:Cx}
end
section
variable{d:Qg}
end
section
variable{X:Cx}
end
section
end
theorem zD4:∀ {us:Qa α},us.length=1->∃ a,us=[a]
 | [a],_=>⟨a,rfl⟩
theorem zD5:∀ {us:Qa α},us.length=2->∃ a b,us=[a,b]
 | [a,b],_=>⟨a,b,rfl⟩
theorem zD6:∀ {us:Qa α},us.length=3->∃ a b c,us=[a,b,c]
 | [a,b,c],_=>⟨a,b,c,rfl⟩
theorem Rx:∀ {us:Qa α},us.length=4->∃ a b c d,us=[a,b,c,d]
 | [a,b,c,d],_=>⟨a,b,c,d,rfl⟩
theorem zD7:∀ {us:Qa α},us.length=5->∃ a b c d e,us=[a,b,c,d,e]
 | [a,b,c,d,e],_=>⟨a,b,c,d,e,rfl⟩
structure Zs where
 P:Qe
 w:Qh
 K:qe
 mg:Str->Qb Qc
 base:Heap
def bK(K:qe)(x:Str)(st:Stmt):Prop:=∃ (f:Qg) (fd:FuncData),kH K x x st f fd/\PySem.W.nsIn K mainGlobals x=some (some<|.ref f)
theorem fnK{f:Qg}{oc:Qc}{od an:Qb Qg}{kV doc pm bT ct:Qc}(a:PySem.W.nsIn K mainGlobals x=some (some<|.ref f))(l:K.lookup f=some ⟨oc,od,.func<|PySem.W.fnOf x x (ui st) (lL st) (fU st) .none kV doc pm an bT ct,pM⟩)
  (c:PySem.W.codeIn K bT x=true) (k:PySem.W.keepIn K (.ref f)=true):bK K x st:=⟨f,_,LP l c k,a⟩
def bR(Z:Zs)(x:Str)(st:Stmt):Prop:=∃ (f:Qg) (fd:FuncData),kH Z.K x x st f fd/\Z.mg x=some (.ref f)
theorem bK.z{base:Heap}(a:bK K x st)(X:K.In h)(G:h.Ns mainGlobals mg):bR ⟨P,w,K,mg,base⟩ x st:=by
 have(f,fd,F,g):=a;exact⟨f,fd,F,Ą X G g⟩
abbrev Zs.C(Z:Zs)(x:Str)(k:Nat)(ps:Qa Str)(n:Nat)(F:FD):Prop:=J9 Z.P Z.w Z.K Z.mg Z.base x k ps (rX Z.K n F)
abbrev Zs.X(Z:Zs)(x:Str)(k:Nat)(ps:Qa Str)(n:Nat)(F:FX):Prop:=J8 Z.P Z.w Z.K Z.mg Z.base x k ps (spX Z.K n F)
section
variable{Z:Zs}{k nn:Nat}{m:MS}{f:Qg}
abbrev KI(Z:Zs)(x:Str)(st:Stmt)(k:Nat)(pn:Qa Nat)(m:MS)(N:Qa Str)(f:Qg):Prop:=∀ {bT:Qc} {A:Qf} {outer:Qa Env} {s:Qd} {H:Hp} {E:XK},N.Nodup->aM k (A.deeper<|envOfC x (fU st) s.heap.objs.size f bT)->
 ∃ t,VS Z.K pn T2 t m/\Wr (fm (oG jg Z.P Z.w Z.K Z.mg Z.base N x (fU st) f bT A outer s H E).uI (lL st) t)
theorem Sd(F:kH Z.K x x st f fd)(N:Qa Str)(cH:KI Z x st k pn m N f)(S:bV N ps (fU st):=by exact⟨rfl,rfl,rfl,by decide +kernel,rfl,by decide +kernel,by decide +kernel⟩)(D2:ps.length=n:=by rfl)(hN:N.length=nn:=by rfl)(D4:n<=nn:=by decide):
  cL Z.P Z.w Z.K Z.mg Z.base jg (k+1) f fd ps (rX Z.K n<|bE nn pn m):=F.okV S D2 hN D4 λbT A outer s H E hr=>let ⟨t,a,b⟩:=cH S.nd hr; ⟨t,b,a⟩
theorem bX(A:bR Z x st)(N:Qa Str)(cH:∀ {f},KI Z x st k pn m N f)(S:bV N ps (fU st):=by exact⟨rfl,rfl,rfl,by decide +kernel,rfl,by decide +kernel,by decide +kernel⟩)(D2:ps.length=n:=by rfl)(hN:N.length=nn:=by rfl)(D4:n<=nn:=by decide)
  (hb:∀ (kV doc pm:Qc) (an:Qb Qg) (bT ct:Qc) (us:Qa Qc),us.length=ps.length->bindArgs (PySem.W.fnOf x x (ui st) (lL st) (fU st) .none kV doc pm an bT ct) ⟨us,[]⟩=pure (ps.zip us):=by
   intro _ _ _ _ _ _ us hl
   first
   | (have(_,rfl):=zD4 hl; rfl)
   | (have(_,_,rfl):=zD5 hl; rfl)
   | (have(_,_,_,rfl):=zD6 hl; rfl)
   | (have(_,_,_,_,rfl):=Rx hl; rfl)
   | (have(_,_,_,_,_,rfl):=zD7 hl; rfl)
   | (cases(List.eq_nil_of_length_eq_zero hl); rfl)):Z.C x (k+1) ps n (bE nn pn m):=
 let ⟨f,fd,F,g⟩:=A; ⟨⟨f,fd,Sd F N cH S D2 hN D4,F.binds hb,F.kp,g⟩⟩
end
def HW:U->Qb (Qa D)
 | .l xs=>some xs
 | _=>none
theorem Yg{u:U}{xs:Qa D}(h:HW u=some xs):u=.l xs:=by
 cases u<;>cases h;rfl
def HV(i:Nat):MI:=λρ=>((ρ[i]?).join).bind λu=>(HW u).bind λxs=>some (xs,ρ)
theorem Yf{ρ:En}{u:U}(h:(ρ[i]?).join=some u):ρ[i]?=some (some u):=by
 cases e:ρ[i]? with
 | none=>rw[e]at h; cases h
 | some o=>
  rw[e]at h;cases h;rfl
section
variable{ρ:En}
theorem Ye{u:U}(r:Rs K ρ σ H)(hi:i∉js)(e:ρ[i]?=some (some u))(o:u.own=true)(es:σ[i]?=some (some<|.ref a)):¬kI ρ σ js a:=by
 rintro⟨p,j,w,hp,ej,ow,mG⟩;cases r.apart i j u w e ej o ow (by rw[es,mG]);exact hi<|Ì hp
theorem zBC(hi:i∉js:=by decide):TQ K js (BC K<|iA i) (HV i):=by
 intro ρ σ H ds av R r e q;have(u,eu,e):=bQ e;have(xs,ex,e):=bQ e;cases e;cases Yg ex;have eu:=Yf eu;have(v,ev,p):=r.rep i _ eu;have(a,us,rfl,h1,h2):=p;refine⟨.ref a,ev,a,rfl,⟨us,bu.of h1⟩,q _ _ (Go.refl r) λH2 k f j=>?_⟩;have hk:=f a _ h1 (Ye r hi eu rfl ev);refine⟨λd ed=>?_,λei=>⟨us,bu.of hk,by rw[h2.len,ei]; exact qg _⟩⟩;have(v,ev,dv):=(h2.kp k).get ed;refine⟨⟨us,v,bu.of hk,ev⟩,λx H' y=>?_⟩;have(rfl,y):=y;have:=y us (bu.of hk);rw[ev]at this;cases this;exact⟨cN.refl _,dv⟩
end
end L2
namespace L2
open PySem
section
variable{a:α}{f:α->Qb β}{R:β->Prop}{t:Ph f}
theorem Um:Wo (some a) (Co f t R)=Wo (f a) R:=eW
theorem Ul{x:Fl}{Q:Fl->Prop}{P:En->Prop}:Wo (some x) (oP Q P)=oP Q P x:=eW
end
end L2
namespace L2
open PySem PySem.Spec PyProof.Rows
theorem zl0:typeLookup (.type "list") "keys"=pure none:=by rw[typeLookup_type,builtinLookup_eq_fast]; kernel_rfl
section
variable{g:Array GenState}{d:Drawn}{t:Nat}{os:OsState}{items:Array Qc}
theorem Wb:(Str.ofString (toString "'"++toString ((Manifest.find? "list").elim "list" λx=>x.tpName)++toString "' object has no attribute '")++Str.ofString "keys"++Str.ofString "'").length<=sizeLine:=by decide +kernel
theorem Z5{tk:Tok}{Q:Fin->Qd->Prop}(hx:h.get? a=some ⟨.type "list",none,.seq items n,sl⟩)(hh:A.handled=none)
  (hq:∀ h' tk e,A6 h h' e->E (.ref e) ⟨h',g,d,tk,os⟩):
  wpAny (model prog w) A (Builtin.«object.__getattribute__» ⟨[.ref a,.str "keys" tk],[]⟩) Q E ⟨h,g,d,t,os⟩:=by
 have hT:(⟨h,g,d,t,os⟩:Qd).TypeIs (.ref a) "list":=⟨_,hx,rfl⟩;have f4:=zl0
 repeat (any_goals (first|assumption|wp_step))
 exact zo3 hh Wb hq
theorem Yd{tk:Tok}(hx:h.get? a=some ⟨.type "list",none,.seq items n,sl⟩)(hh:A.handled=none)
  (hq:∀ h' tk e,A6 h h' e->R (.error<|.ref e) ⟨h',g,d,tk,os⟩):
  codeAny (model prog w) A (.call (.builtin "list.__getattribute__") ⟨[.ref a,.str "keys" tk],[]⟩) R ⟨h,g,d,t,os⟩ :=
 codeAny_call_builtin ò.plain F.entry_list_ga (ò.check _ _ _ _ _ _ _ _ (show(⟨h,g,d,t,os⟩:Qd).TypeIs (.ref a) "list" from⟨_,hx,rfl⟩) (F.args_list_getattribute_2 _ _)<|Z5 hx hh hq)
theorem zo7:typeLookup (.type "list") "__getattr__"=pure none:=by rw[typeLookup_type,builtinLookup_eq_fast]; kernel_rfl
theorem zBD{tk:Tok}(hx:h.get? a=some ⟨.type "list",none,.seq items n,sl⟩)(hh:A.handled=none)(hq:∀ h' tk e,A6 h h' e->E (.ref e) ⟨h',g,d,tk,os⟩):
  wpAny (model prog w) A (getAttrBy (.ref a) (.str "keys" tk) false) Q E ⟨h,g,d,t,os⟩:=by
 have hT:(⟨h,g,d,t,os⟩:Qd).TypeIs (.ref a) "list":=⟨_,hx,rfl⟩;have f2:=ò.lookup;have f3:=ò.bind (.ref a);have f5:=zo7
 repeat (any_goals (first|assumption|wp_step))
 refine Yd hx hh λh' tk' e lk=>?_;have(kk,ob,eo,ec):=id lk;show wpAny _ _ (getattributeRaised _ _ _ _ _ _ _) _ _ _;unfold getattributeRaised;refine qc<|wpAny_isInstance (T := "AttributeError") ⟨_,eo,ec⟩ GK ?_;rw[if_pos rfl];refine qc ?_;show wpAny _ _ (typeLookup (.type "list") "__getattr__") _ _ _;refine wpAny_of_eq f5 ?_;exact wpAny_throw<|hq _ _ _ lk
theorem Yc{Q:Qb Qc->Qd->Prop}(hx:s.heap.get? a=some ⟨.type "list",none,.seq items n,sl⟩)(hh:A.handled=none)(hq:∀ h' tk,(∀ b o,s.heap.get? b=some o->h'.get? b=some o)->Q none {s with heap:=h',toks:=tk}):
  wpAny (model prog w) A (getAttr? (.ref a) "keys") Q E s:=by
 unfold getAttr?;refine qc<|wpAny_mkText ?_;unfold getAttrBy?;refine qc<|wpAny_attempt ?_;refine zBD (t:=s.toks+1) (g:=s.gens) (d:=s.drawn) (os:=s.os) hx hh λh' tk e hZ=>?_;have(kk,ob,eo,ec):=hZ;refine qc<|wpAny_isInstance (T := "AttributeError") ⟨_,eo,ec⟩ GK ?_;rw[if_pos rfl];exact qd<|hq _ _ kk
end
section
variable{X:Cx}{D:Qg}
theorem znA(hh:A.handled=none)(hu:A.units+2 < cLine)(hD:H D=none)(e:H a=some (.lst xs))(hz:xs.length < sizeLine)(pa:dn X.K H xs kvs)
  (hR:∀ s',Inv X pins σ (upd H D<|.dT<|iQ [] kvs) s'->R (.ok<|.ret .none) s'):
  ∀ (m i:Nat) (s:Qd),i+m=xs.length->Inv X pins σ (upd H D<|.dT<|iQ []<|kvs.take i) s->s.heap.IsListIter it a i->(∀ o,fQ X pins (upd H D o) it)->codeAny (model X.prog X.w) A (.builtin "dict.update.loop" ⟨[.ref D,.ref it,rawInt (i:Int),.none],[]⟩) R s:=by
 intro m
 induction m with
 | zero=>
  intro i s hi I st fp;cases(show i=xs.length by omega);have(_,ah,nn,rv,ep):=(show bW X.prog X.w X.K _ s.heap a (.lst xs) from I.aE a _ (by rw[zD<|gR e hD]; exact e));have p:s.heap.IsList a ah.toArray:=⟨_,ep,rfl,nn,rfl⟩;have(f0,f1,f2,f3,f4,f5):=fp (.dT<|iQ []<|kvs.take xs.length);refine codeAny_builtin QQ ?_;rw[Around.under_plainId DC _];show wpAny _ A.in1 (pyNext (.ref it) >>= _) _ _ s;refine qc<|wpAny_pyNext_list_end hh st p (by have:=rv.length; simp; omega) λh' eb=>?_;have I1:Inv X pins σ (upd H D<|.dT<|iQ []<|kvs.take xs.length) {s with heap:=h'}:=I.turned (t':=s.toks) (λb o hb e=>eb b o hb e) f0 f1 f3 f4 f5;rw[<-pa.len,List.take_length]at I1;show wpAny _ A.in1 (Builtin.Dict.addKeywords D [] >>= _) _ _ _;refine qc<|qd<|qd ?_;exact hR _ I1
 | succ m ih=>
  intro i s hi I st fp;have(q,k,ks,v,ex,ek,hq,hk):=pa.at (i:=i) (by omega);have(_,ah,nn,rv,ep):=(show bW X.prog X.w X.K _ s.heap a (.lst xs) from I.aE a _ (by rw[zD<|gR e hD]; exact e));have p:s.heap.IsList a ah.toArray:=⟨_,ep,rfl,nn,rfl⟩;have(u,uR,ru):=rv.get ex;cases ru;have(f0,f1,f2,f3,f4,f5):=fp (.dT<|iQ []<|kvs.take i);refine codeAny_builtin QQ ?_;rw[Around.under_plainId DC _];show wpAny _ A.in1 (pyNext (.ref it) >>= _) _ _ s;refine qc<|wpAny_pyNext_list_item st p (x:=.ref q) (by simpa using uR) λh' eF sb=>?_;have I1:Inv X pins σ (upd H D<|.dT<|iQ []<|kvs.take i) {s with heap:=h'}:=I.turned (t':=s.toks) (λb o hb e=>(sb.2 b hb).trans e) f0 f1 f3 f4 f5;have(oi,ei,ci,di):=id eF;have I2:=I1.pinned (fp:=[it]) (λb hb=>by rw[qu.mp hb]; exact fp _) (λb hb=>by rw[qu.mp hb]; exact⟨oi,ei,λv z=>by rw[di]at z; cases z⟩);have(qs,rq,pq,_):=I1.tuple (We hD hq);have(oq,eq,cq,nq,dq):=id pq;have(u2,rfl,r2):=zD3 rq;refine qc<|wpAny_holding<|qc<|wpAny_tryCatch ?_;unfold Builtin.Dict.pairItems;refine qc<|wpAny_typeOf (T := "tuple") ⟨_,eq,cq⟩ ?_;rw[if_pos (by decide:(Value.type "tuple"==Value.type "list" || Value.type "tuple"==Value.type "tuple")=true)];refine qc<|wpAny_seqItems eq dq<|qd ?_;show wpAny _ A.in1 (holding [Value.ref k,u2]<|dictSet D (.ref k) u2) _ _ _;have tk:=zo4 (kvs.take i) [];have lt:=List.length_take_le i kvs;refine wpAny_holding<|Ov (X:=X) (show A.units+1+1 < cLine by omega) I2 zy (hk.keeps λb ys hb=>by rw[zD<|gR hb hD]; exact hb) (by have:=pa.len; simp only[List.length_nil,Nat.zero_add]at tk; omega) r2 λs3 I3=>?_;have ups:upd (upd H D<|.dT<|iQ []<|kvs.take i) D (.dT<|eJ (iQ []<|kvs.take i) ks v)=upd H D (.dT<|iQ []<|kvs.take<|i+1):=by
   funext b
   by_cases hb:b=D
   .subst hb
    rw[zy,zy,List.take_add_one,ek];show _=some (HO.dT<|(kvs.take i++[(ks,v)]).foldl _ _);rw[List.foldl_append];rfl
   .rw[zD hb,zD hb,zD hb]
  rw[ups]at I3;have pin:=(I3.pin (it,oi)<|qA _<|qA _<|uw (qu.mpr rfl) ei).1;refine qd ⟨plainId_quiet DC _,ih (i+1) s3 (by omega) (I3.cT λp hp=>I3.pin p<|qA _<|Ð _ hp) ⟨oi,pin,ci,di⟩ fp⟩
end
section
variable{X:Cx}
def Lu(K:qe):Qa V->Hp->VK->Prop:=λxs H Q=>∃ a ys kvs,xs=[.ref a]/\H a=some (.lst ys)/\ys.length < sizeLine/\dn K H ys kvs/\∀ p,H p=none->Q (.ref p) (upd H p<|.dT<|iQ [] kvs)
theorem zo8{k:Nat}(K:qe)(hK:X.K=K)(hr:aM k X.A)(hc:X.calm=true):fS X (.type "dict") (Lu K):=by
 subst hK;intro pins s σ H xs us Q I r h;have(a,ys,kvs,rfl,ha,hz,pa,q):=h;have(u,rfl,ru):=jS r;cases ru;have(_,ah,n,rv,ho):=(show bW X.prog X.w X.K H s.heap a (.lst ys) from I.aE a _ ha);have hD:H s.heap.objs.size=none:=I.aE.fresh (qg _);have hh:=I.ok.hd hc;refine callType_codes (Q₁:=λobj aG=>obj=.ref s.heap.objs.size/\aG={s with heap:=s.heap.push {cls:=.type "dict",data:=.dict #[]}}) F.kt_called_dict (F.kt_typeCall_dict_1 _) F.entry_dict_init (kt_code_dict_new _ ⟨rfl,rfl⟩) ?_;rintro obj aG ⟨rfl,rfl⟩;have tn:Shared.TypeIs {s with heap:=s.heap.push {cls:=.type "dict",data:=.dict #[]}} (.ref s.heap.objs.size) "dict":=⟨_,qi _ rfl,rfl⟩;have w6:(s.heap.push {cls:=.type "dict",data:=.dict #[]}).get? a=some {cls:=.type "list",data:=.seq ah.toArray n}:=qf _ ho;have I1:=I.laid (a:=s.heap.objs.size) (o:=.dT []) (h':=s.heap.push {cls:=.type "dict",data:=.dict #[]}) (t':=s.toks) (λ_ _ q=>qf _ q) (qg _) (CA s.heap I.AK);refine⟨tn,F.args_dict_init_2 _ _,?_⟩;unfold Builtin.«dict.__init__»;refine qc ?_;unfold Builtin.Dict.selfAndRest;refine qc<|wpAny_notOrdered_dict tn ?_;show wpAny _ _ (pure (s.heap.objs.size,[Value.ref a])) _ _ _;refine qd ?_;show wpAny _ _ (Builtin.Dict.updateFrom "dict.__init__" s.heap.objs.size (.ref a) [] .none) _ _ _;unfold Builtin.Dict.updateFrom;refine qc<|wpAny_typeOf (T := "list") ⟨_,w6,rfl⟩ ?_;rw[if_pos (by decide)];refine qc<|Yc (s:={s with heap:=s.heap.push {cls:=.type "dict",data:=.dict #[]}}) w6 hh λh2 pI nL=>?_;have I2:Inv X pins σ (upd H s.heap.objs.size<|.dT []) {s with heap:=h2,toks:=pI}:=I1.kept (t':=pI) nL;rw[if_pos (by rfl:(Option.isNone (none:Qb Qc))=true)];refine qc<|wpAny_rule<|qc<|wpAny_pyIter_list (show Heap.IsList h2 a ah.toArray from⟨_,nL _ _ w6,rfl,n,rfl⟩) ?_;have I3:=I2.kept (t':=pI) (h':=h2.push {cls:=.type "list_iterator",data:=.fields #[.ref a,.int 0 0]}) λb o e=>qf _ e;refine qd ⟨plainId_quiet DC _,?_⟩;refine znA (A:=X.A.in1) (H:=H) (xs:=ys) (kvs:=kvs) hh (by show X.A.units+1+2 < cLine; have:=hr.units; omega) hD ha hz pa (λs' I'=>⟨rfl,.ref _,_,I',rfl,q _ hD⟩) ys.length 0 _ (Nat.zero_add _) I3 ⟨_,qi _ rfl,rfl,rfl⟩ λo=>?_;refine I2.dE (qg _) ?_;have nz:H h2.objs.size=none:=by
  have:=I2.aE.fresh (qg _)
  by_cases z:h2.objs.size=s.heap.objs.size
  .rw[z]; exact hD
  .rw[zD z]at this; exact this
 have ne:h2.objs.size≠s.heap.objs.size:=Nat.ne_of_gt (qj<|nL _ _<|qi _ rfl);rw[zD ne];exact nz
end
def BX:U->Qb U
 | .l ds=>(ds.mapM oA).bind λkvs=>if ds.length < sizeLine then some (.t<|ET kvs)else none
 | _=>none
theorem Yz:VC K (Lu K) (f1 BX):=oz λv a u H Q h e q=>by
 unfold BX at e;split at e
 .rename_i ds
  have(kvs,ek,e):=bQ e;split at e
  rotate_left
  .cases e
  rename_i hz;cases e;have(c,vs,rfl,tp,ts):=h;have(ws,pa,kd):=Lp ts ek;refine⟨c,vs,ws,rfl,tp,by rw[ts.len]; exact hz,pa,λp hp=>?_⟩;have sm:=zZ hp (.dT<|iQ [] ws);exact q _ _ sm ⟨p,_,rfl,zy,(Wc kd .nil).kp sm.kp⟩ λ_=>⟨p,rfl,hp⟩
 .cases e
end L2
namespace L2
open PySem PySem.Spec
def Tt(b:Bool):Prop:=b=true
theorem Uk{b:Bool}(h:b=true):Tt b:=h
def xh(ρ:En)(i:Nat):Bool:=((ρ[i]?).join).isSome
def gt(ρ:En)(i:Nat):U:=((ρ[i]?).join).getD (.d .none)
theorem zDk{ρ:En}:gt ρ i=((ρ[i]?).join).getD (.d .none):=rfl
theorem zDl{u v:U}:(some u:Qb U).getD v=u:=rfl
theorem Ml{ρ:En}(h:xh ρ i=true):(ρ[i]?).join=some (gt ρ i):=by
 unfold xh at h;unfold gt;cases e:(ρ[i]?).join with
 | none=>rw[e]at h; cases h
 | some u=>rfl
def vn(ρ:En):Ar->Bool
 | .s i=>xh ρ i
 | .u _=>true
def ag(ρ:En):Ar->U
 | .s i=>gt ρ i
 | .u x=>x
theorem zDm{ρ:En}:ag ρ (.s i)=gt ρ i:=rfl
theorem zDn{ρ:En}{x:U}:ag ρ (.u x)=x:=rfl
theorem Ck{ρ:En}{a:Ar}(h:vn ρ a=true):a.get ρ=some (ag ρ a):=by
 cases a with
 | s i=>exact Ml h
 | u x=>rfl
def gs(ρ:En)(as:Qa Ar):Qa U:=as.map (ag ρ)
theorem zDo{ρ:En}:gs ρ []=[]:=rfl
theorem zDp{ρ:En}{a:Ar}{as:Qa Ar}:gs ρ (a::as)=ag ρ a::gs ρ as:=rfl
theorem F5{ρ:En}:∀ {as:Qa Ar},as.all (vn ρ)=true->bC ρ as=some (gs ρ as)
 | [],_=>rfl
 | a::as,h=>by
  rw[List.all_cons,Bool.and_eq_true_iff]at h;rw[O4,Ck h.1,bd,F5 h.2];rfl
def Eo(m:En->Qb α)(ρ:En):Qb α:=m ρ
def Cu(ρ:En)(t:Ph ρ)(Q:Ar×En->Prop)(u:U):Prop:=Q (.u u,ρ)
def Cw(ρ:En)(as:Qa Ar)(t:Ph ρ)(Q:Ar×En->Prop)(o:U×Qa U):Prop:=Q (.u o.1,wb ρ as o.2)
def Jb(f:U->Qb U)(p:Ar×En):Qb (Ar×En):=(p.1.get p.2).bind λx=>(f x).bind λu=>some (.u u,p.2)
def Ku(mA:MA)(p:Ar×En):Qb (Qa Ar×En):=(mA p.2).bind λq=>some (p.1::q.1,q.2)
def Ls(a:Ar)(q:Qa Ar×En):Qb (Qa Ar×En):=some (a::q.1,q.2)
def Jd(f:Qa U->Qb U)(p:Qa Ar×En):Qb (Ar×En):=(bC p.2 p.1).bind λus=>(f us).bind λu=>some (.u u,p.2)
def A5(f:FD)(p:Qa Ar×En):Qb (Ar×En):=if gP p.2 p.1=true then(bC p.2 p.1).bind λus=>(f us).bind λo=>some (.u o.1,wb p.2 p.1 o.2)else none
def HU(i:Nat)(p:Ar×En):Qb Fl:=(put p).bind λq=>some<|.nx<|q.2.set i<|some q.1
def kB(p:Ar×En):Qb (Bool×En):=(p.1.get p.2).bind λu=>u.vm.bind λb=>some (b,p.2)
def DW(m1 m2:MS)(p:Bool×En):Qb Fl:=if p.1=true then m1 p.2 else m2 p.2
def EY(p:Ar×En):Qb Fl:=some (.nx p.2)
section
variable{γ:Type}{ρ:En}{ma mb me:ME}{mA:MA}{mt:MT}{m1 m2:MS}{u x y:U}{d:D}{a b:Ar}{as:Qa Ar}{f:U->Qb U}{f2:U->U->Qb U}{fl:Qa U->Qb U}{F:FD}
variable{QE:Ar×En->Prop}{QA:Qa Ar×En->Prop}{QT:Bool×En->Prop}{QS:Fl->Prop}
theorem Uj{m:En->Qb α}{Q:α->Prop}:Wo (Eo m ρ) Q=Wo (m ρ) Q:=rfl
theorem Ui{g:Ar×En->Qb β}{t:Ph ρ}{t2:Ph g}{R:β->Prop}:Cu ρ t (Co g t2 R) u=Wo (g (.u u,ρ)) R:=rfl
theorem Yy{g:Ar×En->Qb β}{t:Ph g}{R:β->Prop}(h:Tt (xh ρ i)):Wo (zi i ρ) (Co g t R)=Wo (g (.s i,ρ)) R:=by
 rw[Nb,Ml h,eW,iM,eW];rfl
theorem zDq{g:Ar×En->Qb β}{t:Ph g}{R:β->Prop}:Wo (mC d ρ) (Co g t R)=Wo (g (.u<|.d d,ρ)) R:=RS
theorem zqG(h:Tt (vn ρ a && vn ρ b)):Wo (AZ f2 a (b,ρ)) QE=Wo (f2 (ag ρ a)<|ag ρ b) (Cu ρ ⟨0⟩ QE):=by
 have(h1,h2):=Ă.mp h;unfold AZ;rw[Ck h1,bd,Ck h2,bd,zt];exact congrArg (Wo _)<|funext λ_=>eW
theorem Uh:Wo (b9 f ma ρ) QE=Wo (ma ρ) (Co (Jb f) ⟨0⟩ QE):=zDd
theorem Yx(h:Tt (vn ρ a)):Wo (Jb f (a,ρ)) QE=Wo (f<|ag ρ a) (Cu ρ ⟨0⟩ QE):=by
 unfold Jb;rw[Ck h,bd,zt];exact congrArg (Wo _)<|funext λ_=>eW
theorem zqH:Wo (zf me mA ρ) QA=Wo (me ρ) (Co (Ku mA) ⟨0⟩ QA):=VQ
theorem znB:Wo (Ku mA (a,ρ)) QA=Wo (mA ρ) (Co (Ls a) ⟨0⟩ QA):=zt
theorem zkT{g:Qa Ar×En->Qb β}{t:Ph g}{R:β->Prop}:Wo (Ls a (as,ρ)) (Co g t R)=Wo (g (a::as,ρ)) R:=eW
theorem Yw{g:Qa Ar×En->Qb β}{t:Ph g}{R:β->Prop}:Wo (zq ρ) (Co g t R)=Wo (g ([],ρ)) R:=Na
theorem Ug:Wo (ba fl mA ρ) QE=Wo (mA ρ) (Co (Jd fl) ⟨0⟩ QE):=zDe
theorem Yv(h:Tt (as.all<|vn ρ)):Wo (Jd fl (as,ρ)) QE=Wo (fl<|gs ρ as) (Cu ρ ⟨0⟩ QE):=by
 unfold Jd;rw[F5 h,bd,zt];exact congrArg (Wo _)<|funext λ_=>eW
theorem Yu:Wo (zP F mA ρ) QE=Wo (mA ρ) (Co (A5 F) ⟨0⟩ QE):=zBc
theorem zqI(h:Tt (gP ρ as && as.all (vn ρ))):Wo (A5 F (as,ρ)) QE=Wo (F<|gs ρ as) (Cw ρ as ⟨0⟩ QE):=by
 have(h1,h2):=Ă.mp h;unfold A5;rw[if_pos h1,F5 h2,bd,zt];exact congrArg (Wo _)<|funext λ_=>eW
theorem Ue{us:Qa U}{g:Ar×En->Qb β}{t:Ph ρ}{t2:Ph g}{R:β->Prop}:Cw ρ as t (Co g t2 R) (u,us)=Wo (g (.u u,wb ρ as us)) R:=rfl
theorem Yt:Wo (zY i me ρ) QS=Wo (me ρ) (Co (HU i) ⟨0⟩ QS):=zBd
theorem zqJ{t:Ph (k7 m2)}:Wo (HU i (.u u,ρ)) (Co (k7 m2) t QS)=Wo (Eo m2<|ρ.set i<|some u) QS:=eW
theorem zDr:Wo (mB me ρ) QT=Wo (me ρ) (Co kB ⟨0⟩ QT):=zD2
theorem Ud{c:Bool}{g:Bool×En->Qb β}{t:Ph g}{R:β->Prop}:Wo (kB (.u<|.d<|.bool c,ρ)) (Co g t R)=Wo (g (c,ρ)) R:=eW
theorem Xs:Wo (bw mt m1 m2 ρ) QS=Wo (mt ρ) (Co (DW m1 m2) ⟨0⟩ QS):=zBe
theorem Xr:Wo (DW m1 m2 (true,ρ)) QS=Wo (m1 ρ) QS:=rfl
theorem Xq:Wo (DW m1 m2 (false,ρ)) QS=Wo (m2 ρ) QS:=rfl
theorem zqK:Wo (cD me ρ) QS=Wo (me ρ) (Co EY ⟨0⟩ QS):=VP
theorem znC{t:Ph (k7 m2)}:Wo (EY (a,ρ)) (Co (k7 m2) t QS)=Wo (Eo m2 ρ) QS:=eW
theorem zqL{t:Ph (k7 m2)}:Wo (cy ρ) (Co (k7 m2) t QS)=Wo (Eo m2 ρ) QS:=Oc
theorem zqM{p:Qa Ar×En}:A5 F p=if gP p.2 p.1=true then(bC p.2 p.1).bind λus=>(F us).bind λo=>some (.u o.1,wb p.2 p.1 o.2)else none:=rfl
theorem zqN{p:Ar×En}:HU i p=(put p).bind λq=>some (.nx<|q.2.set i<|some q.1):=rfl
theorem Uc{p:Ar×En}:kB p=(p.1.get p.2).bind λu=>u.vm.bind λb=>some (b,p.2):=rfl
theorem Xp{p:Bool×En}:DW m1 m2 p=if p.1=true then m1 p.2 else m2 p.2:=rfl
theorem znD{p:Ar×En}:EY p=some (.nx p.2):=rfl
end
end L2
namespace K35
open PySem L2
def top(i:Nat):Stmt:=PySem.Challenge.pw_undivide_k35_whole_borders.main.body.getD i (.Pass ⟨0,0,0,0⟩)
abbrev Pc:Stmt:=top 3
abbrev Qt:Stmt:=top 4
abbrev PY:Stmt:=top 5
abbrev OM:Stmt:=top 6
abbrev PX:Stmt:=top 8
abbrev Ou:Stmt:=top 12
abbrev OL:Stmt:=top 13
abbrev Rt:Stmt:=top 14
abbrev Rr:Stmt:=top 15
abbrev Q8:Stmt:=top 16
abbrev QM:Stmt:=top 17
abbrev OK:Stmt:=top 19
abbrev PM:Stmt:=top 21
abbrev QL:Stmt:=top 22
abbrev PV:Stmt:=top 23
abbrev Ot:Stmt:=top 24
abbrev OJ:Stmt:=top 25
abbrev PJ:Stmt:=top 26
abbrev Mj:Stmt:=top 28
abbrev NK:Stmt:=top 29
abbrev Pb:Stmt:=top 31
abbrev PH:Stmt:=top 32
abbrev PU:Stmt:=top 33
abbrev Rg:Stmt:=top 34
abbrev PF:Stmt:=top 35
abbrev Qr:Stmt:=top 36
abbrev Rf:Stmt:=top 37
abbrev Q7:Stmt:=top 38
abbrev Ro:Stmt:=top 39
abbrev QK:Stmt:=top 40
abbrev QH:Stmt:=top 41
abbrev Pa:Stmt:=top 42
abbrev Qq:Stmt:=top 43
abbrev PD:Stmt:=top 44
abbrev O9:Stmt:=top 45
abbrev O8:Stmt:=top 46
abbrev QD:Stmt:=top 47
abbrev Q6:Stmt:=top 48
abbrev QC:Stmt:=top 49
abbrev Qp:Stmt:=top 50
abbrev Rn:Stmt:=top 51
abbrev QB:Stmt:=top 52
abbrev Qo:Stmt:=top 53
abbrev Kt:Stmt:=top 54
def Rw:Qa (Str×Qa Str):=[]
abbrev RV:Qa Str:=[]
def zBF:Stmt->Stmt
 | .ClassDef _ _ _ (b::_) _ _ _ _ _ _ _=>b
 | s=>s
abbrev yh:Stmt:=zBF (top 11)
theorem Xo:bV ["self", "numbers", "beneath", "room"] ["self", "numbers", "beneath", "room"] (fU yh):=⟨rfl,rfl,rfl,by decide +kernel,rfl,by decide +kernel,by decide +kernel⟩
section
variable{base:Heap}{f:Qg}
end
section
def Bs(Z:Zs):Prop:=Bl Z.mg ["isinstance", "int", "bool", "tuple", "len", "abs", "zip", "max", "sorted", "enumerate", "range", "dict", "list", "all"]/\XT Z.K Rw RV/\(∃ T,Z.mg "ROOM"=some (.int 256 T))/\(∃ G,Z.mg "NOUGHT"=some (.ref G)/\nZ Z.K G [0,1])/\(∃ G,Z.mg "ONE"=some (.ref G)/\nZ Z.K G [1,1])/\(∃ C,vp Z.P Z.w Z.K Z.mg Z.base "Form" C ["numbers", "beneath", "room"])
variable{Z:Zs}
def O7:MS:=(bg<|tR (b9 (iI "int")<|zi 0)<|xJ<|b9 (iI "bool")<|zi 0)
def wH:FD:=bE 1 [0] O7
abbrev HA(Z:Zs):Prop:=Z.C "is_number" 1 ["thing"] 1 wH
theorem znF(B:Bs Z)(A:bR Z "is_number" Pc):HA Z :=
 have hB:=B.1; bX A ["thing"] λnd hr=>⟨_,(bo<|BL (oQ (T := "int") zd)<|LU<|oQ (T := "bool") zd),
 (zE<|zS<|Bz (bz oK É<|ae aa<|ae (oZ (v:=.ty "int") í rfl) zj)<|BA<|w_not<|bz oK É<|ae aa<|ae (oZ (v:=.ty "bool") PyProof.Rows.boot_bool rfl) zj)⟩
def Qs:MS:=(zB (t8 (Bh<|zi 1)<|vG 0 1<|zf (zi 1)<|zf (af jh (zi 0)<|zi 1) zq)
  (bg<|zi 0))
def pB:FD:=bE 2 [] Qs
abbrev yA(Z:Zs):Prop:=Z.C "common_factor" 1 ["one", "other"] 2 pB
theorem zil(B:Bs Z)(A:bR Z "common_factor" Qt):yA Z :=
 have hB:=B.1; bX A ["one", "other"] λnd hr=>⟨_,(zr (MQ (zAE zd)<|Fu<|ze zd<|ze (zo lF zd zd) zk)
 (bo zd)),
 (aD (Mw (zCn aa)<|zE<|Fi<|ae aa<|ae (zO lD aa aa) zj)
 (zE<|zS aa))⟩
def Qn:MS:=(bg<|ba (f1 ni)<|zf (kS (AY<|zf (zi 0)<|zf (zi 1) zq) 2 [] (fM 2<|cn (zC 0)<|cn (zC 1) f7) mU<|af dz (zi 0)<|zi 1) zq)
def Dj:FD:=bE 2 [0,1] Qn
abbrev Qm(Z:Zs):Prop:=Z.C "powers_plus" 1 ["one", "other"] 2 Dj
theorem zka(B:Bs Z)(A:bR Z "powers_plus" PX):Qm Z :=
 have hB:=B.1; bX A ["one", "other"] λnd hr=>⟨_,(bo<|bh uq<|ze (tz (LC<|ze zd<|ze zd zk) (hJ<|zV zv<|zV zv hU) tW<|zo dU zd zd) zk),
 (zE<|zS<|ji um È<|ae (vA (LD<|ae aa<|ae aa zj) (hV<|cA zu<|cA zu hW) t4<|zO dX aa aa) zj)⟩
def O6:MS:=(zB (zY 2<|af dz (af iL (mC<|.int 7919)<|zi 1)<|mC<|.int 11)
  (zB (bw (mB<|af iG (zi 1)<|ba (f1 cx)<|zf (zi 0) zq) (zY 2<|af aU (zi 0)<|zi 1)<|bw (mB<|af AG (ba (f1 cx)<|zf (zi 0) zq)<|mC<|.int 0) (zY 2<|af dz (zi 2)<|af iL (af jh (af aU (zi 0)<|af jh (zi 1)<|ba (f1 cx)<|zf (zi 0) zq)<|mC<|.int 2147483629)<|mC<|.int 69623) cy)
  (zB (zY 3<|af dz (af jh (af dz (af iL (af jh (zi 2)<|mC<|.int 2147483629)<|mC<|.int 48271)<|af iL (mC<|.int 40692)<|zi 1)<|mC<|.int 2147483629)<|mC<|.int 1)
  (bg<|fL<|zf (af iL (zi 2)<|ba (f1 vR)<|zf (af Ec (zi 2)<|af Bj (mC<|.int 10)<|mC<|.int 18) zq)<|zf (zi 3) zq))))
def CV:FD:=bE 4 [0,1] O6
abbrev O5(Z:Zs):Prop:=Z.C "_law_box" 1 ["_law_script", "_law_k"] 2 CV
theorem znG(B:Bs Z)(A:bR Z "_law_box" Pb):O5 Z :=
 have hB:=B.1; bX A ["_law_script", "_law_k", "_law_cell", "_law_seed"] λnd hr=>⟨_,(zr (zJ<|zo dU (zo lH zm zd) zm)
 (zr (xY<|bL (zw<|zo jq zd<|bh cO<|ze zd zk) (zJ<|zo zH zd zd)<|bL (zw<|zo Fh (bh cO<|ze zd zk) zm) (zJ<|zo dU zd<|zo lH (zo lF (zo zH zd<|zo lF zd<|bh cO<|ze zd zk) zm) zm) cX)
 (zr (zJ<|zo dU (zo lF (zo dU (zo lH (zo lF zd zm) zm)<|zo lH zm zd) zm) zm)
 (bo<|gy<|ze (zo lH zd<|bh Gg<|ze (zo Ky zd<|zo zAz zm zm) zk)<|ze zd zk)))),
 (aD (zL<|zO dX (zO lE zn aa) zn)
 (aD (xV<|bM (zK jr aa<|bz cQ Ã<|ae aa zj) (zE<|zL<|zF zQ aa aa)<|zE<|bM (zK E8 (bz cQ Ã<|ae aa zj) zn) (zE<|zL<|zO dX aa<|zO lE (zO lD (zF zQ aa<|zO lD aa<|bz cQ Ã<|ae aa zj) zn) zn) cY)
 (aD (zL<|zO dX (zO lD (zO dX (zO lE (zO lD aa zn) zn)<|zO lE zn aa) zn) zn)
 (zE<|zS<|gz<|ae (zO lE aa<|ji Hh í<|ae (xM KZ aa<|zO UN zn zn) zj)<|ae aa zj))))⟩
def Pz:MS:=(zB (bw (mB<|af AG (af aU (zi 0)<|mC<|.int 0)<|mC<|.int 0) (zB (zY 2<|af jh (af aU (zi 0)<|mC<|.int 0)<|zi 1)
  (zB (t7 0 (af tS (af aU (zi 0)<|mC<|.int 0)<|zi 1)<|mC<|.int 0)
  (bg<|zi 2))) cy)
  (zB (zY 3<|af jh (af iL (af aU (zi 0)<|mC<|.int 1)<|mC<|.int 69623)<|mC<|.int 2147483647)
  (zB (t7 0 (af dz (af jh (af dz (af iL (zi 3)<|mC<|.int 48271)<|mC<|.int 30103)<|mC<|.int 2147483629)<|mC<|.int 1)<|mC<|.int 1)
  (bg<|af jh (af tS (af dz (af iL (zi 3)<|mC<|.int 2147483647)<|af aU (zi 0)<|mC<|.int 1)<|mC<|.int 8191)<|zi 1))))
def zx:FD:=bE 4 [0,1] Pz
abbrev rS(Z:Zs):Prop:=Z.C "_law_take" 1 ["_law_box_here", "_law_wide"] 2 zx
theorem zl2(B:Bs Z)(A:bR Z "_law_take" PH):rS Z :=
 have hB:=B.1; bX A ["_law_box_here", "_law_wide", "_law_digit", "_law_one"] λnd hr=>⟨_,(zr (bL (zw<|zo Fh (zo zH zd zm) zm) (zr (zJ<|zo lF (zo zH zd zm) zd)
 (zr (Gd (zo B9 (zo zH zd zm) zd) zm)
 (bo zd))) cX)
 (zr (zJ<|zo lF (zo lH (zo zH zd zm) zm) zm)
 (zr (Gd (zo dU (zo lF (zo dU (zo lH zd zm) zm) zm) zm) zm)
 (bo<|zo lF (zo B9 (zo dU (zo lH zd zm)<|zo zH zd zm) zm) zd)))),
 (aD (bM (zK E8 (zF zQ aa zn) zn) (aD (zL<|zO lD (zF zQ aa zn) aa)
 (aD (rl (zO Cz (zF zQ aa zn) aa)<|FK aa zn G6)
 (zE<|zS aa))) cY)
 (aD (zL<|zO lD (zO lE (zF zQ aa zn) zn) zn)
 (aD (rl (zO dX (zO lD (zO dX (zO lE aa zn) zn) zn) zn)<|FK aa zn G6)
 (zE<|zS<|zO lD (zO Cz (zO dX (zO lE aa zn)<|zF zQ aa zn) zn) aa))))⟩
def Rc:MS:=(zB (zY 2<|ba (f1 qO)<|zf (zi 0) zq)
  (zB (zY 3<|ba (f1 qO)<|zf (zi 1) zq)
  (zB (t8 (mB<|af (bO true) (zi 3)<|mC<|.int 0)<|vG 2 3<|zf (zi 3)<|zf (af jh (zi 2)<|zi 3) zq)
  (zB (bw (mB<|af iG (zi 1)<|mC<|.int 0) (zY 2<|af lB (mC<|.int 0)<|zi 2) cy)
  (bg<|cM<|zf (af rh (zi 0)<|zi 2)<|zf (af rh (zi 1)<|zi 2) zq)))))
def uA:FD:=bE 4 [0,1] Rc
abbrev Dr(Z:Zs):Prop:=Z.C "_law_fraction" 1 ["_law_n", "_law_d"] 2 uA
theorem zhx(B:Bs Z)(A:bR Z "_law_fraction" Rg):Dr Z :=
 have hB:=B.1; bX A ["_law_n", "_law_d", "_law_one", "_law_two"] λnd hr=>⟨_,(zr (zJ<|bh xZ<|ze zd zk)
 (zr (zJ<|bh xZ<|ze zd zk)
 (zr (MQ (zw<|zo rG zd zm)<|Fu<|ze zd<|ze (zo lF zd zd) zk)
 (zr (xY<|bL (zw<|zo jq zd zm) (zJ<|zo oX zm zd) cX)
 (bo<|dB<|ze (zo wo zd zd)<|ze (zo wo zd zd) zk))))),
 (aD (zL<|bz yo î<|ae aa zj)
 (aD (zL<|bz yo î<|ae aa zj)
 (aD (Mw (zK rC aa zn)<|zE<|Fi<|ae aa<|ae (zO lD aa aa) zj)
 (aD (xV<|bM (zK jr aa zn) (zE<|zL<|zO pd zn aa) cY)
 (zE<|zS<|dC<|ae (zO wA aa aa)<|ae (zO wA aa aa) zj)))))⟩
def Rm:MS:=(bg<|xP (af rF (af rF (af oO (cM<|zf (mC<|.int 0) zq)<|zi 1)<|cM<|zf (mC<|.int 1) zq)<|af oO (cM<|zf (mC<|.int 0) zq)<|af lB (af lB (zi 0)<|zi 1)<|mC<|.int 1)<|cM<|zf (mC<|.int 1)<|zf (mC<|.int 1) zq)
def DE:FD:=bE 2 [0,1] Rm
abbrev Rl(Z:Zs):Prop:=Z.C "_law_poly_letter" 1 ["_law_many", "_law_k"] 2 DE
theorem zfo(B:Bs Z)(A:bR Z "_law_poly_letter" Ro):Rl Z :=
 have hB:=B.1; bX A ["_law_many", "_law_k"] λnd hr=>⟨_,(bo<|Gu (zo CF (zo CF (zo yi (dB<|ze zm zk) zd)<|dB<|ze zm zk)<|zo yi (dB<|ze zm zk)<|zo oX (zo oX zd zd) zm)<|dB<|ze zm<|ze zm zk),
 (zE<|zS<|Gv hr (zO CG (zO CG (zO (yj _ rfl) (dC<|ae zn zj) aa)<|dC<|ae zn zj)<|zO (yj _ rfl) (dC<|ae zn zj)<|zO pd (zO pd aa aa) zn)<|dC<|ae zn<|ae zn zj)⟩
def Hz:MS:=(zB (zY 1<|fL zq)
  (zB (tM 0 (zC 2)<|bw (mB<|af (bO false) (af aS (zi 2)<|mC<|.int 0)<|mC<|.str "letter") (cD<|cB 1<|mC<|.int 1)<|bw (mB<|af (bO false) (af aS (zi 2)<|mC<|.int 0)<|mC<|.str "mix") (cD<|cB 1<|af aU (zi 1)<|af aS (af aS (af aS (zi 2)<|mC<|.int 1)<|mC<|.int 0)<|mC<|.int 1)<|cD<|cB 1<|af dz (af aU (zi 1)<|af aS (zi 2)<|mC<|.int 1)<|af aU (zi 1)<|af aS (zi 2)<|mC<|.int 2)
  (jo [0] 1)))
def pE:FD:=bE 3 [0] Hz
abbrev Dm(Z:Zs):Prop:=Z.C "_law_high" 1 ["_law_nodes_here"] 1 pE
theorem zl3(B:Bs Z)(A:bR Z "_law_high" PD):Dm Z :=
 have hB:=B.1; bX A ["_law_nodes_here", "_law_found", "_law_node"] λnd hr=>⟨_,(zr (zJ<|gy zk)
 (zr (zBr (by decide) zv<|bL (zw<|zo eA (zo zI zd zm) cP) (dZ<|d0 zm)<|bL (zw<|zo eA (zo zI zd zm) cP) (dZ<|d0<|zo zH zd<|zo zI (zo zI (zo zI zd zm) zm) zm)<|dZ<|d0<|zo dU (zo zH zd<|zo zI zd zm)<|zo zH zd<|zo zI zd zm)
 oW)),
 (aD (zL<|gz zj)
 (aD (dJ (zBl _ rfl aa) zu<|zE<|bM (zK eB (zF zR aa zn) cR) (zE<|dW<|dF _ rfl Â À Á zN aa<|ae zn zj)<|zE<|bM (zK eB (zF zR aa zn) cR) (zE<|dW<|dF _ rfl Â À Á zN aa<|ae (zF zQ aa<|zF zR (zF zR (zF zR aa zn) zn) zn) zj)<|zE<|dW<|dF _ rfl Â À Á zN aa<|ae (zO dX (zF zQ aa<|zF zR aa zn)<|zF zQ aa<|zF zR aa zn) zj)
 (zE<|zS aa)))⟩
def Qz:MS:=(bg<|kS (jn<|zf (ba (f1 cx)<|zf (zi 0) zq) zq) 1 [0,2,1] (zC 0) (om (mB<|af (bO false) (af aS (af aS (zi 1)<|zi 0)<|mC<|.int 0)<|mC<|.str "times")<|mB<|tV nU iG (af aU (zi 3)<|af aS (af aS (zi 1)<|zi 0)<|mC<|.int 1) (zi 2)<|af aU (zi 3)<|zi 0)<|zi 0)
def DB:FD:=bE 3 [0,1,2] Qz
abbrev Qy(Z:Zs):Prop:=Z.C "_law_border" 1 ["_law_nodes_here", "_law_high_here", "_law_m"] 3 DB
theorem zjx(B:Bs Z)(A:bR Z "_law_border" QC):Qy Z :=
 have hB:=B.1; bX A ["_law_nodes_here", "_law_high_here", "_law_m"] λnd hr=>⟨_,(bo<|tz (lK<|ze (bh cO<|ze zd zk) zk) zv (v5 (zw<|zo eA (zo zI (zo zI zd zd) zm) cP)<|zw<|B3 rg jq (zo zH zd<|zo zI (zo zI zd zd) zm) zd<|zo zH zd zd) zd),
 (zE<|zS<|vA (lJ<|ae (bz cQ Ã<|ae aa zj) zj) zu (BN<|gu<|wa (zK eB (zF zR (zF zR aa aa) zn) cR)<|wq<|GS rB jr (zF zQ aa<|zF zR (zF zR aa aa) zn) aa<|zF zQ aa aa) aa)⟩
def Ql:MS:=(bg<|tR (b9 (iI "int")<|zi 0)<|xJ<|b9 (iI "bool")<|zi 0)
def Di:FD:=bE 1 [0] Ql
abbrev Qk(Z:Zs):Prop:=Z.C "_law_whole" 1 ["_law_found"] 1 Di
theorem zkb(B:Bs Z)(A:bR Z "_law_whole" Qp):Qk Z :=
 have hB:=B.1; bX A ["_law_found"] λnd hr=>⟨_,(bo<|BL (oQ (T := "int") zd)<|LU<|oQ (T := "bool") zd),
 (zE<|zS<|Bz (bz oK É<|ae aa<|ae (oZ (v:=.ty "int") í rfl) zj)<|BA<|w_not<|bz oK É<|ae aa<|ae (oZ (v:=.ty "bool") PyProof.Rows.boot_bool rfl) zj)⟩
def Qj:MS:=(zB (bw (gc (iw<|mB<|b9 (iI "tuple")<|zi 0)<|mB<|af (bO true) (ba (f1 cx)<|zf (zi 0) zq)<|mC<|.int 2) (bg<|mC<|.bool false) cy)
  (zB (oh (zi 0)<|fM 2<|cn (zC 1)<|cn (zC 2) f7)
  (zB (bw (gc (iw<|mB<|zP wH<|zf (zi 1) zq)<|iw<|mB<|zP wH<|zf (zi 2) zq) (bg<|mC<|.bool false) cy)
  (bg<|tR (af Ec (zi 2)<|mC<|.int 1)<|af (bO false) (zP pB<|zf (ba (f1 qO)<|zf (zi 1) zq)<|zf (zi 2) zq)<|mC<|.int 1))))
def Dh:FD:=bE 3 [0] Qj
abbrev Qi(Z:Zs):Prop:=Z.C "is_fraction" 2 ["thing"] 1 Dh
theorem zkc(B:Bs Z)(A:bR Z "is_fraction" PY)(c0:HA Z)(c1:yA Z):Qi Z :=
 have hB:=B.1; bX A ["thing", "above", "beneath"] λnd hr=>⟨_,(zr (bL (g7 (jW<|gY<|oQ (T := "tuple") zd)<|zw<|zo rG (bh cO<|ze zd zk) zm) (bo qP) cX)
 (zr (xI zd<|hJ<|zV zv<|zV zv hU)
 (zr (bL (g7 (jW<|gY<|zA 1<|ze zd zk)<|jW<|gY<|zA 1<|ze zd zk) (bo qP) cX)
 (bo<|BL (zo Ky zd zm)<|zo eA (zA 2<|ze (bh xZ<|ze zd zk)<|ze zd zk) zm)))),
 (aD (bM (gu<|g8 (jX<|jt<|bz oK É<|ae aa<|ae (oZ (v:=.ty "tuple") È rfl) zj)<|jY<|zK rC (bz cQ Ã<|ae aa zj) zn) (zE<|zS qU) cY)
 (aD (rl aa<|hV<|cA zu<|cA zu hW)
 (aD (bM (gu<|g8 (jX<|jt<|zz<|ae aa zj)<|jY<|jX<|jt<|zz<|ae aa zj) (zE<|zS qU) cY)
 (zE<|zS<|Bz (xM KZ aa zn)<|BA<|xM eB (zz<|ae (bz yo î<|ae aa zj)<|ae aa zj) zn))))⟩
def OI:MS:=(zB (bw (mB<|af iG (zi 1)<|mC<|.int 0) (vG 0 1<|zf (b9 mX<|zi 0)<|zf (b9 mX<|zi 1) zq) cy)
  (zB (zY 2<|zP pB<|zf (ba (f1 qO)<|zf (zi 0) zq)<|zf (zi 1) zq)
  (bg<|cM<|zf (af tS (zi 0)<|zi 2)<|zf (af tS (zi 1)<|zi 2) zq)))
def CQ:FD:=bE 3 [] OI
abbrev OH(Z:Zs):Prop:=Z.C "fraction" 2 ["n", "d"] 2 CQ
theorem zpa(B:Bs Z)(A:bR Z "fraction" OM)(c0:yA Z):OH Z :=
 have hB:=B.1; bX A ["n", "d", "factor"] λnd hr=>⟨_,(zr (xY<|bL (zw<|zo jq zd zm) (Fu<|ze (fu ua zd)<|ze (fu ua zd) zk) cX)
 (zr (zJ<|zA 2<|ze (bh xZ<|ze zd zk)<|ze zd zk)
 (bo<|dB<|ze (zo B9 zd zd)<|ze (zo B9 zd zd) zk))),
 (aD (xV<|bM (zK jr aa zn) (zE<|Fi<|ae (tD t5 aa)<|ae (tD t5 aa) zj) cY)
 (aD (zL<|zz<|ae (bz yo î<|ae aa zj)<|ae aa zj)
 (zE<|zS<|dC<|ae (zO Cz aa aa)<|ae (zO Cz aa aa) zj)))⟩
def OR:MS:=(bg<|tR (zP wH<|zf (zi 0) zq)<|tV nU iG (mC<|.int 0) (zi 0)<|zi 1)
def ur:FD:=bE 2 [0,1] OR
abbrev CP(Z:Zs):Prop:=Z.C "is_place" 2 ["thing", "many"] 2 ur
theorem zpb(B:Bs Z)(A:bR Z "is_place" OK)(c0:HA Z):CP Z :=
 have hB:=B.1; bX A ["thing", "many"] λnd hr=>⟨_,(bo<|BL (zA 1<|ze zd zk)<|B3 rg jq zm zd zd),
 (zE<|zS<|Bz (zz<|ae aa zj)<|BA<|W7 rB jr zn aa aa)⟩
def P9:MS:=(zB (zY 2<|mC<|.str "abcdefghijklmnopqrstuvwxyz")
  (zB (zY 3<|kS (jn<|zf (af dz (mC<|.int 1)<|zP zx<|zf (zi 0)<|zf (mC<|.int 4) zq) zq) 1 [0,2] (zC 0) mU<|af tK (zi 2)<|zP zx<|zf (zi 1)<|zf (mC<|.int 26) zq)
  (zB (zY 4<|zP zx<|zf (zi 0)<|zf (ba (f1 cx)<|zf (zi 3) zq) zq)
  (zB (zY 5<|zP zx<|zf (zi 0)<|zf (mC<|.int 26) zq)
  (zB (zY 6<|fL zq)
  (zB (cW (jn<|zf (zi 1) zq) (zC 7) (zB (zY 8<|af tK (zi 2)<|af jh (af dz (zi 5)<|af iL (mC<|.int 7)<|zi 7)<|mC<|.int 26)
  (zB (zY 9<|af oR (af oR (DR yH vN (mC<|.str "")<|uL vF (zi 3) wk<|qZ<|zi 4)<|zi 8)<|DR yH vN (mC<|.str "")<|uL vF (zi 3) (qZ<|af dz (zi 4)<|mC<|.int 1) wk)
  (zB (zY 9<|af oR (zi 9)<|af xO (mC<|.str "q")<|zP zx<|zf (zi 0)<|zf (mC<|.int 2) zq)
  (zB (bw (gc (mB<|af (sR false) (zi 9)<|zi 6)<|mB<|af (sR false) (zi 9)<|cM<|zf (mC<|.str "part")<|zf (mC<|.str "end")<|zf (mC<|.str "give")<|zf (mC<|.str "rounds")<|zf (mC<|.str "letters") zq) (zY 9<|af oR (mC<|.str "zz")<|af tK (zi 2)<|zi 7) cy)
  (cD<|cB 6<|zi 9))))))
  (zB (bw (mB<|af (bO false) (zP zx<|zf (zi 0)<|zf (mC<|.int 5) zq)<|mC<|.int 0) (zB (zY 10<|af aU (fL<|zf (mC<|.str "ends")<|zf (mC<|.str "pa")<|zf (mC<|.str "gives")<|zf (mC<|.str "giv")<|zf (mC<|.str "x")<|zf (mC<|.str "y")<|zf (mC<|.str "r")<|zf (mC<|.str "rk") zq)<|zP zx<|zf (zi 0)<|zf (mC<|.int 8) zq)
  (bw (mB<|af (sR true) (zi 10)<|zi 6) (t7 6 (zi 10)<|zP zx<|zf (zi 0)<|zf (zi 1) zq) cy)) cy)
  (bg<|ba (f1 ni)<|zf (zi 6) zq))))))))
def Dg:FD:=bE 11 [0,1] P9
abbrev P8(Z:Zs):Prop:=Z.C "_law_names" 2 ["_law_box_here", "_law_many"] 2 Dg
theorem zkd(B:Bs Z)(A:bR Z "_law_names" PU)(c0:rS Z):P8 Z :=
 have hB:=B.1; bX A ["_law_box_here", "_law_many", "_law_alphabet", "_law_signs", "_law_spot", "_law_first", "_law_found", "_law_k", "_law_one", "_law_name", "_law_odd"] λnd hr=>⟨_,(zr (zJ cP)
 (zr (zJ<|tz (lK<|ze (zo dU zm<|zA 2<|ze zd<|ze zm zk) zk) zv tW<|zo F0 zd<|zA 2<|ze zd<|ze zm zk)
 (zr (zJ<|zA 2<|ze zd<|ze (bh cO<|ze zd zk) zk)
 (zr (zJ<|zA 2<|ze zd<|ze zm zk)
 (zr (zJ<|gy zk)
 (zr (dI (lK<|ze zd zk) zv (zr (zJ<|zo F0 zd<|zo lF (zo dU zd<|zo lH zm zd) zm)
 (zr (zJ<|zo B4 (zo B4 (RQ Lw M8 cP<|Bf GD zd GF<|ym zd) zd)<|RQ Lw M8 cP<|Bf GD zd (ym<|zo dU zd zm) GF)
 (zr (zJ<|zo B4 zd<|zo VV cP<|zA 2<|ze zd<|ze zm zk)
 (zr (xY<|bL (g7 (zw<|zo (EZ false) zd zd)<|zw<|zo (EZ false) zd<|dB<|ze cP<|ze cP<|ze cP<|ze cP<|ze cP zk) (zJ<|zo B4 cP<|zo F0 zd zd) cX)
 (dZ<|d0 zd))))))
 (zr (xY<|bL (zw<|zo eA (zA 2<|ze zd<|ze zm zk) zm) (zr (zJ<|zo zH (gy<|ze cP<|ze cP<|ze cP<|ze cP<|ze cP<|ze cP<|ze cP<|ze cP zk)<|zA 2<|ze zd<|ze zm zk)
 (bL (zw<|zo (EZ true) zd zd) (Gd zd<|zA 2<|ze zd<|ze zd zk) cX)) cX)
 (bo<|bh uq<|ze zd zk)))))))),
 (aD (zL cR)
 (aD (KE (lJ<|ae (zO dX zn<|zz<|ae aa<|ae zn zj) zj) zu t4<|zF FR aa<|zz<|ae aa<|ae zn zj)
 (aD (zL<|zz<|ae aa<|ae (bz cQ Ã<|ae aa zj) zj)
 (aD (zL<|zz<|ae aa<|ae zn zj)
 (aD (zL<|gz zj)
 (aD (dJ (lJ<|ae aa zj) zu (aD (zL<|zF FR aa<|zO lD (zO dX aa<|zO lE zn aa) zn)
 (aD (zL<|zO Dc (zO Dc (dF _ rfl PySem.F.plainAttrs_str PySem.F.slot_str_join PySem.F.type_str_join (MZ _ rfl) cR<|ae (Ca Fj aa Gk<|ye aa) zj) aa)<|dF _ rfl PySem.F.plainAttrs_str PySem.F.slot_str_join PySem.F.type_str_join (MZ _ rfl) cR<|ae (Ca Fj aa (ye<|zO dX aa zn) Gk) zj)
 (aD (zL<|zO Dc aa<|zO zol cR<|zz<|ae aa<|ae zn zj)
 (aD (xV<|bM (gu<|g8 (zK RJ aa aa rfl)<|jY<|zK RJ aa (dC<|ae cR<|ae cR<|ae cR<|ae cR<|ae cR zj) rfl) (zE<|zL<|zO Dc cR<|zF FR aa aa) cY)
 (zE<|dW<|dF _ rfl Â À Á zN aa<|ae aa zj))))))
 (aD (xV<|bM (zK eB (zz<|ae aa<|ae zn zj) zn) (aD (zL<|zF zQ (gz<|ae cR<|ae cR<|ae cR<|ae cR<|ae cR<|ae cR<|ae cR<|ae cR zj)<|zz<|ae aa<|ae zn zj)
 (zE<|bM (zK W6 aa aa rfl) (zE<|rl aa<|FK aa (zz<|ae aa<|ae aa zj) G6) cY)) cY)
 (zE<|zS<|ji um È<|ae aa zj))))))))⟩
def Py:MS:=(bg<|zP uA<|zf (af dz (af iO (af aS (zi 0)<|mC<|.int 0)<|af aS (zi 1)<|mC<|.int 1)<|af iO (af aS (zi 1)<|mC<|.int 0)<|af aS (zi 0)<|mC<|.int 1)<|zf (af iO (af aS (zi 0)<|mC<|.int 1)<|af aS (zi 1)<|mC<|.int 1) zq)
def yC:FD:=bE 2 [0,1] Py
abbrev Hy(Z:Zs):Prop:=Z.C "_law_plus" 2 ["_law_one", "_law_other"] 2 yC
theorem zl4(B:Bs Z)(A:bR Z "_law_plus" PF)(c0:Dr Z):Hy Z :=
 have hB:=B.1; bX A ["_law_one", "_law_other"] λnd hr=>⟨_,(bo<|zA 2<|ze (zo dU (zo jZ (zo zI zd zm)<|zo zI zd zm)<|zo jZ (zo zI zd zm)<|zo zI zd zm)<|ze (zo jZ (zo zI zd zm)<|zo zI zd zm) zk),
 (zE<|zS<|zz<|ae (zO dX (zO j0 (zF zR aa zn)<|zF zR aa zn)<|zO j0 (zF zR aa zn)<|zF zR aa zn)<|ae (zO j0 (zF zR aa zn)<|zF zR aa zn) zj)⟩
def P7:MS:=(bg<|zP uA<|zf (af iO (af aS (zi 0)<|mC<|.int 0)<|af aS (zi 1)<|mC<|.int 0)<|zf (af iO (af aS (zi 0)<|mC<|.int 1)<|af aS (zi 1)<|mC<|.int 1) zq)
def yB:FD:=bE 2 [0,1] P7
abbrev HF(Z:Zs):Prop:=Z.C "_law_times" 2 ["_law_one", "_law_other"] 2 yB
theorem zke(B:Bs Z)(A:bR Z "_law_times" Qr)(c0:Dr Z):HF Z :=
 have hB:=B.1; bX A ["_law_one", "_law_other"] λnd hr=>⟨_,(bo<|zA 2<|ze (zo jZ (zo zI zd zm)<|zo zI zd zm)<|ze (zo jZ (zo zI zd zm)<|zo zI zd zm) zk),
 (zE<|zS<|zz<|ae (zO j0 (zF zR aa zn)<|zF zR aa zn)<|ae (zO j0 (zF zR aa zn)<|zF zR aa zn) zj)⟩
def Qx:MS:=(zB (zY 1<|zP zx<|zf (zi 0)<|zf (mC<|.int 12) zq)
  (zB (bw (mB<|af iG (zi 1)<|mC<|.int 7) (bg<|af aU (fL<|zf (cM<|zf (mC<|.int 0)<|zf (mC<|.int 1) zq)<|zf (cM<|zf (mC<|.int 1)<|zf (mC<|.int 1) zq)<|zf (cM<|zf (mC<|.int 1)<|zf (mC<|.int 1) zq)<|zf (cM<|zf (b9 mX<|mC<|.int 1)<|zf (mC<|.int 1) zq)<|zf (cM<|zf (mC<|.int 2)<|zf (mC<|.int 1) zq)<|zf (cM<|zf (mC<|.int 1)<|zf (mC<|.int 2) zq)<|zf (cM<|zf (b9 mX<|mC<|.int 2)<|zf (mC<|.int 3) zq) zq)<|zi 1) cy)
  (zB (bw (mB<|af iG (zi 1)<|mC<|.int 11) (bg<|zP uA<|zf (af lB (zP zx<|zf (zi 0)<|zf (mC<|.int 19) zq)<|mC<|.int 9)<|zf (af dz (mC<|.int 1)<|zP zx<|zf (zi 0)<|zf (mC<|.int 4) zq) zq) cy)
  (bg<|zP uA<|zf (af lB (zP zx<|zf (zi 0)<|zf (mC<|.int 1999999) zq)<|mC<|.int 999999)<|zf (af dz (mC<|.int 1)<|zP zx<|zf (zi 0)<|zf (mC<|.int 4) zq) zq))))
def yz:FD:=bE 2 [0] Qx
abbrev HH(Z:Zs):Prop:=Z.C "_law_number" 2 ["_law_box_here"] 1 yz
theorem zjB(B:Bs Z)(A:bR Z "_law_number" QK)(c0:rS Z)(c1:Dr Z):HH Z :=
 have hB:=B.1; bX A ["_law_box_here", "_law_kind"] λnd hr=>⟨_,(zr (zJ<|zA 2<|ze zd<|ze zm zk)
 (zr (bL (zw<|zo jq zd zm) (bo<|zo zH (gy<|ze (dB<|ze zm<|ze zm zk)<|ze (dB<|ze zm<|ze zm zk)<|ze (dB<|ze zm<|ze zm zk)<|ze (dB<|ze (fu ua zm)<|ze zm zk)<|ze (dB<|ze zm<|ze zm zk)<|ze (dB<|ze zm<|ze zm zk)<|ze (dB<|ze (fu ua zm)<|ze zm zk) zk) zd) cX)
 (zr (bL (zw<|zo jq zd zm) (bo<|zA 2<|ze (zo oX (zA 2<|ze zd<|ze zm zk) zm)<|ze (zo dU zm<|zA 2<|ze zd<|ze zm zk) zk) cX)
 (bo<|zA 2<|ze (zo oX (zA 2<|ze zd<|ze zm zk) zm)<|ze (zo dU zm<|zA 2<|ze zd<|ze zm zk) zk)))),
 (aD (zL<|zz<|ae aa<|ae zn zj)
 (aD (bM (zK jr aa zn) (zE<|zS<|zF zQ (gz<|ae (dC<|ae zn<|ae zn zj)<|ae (dC<|ae zn<|ae zn zj)<|ae (dC<|ae zn<|ae zn zj)<|ae (dC<|ae (tD t5 zn)<|ae zn zj)<|ae (dC<|ae zn<|ae zn zj)<|ae (dC<|ae zn<|ae zn zj)<|ae (dC<|ae (tD t5 zn)<|ae zn zj) zj) aa) cY)
 (aD (bM (zK jr aa zn) (zE<|zS<|zz<|ae (zO pd (zz<|ae aa<|ae zn zj) zn)<|ae (zO dX zn<|zz<|ae aa<|ae zn zj) zj) cY)
 (zE<|zS<|zz<|ae (zO pd (zz<|ae aa<|ae zn zj) zn)<|ae (zO dX zn<|zz<|ae aa<|ae zn zj) zj))))⟩
def Oq:MS:=(zB (zY 3<|wV (de nh<|dN<|zi 0) 2 [] (fM 2<|cn (zC 0)<|cn (zC 1) f7) (mB<|af (bO true) (zi 1)<|mC<|.int 0) (zi 0)<|zi 1)
  (zB (bw (om (xA<|zi 3)<|mB<|af nU (b9 xB<|zi 1)<|zi 2) (bg<|vE "Form" ["numbers", "beneath", "room"]<|zf (dN<|zi 3)<|zf (zi 1)<|zf (zi 2) zq) cy)
  (zB (zY 4<|zi 1)
  (zB (cW (de Bu<|dN<|zi 3) (zC 5)<|zY 4<|zP pB<|zf (zi 4)<|zf (ba (f1 qO)<|zf (zi 5) zq) zq)
  (zB (zY 6<|wV (de nh<|dN<|zi 3) 2 [4] (fM 2<|cn (zC 0)<|cn (zC 1) f7) mU (zi 0)<|af rh (zi 1)<|zi 2)
  (zB (zY 1<|af rh (zi 1)<|zi 4)
  (bg<|vE "Form" ["numbers", "beneath", "room"]<|zf (dN<|zi 6)<|zf (zi 1)<|zf (ba vQ<|zf (mC<|.int 256)<|zf (af iO (mC<|.int 2)<|b9 xB<|zi 1) zq) zq)))))))
def wD:FD:=bE 7 [0,2] Oq
abbrev CL(Z:Zs):Prop:=Z.C "settled" 3 ["numbers", "beneath", "room"] 3 wD
theorem zr0(B:Bs Z)(A:bR Z "settled" Ou)(c0:yA Z):CL Z :=
 by obtain⟨hB,_,⟨jM,dD⟩,_,_,⟨bA,aj⟩⟩:=B; exact bX A ["numbers", "beneath", "room", "kept", "factor", "many", "lowest"] λnd hr=>⟨_,(zr (zJ<|HL (uo<|eL zd) (hJ<|zV zv<|zV zv hU) (zw<|zo rG zd zm) zd zd)
 (zr (bL (v5 (Wg zd)<|zw<|zo rg (Lq zd) zd) (bo<|EV aj.xn<|ze (eL zd)<|ze zd<|ze zd zk) cX)
 (zr (zJ zd)
 (zr (dI (Wi<|eL zd) zv<|zJ<|zA 2<|ze zd<|ze (bh xZ<|ze zd zk) zk)
 (zr (zJ<|HL (uo<|eL zd) (hJ<|zV zv<|zV zv hU) tW zd<|zo wo zd zd)
 (zr (zJ<|zo wo zd zd)
 (bo<|EV aj.xn<|ze (eL zd)<|ze zd<|ze (bh Gf<|ze zm<|ze (zo jZ zm<|Lq zd) zk) zk))))))),
 (aD (EN hr (ud<|eI aa) (hV<|cA zu<|cA zu hW) (BN<|zK rC aa zn) aa aa)
 (aD (bM (gu<|wa (zBx aa)<|wq<|zK rB (KD _ rfl PySem.F.plainAttrs_int PySem.F.slot_int_bit_length PySem.F.type_int_bit_length LW aa) aa) (zE<|zS<|EW aj<|ae (eI aa)<|ae aa<|ae aa zj) cY)
 (aD (zL aa)
 (aD (dJ (zBw<|eI aa) zu<|zE<|zL<|zz<|ae aa<|ae (bz yo î<|ae aa zj) zj)
 (aD (EN hr (ud<|eI aa) (hV<|cA zu<|cA zu hW) t4 aa<|zO wA aa aa)
 (aD (zL<|zO wA aa aa)
 (zE<|zS<|EW aj<|ae (eI aa)<|ae aa<|ae (bz (Hi rfl) Ā<|ae (tY (v:=.int 256) rfl dD ⟨_,rfl⟩)<|ae (zO j0 zn<|KD _ rfl PySem.F.plainAttrs_int PySem.F.slot_int_bit_length PySem.F.type_int_bit_length LW aa) zj) zj)))))))⟩
def Rq:MS:=(bg<|vE "Form" ["numbers", "beneath", "room"]<|zf (dN<|xP (af rF (af rF (af oO (cM<|zf (mC<|.int 0) zq)<|zi 0)<|cM<|zf (mC<|.int 1) zq)<|af oO (cM<|zf (mC<|.int 0) zq)<|af lB (af lB (zi 1)<|zi 0)<|mC<|.int 1)<|mC<|.int 1)<|zf (mC<|.int 1)<|zf (mC<|.int 256) zq)
def Du:FD:=bE 2 [0,1] Rq
abbrev Ra(Z:Zs):Prop:=Z.C "letter_by_powers" 3 ["k", "many_letters"] 2 Du
theorem zgg(B:Bs Z)(A:bR Z "letter_by_powers" Rr):Ra Z :=
 by obtain⟨hB,_,⟨jM,dD⟩,_,_,⟨bA,aj⟩⟩:=B; exact bX A ["k", "many_letters"] λnd hr=>⟨_,(bo<|EV aj.xn<|ze (eL<|Gu (zo CF (zo CF (zo yi (dB<|ze zm zk) zd)<|dB<|ze zm zk)<|zo yi (dB<|ze zm zk)<|zo oX (zo oX zd zd) zm) zm)<|ze zm<|ze zm zk),
 (zE<|zS<|EW aj<|ae (eI<|Gv hr (zO CG (zO CG (zO (yj _ rfl) (dC<|ae zn zj) aa)<|dC<|ae zn zj)<|zO (yj _ rfl) (dC<|ae zn zj)<|zO pd (zO pd aa aa) zn) zn)<|ae zn<|ae (tY (v:=.int 256) rfl dD ⟨_,rfl⟩) zj)⟩
def Qw:MS:=(bg<|ba (f1 F4)<|zf (kS (de nh<|dN<|b9 (eU "Form" "numbers")<|zi 0) 2 [0] (fM 2<|cn (zC 0)<|cn (zC 1) f7) mU<|cM<|zf (zi 0)<|zf (zP CQ<|zf (zi 1)<|zf (b9 (eU "Form" "beneath")<|zi 2) zq) zq) zq)
def DA:FD:=bE 1 [0] Qw
abbrev Qv(Z:Zs):Prop:=Z.C "fractions_of" 3 ["form"] 1 DA
theorem zjC(B:Bs Z)(A:bR Z "fractions_of" QM)(c0:OH Z):Qv Z :=
 by obtain⟨hB,_,_,_,_,⟨bA,aj⟩⟩:=B; exact bX A ["form"] λnd hr=>⟨_,(bo<|bh YQ<|ze (tz (uo<|eL<|fu (iE aj.xn aj.cl<|aj.na _ (by decide)) zd) (hJ<|zV zv<|zV zv hU) tW<|dB<|ze zd<|ze (zA 2<|ze zd<|ze (fu (iE aj.xn aj.cl<|aj.na _ (by decide)) zd) zk) zk) zk),
 (zE<|zS<|bz (zor _ rfl hr) PyProof.Rows.boot_sorted<|ae (vA (ud<|eI<|iD _ rfl aa rfl) (hV<|cA zu<|cA zu hW) t4<|dC<|ae aa<|ae (zz<|ae aa<|ae (iD _ rfl aa rfl) zj) zj) zj)⟩
def Px:MS:=(zB (bw (iw<|mB<|b9 (iI "tuple")<|zi 0) (bg<|mC .none) cy)
  (zB (zY 2<|mC .none)
  (zB (zY 3<|b9 mX<|mC<|.int 1)
  (zB (cW (de mW<|zi 0) (zC 4) (zB (bw (gc (iw<|mB<|b9 (iI "tuple")<|zi 4)<|mB<|af (bO true) (ba (f1 cx)<|zf (zi 4) zq)<|mC<|.int 2) (bg<|mC .none) cy)
  (zB (oh (zi 4)<|fM 2<|cn (zC 5)<|cn (zC 6) f7)
  (zB (bw (gc (iw<|mB<|zP Dh<|zf (zi 5) zq)<|gc (mB<|b9 (A0 false [0,1])<|zi 5)<|gc (iw<|mB<|zP ur<|zf (zi 6)<|zf (ba (f1 cx)<|zf (zi 1) zq) zq)<|mB<|af nU (zi 6)<|zi 3) (bg<|mC .none) cy)
  (zB (bw (om (mB<|af (xt true) (zi 2)<|mC .none)<|mB<|af (bO true) (af aU (zi 1)<|zi 6)<|zi 2) (bg<|mC .none) cy)
  (zB (zY 2<|af aU (zi 1)<|zi 6)
  (zY 3<|zi 6)))))))
  (bg<|zi 2)))))
def Dl:FD:=bE 7 [0,1] Px
abbrev Pw(Z:Zs):Prop:=Z.C "mix_degree" 3 ["pairs", "ahead"] 2 Dl
theorem zl5(B:Bs Z)(A:bR Z "mix_degree" PM)(c0:Qi Z)(c1:CP Z):Pw Z :=
 by obtain⟨hB,_,_,⟨bH,bJ,bq⟩,_⟩:=B; exact bX A ["pairs", "ahead", "told", "behind", "pair", "f", "node"] λnd hr=>⟨_,(zr (bL (jW<|gY<|oQ (T := "tuple") zd) (bo jQ) cX)
 (zr (zJ jQ)
 (zr (zJ<|fu ua zm)
 (zr (dI (t9 zd) zv (zr (bL (g7 (jW<|gY<|oQ (T := "tuple") zd)<|zw<|zo rG (bh cO<|ze zd zk) zm) (bo jQ) cX)
 (zr (xI zd<|hJ<|zV zv<|zV zv hU)
 (zr (bL (g7 (jW<|gY<|zA 1<|ze zd zk)<|g7 (zw<|zDc (neg:=false) bq zd)<|g7 (jW<|gY<|zA 2<|ze zd<|ze (bh cO<|ze zd zk) zk)<|zw<|zo rg zd zd) (bo jQ) cX)
 (zr (bL (v5 (zw<|zo WU zd jQ)<|zw<|zo rG (zo zH zd zd) zd) (bo jQ) cX)
 (zr (zJ<|zo zH zd zd)
 (zJ zd)))))))
 (bo zd))))),
 (aD (bM (jX<|jt<|bz oK É<|ae aa<|ae (oZ (v:=.ty "tuple") È rfl) zj) (zE<|zS jR) cY)
 (aD (zL jR)
 (aD (zL<|tD t5 zn)
 (aD (dJ (tZ aa) zu (aD (bM (gu<|g8 (jX<|jt<|bz oK É<|ae aa<|ae (oZ (v:=.ty "tuple") È rfl) zj)<|jY<|zK rC (bz cQ Ã<|ae aa zj) zn) (zE<|zS jR) cY)
 (aD (rl aa<|hV<|cA zu<|cA zu hW)
 (aD (bM (gu<|g8 (jX<|jt<|zz<|ae aa zj)<|g8 (zK (LL _ rfl hr) aa<|tY (v:=.ref bH) rfl bJ rfl)<|g8 (jX<|jt<|zz<|ae aa<|ae (bz cQ Ã<|ae aa zj) zj)<|jY<|zK rB aa aa) (zE<|zS jR) cY)
 (aD (bM (gu<|wa (zK WO aa jR)<|wq<|zK rC (zF zQ aa aa) aa) (zE<|zS jR) cY)
 (aD (zL<|zF zQ aa aa)
 (zE<|zL aa)))))))
 (zE<|zS aa)))))⟩
def Qu:MS:=(zB (bw (gc (iw<|mB<|zP ur<|zf (zi 0)<|zf (ba (f1 cx)<|zf (zi 2) zq) zq)<|gc (iw<|mB<|zP ur<|zf (zi 1)<|zf (ba (f1 cx)<|zf (zi 2) zq) zq)<|mB<|af iG (af aU (zi 2)<|zi 0)<|af aU (zi 2)<|zi 1) (bg<|mC .none) cy)
  (bg<|af dz (af aU (zi 2)<|zi 0)<|af aU (zi 2)<|zi 1))
def Dz:FD:=bE 3 [0,1,2] Qu
abbrev Q1(Z:Zs):Prop:=Z.C "times_degree" 3 ["one", "other", "ahead"] 3 Dz
theorem zjD(B:Bs Z)(A:bR Z "times_degree" QL)(c0:CP Z):Q1 Z :=
 have hB:=B.1; bX A ["one", "other", "ahead"] λnd hr=>⟨_,(zr (bL (g7 (jW<|gY<|zA 2<|ze zd<|ze (bh cO<|ze zd zk) zk)<|g7 (jW<|gY<|zA 2<|ze zd<|ze (bh cO<|ze zd zk) zk)<|zw<|zo jq (zo zH zd zd)<|zo zH zd zd) (bo jQ) cX)
 (bo<|zo dU (zo zH zd zd)<|zo zH zd zd)),
 (aD (bM (gu<|g8 (jX<|jt<|zz<|ae aa<|ae (bz cQ Ã<|ae aa zj) zj)<|g8 (jX<|jt<|zz<|ae aa<|ae (bz cQ Ã<|ae aa zj) zj)<|jY<|zK jr (zF zQ aa aa)<|zF zQ aa aa) (zE<|zS jR) cY)
 (zE<|zS<|zO dX (zF zQ aa aa)<|zF zQ aa aa))⟩
def Rb:MS:=(zB (zY 3<|ba (f1 yk)<|zf (zi 0) zq)
  (zB (cW (de oS<|dN<|zi 1) (zC 4) (zB (zY 5<|cM<|zf (af iL (zi 2)<|af aS (jk (zi 1)<|zi 4)<|mC<|.int 0)<|zf (af aS (jk (zi 1)<|zi 4)<|mC<|.int 1) zq)
  (kM 3 (zi 4)<|zP yC<|zf (rE (zi 3) (zi 4)<|cM<|zf (mC<|.int 0)<|zf (mC<|.int 1) zq)<|zf (zi 5) zq)))
  (zB (zY 6 kP)
  (zB (cW (de oS<|dN<|zi 3) (zC 4)<|bw (mB<|af (bO true) (af aS (jk (zi 3)<|zi 4)<|mC<|.int 0)<|mC<|.int 0) (kM 6 (zi 4)<|jk (zi 3)<|zi 4) cy)
  (jo [0,1,2] 6)))))
def uz:FD:=bE 7 [0,1,2] Rb
abbrev Dq(Z:Zs):Prop:=Z.C "_law_poly_add" 3 ["_law_one", "_law_other", "_law_sign"] 3 uz
theorem zhy(B:Bs Z)(A:bR Z "_law_poly_add" Rf)(c0:Hy Z):Dq Z :=
 have hB:=B.1; bX A ["_law_one", "_law_other", "_law_sign", "_law_found", "_law_powers", "_law_more", "_law_kept"] λnd hr=>⟨_,(zr (zJ<|bh zrP<|ze zd zk)
 (zr (dI (wm<|eL zd) zv (zr (zJ<|dB<|ze (zo lH zd<|zo zI (oV zd zd) zm)<|ze (zo zI (oV zd zd) zm) zk)
 (t6 zd<|zA 2<|ze (Cq zd zd<|dB<|ze zm<|ze zm zk)<|ze zd zk)))
 (zr (zJ pf)
 (zr (dI (wm<|eL zd) zv<|bL (zw<|zo rG (zo zI (oV zd zd) zm) zm) (t6 zd<|oV zd zd) cX)
 oW)))),
 (aD (zL<|ji zoN PyProof.Rows.boot_dict<|ae aa zj)
 (aD (dJ (wz<|eI aa) zu (aD (zL<|dC<|ae (zO lE aa<|zF zR (oY hr aa aa) zn)<|ae (zF zR (oY hr aa aa) zn) zj)
 (zE<|tX hr aa aa<|zz<|ae (B0 hr aa aa (dC<|ae zn<|ae zn zj) ⟨rfl,rfl,rfl,rfl⟩)<|ae aa zj)))
 (aD (zL pj)
 (aD (dJ (wz<|eI aa) zu<|zE<|bM (zK rC (zF zR (oY hr aa aa) zn) zn) (zE<|tX hr aa aa<|oY hr aa aa) cY)
 (zE<|zS aa)))))⟩
def Q4:MS:=(zB (zY 2 kP)
  (zB (cW (de oS<|dN<|zi 0) (zC 3)<|cW (de oS<|dN<|zi 1) (zC 4) (zB (zY 5<|ba (f1 ni)<|zf (kS (AY<|zf (zi 3)<|zf (zi 4) zq) 2 [] (fM 2<|cn (zC 0)<|cn (zC 1) f7) mU<|af dz (zi 0)<|zi 1) zq)
  (zB (zY 6<|zP yB<|zf (jk (zi 0)<|zi 3)<|zf (jk (zi 1)<|zi 4) zq)
  (kM 2 (zi 5)<|zP yC<|zf (rE (zi 2) (zi 5)<|cM<|zf (mC<|.int 0)<|zf (mC<|.int 1) zq)<|zf (zi 6) zq))))
  (zB (zY 7 kP)
  (zB (cW (de oS<|dN<|zi 2) (zC 5)<|bw (mB<|af (bO true) (af aS (jk (zi 2)<|zi 5)<|mC<|.int 0)<|mC<|.int 0) (kM 7 (zi 5)<|jk (zi 2)<|zi 5) cy)
  (jo [0,1] 7)))))
def uy:FD:=bE 8 [0,1] Q4
abbrev Dt(Z:Zs):Prop:=Z.C "_law_poly_mult" 3 ["_law_one", "_law_other"] 2 uy
theorem zg0(B:Bs Z)(A:bR Z "_law_poly_mult" Q7)(c0:Hy Z)(c1:HF Z):Dt Z :=
 have hB:=B.1; bX A ["_law_one", "_law_other", "_law_found", "_law_left", "_law_right", "_law_powers", "_law_more", "_law_kept"] λnd hr=>⟨_,(zr (zJ pf)
 (zr (dI (wm<|eL zd) zv<|dI (wm<|eL zd) zv (zr (zJ<|bh uq<|ze (tz (LC<|ze zd<|ze zd zk) (hJ<|zV zv<|zV zv hU) tW<|zo dU zd zd) zk)
 (zr (zJ<|zA 2<|ze (oV zd zd)<|ze (oV zd zd) zk)
 (t6 zd<|zA 2<|ze (Cq zd zd<|dB<|ze zm<|ze zm zk)<|ze zd zk))))
 (zr (zJ pf)
 (zr (dI (wm<|eL zd) zv<|bL (zw<|zo rG (zo zI (oV zd zd) zm) zm) (t6 zd<|oV zd zd) cX)
 oW)))),
 (aD (zL pj)
 (aD (dJ (wz<|eI aa) zu<|zE<|dJ (wz<|eI aa) zu (aD (zL<|ji um È<|ae (vA (LD<|ae aa<|ae aa zj) (hV<|cA zu<|cA zu hW) t4<|zO dX aa aa) zj)
 (aD (zL<|zz<|ae (oY hr aa aa)<|ae (oY hr aa aa) zj)
 (zE<|tX hr aa aa<|zz<|ae (B0 hr aa aa (dC<|ae zn<|ae zn zj) ⟨rfl,rfl,rfl,rfl⟩)<|ae aa zj))))
 (aD (zL pj)
 (aD (dJ (wz<|eI aa) zu<|zE<|bM (zK rC (zF zR (oY hr aa aa) zn) zn) (zE<|tX hr aa aa<|oY hr aa aa) cY)
 (zE<|zS aa)))))⟩
def Q0:MS:=(zB (zY 1<|zP yz<|zf (zi 0) zq)
  (zB (bw (mB<|af (bO false) (af aS (zi 1)<|mC<|.int 0)<|mC<|.int 0) (bg<|cM<|zf (mC<|.int 3)<|zf (mC<|.int 2) zq) cy)
  (bg<|zi 1)))
def Dy:FD:=bE 2 [0] Q0
abbrev QZ(Z:Zs):Prop:=Z.C "_law_factor" 3 ["_law_box_here"] 1 Dy
theorem zjE(B:Bs Z)(A:bR Z "_law_factor" QH)(c0:HH Z):QZ Z :=
 have hB:=B.1; bX A ["_law_box_here", "_law_f"] λnd hr=>⟨_,(zr (zJ<|zA 1<|ze zd zk)
 (zr (bL (zw<|zo eA (zo zI zd zm) zm) (bo<|dB<|ze zm<|ze zm zk) cX)
 (bo zd))),
 (aD (zL<|zz<|ae aa zj)
 (aD (bM (zK eB (zF zR aa zn) zn) (zE<|zS<|dC<|ae zn<|ae zn zj) cY)
 (zE<|zS aa)))⟩
def Pr:MS:=(zB (zY 3<|zP pE<|zf (zi 1) zq)
  (zB (zY 4<|fL zq)
  (zB (cW (BG<|zf (mC<|.int 1)<|zf (af dz (zi 2)<|mC<|.int 1) zq) (zC 5) (zB (zY 6<|kS (jn<|zf (ba (f1 cx)<|zf (zi 1) zq) zq) 1 [3,5] (zC 0) (mB<|af (bO false) (af aU (zi 1)<|zi 0)<|zi 2)<|zi 0)
  (zB (zY 7<|zP zx<|zf (zi 0)<|zf (mC<|.int 4) zq)
  (bw (gc (mB<|af (bO false) (ba (f1 cx)<|zf (zi 6) zq)<|mC<|.int 0)<|mB<|af (bO false) (zi 7)<|mC<|.int 0) (cD<|cB 4<|mC .none)<|bw (mB<|af iG (zi 7)<|mC<|.int 3) (cD<|cB 4<|af aU (zi 6)<|b9 mX<|mC<|.int 1)<|cD<|cB 4<|af aU (zi 6)<|zP zx<|zf (zi 0)<|zf (ba (f1 cx)<|zf (zi 6) zq) zq))))
  (bg<|cM<|zf (zP yz<|zf (zi 0) zq)<|zf (ba (f1 ni)<|zf (uL vF (zi 4) wk<|qZ<|af dz (af iL (zP zx<|zf (zi 0)<|zf (mC<|.int 2) zq)<|zi 2)<|zP zx<|zf (zi 0)<|zf (af dz (zi 2)<|mC<|.int 1) zq) zq) zq))))
def CU:FD:=bE 8 [0,1,2] Pr
abbrev Pp(Z:Zs):Prop:=Z.C "_law_top" 3 ["_law_box_here", "_law_nodes_here", "_law_deep"] 3 CU
theorem znH(B:Bs Z)(A:bR Z "_law_top" O9)(c0:rS Z)(c1:HH Z)(c2:Dm Z):Pp Z :=
 have hB:=B.1; bX A ["_law_box_here", "_law_nodes_here", "_law_deep", "_law_high_here", "_law_outs", "_law_grade", "_law_some", "_law_way"] λnd hr=>⟨_,(zr (zJ<|zA 1<|ze zd zk)
 (zr (zJ<|gy zk)
 (zr (dI (WZ<|ze zm<|ze (zo dU zd zm) zk) zv (zr (zJ<|tz (lK<|ze (bh cO<|ze zd zk) zk) zv (zw<|zo eA (zo zH zd zd) zd) zd)
 (zr (zJ<|zA 2<|ze zd<|ze zm zk)
 (bL (g7 (zw<|zo eA (bh cO<|ze zd zk) zm)<|zw<|zo eA zd zm) (dZ<|d0 jQ)<|bL (zw<|zo jq zd zm) (dZ<|d0<|zo zH zd<|fu ua zm)<|dZ<|d0<|zo zH zd<|zA 2<|ze zd<|ze (bh cO<|ze zd zk) zk))))
 (bo<|dB<|ze (zA 1<|ze zd zk)<|ze (bh uq<|ze (Bf GD zd GF<|ym<|zo dU (zo lH (zA 2<|ze zd<|ze zm zk) zd)<|zA 2<|ze zd<|ze (zo dU zd zm) zk) zk) zk)))),
 (aD (zL<|zz<|ae aa zj)
 (aD (zL<|gz zj)
 (aD (dJ (Zx<|ae zn<|ae (zO dX aa zn) zj) zu (aD (KE (lJ<|ae (bz cQ Ã<|ae aa zj) zj) zu (BN<|zK eB (zF zQ aa aa) aa) aa)
 (aD (zL<|zz<|ae aa<|ae zn zj)
 (zE<|bM (gu<|g8 (zK eB (bz cQ Ã<|ae aa zj) zn)<|jY<|zK eB aa zn) (zE<|dW<|dF _ rfl Â À Á zN aa<|ae jR zj)<|zE<|bM (zK jr aa zn) (zE<|dW<|dF _ rfl Â À Á zN aa<|ae (zF zQ aa<|tD t5 zn) zj)<|zE<|dW<|dF _ rfl Â À Á zN aa<|ae (zF zQ aa<|zz<|ae aa<|ae (bz cQ Ã<|ae aa zj) zj) zj))))
 (zE<|zS<|dC<|ae (zz<|ae aa zj)<|ae (ji um È<|ae (Ca Fj aa Gk<|ye<|zO dX (zO lE (zz<|ae aa<|ae zn zj) aa)<|zz<|ae aa<|ae (zO dX aa zn) zj) zj) zj))))⟩
def QY:MS:=(zB (zY 2 kP)
  (zB (cW (de oS<|dN<|zi 0) (zC 3)<|bw (mB<|af (bO true) (af aS (zi 1)<|mC<|.int 0)<|mC<|.int 0) (kM 2 (zi 3)<|zP yB<|zf (jk (zi 0)<|zi 3)<|zf (zi 1) zq) cy)
  (jo [0,1] 2)))
def Dx:FD:=bE 4 [0,1] QY
abbrev QW(Z:Zs):Prop:=Z.C "_law_scaled" 3 ["_law_pol", "_law_f"] 2 Dx
theorem zjF(B:Bs Z)(A:bR Z "_law_scaled" QD)(c0:HF Z):QW Z :=
 have hB:=B.1; bX A ["_law_pol", "_law_f", "_law_found", "_law_powers"] λnd hr=>⟨_,(zr (zJ pf)
 (zr (dI (wm<|eL zd) zv<|bL (zw<|zo rG (zo zI zd zm) zm) (t6 zd<|zA 2<|ze (oV zd zd)<|ze zd zk) cX)
 oW)),
 (aD (zL pj)
 (aD (dJ (wz<|eI aa) zu<|zE<|bM (zK rC (zF zR aa zn) zn) (zE<|tX hr aa aa<|zz<|ae (oY hr aa aa)<|ae aa zj) cY)
 (zE<|zS aa)))⟩
def OQ:MS:=(zB (zY 3<|af iO (b9 (eU "Form" "beneath")<|zi 1)<|af aS (zi 2)<|mC<|.int 1)
  (zB (zY 4<|zP pB<|zf (b9 (eU "Form" "beneath")<|zi 0)<|zf (zi 3) zq)
  (zB (zY 5<|af rh (zi 3)<|zi 4)
  (zB (zY 6<|af iO (af rh (b9 (eU "Form" "beneath")<|zi 0)<|zi 4)<|af aS (zi 2)<|mC<|.int 0)
  (zB (zY 7<|wV (de nh<|dN<|b9 (eU "Form" "numbers")<|zi 0) 2 [5] (fM 2<|cn (zC 0)<|cn (zC 1) f7) mU (zi 0)<|af iO (zi 1)<|zi 2)
  (zB (cW (de nh<|dN<|b9 (eU "Form" "numbers")<|zi 1) (fM 2<|cn (zC 8)<|cn (zC 9) f7)<|kM 7 (zi 8)<|af dz (rE (zi 7) (zi 8)<|mC<|.int 0)<|af iO (zi 9)<|zi 6)
  (bg<|zP wD<|zf (zi 7)<|zf (af iO (b9 (eU "Form" "beneath")<|zi 0)<|zi 5)<|zf (ba vQ<|zf (b9 (eU "Form" "room")<|zi 0)<|zf (b9 (eU "Form" "room")<|zi 1) zq) zq)))))))
def CO:FD:=bE 10 [0,1,2] OQ
abbrev OP(Z:Zs):Prop:=Z.C "form_sum" 4 ["one", "other", "f"] 3 CO
theorem zpc(B:Bs Z)(A:bR Z "form_sum" OL)(c0:yA Z)(c1:CL Z):OP Z :=
 by obtain⟨hB,_,_,_,_,⟨bA,aj⟩⟩:=B; exact bX A ["one", "other", "f", "beneath", "factor", "first", "second", "sums", "product", "many"] λnd hr=>⟨_,(zr (zJ<|zo jZ (fu (iE aj.xn aj.cl<|aj.na _ (by decide)) zd)<|zo zI zd zm)
 (zr (zJ<|zA 2<|ze (fu (iE aj.xn aj.cl<|aj.na _ (by decide)) zd)<|ze zd zk)
 (zr (zJ<|zo wo zd zd)
 (zr (zJ<|zo jZ (zo wo (fu (iE aj.xn aj.cl<|aj.na _ (by decide)) zd) zd)<|zo zI zd zm)
 (zr (zJ<|HL (uo<|eL<|fu (iE aj.xn aj.cl<|aj.na _ (by decide)) zd) (hJ<|zV zv<|zV zv hU) tW zd<|zo jZ zd zd)
 (zr (dI (uo<|eL<|fu (iE aj.xn aj.cl<|aj.na _ (by decide)) zd) (hJ<|zV zv<|zV zv hU)<|t6 zd<|zo dU (Cq zd zd zm)<|zo jZ zd zd)
 (bo<|zA 3<|ze zd<|ze (zo jZ (fu (iE aj.xn aj.cl<|aj.na _ (by decide)) zd) zd)<|ze (bh Gf<|ze (fu (iE aj.xn aj.cl<|aj.na _ (by decide)) zd)<|ze (fu (iE aj.xn aj.cl<|aj.na _ (by decide)) zd) zk) zk))))))),
 (aD (zL<|zO j0 (iD _ rfl aa rfl)<|zF zR aa zn)
 (aD (zL<|zz<|ae (iD _ rfl aa rfl)<|ae aa zj)
 (aD (zL<|zO wA aa aa)
 (aD (zL<|zO j0 (zO wA (iD _ rfl aa rfl) aa)<|zF zR aa zn)
 (aD (EN hr (ud<|eI<|iD _ rfl aa rfl) (hV<|cA zu<|cA zu hW) t4 aa<|zO j0 aa aa)
 (aD (dJ (ud<|eI<|iD _ rfl aa rfl) (hV<|cA zu<|cA zu hW)<|zE<|tX hr aa aa<|zO dX (B0 hr aa aa zn ⟨rfl,rfl,rfl,rfl⟩)<|zO j0 aa aa)
 (zE<|zS<|zz<|ae aa<|ae (zO j0 (iD _ rfl aa rfl) aa)<|ae (bz (Hi rfl) Ā<|ae (iD _ rfl aa rfl)<|ae (iD _ rfl aa rfl) zj) zj)))))))⟩
def Q9:MS:=(bg<|zP wD<|zf (xP (af oO (cM<|zf (mC<|.int 0) zq)<|zi 1)<|af aS (zi 0)<|mC<|.int 0)<|zf (af aS (zi 0)<|mC<|.int 1)<|zf (mC<|.int 256) zq)
def wI:FD:=bE 2 [0,1] Q9
abbrev HI(Z:Zs):Prop:=Z.C "number_by_powers" 4 ["f", "many_letters"] 2 wI
theorem zgh(B:Bs Z)(A:bR Z "number_by_powers" Rt)(c0:CL Z):HI Z :=
 by obtain⟨hB,_,⟨jM,dD⟩,_⟩:=B; exact bX A ["f", "many_letters"] λnd hr=>⟨_,(bo<|zA 3<|ze (Gu (zo yi (dB<|ze zm zk) zd)<|zo zI zd zm)<|ze (zo zI zd zm)<|ze zm zk),
 (zE<|zS<|zz<|ae (Gv hr (zO (yj _ rfl) (dC<|ae zn zj) aa)<|zF zR aa zn)<|ae (zF zR aa zn)<|ae (tY (v:=.int 256) rfl dD ⟨_,rfl⟩) zj)⟩
def Q3:MS:=(zB (zY 2 kP)
  (zB (cW (de nh<|dN<|b9 (eU "Form" "numbers")<|zi 0) (fM 2<|cn (zC 3)<|cn (zC 4) f7)<|cW (de nh<|dN<|b9 (eU "Form" "numbers")<|zi 1) (fM 2<|cn (zC 5)<|cn (zC 6) f7) (zB (zY 7<|zP Dj<|zf (zi 3)<|zf (zi 5) zq)
  (kM 2 (zi 7)<|af dz (rE (zi 2) (zi 7)<|mC<|.int 0)<|af iO (zi 4)<|zi 6)))
  (bg<|zP wD<|zf (zi 2)<|zf (af iO (b9 (eU "Form" "beneath")<|zi 0)<|b9 (eU "Form" "beneath")<|zi 1)<|zf (ba vQ<|zf (b9 (eU "Form" "room")<|zi 0)<|zf (b9 (eU "Form" "room")<|zi 1) zq) zq)))
def ux:FD:=bE 8 [0,1] Q3
abbrev HJ(Z:Zs):Prop:=Z.C "times_by_powers" 4 ["one", "other"] 2 ux
theorem zg1(B:Bs Z)(A:bR Z "times_by_powers" Q8)(c0:Qm Z)(c1:CL Z):HJ Z :=
 by obtain⟨hB,_,_,_,_,⟨bA,aj⟩⟩:=B; exact bX A ["one", "other", "sums", "powers", "many", "others", "more", "both"] λnd hr=>⟨_,(zr (zJ pf)
 (zr (dI (uo<|eL<|fu (iE aj.xn aj.cl<|aj.na _ (by decide)) zd) (hJ<|zV zv<|zV zv hU)<|dI (uo<|eL<|fu (iE aj.xn aj.cl<|aj.na _ (by decide)) zd) (hJ<|zV zv<|zV zv hU) (zr (zJ<|zA 2<|ze zd<|ze zd zk)
 (t6 zd<|zo dU (Cq zd zd zm)<|zo jZ zd zd)))
 (bo<|zA 3<|ze zd<|ze (zo jZ (fu (iE aj.xn aj.cl<|aj.na _ (by decide)) zd)<|fu (iE aj.xn aj.cl<|aj.na _ (by decide)) zd)<|ze (bh Gf<|ze (fu (iE aj.xn aj.cl<|aj.na _ (by decide)) zd)<|ze (fu (iE aj.xn aj.cl<|aj.na _ (by decide)) zd) zk) zk))),
 (aD (zL pj)
 (aD (dJ (ud<|eI<|iD _ rfl aa rfl) (hV<|cA zu<|cA zu hW)<|zE<|dJ (ud<|eI<|iD _ rfl aa rfl) (hV<|cA zu<|cA zu hW) (aD (zL<|zz<|ae aa<|ae aa zj)
 (zE<|tX hr aa aa<|zO dX (B0 hr aa aa zn ⟨rfl,rfl,rfl,rfl⟩)<|zO j0 aa aa)))
 (zE<|zS<|zz<|ae aa<|ae (zO j0 (iD _ rfl aa rfl)<|iD _ rfl aa rfl)<|ae (bz (Hi rfl) Ā<|ae (iD _ rfl aa rfl)<|ae (iD _ rfl aa rfl) zj) zj)))⟩
def Df:MS:=(zB (bw (gc (iw<|mB<|b9 (iI "tuple")<|zi 0)<|mB<|af (kJ false) (zi 0)<|cM zq) (bg<|mC .none) cy)
  (zB (bw (mB<|af (bO false) (af aS (zi 0)<|mC<|.int 0)<|mC<|.str "letter") (bg<|wU (om (mB<|af (bO false) (ba (f1 cx)<|zf (zi 0) zq)<|mC<|.int 2)<|mB<|zP ur<|zf (af aS (zi 0)<|mC<|.int 1)<|zf (zi 2) zq) (mC<|.int 1)<|mC .none) cy)
  (zB (bw (mB<|af (bO false) (af aS (zi 0)<|mC<|.int 0)<|mC<|.str "mix") (bg<|wU (mB<|af (bO false) (ba (f1 cx)<|zf (zi 0) zq)<|mC<|.int 2) (zP Dl<|zf (af aS (zi 0)<|mC<|.int 1)<|zf (zi 1) zq)<|mC .none) cy)
  (zB (bw (mB<|af (bO false) (af aS (zi 0)<|mC<|.int 0)<|mC<|.str "times") (bg<|wU (mB<|af (bO false) (ba (f1 cx)<|zf (zi 0) zq)<|mC<|.int 3) (zP Dz<|zf (af aS (zi 0)<|mC<|.int 1)<|zf (af aS (zi 0)<|mC<|.int 2)<|zf (zi 1) zq)<|mC .none) cy)
  (bg<|mC .none)))))
def wG:FD:=bE 3 [0,1,2] Df
abbrev P6(Z:Zs):Prop:=Z.C "node_degree" 4 ["node", "ahead", "many_letters"] 3 wG
theorem zkf(B:Bs Z)(A:bR Z "node_degree" PV)(c0:CP Z)(c1:Pw Z)(c2:Q1 Z):P6 Z :=
 have hB:=B.1; bX A ["node", "ahead", "many_letters"] λnd hr=>⟨_,(zr (bL (g7 (jW<|gY<|oQ (T := "tuple") zd)<|zw<|zo (FJ false) zd<|dB zk) (bo jQ) cX)
 (zr (bL (zw<|zo eA (zo zI zd zm) cP) (bo<|Ig (v5 (zw<|zo eA (bh cO<|ze zd zk) zm)<|gY<|zA 2<|ze (zo zI zd zm)<|ze zd zk) zm jQ) cX)
 (zr (bL (zw<|zo eA (zo zI zd zm) cP) (bo<|Ig (zw<|zo eA (bh cO<|ze zd zk) zm) (zA 2<|ze (zo zI zd zm)<|ze zd zk) jQ) cX)
 (zr (bL (zw<|zo eA (zo zI zd zm) cP) (bo<|Ig (zw<|zo eA (bh cO<|ze zd zk) zm) (zA 3<|ze (zo zI zd zm)<|ze (zo zI zd zm)<|ze zd zk) jQ) cX)
 (bo jQ))))),
 (aD (bM (gu<|g8 (jX<|jt<|bz oK É<|ae aa<|ae (oZ (v:=.ty "tuple") È rfl) zj)<|jY<|zK (LL _ rfl hr) aa<|dC zj) (zE<|zS jR) cY)
 (aD (bM (zK eB (zF zR aa zn) cR) (zE<|zS<|Fk (gu<|wa (zK eB (bz cQ Ã<|ae aa zj) zn)<|wq<|jt<|zz<|ae (zF zR aa zn)<|ae aa zj) zn jR) cY)
 (aD (bM (zK eB (zF zR aa zn) cR) (zE<|zS<|Fk (zK eB (bz cQ Ã<|ae aa zj) zn) (zz<|ae (zF zR aa zn)<|ae aa zj) jR) cY)
 (aD (bM (zK eB (zF zR aa zn) cR) (zE<|zS<|Fk (zK eB (bz cQ Ã<|ae aa zj) zn) (zz<|ae (zF zR aa zn)<|ae (zF zR aa zn)<|ae aa zj) jR) cY)
 (zE<|zS jR)))))⟩
def Po:MS:=(zB (zY 4<|fL zq)
  (zB (cW (jn<|zf (ba (f1 cx)<|zf (zi 1) zq) zq) (zC 5)<|bw (om (mB<|af (bO false) (af aU (zi 2)<|zi 5)<|af aU (zi 2)<|zi 3)<|gc (mB<|af (bO false) (zi 5)<|zi 3)<|mB<|af (bO false) (zP zx<|zf (zi 0)<|zf (mC<|.int 3) zq)<|mC<|.int 0) (cD<|cB 4<|cM<|zf (zP Dy<|zf (zi 0) zq)<|zf (zi 5) zq) cy)
  (bg<|cM<|zf (mC<|.str "mix")<|zf (ba (f1 ni)<|zf (zi 4) zq) zq)))
def CT:FD:=bE 6 [0,1,2,3] Po
abbrev Pn(Z:Zs):Prop:=Z.C "_law_mix" 4 ["_law_box_here", "_law_nodes_here", "_law_high_here", "_law_last"] 4 CT
theorem znI(B:Bs Z)(A:bR Z "_law_mix" Pa)(c0:rS Z)(c1:QZ Z):Pn Z :=
 have hB:=B.1; bX A ["_law_box_here", "_law_nodes_here", "_law_high_here", "_law_last", "_law_pairs", "_law_n"] λnd hr=>⟨_,(zr (zJ<|gy zk)
 (zr (dI (lK<|ze (bh cO<|ze zd zk) zk) zv<|bL (v5 (zw<|zo eA (zo zH zd zd)<|zo zH zd zd)<|g7 (zw<|zo eA zd zd)<|zw<|zo eA (zA 2<|ze zd<|ze zm zk) zm) (dZ<|d0<|dB<|ze (zA 1<|ze zd zk)<|ze zd zk) cX)
 (bo<|dB<|ze cP<|ze (bh uq<|ze zd zk) zk))),
 (aD (zL<|gz zj)
 (aD (dJ (lJ<|ae (bz cQ Ã<|ae aa zj) zj) zu<|zE<|bM (gu<|wa (zK eB (zF zQ aa aa)<|zF zQ aa aa)<|wq<|gu<|g8 (zK eB aa aa)<|jY<|zK eB (zz<|ae aa<|ae zn zj) zn) (zE<|dW<|dF _ rfl Â À Á zN aa<|ae (dC<|ae (zz<|ae aa zj)<|ae aa zj) zj) cY)
 (zE<|zS<|dC<|ae cR<|ae (ji um È<|ae aa zj) zj)))⟩
def Q2:MS:=(zB (zY 1<|ba (f1 cx)<|zf (af aS (zi 0)<|mC<|.int 0) zq)
  (zB (zY 2<|fL zq)
  (zB (cW (de mW<|af aS (zi 0)<|mC<|.int 1) (zC 3)<|bw (mB<|af (bO false) (af aS (zi 3)<|mC<|.int 0)<|mC<|.str "letter") (cD<|cB 2<|dN<|zP DE<|zf (zi 1)<|zf (af aS (zi 3)<|mC<|.int 1) zq)<|bw (mB<|af (bO false) (af aS (zi 3)<|mC<|.int 0)<|mC<|.str "times") (cD<|cB 2<|dN<|zP uy<|zf (af aU (zi 2)<|af aS (zi 3)<|mC<|.int 1)<|zf (af aU (zi 2)<|af aS (zi 3)<|mC<|.int 2) zq) (zB (zY 4 kP)
  (zB (cW (de mW<|af aS (zi 3)<|mC<|.int 1) (fM 2<|cn (zC 5)<|cn (zC 6) f7)<|zY 4<|zP uz<|zf (zi 4)<|zf (zP Dx<|zf (af aU (zi 2)<|zi 6)<|zf (zi 5) zq)<|zf (mC<|.int 1) zq)
  (cD<|cB 2<|dN<|zi 4))))
  (jo [0] 2))))
def Ds:FD:=bE 7 [0] Q2
abbrev Ri(Z:Zs):Prop:=Z.C "_law_net_polys" 4 ["_law_net_here"] 1 Ds
theorem zg2(B:Bs Z)(A:bR Z "_law_net_polys" Q6)(c0:Dq Z)(c1:Dt Z)(c2:Rl Z)(c3:QW Z):Ri Z :=
 have hB:=B.1; bX A ["_law_net_here", "_law_many", "_law_found", "_law_node", "_law_total", "_law_f", "_law_part"] λnd hr=>⟨_,(zr (zJ<|bh cO<|ze (zo zI zd zm) zk)
 (zr (zJ<|gy zk)
 (zr (dI (t9<|zo zI zd zm) zv<|bL (zw<|zo eA (zo zI zd zm) cP) (dZ<|d0<|eL<|zA 2<|ze zd<|ze (zo zI zd zm) zk)<|bL (zw<|zo eA (zo zI zd zm) cP) (dZ<|d0<|eL<|zA 2<|ze (zo zH zd<|zo zI zd zm)<|ze (zo zH zd<|zo zI zd zm) zk) (zr (zJ pf)
 (zr (dI (t9<|zo zI zd zm) (hJ<|zV zv<|zV zv hU)<|zJ<|zA 3<|ze zd<|ze (zA 2<|ze (zo zH zd zd)<|ze zd zk)<|ze zm zk)
 (dZ<|d0<|eL zd))))
 oW))),
 (aD (zL<|bz cQ Ã<|ae (zF zR aa zn) zj)
 (aD (zL<|gz zj)
 (aD (dJ (tZ<|zF zR aa zn) zu<|zE<|bM (zK eB (zF zR aa zn) cR) (zE<|dW<|dF _ rfl Â À Á zN aa<|ae (eI<|zz<|ae aa<|ae (zF zR aa zn) zj) zj)<|zE<|bM (zK eB (zF zR aa zn) cR) (zE<|dW<|dF _ rfl Â À Á zN aa<|ae (eI<|zz<|ae (zF zQ aa<|zF zR aa zn)<|ae (zF zQ aa<|zF zR aa zn) zj) zj) (aD (zL pj)
 (aD (dJ (tZ<|zF zR aa zn) (hV<|cA zu<|cA zu hW)<|zE<|zL<|zz<|ae aa<|ae (zz<|ae (zF zQ aa aa)<|ae aa zj)<|ae zn zj)
 (zE<|dW<|dF _ rfl Â À Á zN aa<|ae (eI aa) zj))))
 (zE<|zS aa))))⟩
def QV:MS:=(zB (zY 4 kP)
  (zB (cW (de xw<|dN<|zi 3) (zC 5)<|zY 4<|zP uz<|zf (zi 4)<|zf (zP uy<|zf (af aU (zi 0)<|zi 5)<|zf (af aU (af aU (zi 1)<|zi 2)<|zi 5) zq)<|zf (mC<|.int 1) zq)
  (jo [0,1,2,3] 4)))
def Dw:FD:=bE 6 [0,1,2,3] QV
abbrev QU(Z:Zs):Prop:=Z.C "_law_summed" 4 ["_law_polys", "_law_shares", "_law_u", "_law_some"] 4 Dw
theorem zjI(B:Bs Z)(A:bR Z "_law_summed" QB)(c0:Dq Z)(c1:Dt Z):QU Z :=
 have hB:=B.1; bX A ["_law_polys", "_law_shares", "_law_u", "_law_some", "_law_total", "_law_t"] λnd hr=>⟨_,(zr (zJ pf)
 (zr (dI (MR<|eL zd) zv<|zJ<|zA 3<|ze zd<|ze (zA 2<|ze (zo zH zd zd)<|ze (zo zH (zo zH zd zd) zd) zk)<|ze zm zk)
 oW)),
 (aD (zL pj)
 (aD (dJ (Gj<|eI aa) zu<|zE<|zL<|zz<|ae aa<|ae (zz<|ae (zF zQ aa aa)<|ae (zF zQ (zF zQ aa aa) aa) zj)<|ae zn zj)
 (zE<|zS aa)))⟩
def P5:MS:=(zB (cW (jn<|zf (ba (f1 cx)<|zf (zi 0) zq) zq) (zC 5)<|bw (mB<|af nU (af aU (zi 0)<|zi 5)<|zi 3) (zB (zY 6 kP)
  (zB (cW (de xw<|dN<|zi 4) (zC 7)<|zY 6<|zP uz<|zf (zi 6)<|zf (zP uy<|zf (af aU (af aU (zi 1)<|zi 7)<|zi 5)<|zf (af aU (af aU (zi 1)<|zi 2)<|zi 7) zq)<|zf (mC<|.int 1) zq)
  (bw (mB<|af (xx false) (zi 6)<|af aU (af aU (zi 1)<|zi 2)<|zi 5) (bg<|mC<|.bool false) cy))) cy)
  (bg<|mC<|.bool true))
def De:FD:=bE 8 [0,1,2,3,4] P5
abbrev P4(Z:Zs):Prop:=Z.C "_law_parts" 4 ["_law_high_here", "_law_shares", "_law_u", "_law_m", "_law_some"] 5 De
theorem zkg(B:Bs Z)(A:bR Z "_law_parts" Qo)(c0:Dq Z)(c1:Dt Z):P4 Z :=
 have hB:=B.1; bX A ["_law_high_here", "_law_shares", "_law_u", "_law_m", "_law_some", "_law_v", "_law_total", "_law_t"] λnd hr=>⟨_,(zr (dI (lK<|ze (bh cO<|ze zd zk) zk) zv<|bL (zw<|zo rg (zo zH zd zd) zd) (zr (zJ pf)
 (zr (dI (MR<|eL zd) zv<|zJ<|zA 3<|ze zd<|ze (zA 2<|ze (zo zH (zo zH zd zd) zd)<|ze (zo zH (zo zH zd zd) zd) zk)<|ze zm zk)
 (bL (zw<|zo Mm zd<|zo zH (zo zH zd zd) zd) (bo qP) cX))) cX)
 (bo qP)),
 (aD (dJ (lJ<|ae (bz cQ Ã<|ae aa zj) zj) zu<|zE<|bM (zK rB (zF zQ aa aa) aa) (aD (zL pj)
 (aD (dJ (Gj<|eI aa) zu<|zE<|zL<|zz<|ae aa<|ae (zz<|ae (zF zQ (zF zQ aa aa) aa)<|ae (zF zQ (zF zQ aa aa) aa) zj)<|ae zn zj)
 (zE<|bM (zK (Mn (.inr ⟨rfl,rfl⟩) _ rfl hr) aa<|zF zQ (zF zQ aa aa) aa) (zE<|zS qU) cY))) cY)
 (zE<|zS qU))⟩
def Oo:MS:=(zB (oh (zi 0)<|fM 3<|cn (zC 1)<|cn (zC 2)<|cn (zC 3) f7)
  (zB (zY 4<|fL zq)
  (zB (cW (de mW<|zi 2) (zC 5)<|cD<|cB 4<|zP wG<|zf (zi 5)<|zf (zi 4)<|zf (ba (f1 cx)<|zf (zi 1) zq) zq)
  (jo [0] 4))))
def CK:FD:=bE 6 [0] Oo
abbrev Om(Z:Zs):Prop:=Z.C "degrees" 5 ["net"] 1 CK
theorem zr1(B:Bs Z)(A:bR Z "degrees" Ot)(c0:P6 Z):Om Z :=
 have hB:=B.1; bX A ["net", "letters", "nodes", "top", "told", "node"] λnd hr=>⟨_,(zr (xI zd<|hJ<|zV zv<|zV zv<|zV zv hU)
 (zr (zJ<|gy zk)
 (zr (dI (t9 zd) zv<|dZ<|d0<|zA 3<|ze zd<|ze zd<|ze (bh cO<|ze zd zk) zk)
 oW))),
 (aD (rl aa<|hV<|cA zu<|cA zu<|cA zu hW)
 (aD (zL<|gz zj)
 (aD (dJ (tZ aa) zu<|zE<|dW<|dF _ rfl Â À Á zN aa<|ae (zz<|ae aa<|ae aa<|ae (bz cQ Ã<|ae aa zj) zj) zj)
 (zE<|zS aa))))⟩
def OO:MS:=(zB (zY 3<|zP wI<|zf (mC<|.tuple [.int 0,.int 1])<|zf (zi 2) zq)
  (zB (cW (de mW<|zi 0) (fM 2<|cn (zC 4)<|cn (zC 5) f7)<|zY 3<|zP CO<|zf (zi 3)<|zf (af aU (zi 1)<|zi 5)<|zf (zi 4) zq)
  (bg<|zi 3)))
def yu:FD:=bE 6 [0,1,2] OO
abbrev Ho(Z:Zs):Prop:=Z.C "mix_form" 5 ["pairs", "forms", "many_letters"] 3 yu
theorem zpd(B:Bs Z)(A:bR Z "mix_form" OJ)(c0:OP Z)(c1:HI Z):Ho Z :=
 by obtain⟨hB,_,_,⟨bH,bJ,bq⟩,_⟩:=B; exact bX A ["pairs", "forms", "many_letters", "told", "f", "node"] λnd hr=>⟨_,(zr (zJ<|zA 2<|ze (F9 bq)<|ze zd zk)
 (zr (dI (t9 zd) (hJ<|zV zv<|zV zv hU)<|zJ<|zA 3<|ze zd<|ze (zo zH zd zd)<|ze zd zk)
 (bo zd))),
 (aD (zL<|zz<|ae (tY (v:=.ref bH) rfl bJ rfl)<|ae aa zj)
 (aD (dJ (tZ aa) (hV<|cA zu<|cA zu hW)<|zE<|zL<|zz<|ae aa<|ae (zF zQ aa aa)<|ae aa zj)
 (zE<|zS aa)))⟩
def P1:MS:=(zB (zY 5<|ba (f1 xK)<|zf (zi 2) zq)
  (zB (zY 6<|zP pE<|zf (zi 5) zq)
  (zB (cW (jn<|zf (zi 3) zq) (zC 7) (zB (zY 8<|zP zx<|zf (zi 0)<|zf (mC<|.int 6) zq)
  (zB (bw (gc (mB<|af (bO false) (ba (f1 cx)<|zf (zi 5) zq)<|mC<|.int 0)<|mB<|af (bO false) (zi 8)<|mC<|.int 0) (zB (cD<|cB 5<|cM<|zf (mC<|.str "letter")<|zf (zP zx<|zf (zi 0)<|zf (zi 1) zq) zq)
  (zB (cD<|cB 6<|mC<|.int 1)
  (λρ=>some<|.ct ρ))) cy)
  (zB (zY 9<|af aU (fL<|zf (af lB (ba (f1 cx)<|zf (zi 5) zq)<|mC<|.int 1)<|zf (zP zx<|zf (zi 0)<|zf (ba (f1 cx)<|zf (zi 5) zq) zq) zq)<|zP zx<|zf (zi 0)<|zf (mC<|.int 2) zq)
  (zB (zY 10<|zP zx<|zf (zi 0)<|zf (ba (f1 cx)<|zf (zi 5) zq) zq)
  (bw (gc (mB<|af iG (zi 8)<|mC<|.int 3)<|mB<|af AG (af dz (af aU (zi 6)<|zi 9)<|af aU (zi 6)<|zi 10)<|zi 4) (zB (cD<|cB 5<|zP CT<|zf (zi 0)<|zf (zi 5)<|zf (zi 6)<|zf (zi 9) zq)
  (cD<|cB 6<|af aU (zi 6)<|zi 9)) (zB (cD<|cB 5<|cM<|zf (mC<|.str "times")<|zf (af aU (fL<|zf (zi 9)<|zf (zi 10) zq)<|ba (f1 vR)<|zf (af iG (af aU (zi 6)<|zi 9)<|af aU (zi 6)<|zi 10) zq)<|zf (af aU (fL<|zf (zi 10)<|zf (zi 9) zq)<|ba (f1 vR)<|zf (af iG (af aU (zi 6)<|zi 9)<|af aU (zi 6)<|zi 10) zq) zq)
  (cD<|cB 6<|af dz (af aU (zi 6)<|zi 9)<|af aU (zi 6)<|zi 10))))))))
  (bg<|ba (f1 ni)<|zf (zi 5) zq))))
def Dd:FD:=bE 11 [0,1,2,3,4] P1
abbrev P0(Z:Zs):Prop:=Z.C "_law_nodes" 5 ["_law_box_here", "_law_many", "_law_nodes_here", "_law_most", "_law_deep"] 5 Dd
theorem zkh(B:Bs Z)(A:bR Z "_law_nodes" Qq)(c0:rS Z)(c1:Pn Z)(c2:Dm Z):P0 Z :=
 have hB:=B.1; bX A ["_law_box_here", "_law_many", "_law_nodes_here", "_law_most", "_law_deep", "_law_found", "_law_high_here", "_law_k", "_law_word", "_law_i", "_law_j"] λnd hr=>⟨_,(zr (zJ<|bh MW<|ze zd zk)
 (zr (zJ<|zA 1<|ze zd zk)
 (zr (dI (lK<|ze zd zk) zv (zr (zJ<|zA 2<|ze zd<|ze zm zk)
 (zr (bL (g7 (zw<|zo eA (bh cO<|ze zd zk) zm)<|zw<|zo eA zd zm) (zr (dZ<|d0<|dB<|ze cP<|ze (zA 2<|ze zd<|ze zd zk) zk)
 (zr (dZ<|d0 zm)
 zAH)) cX)
 (zr (zJ<|zo zH (gy<|ze (zo oX (bh cO<|ze zd zk) zm)<|ze (zA 2<|ze zd<|ze (bh cO<|ze zd zk) zk) zk)<|zA 2<|ze zd<|ze zm zk)
 (zr (zJ<|zA 2<|ze zd<|ze (bh cO<|ze zd zk) zk)
 (bL (g7 (zw<|zo jq zd zm)<|zw<|zo Fh (zo dU (zo zH zd zd)<|zo zH zd zd) zd) (zr (dZ<|d0<|zA 4<|ze zd<|ze zd<|ze zd<|ze zd zk)
 (dZ<|d0<|zo zH zd zd)) (zr (dZ<|d0<|dB<|ze cP<|ze (zo zH (gy<|ze zd<|ze zd zk)<|bh Gg<|ze (zo jq (zo zH zd zd)<|zo zH zd zd) zk)<|ze (zo zH (gy<|ze zd<|ze zd zk)<|bh Gg<|ze (zo jq (zo zH zd zd)<|zo zH zd zd) zk) zk)
 (dZ<|d0<|zo dU (zo zH zd zd)<|zo zH zd zd))))))))
 (bo<|bh uq<|ze zd zk)))),
 (aD (zL<|ji N6 PyProof.Rows.boot_list<|ae aa zj)
 (aD (zL<|zz<|ae aa zj)
 (aD (dJ (lJ<|ae aa zj) zu (aD (zL<|zz<|ae aa<|ae zn zj)
 (aD (bM (gu<|g8 (zK eB (bz cQ Ã<|ae aa zj) zn)<|jY<|zK eB aa zn) (aD (dW<|dF _ rfl Â À Á zN aa<|ae (dC<|ae cR<|ae (zz<|ae aa<|ae aa zj) zj) zj)
 (aD (dW<|dF _ rfl Â À Á zN aa<|ae zn zj)
 (zE zok))) cY)
 (aD (zL<|zF zQ (gz<|ae (zO pd (bz cQ Ã<|ae aa zj) zn)<|ae (zz<|ae aa<|ae (bz cQ Ã<|ae aa zj) zj) zj)<|zz<|ae aa<|ae zn zj)
 (aD (zL<|zz<|ae aa<|ae (bz cQ Ã<|ae aa zj) zj)
 (zE<|bM (gu<|g8 (zK jr aa zn)<|jY<|zK E8 (zO dX (zF zQ aa aa)<|zF zQ aa aa) aa) (aD (dW<|dF _ rfl Â À Á zN aa<|ae (zz<|ae aa<|ae aa<|ae aa<|ae aa zj) zj)
 (zE<|dW<|dF _ rfl Â À Á zN aa<|ae (zF zQ aa aa) zj)) (aD (dW<|dF _ rfl Â À Á zN aa<|ae (dC<|ae cR<|ae (zF zQ (gz<|ae aa<|ae aa zj)<|ji Hh í<|ae (xM jr (zF zQ aa aa)<|zF zQ aa aa) zj)<|ae (zF zQ (gz<|ae aa<|ae aa zj)<|ji Hh í<|ae (xM jr (zF zQ aa aa)<|zF zQ aa aa) zj) zj) zj)
 (zE<|dW<|dF _ rfl Â À Á zN aa<|ae (zO dX (zF zQ aa aa)<|zF zQ aa aa) zj))))))))
 (zE<|zS<|ji um È<|ae aa zj))))⟩
def PR:MS:=(zB (oh (zi 0)<|fM 3<|cn (zC 1)<|cn (zC 2)<|cn (zC 3) f7)
  (zB (zY 4<|fL zq)
  (zB (cW (de mW<|zi 2) (zC 5)<|bw (mB<|af (bO false) (af aS (zi 5)<|mC<|.int 0)<|mC<|.str "letter") (cD<|cB 4<|zP Du<|zf (af aS (zi 5)<|mC<|.int 1)<|zf (ba (f1 cx)<|zf (zi 1) zq) zq)<|bw (mB<|af (bO false) (af aS (zi 5)<|mC<|.int 0)<|mC<|.str "mix") (cD<|cB 4<|zP yu<|zf (af aS (zi 5)<|mC<|.int 1)<|zf (zi 4)<|zf (ba (f1 cx)<|zf (zi 1) zq) zq)<|cD<|cB 4<|zP ux<|zf (af aU (zi 4)<|af aS (zi 5)<|mC<|.int 1)<|zf (af aU (zi 4)<|af aS (zi 5)<|mC<|.int 2) zq)
  (jo [0] 4))))
def Dk:FD:=bE 6 [0] PR
abbrev PQ(Z:Zs):Prop:=Z.C "node_forms" 6 ["net"] 1 Dk
theorem zl6(B:Bs Z)(A:bR Z "node_forms" PJ)(c0:Ra Z)(c1:HJ Z)(c2:Ho Z):PQ Z :=
 have hB:=B.1; bX A ["net", "letters", "nodes", "top", "told", "node"] λnd hr=>⟨_,(zr (xI zd<|hJ<|zV zv<|zV zv<|zV zv hU)
 (zr (zJ<|gy zk)
 (zr (dI (t9 zd) zv<|bL (zw<|zo eA (zo zI zd zm) cP) (dZ<|d0<|zA 2<|ze (zo zI zd zm)<|ze (bh cO<|ze zd zk) zk)<|bL (zw<|zo eA (zo zI zd zm) cP) (dZ<|d0<|zA 3<|ze (zo zI zd zm)<|ze zd<|ze (bh cO<|ze zd zk) zk)<|dZ<|d0<|zA 2<|ze (zo zH zd<|zo zI zd zm)<|ze (zo zH zd<|zo zI zd zm) zk)
 oW))),
 (aD (rl aa<|hV<|cA zu<|cA zu<|cA zu hW)
 (aD (zL<|gz zj)
 (aD (dJ (tZ aa) zu<|zE<|bM (zK eB (zF zR aa zn) cR) (zE<|dW<|dF _ rfl Â À Á zN aa<|ae (zz<|ae (zF zR aa zn)<|ae (bz cQ Ã<|ae aa zj) zj) zj)<|zE<|bM (zK eB (zF zR aa zn) cR) (zE<|dW<|dF _ rfl Â À Á zN aa<|ae (zz<|ae (zF zR aa zn)<|ae aa<|ae (bz cQ Ã<|ae aa zj) zj) zj)<|zE<|dW<|dF _ rfl Â À Á zN aa<|ae (zz<|ae (zF zQ aa<|zF zR aa zn)<|ae (zF zQ aa<|zF zR aa zn) zj) zj)
 (zE<|zS aa))))⟩
def NJ:MS:=(zB (zY 2<|zP CK<|zf (zi 0) zq)
  (bg<|kS (BF<|zf (af aS (zi 0)<|mC<|.int 1) zq) 2 [2,1] (fM 2<|cn (zC 0)<|cn (zC 1) f7) (om (mB<|af (bO false) (af aS (zi 1)<|mC<|.int 0)<|mC<|.str "times")<|mB<|tV nU iG (af aU (zi 2)<|af aS (zi 1)<|mC<|.int 1) (zi 3)<|af aU (zi 2)<|zi 0)<|zi 0))
def yt:FD:=bE 3 [0,1] NJ
abbrev NI(Z:Zs):Prop:=Z.C "border" 6 ["net", "m"] 2 yt
theorem Xn(B:Bs Z)(A:bR Z "border" NK)(c0:Om Z):NI Z :=
 have hB:=B.1; bX A ["net", "m", "reached"] λnd hr=>⟨_,(zr (zJ<|zA 1<|ze zd zk)
 (bo<|tz (WY<|ze (zo zI zd zm) zk) (hJ<|zV zv<|zV zv hU) (v5 (zw<|zo eA (zo zI zd zm) cP)<|zw<|B3 rg jq (zo zH zd<|zo zI zd zm) zd<|zo zH zd zd) zd)),
 (aD (zL<|zz<|ae aa zj)
 (zE<|zS<|vA (W3<|ae (zF zR aa zn) zj) (hV<|cA zu<|cA zu hW) (BN<|gu<|wa (zK eB (zF zR aa zn) cR)<|wq<|GS rB jr (zF zQ aa<|zF zR aa zn) aa<|zF zQ aa aa) aa))⟩
def Pl:MS:=(zB (zY 4<|zP Dd<|zf (zi 0)<|zf (ba (f1 cx)<|zf (zi 1) zq)<|zf (cM zq)<|zf (zP zx<|zf (zi 0)<|zf (af dz (zi 2)<|mC<|.int 1) zq)<|zf (zi 3) zq)
  (bg<|cM<|zf (zi 1)<|zf (zi 4)<|zf (zP CU<|zf (zi 0)<|zf (zi 4)<|zf (zi 3) zq) zq))
def CZ:FD:=bE 5 [0,1,2,3] Pl
abbrev OX(Z:Zs):Prop:=Z.C "_law_net" 6 ["_law_box_here", "_law_letters", "_law_most", "_law_deep"] 4 CZ
theorem znL(B:Bs Z)(A:bR Z "_law_net" O8)(c0:rS Z)(c1:P0 Z)(c2:Pp Z):OX Z :=
 have hB:=B.1; bX A ["_law_box_here", "_law_letters", "_law_most", "_law_deep", "_law_nodes_here"] λnd hr=>⟨_,(zr (zJ<|zA 5<|ze zd<|ze (bh cO<|ze zd zk)<|ze (dB zk)<|ze (zA 2<|ze zd<|ze (zo dU zd zm) zk)<|ze zd zk)
 (bo<|dB<|ze zd<|ze zd<|ze (zA 3<|ze zd<|ze zd<|ze zd zk) zk)),
 (aD (zL<|zz<|ae aa<|ae (bz cQ Ã<|ae aa zj)<|ae (dC zj)<|ae (zz<|ae aa<|ae (zO dX aa zn) zj)<|ae aa zj)
 (zE<|zS<|dC<|ae aa<|ae aa<|ae (zz<|ae aa<|ae aa<|ae aa zj) zj))⟩
def Mi:MS:=(zB (oh (zi 0)<|fM 3<|cn (zC 3)<|cn (zC 4)<|cn (zC 5) f7)
  (zB (zY 6<|zP Dk<|zf (zi 0) zq)
  (zB (zY 7<|zP wI<|zf (mC<|.tuple [.int 0,.int 1])<|zf (ba (f1 cx)<|zf (zi 3) zq) zq)
  (zB (zY 8<|af vH (af vD (fL<|zf (zi 7) zq)<|zi 2)<|fL<|zf (zP wI<|zf (mC<|.tuple [.int 1,.int 1])<|zf (ba (f1 cx)<|zf (zi 3) zq) zq) zq)
  (zB (cW (de mW<|uL Be (zi 4) (qZ<|af dz (zi 2)<|mC<|.int 1)<|qZ<|af dz (zi 1)<|mC<|.int 1) (zC 9)<|bw (mB<|af (bO false) (af aS (zi 9)<|mC<|.int 0)<|mC<|.str "letter") (cD<|cB 8<|zi 7)<|bw (mB<|af (bO false) (af aS (zi 9)<|mC<|.int 0)<|mC<|.str "mix") (cD<|cB 8<|zP yu<|zf (af aS (zi 9)<|mC<|.int 1)<|zf (zi 8)<|zf (ba (f1 cx)<|zf (zi 3) zq) zq)<|cD<|cB 8<|zP ux<|zf (af aU (zi 8)<|af aS (zi 9)<|mC<|.int 1)<|zf (af aU (zi 6)<|af aS (zi 9)<|mC<|.int 2) zq)
  (bg<|ba (f1 ni)<|zf (zP DA<|zf (af aU (zi 8)<|zi 1) zq) zq))))))
def Cj:FD:=bE 10 [0,1,2] Mi
abbrev Mh(Z:Zs):Prop:=Z.C "share" 7 ["net", "u", "v"] 3 Cj
theorem Wa(B:Bs Z)(A:bR Z "share" Mj)(c0:HI Z)(c1:HJ Z)(c2:Qv Z)(c3:Ho Z)(c4:PQ Z):Mh Z :=
 by obtain⟨hB,_,_,⟨bH,bJ,bq⟩,⟨mO,mD,i7⟩,_⟩:=B; exact bX A ["net", "u", "v", "letters", "nodes", "top", "forms", "nought", "shares", "node"] λnd hr=>⟨_,(zr (xI zd<|hJ<|zV zv<|zV zv<|zV zv hU)
 (zr (zJ<|zA 1<|ze zd zk)
 (zr (zJ<|zA 2<|ze (F9 bq)<|ze (bh cO<|ze zd zk) zk)
 (zr (zJ<|zo zAA (zo zBz (gy<|ze zd zk) zd)<|gy<|ze (zA 2<|ze (F9 i7)<|ze (bh cO<|ze zd zk) zk) zk)
 (zr (dI (t9<|Bf zAI zd (ym<|zo dU zd zm)<|ym<|zo dU zd zm) zv<|bL (zw<|zo eA (zo zI zd zm) cP) (dZ<|d0 zd)<|bL (zw<|zo eA (zo zI zd zm) cP) (dZ<|d0<|zA 3<|ze (zo zI zd zm)<|ze zd<|ze (bh cO<|ze zd zk) zk)<|dZ<|d0<|zA 2<|ze (zo zH zd<|zo zI zd zm)<|ze (zo zH zd<|zo zI zd zm) zk)
 (bo<|bh uq<|ze (zA 1<|ze (zo zH zd zd) zk) zk)))))),
 (aD (rl aa<|hV<|cA zu<|cA zu<|cA zu hW)
 (aD (zL<|zz<|ae aa zj)
 (aD (zL<|zz<|ae (tY (v:=.ref bH) rfl bJ rfl)<|ae (bz cQ Ã<|ae aa zj) zj)
 (aD (zL<|zO zAl (zO zAm (gz<|ae aa zj) aa)<|gz<|ae (zz<|ae (tY (v:=.ref mO) rfl mD rfl)<|ae (bz cQ Ã<|ae aa zj) zj) zj)
 (aD (dJ (tZ<|Ca zDZ aa (ye<|zO dX aa zn)<|ye<|zO dX aa zn) zu<|zE<|bM (zK eB (zF zR aa zn) cR) (zE<|dW<|dF _ rfl Â À Á zN aa<|ae aa zj)<|zE<|bM (zK eB (zF zR aa zn) cR) (zE<|dW<|dF _ rfl Â À Á zN aa<|ae (zz<|ae (zF zR aa zn)<|ae aa<|ae (bz cQ Ã<|ae aa zj) zj) zj)<|zE<|dW<|dF _ rfl Â À Á zN aa<|ae (zz<|ae (zF zQ aa<|zF zR aa zn)<|ae (zF zQ aa<|zF zR aa zn) zj) zj)
 (zE<|zS<|ji um È<|ae (zz<|ae (zF zQ aa aa) zj) zj))))))⟩
def Rk:MS:=(zB (zY 2<|fL zq)
  (zB (cW (jn<|zf (ba (f1 cx)<|zf (af aS (zi 0)<|mC<|.int 1) zq) zq) (zC 3) (zB (zY 4<|fL zq)
  (zB (cW (jn<|zf (ba (f1 cx)<|zf (af aS (zi 0)<|mC<|.int 1) zq) zq) (zC 5)<|bw (mB<|af nU (af aU (zi 1)<|zi 5)<|af aU (zi 1)<|zi 3) (cD<|cB 4<|dN<|ba (f1 BX)<|zf (ba (f1 xK)<|zf (zP Cj<|zf (zi 0)<|zf (zi 3)<|zf (zi 5) zq) zq) zq)<|cD<|cB 4<|dN kP)
  (cD<|cB 2<|dN<|zi 4))))
  (jo [0,1] 2)))
def DD:FD:=bE 6 [0,1] Rk
abbrev Rj(Z:Zs):Prop:=Z.C "_law_told_shares" 8 ["_law_net_here", "_law_high_here"] 2 DD
theorem zfp(B:Bs Z)(A:bR Z "_law_told_shares" Rn)(c0:Mh Z):Rj Z :=
 have hB:=B.1; bX A ["_law_net_here", "_law_high_here", "_law_found", "_law_u", "_law_row", "_law_v"] λnd hr=>⟨_,(zr (zJ<|gy zk)
 (zr (dI (lK<|ze (bh cO<|ze (zo zI zd zm) zk) zk) zv (zr (zJ<|gy zk)
 (zr (dI (lK<|ze (bh cO<|ze (zo zI zd zm) zk) zk) zv<|bL (zw<|zo rg (zo zH zd zd)<|zo zH zd zd) (dZ<|d0<|eL<|bh Yz<|ze (bh MW<|ze (zA 3<|ze zd<|ze zd<|ze zd zk) zk) zk)<|dZ<|d0<|eL pf)
 (dZ<|d0<|eL zd))))
 oW)),
 (aD (zL<|gz zj)
 (aD (dJ (lJ<|ae (bz cQ Ã<|ae (zF zR aa zn) zj) zj) zu (aD (zL<|gz zj)
 (aD (dJ (lJ<|ae (bz cQ Ã<|ae (zF zR aa zn) zj) zj) zu<|zE<|bM (zK rB (zF zQ aa aa)<|zF zQ aa aa) (zE<|dW<|dF _ rfl Â À Á zN aa<|ae (eI<|ji (zo8 _ rfl hr rfl) PyProof.Rows.boot_dict<|ae (ji N6 PyProof.Rows.boot_list<|ae (zz<|ae aa<|ae aa<|ae aa zj) zj) zj) zj)<|zE<|dW<|dF _ rfl Â À Á zN aa<|ae (eI pj) zj)
 (zE<|dW<|dF _ rfl Â À Á zN aa<|ae (eI aa) zj))))
 (zE<|zS aa)))⟩
def Kr:MS:=(zB (zY 1<|zP CV<|zf (zi 0)<|zf (mC<|.int 0) zq)
  (zB (zY 2<|zP Dg<|zf (zi 1)<|zf (af aU (fL<|zf (mC<|.int 1)<|zf (mC<|.int 1)<|zf (mC<|.int 2)<|zf (mC<|.int 2)<|zf (mC<|.int 2)<|zf (mC<|.int 3) zq)<|zP zx<|zf (zi 1)<|zf (mC<|.int 6) zq) zq)
  (zB (zY 3<|zP CZ<|zf (zi 1)<|zf (zi 2)<|zf (mC<|.int 8)<|zf (af aU (fL<|zf (mC<|.int 5)<|zf (mC<|.int 4)<|zf (mC<|.int 3) zq)<|af lB (ba (f1 cx)<|zf (zi 2) zq)<|mC<|.int 1) zq)
  (zB (zY 4<|zP pE<|zf (af aS (zi 3)<|mC<|.int 1) zq)
  (zB (zY 5<|zP Ds<|zf (zi 3) zq)
  (zB (zY 6<|zP DD<|zf (zi 3)<|zf (zi 4) zq)
  (zB (cW (jn<|zf (af dz (Bc BE (zf (zi 4) zq)<|zf (mC<|.int 0) zq)<|mC<|.int 2) zq) (zC 7) (zB (zY 8<|zP yt<|zf (zi 3)<|zf (zi 7) zq)
  (zB (zY 9<|zP DB<|zf (af aS (zi 3)<|mC<|.int 1)<|zf (zi 4)<|zf (zi 7) zq)
  (zB (bw (gc (iw<|mB<|b9 (iI "list")<|zi 8)<|gc (iw<|mB<|ba (f1 A2)<|zf (kS (HV 8) 1 [] (zC 0) mU<|zP Di<|zf (zi 0) zq) zq)<|mB<|af (kJ true) (zi 8)<|zi 9) (bg<|mC<|.bool false) cy)
  (zB (cD<|cB 8<|b9 mX<|mC<|.int 1)
  (zB (bw (mB<|af (kJ true) (zP yt<|zf (zi 3)<|zf (zi 7) zq)<|zi 9) (bg<|mC<|.bool false) cy)
  (cW (jn<|zf (ba (f1 cx)<|zf (zi 4) zq) zq) (zC 10)<|bw (mB<|tV nU iG (mC<|.int 1) (zi 7)<|af aU (zi 4)<|zi 10) (bw (gc (mB<|af (xx false) (zP Dw<|zf (zi 5)<|zf (zi 6)<|zf (zi 10)<|zf (zi 9) zq)<|af aU (zi 5)<|zi 10)<|iw<|mB<|zP De<|zf (zi 4)<|zf (zi 6)<|zf (zi 10)<|zf (zi 7)<|zf (zi 9) zq) (bg<|mC<|.bool false) cy) cy)))))))
  (bg<|mC<|.bool true))))))))
def vL:FD:=bE 11 [0] Kr
theorem zBG{f:Qg}(B:Bs Z)(F:kH Z.K "law" "law" Kt f fd)(c0:NI Z)(c1:O5 Z)(c2:rS Z)(c3:P8 Z)(c4:Dm Z)(c5:OX Z)(c6:Ri Z)(c7:Qy Z)(c8:Qk Z)(c9:Rj Z)(c10:QU Z)(c11:P4 Z):cL Z.P Z.w Z.K Z.mg Z.base jg 9 f fd ["_law_script"] (rX Z.K 1 vL):=
 have hB:=B.1; Sd F ["_law_script", "_law_box_here", "_law_letters", "_law_net_here", "_law_high_here", "_law_polys", "_law_shares", "_law_m", "_law_some", "_law_due", "_law_u"] λnd hr=>⟨_,(zr (zJ<|zA 2<|ze zd<|ze zm zk)
 (zr (zJ<|zA 2<|ze zd<|ze (zo zH (gy<|ze zm<|ze zm<|ze zm<|ze zm<|ze zm<|ze zm zk)<|zA 2<|ze zd<|ze zm zk) zk)
 (zr (zJ<|zA 4<|ze zd<|ze zd<|ze zm<|ze (zo zH (gy<|ze zm<|ze zm<|ze zm zk)<|zo oX (bh cO<|ze zd zk) zm) zk)
 (zr (zJ<|zA 1<|ze (zo zI zd zm) zk)
 (zr (zJ<|zA 1<|ze zd zk)
 (zr (zJ<|zA 2<|ze zd<|ze zd zk)
 (zr (dI (lK<|ze (zo dU (zCz WW (ze zd zk)<|ze zm zk) zm) zk) zv (zr (zJ<|zA 2<|ze zd<|ze zd zk)
 (zr (zJ<|zA 3<|ze (zo zI zd zm)<|ze zd<|ze zd zk)
 (zr (bL (g7 (jW<|gY<|oQ (T := "list") zd)<|g7 (jW<|gY<|bh zBa<|ze (Kw zBC zv tW<|zA 1<|ze zd zk) zk)<|zw<|zo (FJ true) zd zd) (bo qP) cX)
 (zr (dZ<|d0<|fu ua zm)
 (zr (bL (zw<|zo (FJ true) (zA 2<|ze zd<|ze zd zk) zd) (bo qP) cX)
 (dI (lK<|ze (bh cO<|ze zd zk) zk) zv<|bL (zw<|B3 rg jq zm zd<|zo zH zd zd) (bL (g7 (zw<|zo Mm (zA 4<|ze zd<|ze zd<|ze zd<|ze zd zk)<|zo zH zd zd)<|jW<|gY<|zA 5<|ze zd<|ze zd<|ze zd<|ze zd<|ze zd zk) (bo qP) cX) cX)))))))
 (bo qP)))))))),
 (aD (zL<|zz<|ae aa<|ae zn zj)
 (aD (zL<|zz<|ae aa<|ae (zF zQ (gz<|ae zn<|ae zn<|ae zn<|ae zn<|ae zn<|ae zn zj)<|zz<|ae aa<|ae zn zj) zj)
 (aD (zL<|zz<|ae aa<|ae aa<|ae zn<|ae (zF zQ (gz<|ae zn<|ae zn<|ae zn zj)<|zO pd (bz cQ Ã<|ae aa zj) zn) zj)
 (aD (zL<|zz<|ae (zF zR aa zn) zj)
 (aD (zL<|zz<|ae aa zj)
 (aD (zL<|zz<|ae aa<|ae aa zj)
 (aD (dJ (lJ<|ae (zO dX (zCr (zAx _ rfl rfl) Ā (ae aa zj)<|W4 zn zAw) zn) zj) zu (aD (zL<|zz<|ae aa<|ae aa zj)
 (aD (zL<|zz<|ae (zF zR aa zn)<|ae aa<|ae aa zj)
 (aD (bM (gu<|g8 (jX<|jt<|bz oK É<|ae aa<|ae (oZ (v:=.ty "list") PyProof.Rows.boot_list rfl) zj)<|g8 (jX<|jt<|bz (zCp _ rfl rfl) PyProof.Rows.boot_all<|ae (vA (Gj aa) zu t4<|zz<|ae aa zj) zj)<|jY<|zK (LK _ rfl hr) aa aa) (zE<|zS qU) cY)
 (aD (dW<|dF _ rfl Â À Á zN aa<|ae (tD t5 zn) zj)
 (aD (bM (zK (LK _ rfl hr) (zz<|ae aa<|ae aa zj) aa) (zE<|zS qU) cY)
 (zE<|dJ (lJ<|ae (bz cQ Ã<|ae aa zj) zj) zu<|zE<|bM (GS rB jr zn aa<|zF zQ aa aa) (zE<|bM (gu<|g8 (zK (Mn (.inr ⟨rfl,rfl⟩) _ rfl hr) (zz<|ae aa<|ae aa<|ae aa<|ae aa zj)<|zF zQ aa aa)<|jY<|jX<|jt<|zz<|ae aa<|ae aa<|ae aa<|ae aa<|ae aa zj) (zE<|zS qU) cY) cY)))))))
 (zE<|zS qU))))))))⟩
end
end K35
set_option exponentiation.threshold 10000
open PySem L2
open Lean in
local macro_rules|`(tactic|simp![$ls,*])=>do
 let u<-("↓Yy ↓zDq ↓zqG ↓Uh ↓Yx ↓zqH ↓znB ↓zkT ↓Yw ↓Ug ↓Yv ↓Yu ↓zqI ↓Yt ↓zqJ ↓zDr ↓Ud ↓Xs ↓Xr ↓Xq ↓zqK ↓znC ↓zqL ↓Ui ↓Ue ~Uj ~zqM ~zqN ~Uc ~Xp ~znD zDk zDl zDm zDn zDo zDp ↓Um ↓Ul eW ↓zt ↓iM Nb RS ↓Vh ↓YB Na ↓YA ↓Zc ↓Zb ↓Za ↓Y9 ↓zp7 Oc ↓Y8 ↓Y7 ↓Vg ↓Y6 ↓zp8 ↓zp9 ↓Y5 ↓Y4 ↓Y3 ↓zm2 ↓zqa ↓zqb ↓zm4 ↓Vf ↓Ve ↓zqc ↓zqd ↓zqf ↓Y2 ↓Y1 ↓Vb ↓zkN ↓zqg ↓Y0 ↓YZ ↓zm5 ↓zqh ↓zm6 ↓zqi ↓Va ↓zm7 ↓YX ↓znh ↓Ze ↓znp ↓Yq ↓BY ↓Yn ↓zqA bd U4 YO zpQ zmX O4 zkJ zi9 zmY zCE zCF YN ~zpR ~zpS ~zpT U3 U2 U1 U0 zpU zCI zCJ UZ UY UX zCL zCM zCN YK YJ zpV YI UW UU zCT zCU zCV zCW UT US YF YE zCX UR UQ UP zpW UO Vt Vs Vr Vq Vp Vo ~zpX zmZ zkL Vn Vm BZ zpY zCY zCZ zC0 zC1 zC2 zC3 zC4 zC5 zC6 zC7 Vk Vj zp0 Vi zp1 YD YC Nd Lx Vd Vc zqe U9 ~zm8 ~zm9 ~LB ~U8 qV YW YV Ob U7 U6 U5 YU zqo M9 nC zqu zqv X3 X2 znl zkQ Vv Vu Oa Hr XZ N9 ~Yp ~Yo Ym Yl Yk Yj zqB znw zqC !List.getElem?_cons_zero !List.getElem?_cons_succ !List.set_cons_zero !List.set_cons_succ !List.cons_append !List.nil_append !List.length_cons !List.length_nil !List.replicate !Option.map_some !decide_eq_true_eq !List.mem_cons !List.not_mem_nil !true_or !or_true !or_false !false_or !if_true !if_false !ite_true !ite_false !true_and !and_true !and_false !false_and !Bool.not_true !Bool.not_false !Bool.false_eq_true !not_true !not_false_iff !Nat.zero_add !Nat.reduceAdd !Nat.reduceLeDiff !Nat.reduceEqDiff !Nat.reduceSub !Nat.reduceLT !List.map_cons !List.map_nil !List.getD_cons_zero !List.getD_cons_succ !List.drop_succ_cons !List.drop_zero !decide_true !decide_false !Bool.true_and !Bool.and_true !Bool.true_or !Bool.or_true !Bool.false_or !Bool.or_false !Bool.false_and !Bool.and_false !reduceCtorEq !List.length_map !List.length_append Vl zpZ !String.reduceEq ↓!reduceIte !Int.reduceEq !Int.reduceNe !Int.reduceLT !Int.reduceLE !Int.reduceAdd !Int.reduceSub !Int.reduceNeg !Int.reduceToNat !Int.cast_ofNat_Int !implies_true !forall_const !Option.map_none".splitOn " ").toArray.mapM λx=>do
  let n:=(((x.replace "↓" "").replace "~" "").replace "!" "").toName
  let y:=mkIdent (if x.contains '!' then n else `L2++n)
  if x.startsWith "↓" then `(Parser.Tactic.simpLemma|↓$y:term) else if x.startsWith "~" then `(Parser.Tactic.simpLemma|nr $y) else `(Parser.Tactic.simpLemma|$y:term)
 `(tactic|simp (disch:=first|with_unfolding_all exact Uk rfl|omega | (simp only[List.length_cons,List.length_nil,List.length_map,List.length_append,List.length_take,List.length_drop,Nat.zero_add,Nat.reduceAdd]<;>omega) | fail) only[$ls,*,$u,*])
local macro_rules | `(tactic| simp!)=>`(tactic| simp![Option.map_none])
namespace K35
open PySem L2
abbrev bx(x y:Int):U:=.l [.int x,.int y]
theorem fN{x w:Int}{Q:U×Qa U->Prop}(hw:0 < w)(Jm:w<=18446744073709551616)(k:∀ r x' y',0<=r->r < w->Q (.d<|.int r,[bx x' y',.d<|.int w])):Wo (zx [bx x y,.d<|.int w]) Q:=by
 simp![zx,Pz];refine jP (λhx=>?_) λhx=>?_
 .simp![hx]
  exact k _ _ _ (ç _ (by omega))<|ì _ hw
 .simp![hx]
  exact k _ _ _ (ç _ (by omega))<|ì _ hw
theorem K7{k:Int}(h0:0<=k)(h:k < (ns.length:Int)):∃ v:Int,bU (ns.map PyData.int) k=some (.int v):=by
 have hk:k.toNat < ns.length:=by omega
 refine⟨ns[k.toNat],?_⟩;unfold bU d4;rw[if_pos h0,if_pos (by rw[List.length_map]; exact h),bd,List.getElem?_map,qo hk];rfl
theorem zDt{k:Int}{Q:U×Qa U->Prop}(h0:0<=k)(q:∀ x y,Q (bx x y,[.d<|.list<|ns.map .int,.d<|.int k])):Wo (CV [.d<|.list<|ns.map .int,.d<|.int k]) Q:=by
 simp![CV,O6,List.length_map];refine jP (λh1=>?_) λh1=>?_
 .have(v,hv):=K7 h0 h1
  simp![hv];exact q _ _
 .simp![List.length_map]
  refine jP (λh2=>?_) λh2=>?_
  .have hm:=ì k h2
   have hm0:=ç k (show(ns.length:Int)≠0 by omega);have(v,hv):=K7 hm0 hm;simp![hv];exact q _ _
  .simp!
   exact q _ _
theorem Dp{x:Int}(hx:0<=x)(hy:0<=y):pB [.d<|.int x,.d<|.int y]=some (.d<|.int (Int.gcd x y:Nat),[.d<|.int x,.d<|.int y]):=by
 refine zU ?_;simp![pB,Qs];refine Nv (λk ρ=>∃ a b:Int,ρ=[some<|.d<|.int a,some<|.d<|.int b]/\0<=a/\0<=b/\b.toNat=k/\Int.gcd a b=Int.gcd x y) _ ⟨x,y,rfl,hx,hy,rfl,rfl⟩ ?_;rintro k _ ⟨a,b,rfl,ha,hb,hk,hg⟩;simp!
 by_cases hz:b=0
 .subst hz
  have e:a=((Int.gcd x y:Nat):Int):=by rw[<-hg,Int.gcd_zero_right]; omega
  subst e;simp![bne_self_eq_false]
 .have kD:(b != 0)=true:=by simp[hz]
  simp![kD];refine⟨(a % b).toNat,?_,_,_,rfl,by omega,ç _ hz,rfl,?_⟩
  .have:=ì a (show 0 < b by omega)
   have:=ç a hz;omega
  .rw[NL a b ha (by omega)]
   exact hg
theorem FF{a b:Nat}(h:a<=b)(hb:b.log2 < 9000):a.log2 < 9000:=by
 by_cases z:a=0
 .rw[z]; decide
 .exact Å ((Nat.le_log2 (by omega)).mpr<|qC (Nat.log2_self_le z) h) hb
theorem Dv{n d:Int}(hd:d≠0)(hb:d.natAbs.log2 < 9000):uA [.d<|.int n,.d<|.int d]=some (.d<|fR<|Rat.divInt n d,[.d<|.int n,.d<|.int d]):=by
 have gl:Int.gcd n d<=d.natAbs:=Int.gcd_le_natAbs_right n hd;have gp:0 < Int.gcd n d:=þ n hd;have AD:=FF gl hb;refine zU ?_;rw[<-Lm hd];unfold mT kZ;rw[<-Np n d (show(0:Int) < (Int.gcd n d:Nat) by omega),<-Np d d (show(0:Int) < (Int.gcd n d:Nat) by omega)];simp![uA,Rc];refine Nv (λk ρ=>∃ a b:Int,ρ=[some<|.d<|.int n,some<|.d<|.int d,some<|.d<|.int a,some<|.d<|.int b]/\0<=a/\0<=b/\b.toNat=k/\Int.gcd a b=Int.gcd n d) _ ⟨_,_,rfl,by split<;>omega,by split<;>omega,rfl,Yb n d⟩ ?_;rintro k _ ⟨a,b,rfl,ha,hb0,hk,hg⟩;simp!
 by_cases hz:b=0
 .subst hz
  have e:a=((Int.gcd n d:Nat):Int):=by rw[<-hg,Int.gcd_zero_right]; omega
  subst e;have c1:tO n ((Int.gcd n d:Nat):Int):=⟨by omega,by rw[Int.natAbs_natCast]; exact AD⟩;have c2:tO n (0 - ((Int.gcd n d:Nat):Int)):=⟨by omega,by rw[Int.zero_sub,Int.natAbs_neg,Int.natAbs_natCast]; exact AD⟩;simp!;refine jP (λh=>?_) λh=>?_
  .simp![h,vX (a:=n) c2,vX (a:=d) c2]
  .simp![h,vX (a:=n) c1,vX (a:=d) c1]
 .simp![hz]
  refine⟨(a % b).toNat,?_,_,_,rfl,by omega,ç _ hz,rfl,?_⟩
  .have:=ì a (show 0 < b by omega)
   have:=ç a hz;omega
  .rw[NL a b ha (by omega)]
   exact hg
theorem zfq{n d:Int}(hd:d≠0)(hb:d.natAbs.log2 < 9000):CQ [.d<|.int n,.d<|.int d]=some (.d<|fR<|Rat.divInt n d,[.d<|.int n,.d<|.int d]):=by
 have gl:Int.gcd n d<=d.natAbs:=Int.gcd_le_natAbs_right n hd;have gp:0 < Int.gcd n d:=þ n hd;have c1:∀ z:Int,vJ z ((Int.gcd n d:Nat):Int):=λz=>⟨by omega,by rw[Int.natAbs_natCast]; exact FF gl hb⟩;refine zU ?_;rw[<-Lm hd];unfold mT kZ;simp![CQ,OI]
 by_cases h:d < 0
 .have cf:pB [.d<|.int (if -n < 0 then - -n else -n),.d<|.int (-d)]=some (.d<|.int (Int.gcd n d:Nat),[.d<|.int (if -n < 0 then - -n else -n),.d<|.int (-d)]):=by
   rw[Dp (by split<;>omega) (by omega),Gn,Int.neg_gcd,Int.gcd_neg]
  simp![h,cf,F3<|c1 _]
 .have cf:pB [.d<|.int (if n < 0 then -n else n),.d<|.int d]=some (.d<|.int (Int.gcd n d:Nat),[.d<|.int (if n < 0 then -n else n),.d<|.int d]):=by
   rw[Dp (by split<;>omega) (by omega),Gn]
  simp![h,cf,F3<|c1 _]
structure Sz (r:Rat):Prop where
 n:r.num.natAbs < 2^4000
 d:r.den < 2^4000
theorem Sz.di{r:Rat}(h:Sz r):(r.den:Int).natAbs < 2^4000:=by rw[Int.natAbs_natCast]; exact h.d
theorem lgd(h:n < 2^4000):n.log2 < 4000:=uu (by decide) h
theorem nJ(h:n < 2^4000):n.log2 < 1000000:=Þ (lgd h) (by decide)
theorem K6{a b:Nat}(h:a < 2^4000)(h':b < 2^4000):(a * b).log2 < 9000:=by
 refine Þ (uu (k:=4000+4000) (by decide) ?_) (by decide);rw[Nat.pow_add];exact Nat.mul_lt_mul'' h h'
section
variable{a b:Rat}
theorem OW(ha:Sz a)(hb:Sz b):yC [.d<|fR a,.d<|fR b]=some (.d<|fR<|a+b,[.d<|fR a,.d<|fR b]):=by
 refine zU ?_;have da:=kY a;have db:=kY b;have JU:((a.den:Int) * (b.den:Int))≠0:=Int.mul_ne_zero (by omega) (by omega);have lf:=Dv (n:=a.num * (b.den:Int)+b.num * (a.den:Int)) JU (by rw[Int.natAbs_mul,Int.natAbs_natCast,Int.natAbs_natCast]; exact K6 ha.d hb.d);rw[VD]at lf;simp![yC,Py,jV (nJ ha.n)<|nJ hb.di,jV (nJ hb.n)<|nJ ha.di,jV (nJ ha.di)<|nJ hb.di,lf]
theorem PN(ha:Sz a)(hb:Sz b):yB [.d<|fR a,.d<|fR b]=some (.d<|fR<|a * b,[.d<|fR a,.d<|fR b]):=by
 refine zU ?_;have da:=kY a;have db:=kY b;have JU:((a.den:Int) * (b.den:Int))≠0:=Int.mul_ne_zero (by omega) (by omega);have lf:=Dv (n:=a.num * b.num) JU (by rw[Int.natAbs_mul,Int.natAbs_natCast,Int.natAbs_natCast]; exact K6 ha.d hb.d);rw[VB]at lf;simp![yB,P7,jV (nJ ha.n)<|nJ hb.n,jV (nJ ha.di)<|nJ hb.di,lf]
end
end K35
open PySem L2
namespace K35
open PySem L2
abbrev xi:Str := "abcdefghijklmnopqrstuvwxyz"
theorem Ci:∀ c∈xi.cps.toList,c < 128:=by decide
theorem Cg:xi.length=26:=by decide
theorem V9{z:Str}{n:Int}(h0:0<=n)(h1:n<=1):xO (.d<|.str z) (.d<|.int n)=some (.d<|.str<|vz z n):=by
 unfold xO;dsimp only;rw[if_pos ⟨h0,h1⟩]
theorem V8{k:Nat}{z:Str}{n:Int}(hz:bD k z)(h0:0<=n)(h1:n<=1):bD k (vz z n):=by
 rcases(by omega:n=0\/n=1)with rfl|rfl
 .exact⟨Ç _,λc hc=>by cases hc⟩
 .exact hz
theorem Rv{zs:Qa Str}{lo hi:Qb Int}:∃ ws:Qa Str,iJ (zs.map PyData.str) lo hi=ws.map PyData.str/\ws.length<=zs.length/\∀ z∈ws,z∈zs:=by
 refine⟨(zs.drop<|HT.aV zs.length 0 lo).take<|HT.aV zs.length zs.length hi - HT.aV zs.length 0 lo,?_,?_,λz hz=>List.mem_of_mem_drop<|List.mem_of_mem_take hz⟩
 .unfold iJ
  rw[List.length_map,<-List.map_drop,<-List.map_take]
 .rw[List.length_take,List.length_drop]
  omega
theorem Kq{neg:Bool}{zs:Qa Str}{Q:U->Prop}(k:∀ b,Q<|.d<|.bool b):Wo (sR neg (.d<|.str x)<|.l<|zs.map PyData.str) Q:=by
 unfold sR;show Wo ((xq (.str x)<|zs.map PyData.str).bind _) Q;unfold xq;rw[GR];exact⟨_,rfl,k _⟩
theorem zDv{neg:Bool}{zs:Qa Str}{Q:U->Prop}(k:∀ b,Q<|.d<|.bool b):Wo (sR neg (.d<|.str x)<|.d<|.tuple<|zs.map PyData.str) Q:=by
 unfold sR;show Wo ((xq (.str x)<|zs.map PyData.str).bind _) Q;unfold xq;rw[GR];exact⟨_,rfl,k _⟩
theorem V7{x m:Int}{Q:U×Qa U->Prop}(h1:1<=m)(h3:m<=3)(k:∀ (ns:Qa Str) x' y',ns.length=m.toNat->(∀ z∈ns,bD 10 z)->Q (.d<|.tuple<|ns.map .str,[bx x' y',.d<|.int m])):Wo (Dg [bx x y,.d<|.int m]) Q:=by
 simp![Dg,P9];refine fN (by decide) (by decide) λr1 x1 y1 a1 b1=>?_;simp!;refine L7 (λi ρ ys=>∃ (x y:Int) (zs:Qa Str),ρ=[none,some<|bx x y,some<|.d<|.str xi]/\ys=zs.map PyData.str/\zs.length=i/\∀ z∈zs,bD 1 z) ?_ ⟨_,_,[],rfl,rfl,rfl,λz hz=>by cases hz⟩ ?_ ?_ ?_
 .rw[zl]; omega
 .rintro i ρ ys ⟨x,y,zs,rfl,rfl,hl,_⟩
  simp[hl]
 .rintro i _ _ hi ⟨x,y,zs,rfl,rfl,hl,hz⟩
  simp![LB];refine fN (by decide) (by decide) λr2 x2 y2 a2 b2=>?_;simp!;refine B2 a2 (by rw[Cg]; omega) (by decide) λc hc=>?_;simp!;exact⟨x2,y2,zs++[⟨#[c]⟩],rfl,by rw[List.map_append]; rfl,by rw[qw,hl]; rfl,λz Ji=>by
   rcases Ï.mp Ji with h|h
   .exact hz z h
   .cases qu.mp h
    exact bD.one<|Ci c hc⟩
 rintro _ _ ⟨x2,y2,sg,rfl,rfl,hl,hs⟩;simp!;refine fN (by omega) (by omega) λr3 x3 y3 a3 b3=>?_;simp!;refine fN (by decide) (by decide) λr4 x4 y4 a4 b4=>?_;simp!;refine qX (λi ρ=>∃ (x y:Int) (v7 v8 v9:Qb U) (zs:Qa Str),ρ=[some<|bx x y,some<|.d<|.int m,some<|.d<|.str xi,some<|.l<|sg.map .str,some<|.d<|.int r3,some<|.d<|.int r4,some<|.l<|zs.map PyData.str,v7,v8,v9,none]/\zs.length=i/\∀ z∈zs,bD 10 z) ⟨x4,y4,none,none,none,[],rfl,rfl,λz hz=>by cases hz⟩ ?_ ?_
 .rintro i _ hi ⟨x,y,v7,v8,v9,zs,rfl,Al,hz⟩
  simp!;refine B2 (ç _ (by decide)) (by rw[Cg]; exact ì _ (by decide)) (by decide) λc hc=>?_;simp!;have(w1,e1,l1,m1):=Rv (zs:=sg) (lo:=none) (hi:=some r3);rw[e1];refine L6 (n:=1) (m:=4) (λz hz=>hs z<|m1 z hz) (by omega) (by decide) λj1=>?_;simp!;refine xR j1 (bD.one<|Ci c hc) (by decide) λj2=>?_;simp!;have(w2,e2,l2,m2):=Rv (zs:=sg) (lo:=some (r3+1)) (hi:=none);rw[e2];refine L6 (n:=1) (m:=4) (λz hz=>hs z<|m2 z hz) (by omega) (by decide) λj3=>?_;simp!;refine xR j2 j3 (by decide) λj4=>?_;simp!;refine fN (by decide) (by decide) λr5 x5 y5 a5 b5=>?_;simp![V9];refine xR j4 (V8 (show bD 1 "q" by unfold bD; decide) a5 (by omega)) (by decide) λj5=>?_;simp!;refine Kq λb=>?_;generalize Txt.join "" w1++{cps:=#[c]}++Txt.join "" w2++vz "q" r5=nm at *;have fin:∀ (nm:Str),bD 10 nm->∃ (x y:Int) (v7 v8 v9:Qb U) (ws:Qa Str),[some<|bx x5 y5,some<|.d<|.int m,some<|.d<|.str xi,some<|.l<|sg.map .str,some<|.d<|.int r3,some<|.d<|.int r4,some<|.l<|zs.map PyData.str++[.str nm],some<|.d<|.int<|0+(i:Nat),some<|.d<|.str ⟨#[c]⟩,some<|.d<|.str nm,none]=[some<|bx x y,some<|U.d<|.int m,some<|.d<|.str xi,some<|.l<|sg.map .str,some<|.d<|.int r3,some<|.d<|.int r4,some<|.l<|ws.map PyData.str,v7,v8,v9,none]/\ws.length=i+1/\∀ z∈ws,bD 10 z:=λnm hn=>
   ⟨x5,y5,_,_,_,zs++[nm],by rw[List.map_append]; rfl,by rw[qw,Al]; rfl,λz Ji=>by
    rcases Ï.mp Ji with h|h
    .exact hz z h
    .cases qu.mp h
     exact hn⟩
  cases b with
  | true=>
   simp!;refine B2 (by omega) (by rw[Cg]; omega) (by decide) λd hd=>?_;simp!;refine xR (show bD 2 "zz" by unfold bD; decide) (bD.one<|Ci d hd) (by decide) λj6=>?_;simp!;exact fin _<|j6.mono (by decide)
  | false=>
   simp!;refine zDv (zs:=["part", "end", "give", "rounds", "letters"]) λb=>?_;cases b with
   | true=>
    simp!;refine B2 (by omega) (by rw[Cg]; omega) (by decide) λd hd=>?_;simp!;refine xR (show bD 2 "zz" by unfold bD; decide) (bD.one<|Ci d hd) (by decide) λj6=>?_;simp!;exact fin _<|j6.mono (by decide)
   | false=>
    simp!;exact fin _ j5
 .rintro _ ⟨x,y,v7,v8,v9,zs,rfl,Al,hz⟩
  simp!;refine fN (by decide) (by decide) λr5 x5 y5 a5 b5=>?_;simp!;refine jP (λh5=>?_) λh5=>?_
  .simp!
   refine fN (by decide) (by decide) λr6 x6 y6 a6 b6=>?_;simp!;refine FY (f:=PyData.str) (xs:=["ends", "pa", "gives", "giv", "x", "y", "r", "rk"]) a6 b6 λz mz _=>?_;have az:bD 10 z:=by
    have:∀ z∈(["ends", "pa", "gives", "giv", "x", "y", "r", "rk"]:Qa Str),bD 10 z:=by unfold bD; decide
    exact this z mz
   simp!;refine Kq λb=>?_;cases b with
   | false=>
    simp!;exact k zs _ _ Al hz
   | true=>
    simp!;refine fN (by omega) (by omega) λr7 x7 y7 a7 b7=>?_;have e7:d4 zs.length r7=some r7.toNat:=by
     unfold d4;rw[if_pos a7,if_pos (by omega)]
    simp![e7];have es:(zs.map PyData.str).set r7.toNat (.str z)=(zs.set r7.toNat z).map PyData.str:=by rw[List.map_set]
    rw[es];refine k _ _ _ (by rw[List.length_set]; exact Al) λw hw=>?_;rcases List.mem_or_eq_of_mem_set hw with h|h
    .exact hz w h
    .exact h▸az
  .simp!
   exact k zs _ _ Al hz
theorem Ru{d:Int}(h:1<=d)(h2:d<=1000000):d.natAbs.log2 < 9000:=Þ (uu (k:=30) (by decide) (by omega)) (by decide)
theorem mS{n d:Int}(hn:n.natAbs<=1000000)(h1:1<=d)(h4:d<=4):Bd 12 12000000 (Rat.divInt n d):=by
 have:d∣((12:Nat):Int):=by
  rcases(by omega:d=1\/d=2\/d=3\/d=4)with rfl|rfl|rfl|rfl<;>decide
 exact(zBq (M:=12) (by omega) this (by decide)).le (by omega)
theorem NH{x:Int}{Q:U×Qa U->Prop}(k:∀ r x' y',Bd 12 12000000 r->Q (.d<|fR r,[bx x' y'])):Wo (yz [bx x y]) Q:=by
 simp![yz,Qx];refine fN (by decide) (by decide) λr x1 y1 h0 h1=>?_;simp!;refine jP (λh7=>?_) λh7=>?_
 .simp!
  refine LA h0 (by show r < 7; omega) λa ha=>?_;have hq:∃ q:Rat,a=fR q/\Bd 12 12000000 q:=by
   simp only[qy,List.not_mem_nil,or_false]at ha;rcases ha with rfl|rfl|rfl|rfl|rfl|rfl|rfl
   .exact⟨Rat.divInt 0 1,rfl,mS (by decide) (by decide) (by decide)⟩
   .exact⟨Rat.divInt 1 1,rfl,mS (by decide) (by decide) (by decide)⟩
   .exact⟨Rat.divInt 1 1,rfl,mS (by decide) (by decide) (by decide)⟩
   .exact⟨Rat.divInt (-1) 1,rfl,mS (by decide) (by decide) (by decide)⟩
   .exact⟨Rat.divInt 2 1,rfl,mS (by decide) (by decide) (by decide)⟩
   .exact⟨Rat.divInt 1 2,rfl,mS (by decide) (by decide) (by decide)⟩
   .exact⟨Rat.divInt (-2) 3,rfl,mS (by decide) (by decide) (by decide)⟩
  have(q,rfl,hq):=hq;simp!;exact k q _ _ hq
 .simp!
  refine jP (λAB=>?_) λAB=>?_
  .simp!
   refine fN (by decide) (by decide) λr2 x2 y2 h2 h3=>?_;simp!;refine fN (by decide) (by decide) λr3 x3 y3 h4 h5=>?_;simp![Dv (n:=r2 - 9) (d:=1+r3) (by omega)<|Ru (by omega) (by omega)];exact k _ _ _<|mS (by omega) (by omega) (by omega)
  .simp!
   refine fN (by decide) (by decide) λr2 x2 y2 h2 h3=>?_;simp!;refine fN (by decide) (by decide) λr3 x3 y3 h4 h5=>?_;simp![Dv (n:=r2 - 999999) (d:=1+r3) (by omega)<|Ru (by omega) (by omega)];exact k _ _ _<|mS (by omega) (by omega) (by omega)
structure Fg (f:Rat):Prop where
 bd:Bd 12 12000000 f
 nz:f≠0
theorem zD8:Bd 12 12000000 (Rat.divInt 3 2):=mS (n:=3) (d:=2) (by decide) (by decide) (by decide)
theorem zD9:Rat.divInt 3 2≠0:=by decide +kernel
theorem f32:PyData.tuple [.int 3,.int 2]=fR (Rat.divInt 3 2):=rfl
theorem NG{x:Int}{Q:U×Qa U->Prop}(k:∀ f x' y',Fg f->Q (.d<|fR f,[bx x' y'])):Wo (Dy [bx x y]) Q:=by
 simp![Dy,Q0];refine NH λf x' y' h=>?_;simp!;refine jP (λc=>?_) λc=>?_
 .simp![c,f32]
  exact k _ _ _ ⟨zD8,zD9⟩
 .simp![c]
  exact k f _ _ ⟨h,λz=>c (by rw[z]; rfl)⟩
end K35
open PySem L2
namespace K35
open PySem L2
theorem NF{a:Int}(ha:a.natAbs < 10^10)(hb:b.natAbs < 10^10):gW 1 29 (.tuple [.int a,.int b]):=ue (n:=2) (M:=11) (λd hd=>by
 rcases qy.mp hd with rfl|hd
 .exact B1 ha
 .rw[qu.mp hd]; exact B1 hb) (qg _)
theorem OV{i:Int}:wH [.d<|.int i]=some (.d<|.bool true,[.d<|.int i]):=by
 refine zU ?_;simp![wH,O7]
theorem CN{m:Int}(h:(i:Int) < m):ur [.d<|.int (i:Int),.d<|.int m]=some (.d<|.bool true,[.d<|.int (i:Int),.d<|.int m]):=by
 refine zU ?_;have c:(0:Int)<=(i:Int):=by omega
 simp![ur,OR,OV,c,h]
theorem Xm(a b:Int):Int.gcd (if a < 0 then -a else a) b=Int.gcd a b:=by
 split
 .exact Int.neg_gcd
 .rfl
theorem zkj:Dh [.d<|fR f]=some (.d<|.bool true,[.d<|fR f]):=by
 refine zU ?_;have c:=kY f;have cf:=Dp (x:=if f.num < 0 then -f.num else f.num) (y:=(f.den:Int)) (by split<;>omega) (by omega);rw[Xm,show Int.gcd f.num f.den=1 from f.reduced]at cf;simp![Dh,Qj,fR,OV,c,cf]
theorem Fg.n0(h:Fg f):f.num≠0:=λz=>h.nz<|Rat.num_eq_zero.mp z
theorem Fg.Se(h:Fg f):gW 1 29 (fR f):=NF (Å (h.bd.size (by decide)).2 (by decide)) (by
 rw[Int.natAbs_natCast];exact Å (h.bd.size (by decide)).1 (by decide))
theorem zDx(h:Fg f):A0 false [0,1] (.d<|fR f)=some (.d<|.bool false):=by
 have e:=h.Se.SV (neg:=false) (NF (a:=0) (b:=1) (by decide) (by decide)) (by decide) (by decide);have e2:A0 false [0,1] (.d<|fR f)=some (.d<|.bool<|PyData.eqv (fR f)<|.tuple [.int 0,.int 1]):=e;rw[e2];show some (U.d<|.bool<|decide (f.num=0) && _)=_;rw[decide_eq_false h.n0];rfl
def oI:Qb Int->D
 | none=>.none
 | some k=>.int k
abbrev aL(hs:Qa Int):U:=.l (hs.map .int)
theorem gr(h:i < hs.length):bU (hs.map PyData.int) (i:Int)=some (.int<|hs.getD i 0):=by
 unfold bU d4;rw[if_pos (by omega),if_pos (by rw[List.length_map]; omega),bd,Int.toNat_natCast,List.getElem?_map,qo h,qE,qo h];rfl
theorem zEa{t:Int}:xt true (.d<|.int t) (.d .none)=some (.d<|.bool true):=rfl
theorem zEb:xt true (.d .none) (.d .none)=some (.d<|.bool false):=rfl
end K35
open PySem L2
namespace K35
open PySem L2
abbrev P2:=Rat×Nat
abbrev iT(p:P2):D:=.tuple [fR p.1,.int (p.2:Int)]
inductive aK where|lt (k:Nat) | mx (ps:Qa P2) | tm (i j:Nat)
def aK.d:aK->D
 | .lt k=>.tuple [.str "letter",.int (k:Int)]
 | .mx ps=>.tuple [.str "mix",.tuple<|ps.map iT]
 | .tm i j=>.tuple [.str "times",.int (i:Int),.int (j:Int)]
def m7(n dp:Nat)(hs:Qa Int)(k:Int):aK->Prop
 | .lt m=>m < n/\k=1
 | .mx ps=>ps≠[]/\ps.length<=20/\(∀ p∈ps,Fg p.1/\p.2 < hs.length/\hs.getD p.2 0=k)/\ps.Pairwise (λp q=>p.2 < q.2)
 | .tm i j=>i < hs.length/\j < hs.length/\hs.getD j 0<=hs.getD i 0/\k=hs.getD i 0+hs.getD j 0/\k<=(dp:Int)
theorem zkk{k:Int}{ps:Qa P2}(ne:ps≠[])(hp:∀ p∈ps,Fg p.1/\p.2 < hs.length/\hs.getD p.2 0=k)(pw:ps.Pairwise (λp q=>p.2 < q.2)):Dl [.d<|.tuple<|ps.map iT,aL hs]=some (.d<|.int k,[.d<|.tuple<|ps.map iT,aL hs]):=by
 refine zU ?_;simp![Dl,Px];refine pe (λi ρ=>∃ (lU:Qb Int) (b:Int) (o4 o5 o6:Qb U),ρ=[some<|.d<|.tuple<|ps.map iT,some<|aL hs,some<|.d<|oI lU,some<|.d<|.int b,o4,o5,o6]/\(lU=some k\/lU=none/\i=0)/\∀ q∈ps.drop i,b < (q.2:Int)) ⟨none,-1,none,none,none,rfl,.inr ⟨rfl,rfl⟩,λq _=>by omega⟩ ?_ ?_
 .rintro i _ _ hd ⟨lU,b,o4,o5,o6,rfl,ht,hb⟩
  rw[List.getElem?_map]at hd;have(p,en,rfl):=qv.mp hd;have(h1,h2,h3):=hp p (Ì en);have(hi,e):=qm.mp en;have Sa:=pw.drop (i:=i);rw[List.drop_eq_getElem_cons hi,e]at hb Sa;have c:¬(p.2:Int)<=b:=by have:=hb p qr; omega
  have w:∀ q∈ps.drop (i+1),(p.2:Int) < (q.2:Int):=λq hq=>by have:=(Û.mp Sa).1 q hq; omega
  have a:=gr h2;rw[h3]at a;have pl:=CN (i:=p.2) (m:=(hs.length:Int)) (by omega);simp![zkj,zDx h1,pl,List.length_map,c];rcases ht with rfl|⟨rfl,_⟩
  .simp![oI,zEa,a]
   exact⟨some k,_,_,_,_,rfl,rfl,w⟩
  .simp![oI,zEb,a]
   exact⟨some k,_,_,_,_,rfl,rfl,w⟩
 .rintro _ ⟨lU,b,o4,o5,o6,rfl,ht,_⟩
  rcases ht with rfl|⟨_,z⟩
  .simp![oI]
  .exact absurd (List.length_eq_zero_iff.mp (by rw[List.length_map]at z; exact z)) ne
theorem V6{k:Int}{nod:aK}(hn:n<=100)(hl:hs.length<=100)(h:m7 n dp hs k nod):gW 4 800011 nod.d:=by
 have sm:∀ {i:Nat},i < 101->gW 3 200000 (.int (i:Int)):=λ{i} hi=>(B1 (show((i:Nat):Int).natAbs < 10^10 by omega)).mono (by decide) (by decide);have st:∀ {w:Str},bD 10 w->gW 3 200000 (.str w):=λhw=>(VJ hw).mono (by decide) (by decide);cases nod with
 | lt m=>
  refine(ue (n:=4) (k:=3) (M:=200000) (λd hd=>?_) (by simp)).mono (by decide) (by decide);rcases qy.mp hd with rfl|hd
  .exact st (by unfold bD; decide)
  .rw[qu.mp hd]; exact sm (by have:=h.1; omega)
 | mx ps=>
  have(_,h1,h2,_):=h;refine(ue (n:=4) (k:=3) (M:=200000) (λd hd=>?_) (by simp)).mono (by decide) (by decide);rcases qy.mp hd with rfl|hd
  .exact st (by unfold bD; decide)
  .rw[qu.mp hd]
   refine(ue (n:=20) (k:=2) (M:=5000) (λd hd=>?_) (by rw[List.length_map]; exact h1)).mono (by decide) (by decide);have(p,hp,rfl):=Ä.mp hd;have(f,g,_):=h2 p hp;refine(ue (n:=2) (k:=1) (M:=30) (λd hd=>?_) (by simp)).mono (by decide) (by decide);rcases qy.mp hd with rfl|hd
   .exact f.Se.mono (by decide) (by decide)
   .rw[qu.mp hd]; exact(B1 (show((p.2:Nat):Int).natAbs < 10^10 by omega)).mono (by decide) (by decide)
 | tm i j=>
  have(h1,h2,_,_,_):=h;refine(ue (n:=4) (k:=3) (M:=200000) (λd hd=>?_) (by simp)).mono (by decide) (by decide);rcases qy.mp hd with rfl|hd
  .exact st (by unfold bD; decide)
  rcases qy.mp hd with rfl|hd
  .exact sm (by omega)
  .rw[qu.mp hd]; exact sm (by omega)
theorem zjK{k:Int}{nod:aK}(hn:n<=100)(hl:hs.length<=100)(h:m7 n dp hs k nod):wG [.d nod.d,aL hs,.d<|.int (n:Int)]=some (.d<|.int k,[.d nod.d,aL hs,.d<|.int (n:Int)]):=by
 have e:=(V6 hn hl h).SV (neg:=false) (ue (n:=0) (k:=0) (M:=0) (ds:=[]) (λd hd=>by cases hd)<|qg _) (by decide) (by decide);refine zU ?_;cases nod with
 | lt m=>
  have e2:kJ false (.d<|.tuple [.str "letter",.int (m:Int)]) (.d<|.tuple [])=some (.d<|.bool false):=e;have(h1,rfl):=h;simp![wG,Df,aK.d,e2,CN (i:=m) (m:=(n:Int)) (by omega)]
 | mx ps=>
  have e2:kJ false (.d<|.tuple [.str "mix",.tuple<|ps.map iT]) (.d<|.tuple [])=some (.d<|.bool false):=e;have(h1,_,h2,h3):=h;simp![wG,Df,aK.d,e2,zkk h1 h2 h3]
 | tm i j=>
  have e2:kJ false (.d<|.tuple [.str "times",.int (i:Int),.int (j:Int)]) (.d<|.tuple [])=some (.d<|.bool false):=e;have(h1,h2,h3,rfl,_):=h;have td:Dz [.d<|.int (i:Int),.d<|.int (j:Int),aL hs]=some (.d<|.int<|hs.getD i 0+hs.getD j 0,[.d<|.int (i:Int),.d<|.int (j:Int),aL hs]):=by
   refine zU ?_;have c:¬hs.getD i 0 < hs.getD j 0:=by omega
   simp![Dz,Qu,List.length_map,CN (i:=i) (m:=(hs.length:Int)) (by omega),CN (i:=j) (m:=(hs.length:Int)) (by omega),gr h1,gr h2,c]
  simp![wG,Df,aK.d,e2,td]
end K35
open PySem L2
namespace K35
open PySem L2
structure GN (n dp:Nat) (ns:Qa aK) (hs:Qa Int):Prop where
 ln:hs.length=ns.length
 ok:∀ i nod,ns[i]?=some nod->m7 n dp (hs.take i) (hs.getD i 0) nod
theorem tT{xs:Qa α}{y z:α}(h:i < xs.length):(xs++[y]).getD i z=xs.getD i z:=by
 rw[qE,qE,List.getElem?_append_left h]
theorem vT{xs:Qa α}{y z:α}:(xs++[y]).getD xs.length z=y:=by
 rw[qE,List.getElem?_append_right<|qg _,Nat.sub_self];rfl
theorem GN.snoc{ns:Qa aK}{k:Int}{nod:aK}(h:GN n dp ns hs)(hk:m7 n dp hs k nod):GN n dp (ns++[nod]) (hs++[k]):=by
 refine⟨by rw[qw,qw,h.ln]; rfl,λi x hi=>?_⟩;rcases ß i ns.length with c|c
 .rw[List.getElem?_append_left c]at hi
  rw[List.take_append_of_le_length (by rw[h.ln]; omega),tT (by rw[h.ln]; exact c)];exact h.ok i x hi
 .have eO:=(qm.mp hi).1
  rw[qw,List.length_singleton]at eO;have e:i=ns.length:=by omega
  subst e;rw[List.getElem?_append_right<|qg _,Nat.sub_self]at hi;cases hi;rw[<-h.ln,List.take_left,vT];exact hk
end K35
open PySem L2
namespace K35
open PySem L2
theorem Hl(h:i < hs.length):(hs.take i).map PyData.int++[.int<|hs.getD i 0]=(hs.take<|i+1).map .int:=by
 rw[List.take_succ,qE,qo h,List.map_append];rfl
abbrev D6:MS:=bw (mB<|af (bO false) (af aS (zi 2)<|mC<|.int 0)<|mC<|.str "letter") (cD<|cB 1<|mC<|.int 1) (bw (mB<|af (bO false) (af aS (zi 2)<|mC<|.int 0)<|mC<|.str "mix") (cD<|cB 1<|af aU (zi 1)<|af aS (af aS (af aS (zi 2)<|mC<|.int 1)<|mC<|.int 0)<|mC<|.int 1)<|cD<|cB 1<|af dz (af aU (zi 1)<|af aS (zi 2)<|mC<|.int 1)<|af aU (zi 1)<|af aS (zi 2)<|mC<|.int 2)
theorem K5{k:Int}{nod:aK}{o0:Qb U}{Q:Fl->Prop}(hl:hs.length<=1000)(h:m7 n dp hs k nod)(q:Q (.nx [o0,some<|.l<|hs.map .int++[.int k],some<|.d nod.d])):Wo (D6 [o0,some<|aL hs,some<|.d nod.d]) Q:=by
 cases nod with
 | lt m=>
  have(_,rfl):=h;simp![D6,aK.d,List.length_map];exact q
 | mx ps=>
  have(h1,h2,h3,_):=h
  match ps,h1,h3 with
  | p::ps,_,h3=>
   have(_,a,b):=h3 p qr;simp![D6,aK.d,List.map_cons,gr a,b,List.length_map];exact q
 | tm i j=>
  have(h1,h2,_,rfl,_):=h;simp![D6,aK.d,gr h1,gr h2,List.length_map];exact q
theorem V5{ns:Qa aK}(hl:ns.length<=1000)(h:GN n dp ns hs):pE [.l<|ns.map aK.d]=some (aL hs,[.l<|ns.map aK.d]):=by
 refine zU ?_;have ln:=h.ln;simp![pE,Hz];rw[zBs rfl];refine XX (λi ρ=>∃ o2,ρ=[some<|.l<|ns.map aK.d,some<|aL<|hs.take i,o2]) ⟨none,rfl⟩ (λi ρ ⟨o2,e⟩=>by rw[e]; rfl) ?_ ?_
 .rintro i d _ hd ⟨o2,rfl⟩
  rw[List.getElem?_map]at hd;have(nod,en,rfl):=qv.mp hd;have hi:=(qm.mp en).1;refine⟨_,rfl,K5 (by rw[List.length_take]; omega) (h.ok i nod en) ?_⟩;rw[Hl (by omega)];exact⟨_,rfl⟩
 .rintro _ ⟨o2,rfl⟩
  rw[List.length_map,<-ln,List.take_length];simp!
theorem K4{ns:Qa aK}(hl:ns.length<=1000)(h:GN n dp ns hs):pE [.d<|.tuple<|ns.map aK.d]=some (aL hs,[.d<|.tuple<|ns.map aK.d]):=by
 refine zU ?_;have ln:=h.ln;simp![pE,Hz];rw[zBt rfl];refine pe (λi ρ=>∃ o2,ρ=[some<|.d<|.tuple<|ns.map aK.d,some<|aL<|hs.take i,o2]) ⟨none,rfl⟩ ?_ ?_
 .rintro i d _ hd ⟨o2,rfl⟩
  rw[List.getElem?_map]at hd;have(nod,en,rfl):=qv.mp hd;have hi:=(qm.mp en).1;refine⟨_,rfl,K5 (by rw[List.length_take]; omega) (h.ok i nod en) ?_⟩;rw[Hl (by omega)];exact⟨_,rfl⟩
 .rintro _ ⟨o2,rfl⟩
  rw[List.length_map,<-ln,List.take_length];simp!
theorem Ko{x:Int}{ns:Qa aK}{Q:U×Qa U->Prop}(hl:ns.length<=20)(hi:i < ns.length)(h:GN n dp ns hs)
  (k:∀ ps x' y',m7 n dp hs (hs.getD i 0) (.mx ps)->Q (.d (aK.mx ps).d,[bx x' y',.l<|ns.map aK.d,aL hs,.d<|.int (i:Int)])):Wo (CT [bx x y,.l<|ns.map aK.d,aL hs,.d<|.int (i:Int)]) Q:=by
 have ln:=h.ln;simp![CT,Po,List.length_map];refine qX (λm ρ=>∃ (x y:Int) (ps:Qa P2) (o5:Qb U),ρ=[some<|bx x y,some<|.l<|ns.map aK.d,some<|aL hs,some<|.d<|.int (i:Int),some<|.l<|ps.map iT,o5]/\ps.length<=m/\(i < m->ps≠[])/\(∀ p∈ps,Fg p.1/\p.2 < hs.length/\hs.getD p.2 0=hs.getD i 0)/\(∀ p∈ps,p.2 < m)/\ps.Pairwise (λp q=>p.2 < q.2)) ⟨_,_,[],_,rfl,qg _,λz=>absurd z<|Nat.not_lt_zero _,λp hp=>(by cases hp),λp hp=>(by cases hp),.nil⟩ ?_ ?_
 .rintro m _ hm ⟨x,y,ps,o5,rfl,h1,h2,h3,h4,h5⟩
  have SA:m < hs.length:=by omega
  have skip:∀ {x y:Int} {o5:Qb U},m≠i->∃ (x' y':Int) (kf:Qa P2) (yU:Qb U),([some<|bx x y,some<|.l<|ns.map aK.d,some<|aL hs,some<|.d<|.int (i:Int),some<|.l<|ps.map iT,o5]:En)=[some<|bx x' y',some<|.l<|ns.map aK.d,some<|aL hs,some<|.d<|.int (i:Int),some<|.l<|kf.map iT,yU]/\kf.length<=m+1/\(i < m+1->kf≠[])/\(∀ p∈kf,Fg p.1/\p.2 < hs.length/\hs.getD p.2 0=hs.getD i 0)/\(∀ p∈kf,p.2 < m+1)/\kf.Pairwise (λp q=>p.2 < q.2):=λ{x y o5} pY=>⟨x,y,ps,o5,rfl,by omega,λz=>h2 (by omega),h3,λp hp=>by have:=h4 p hp; omega,h5⟩;have put:∀ {f:Rat} {x y:Int} {o5:Qb U},Fg f->hs.getD m 0=hs.getD i 0->∃ (x' y':Int) (kf:Qa P2) (yU:Qb U),([some<|bx x y,some<|.l<|ns.map aK.d,some<|aL hs,some<|.d<|.int (i:Int),some<|.l<|ps.map iT++[iT (f,m)],o5]:En)=[some<|bx x' y',some<|.l<|ns.map aK.d,some<|aL hs,some<|.d<|.int (i:Int),some<|.l<|kf.map iT,yU]/\kf.length<=m+1/\(i < m+1->kf≠[])/\(∀ p∈kf,Fg p.1/\p.2 < hs.length/\hs.getD p.2 0=hs.getD i 0)/\(∀ p∈kf,p.2 < m+1)/\kf.Pairwise (λp q=>p.2 < q.2):=λ{f x y o5} hf he=>⟨x,y,ps++[(f,m)],o5,by rw[List.map_append]; rfl,by rw[qw,List.length_singleton]; omega,λ_=>by simp,λp hp=>by
    rcases Ï.mp hp with z|z
    .exact h3 p z
    .rw[qu.mp z]; exact⟨hf,SA,he⟩,λp hp=>by
    rcases Ï.mp hp with z|z
    .have:=h4 p z; omega
    .rw[qu.mp z]; exact Ý m,List.pairwise_append.mpr ⟨h5,List.pairwise_singleton _ _,λp hp q hq=>by rw[qu.mp hq]; exact h4 p hp⟩⟩
  have am:=gr SA;have ai:=gr (hs:=hs) (i:=i) (by omega)
  by_cases c:hs.getD m 0=hs.getD i 0
  .simp![Int.zero_add,am,ai,c]
   by_cases c2:(m:Int)=(i:Int)
   .simp![c2]
    refine NG λf x2 y2 hf=>?_;simp!;have:=put (f:=f) (x:=x2) (y:=y2) (o5:=some (.d<|.int (i:Int))) hf c;rw[show iT (f,m)=.tuple [fR f,.int (i:Int)] by rw[<-c2]]at this;exact this
   .simp![c2]
    refine fN (by decide) (by decide) λr x2 y2 r0 r1=>?_;simp!;refine jP (λc3=>?_) λc3=>?_
    .simp!
     refine NG λf x3 y3 hf=>?_;simp!;exact put hf c
    .simp!
     exact skip (λz=>c2 (by rw[z]))
  .simp![Int.zero_add,am,ai,c]
   exact skip (λz=>c (by rw[z]))
 .rintro _ ⟨x,y,ps,o5,rfl,h1,h2,h3,h4,h5⟩
  simp!;refine k ps _ _ ⟨h2 (by omega),by omega,h3,h5⟩
end K35
open PySem L2
namespace K35
open PySem L2
theorem V4{a:Int}{z:D}(h:z∈[PyData.int a,.int b]):∃ c,z=.int c/\(c=a\/c=b):=by
 rcases qy.mp h with rfl|h
 .exact⟨a,rfl,.inl rfl⟩
 .rw[qu.mp h]; exact⟨b,rfl,.inr rfl⟩
theorem xU{x:Int}{N:Nat}{Q:U×Qa U->Prop}(hN:0 < N)(hM:N<=1000)(k:∀ (r:Nat) x' y',r < N->Q (.d<|.int (r:Int),[bx x' y',.d<|.int (N:Int)])):Wo (zx [bx x y,.d<|.int (N:Int)]) Q :=
 fN (by omega) (by omega) λr x' y' h0 h1=>by
  have(q,rfl):=Int.eq_ofNat_of_zero_le h0;exact k q x' y' (by omega)
theorem zEc{r N:Nat}(hN:0 < N)(h1:r < N)(hc:c=(N:Int) - 1\/c=(r:Int)):∃ p:Nat,c=(p:Int)/\p < N:=⟨c.toNat,by omega,by omega⟩
theorem GN.nil:GN n dp [] []:=⟨rfl,λi x h=>by simp at h⟩
theorem GN.hi{ns:Qa aK}(d1:1<=dp)(h:GN n dp ns hs):∀ i,i < hs.length->1<=hs.getD i 0/\hs.getD i 0<=(dp:Int):=by
 intro i
 induction i using Nat.strongRecOn with
 | _ i ih=>
  intro hi;have ln:=h.ln;have ok:=h.ok i _ (qo (show i < ns.length by omega));have tk:∀ {j:Nat},j < (hs.take i).length->(hs.take i).getD j 0=hs.getD j 0/\j < i:=λ{j} hj=>by
   rw[List.length_take]at hj;refine⟨?_,by omega⟩;rw[qE,List.getElem?_take,if_pos (by omega),<-qE]
  generalize ns[i]'(by omega)=nod at ok;cases nod with
  | lt m=>
   have(_,e):=ok;omega
  | mx ps=>
   have(h1,_,h3,_):=ok
   match ps,h1,h3 with
   | p::ps,_,h3=>
    have(_,a,b):=h3 p qr;have(e,l):=tk a;have:=ih p.2 l (by omega);omega
  | tm a b=>
   have(h1,h2,_,h4,h5):=ok;have(e1,l1):=tk h1;have(e2,l2):=tk h2;have:=ih a l1 (by omega);have:=ih b l2 (by omega);omega
theorem V3{x:Int}{most:Int}{Q:U×Qa U->Prop}(n1:1<=n)(n3:n<=3)(m0:0<=most)(m8:most<=8)(d1:1<=dp)
  (k:∀ ns hs x' y',GN n dp ns hs->ns.length<=8->Q (.d<|.tuple<|ns.map aK.d,[bx x' y',.d<|.int (n:Int),.d<|.tuple [],.d<|.int most,.d<|.int (dp:Int)])):
  Wo (Dd [bx x y,.d<|.int (n:Int),.d<|.tuple [],.d<|.int most,.d<|.int (dp:Int)]) Q:=by
 have SF:=V5 (n:=n) (dp:=dp) (ns:=[]) (hs:=[]) (by simp) GN.nil;simp![Dd,P1,show xK (.d<|.tuple [])=some (.l []) from rfl,show pE [.l []]=some (aL [],[.l []]) from SF];refine qX (λi ρ=>∃ (x y:Int) (ns:Qa aK) (hs:Qa Int) (o7 o8 o9 o10:Qb U),ρ=[some<|bx x y,some<|.d<|.int (n:Int),some<|.d<|.tuple [],some<|.d<|.int most,some<|.d<|.int (dp:Int),some<|.l<|ns.map aK.d,some<|aL hs,o7,o8,o9,o10]/\GN n dp ns hs/\ns.length<=i) ⟨_,_,[],[],_,_,_,_,rfl,GN.nil,by simp⟩ ?_ ?_
 .rintro i _ hi ⟨x,y,ns,hs,o7,o8,o9,o10,rfl,hG,ll⟩
  have ln:=hG.ln;have lN:(List.map aK.d ns).length=ns.length:=Ò _;have fin:∀ {nod:aK} {kk x y:Int} {o7 o8 o9 o10:Qb U},m7 n dp hs kk nod->∃ (x' y':Int) (si:Qa aK) (mr:Qa Int) (IS o8' o9' IT:Qb U),([some<|bx x y,some<|.d<|.int (n:Int),some<|.d<|.tuple [],some<|.d<|.int most,some<|.d<|.int (dp:Int),some<|.l<|ns.map aK.d++[nod.d],some<|.l<|hs.map .int++[.int kk],o7,o8,o9,o10]:En)=[some<|bx x' y',some<|.d<|.int (n:Int),some<|.d<|.tuple [],some<|.d<|.int most,some<|.d<|.int (dp:Int),some<|.l<|si.map aK.d,some<|aL mr,IS,o8',o9',IT]/\GN n dp si mr/\si.length<=i+1:=λ{nod kk x y o7 o8 o9 o10} hk=>⟨x,y,ns++[nod],hs++[kk],o7,o8,o9,o10,by rw[List.map_append,aL,List.map_append]; rfl,hG.snoc hk,by rw[qw,List.length_singleton]; omega⟩;have l7:∀ {x y:Int} {o7 o8 o9 o10:Qb U} {q:Nat},q < n->_:=λ{x y o7 o8 o9 o10 q} hq=>fin (nod:=.lt q) (kk:=1) (x:=x) (y:=y) (o7:=o7) (o8:=o8) (o9:=o9) (o10:=o10) ⟨hq,rfl⟩;simp!;refine fN (by decide) (by decide) λw x1 y1 w0 w1=>?_
  by_cases l0:ns.length=0
  .have lz:((ns.length:Nat):Int)=0:=by omega
   simp![lN,lz];refine xU n1 (by omega) λq x2 y2 hq=>?_;simp![List.length_map];exact l7 hq
  have lz:¬((ns.length:Nat):Int)=0:=by omega
  simp![lN,lz];refine jP (λc=>?_) λc=>?_
  .simp!
   refine xU n1 (by omega) λq x2 y2 hq=>?_;simp![List.length_map];exact l7 hq
  .simp![lN]
   refine xU (by omega) (by omega) λr5 x5 y5 h5=>?_;simp!;refine fN (by decide) (by decide) λr6 x6 y6 a6 b6=>?_;simp!;refine LA a6 b6 λz hz=>?_;have(c',rfl,hc):=V4 hz;have(p,rfl,hp):=zEc (by omega) h5 hc;simp![lN];refine xU (by omega) (by omega) λq x7 y7 hq=>?_;have ap:=gr (hs:=hs) (i:=p) (by omega);have aq:=gr (hs:=hs) (i:=q) (by omega)
   by_cases c3:w < 3
   .simp![c3]
    refine Ko (by omega) hp hG λps x8 y8 hk=>?_;simp![ap,List.length_map];exact fin hk
   .simp![c3,ap,aq]
    refine jP (λc4=>?_) λc4=>?_
    .simp!
     refine Ko (by omega) hp hG λps x8 y8 hk=>?_;simp![ap,List.length_map];exact fin hk
    .by_cases c5:hs.getD p 0 < hs.getD q 0
     .simp![ap,aq,c5,List.length_map]
      exact fin (nod:=.tm q p) (kk:=hs.getD p 0+hs.getD q 0) ⟨by omega,by omega,by omega,by omega,by omega⟩
     .simp![ap,aq,c5,List.length_map]
      exact fin (nod:=.tm p q) (kk:=hs.getD p 0+hs.getD q 0) ⟨by omega,by omega,by omega,rfl,by omega⟩
 .rintro _ ⟨x,y,ns,hs,o7,o8,o9,o10,rfl,hG,ll⟩
  simp!;exact k ns hs _ _ hG (by omega)
end K35
open PySem L2
namespace K35
open PySem L2
def oD:Qb Nat->D
 | none=>.none
 | some m=>.int (m:Int)
def yK(r:Rat)(os:Qa (Qb Nat)):D:=.tuple [fR r,.tuple<|os.map oD]
theorem zDy{x:Int}{ns:Qa aK}{Q:U×Qa U->Prop}(hl:ns.length<=12)(d6:dp<=6)(h:GN n dp ns hs)
  (k:∀ r os x' y',Bd 12 12000000 r->os.length<=dp->(∀ m,some m∈os->m < ns.length)->Q (.d<|yK r os,[bx x' y',.d<|.tuple<|ns.map aK.d,.d<|.int (dp:Int)])):Wo (CU [bx x y,.d<|.tuple<|ns.map aK.d,.d<|.int (dp:Int)]) Q:=by
 have ln:=h.ln;have lN:(List.map aK.d ns).length=ns.length:=Ò _;simp![CU,Pr,K4 (by omega) h];refine pe (λi ρ=>∃ (x y:Int) (os:Qa (Qb Nat)) (o5 o6 o7:Qb U),ρ=[some<|bx x y,some<|.d<|.tuple<|ns.map aK.d,some<|.d<|.int (dp:Int),some<|aL hs,some<|.l<|os.map oD,o5,o6,o7]/\os.length=i/\∀ m,some m∈os->m < ns.length) ⟨_,_,[],_,_,_,rfl,rfl,λm hm=>by cases hm⟩ ?_ ?_
 .rintro i d _ hd ⟨x,y,os,o5,o6,o7,rfl,ho,hO⟩
  have(hi,rfl):=Hc hd;have fin:∀ {o:Qb Nat} {x y:Int} {o5 o6 o7:Qb U},(∀ m,o=some m->m < ns.length)->∃ (x' y':Int) (r9:Qa (Qb Nat)) (yU o6' IS:Qb U),([some<|bx x y,some<|.d<|.tuple<|ns.map aK.d,some<|.d<|.int (dp:Int),some<|aL hs,some<|.l<|os.map oD++[oD o],o5,o6,o7]:En)=[some<|bx x' y',some<|.d<|.tuple<|ns.map aK.d,some<|.d<|.int (dp:Int),some<|aL hs,some<|.l<|r9.map oD,yU,o6',IS]/\r9.length=i+1/\∀ m,some m∈r9->m < ns.length:=λ{o x y o5 o6 o7} h1=>⟨x,y,os++[o],o5,o6,o7,by rw[List.map_append]; rfl,by rw[qw,ho]; rfl,λm hm=>by
   rcases Ï.mp hm with z|z
   .exact hO m z
   .exact h1 m (qu.mp z).symm⟩
  have no:∀ {x y:Int} {o5 o6 o7:Qb U},_:=λ{x y o5 o6 o7}=>fin (o:=none) (x:=x) (y:=y) (o5:=o5) (o6:=o6) (o7:=o7) λm hm=>by cases hm
  simp![lN];refine L7 (λm ρ ys=>∃ is:Qa Nat,ρ=[none,some<|aL hs,some<|.d<|.int<|1+(i:Int)]/\ys=is.map (λm:Nat=>PyData.int (m:Int))/\is.length<=m/\∀ m∈is,m < ns.length) (by rw[qV]; omega) ⟨[],rfl,rfl,qg _,λm hm=>by cases hm⟩ ?_ ?_ ?_
  .rintro m _ _ ⟨is,rfl,rfl,hl,_⟩
   rw[List.length_map]; exact hl
  .rintro m _ _ hm ⟨is,rfl,rfl,hl,hI⟩
   have am:=gr (hs:=hs) (i:=m) (by omega)
   by_cases c:hs.getD m 0=1+(i:Int)
   .simp![Int.zero_add,am,c]
    exact⟨is++[m],by rw[List.map_append]; rfl,by rw[qw,List.length_singleton]; omega,λj hj=>by
     rcases Ï.mp hj with z|z
     .exact hI j z
     .rw[qu.mp z]; omega⟩
   .simp![Int.zero_add,am,c]
    exact⟨is,rfl,by omega,hI⟩
  .rintro _ _ ⟨is,rfl,rfl,hl,hI⟩
   have lI:(is.map (λm:Nat=>PyData.int (m:Int))).length=is.length:=Ò _;simp!;refine fN (by decide) (by decide) λw x1 y1 w0 w1=>?_
   by_cases c:((is.length:Nat):Int)=0
   .simp![lI,c]
    exact no
   .simp![lI,c]
    refine jP (λc2=>?_) λc2=>?_
    .simp!
     exact no
    .simp!
     refine jP (λc3=>?_) λc3=>?_
     .have last:∃ m∈is,bU (is.map (λm:Nat=>PyData.int (m:Int))) (-1)=some (.int (m:Int)):=by
       have hp:is.length - 1 < is.length:=by omega
       refine⟨is[is.length - 1],List.getElem_mem hp,?_⟩;unfold bU d4;rw[if_neg (by decide)];rw[List.length_map,if_pos (by omega),bd,show(-1+(is.length:Int)).toNat=is.length - 1 by omega,List.getElem?_map,qo hp];rfl
      have(m,hm,em):=last;simp![em];exact fin (o:=some m) λj hj=>by cases hj; exact hI m hm
     .simp![lI]
      refine xU (by omega) (by omega) λq x2 y2 hq=>?_;simp!;refine FY (f:=λm:Nat=>PyData.int (m:Int)) (xs:=is) (by omega) (by omega) λm hm _=>?_;simp!;exact fin (o:=some m) λj hj=>by cases hj; exact hI m hm
 .rintro _ ⟨x,y,os,o5,o6,o7,rfl,ho,hO⟩
  rw[Ht]at ho;simp!;refine NH λf x1 y1 hf=>?_;simp!;refine fN (by decide) (by decide) λr x2 y2 r0 r1=>?_;have rm:0<=r * (dp:Int):=Ĉ r0 (by omega);simp!;refine fN (by omega) (by omega) λr2 x3 y3 r3 r4=>?_;have ct:iJ (os.map oD) none (some<|r * (dp:Int)+r2)=(os.map oD).take (r * (dp:Int)+r2).toNat:=zBh (by omega);simp![ct];rw[<-List.map_take];exact k f (os.take (r * (dp:Int)+r2).toNat) x3 y3 hf (by rw[List.length_take]; omega) λm hm=>hO m<|List.mem_of_mem_take hm
end K35
open PySem L2
namespace K35
open PySem L2
structure Net where
 ls:Qa Str
 ns:Qa aK
 hs:Qa Int
 r:Rat
 os:Qa (Qb Nat)
def cV(n:Nat):Nat:=if n=1 then 5 else if n=2 then 4 else 3
def Net.d(N:Net):D:=.tuple [.tuple<|N.ls.map .str,.tuple<|N.ns.map aK.d,yK N.r N.os]
structure NO (N:Net):Prop where
 n1:1<=N.ls.length
 n3:N.ls.length<=3
 gn:GN N.ls.length (cV N.ls.length) N.ns N.hs
 nl:N.ns.length<=8
 rb:Bd 12 12000000 N.r
 ol:N.os.length<=cV N.ls.length
 oi:∀ m,some m∈N.os->m < N.ns.length
 ac:∀ z∈N.ls,bD 10 z
theorem gK:1<=cV n/\cV n<=5:=by
 unfold cV;split
 .omega
 .split<;>omega
theorem zDz{x:Int}{ls:Qa Str}{most:Int}{Q:U×Qa U->Prop}(n1:1<=ls.length)(n3:ls.length<=3)(ha:∀ z∈ls,bD 10 z)(m0:0<=most)(m8:most<=8)
  (k:∀ (N:Net) x' y',N.ls=ls->NO N->Q (.d N.d,[bx x' y',.d<|.tuple<|ls.map .str,.d<|.int most,.d<|.int (cV ls.length:Int)])):
  Wo (CZ [bx x y,.d<|.tuple<|ls.map .str,.d<|.int most,.d<|.int (cV ls.length:Int)]) Q:=by
 have(d1,d6):=gK (n:=ls.length);simp![CZ,Pl,List.length_map];refine fN (by omega) (by omega) λr x1 y1 r0 r1=>?_;simp!;refine V3 n1 n3 r0 (by omega) d1 λns hs x2 y2 hG hl=>?_;simp!;refine zDy (by omega) (by omega) hG λf os x3 y3 hf ho hO=>?_;simp!;exact k ⟨ls,ns,hs,f,os⟩ _ _ rfl ⟨n1,n3,hG,hl,hf,ho,hO,ha⟩
end K35
open PySem L2
namespace K35
open PySem L2
theorem zpf{N:Net}(h:NO N):CK [.d N.d]=some (aL N.hs,[.d N.d]):=by
 refine zU ?_;have ln:=h.gn.ln;have nl:=h.nl;simp![CK,Oo,Net.d];refine pe (λi ρ=>∃ o5,ρ=[some<|.d N.d,some<|.d<|.tuple<|N.ls.map .str,some<|.d<|.tuple<|N.ns.map aK.d,some<|.d<|yK N.r N.os,some<|aL<|N.hs.take i,o5]) ⟨none,rfl⟩ ?_ ?_
 .rintro i d _ hd ⟨o5,rfl⟩
  rw[List.getElem?_map]at hd;have(nod,en,rfl):=qv.mp hd;have hi:=(qm.mp en).1;have ok:=h.gn.ok i nod en;have l3:=h.n3;have nd:=zjK (by omega) (by rw[List.length_take]; omega) ok;simp![nd,List.length_map,List.length_take];rw[Hl (by omega)];exact⟨_,rfl⟩
 .rintro _ ⟨o5,rfl⟩
  rw[List.length_map,<-ln,List.take_length];simp!;rfl
end K35
open PySem L2
namespace K35
open PySem L2
theorem qW{r:Rat}(h:Bd M B r)(hM:0 < M)(h1:M < 2^4000)(h2:B < 2^4000):Sz r:=by
 have(a,b):=h.size hM;exact⟨Å b h2,Å a h1⟩
abbrev dT(p:Pq Rat):U:=.d (.dict<|cp fR p)
theorem FE{u:U}{a b:Qb α}:(if u.own=true/\u.own=false then a else b)=b:=if_neg λ⟨h,h'⟩=>by rw[h]at h'; cases h'
def Ln(n:Nat)(p:Pq α):Prop:=∀ t∈p,t.1.length=n
theorem OU{p q:Pq Rat}{u1 u2:U}{s:Int}(uR:yk u1=some (.t<|aN fR p))(pT:u2.fz=some (.dict<|cp fR q))(hs:s=1\/s=-1)(np:aT p)(nq:aT q)(hp:PB M B p)(hq:PB M B q)(hM:0 < M)(h1:M < 2^4000)(h2:B+q.length * B < 2^4000)(l1:p.length < 64)(l2:q.length < 64):
  uz [u1,u2,.d<|.int s]=some (.t<|aN fR<|nz<|aQ p<|gT s q,[u1,dT q,.d<|.int s]):=by
 refine zU ?_;have sp:gT s q=q.map λt=>(t.1,(s:Rat) * t.2):=rfl;simp![uz,Rb,uR,pT];refine j7 (λbs cs ρ=>∃ o4 o5,ρ=[some u1,some<|dT q,some<|.d<|.int s,some<|.t<|aN fR<|aQ p<|gT s bs,o4,o5,none]) ⟨_,_,rfl⟩ ?_ ?_
 .rintro bs t cs _ e ⟨o4,o5,rfl⟩
  have tq:t∈q:=by rw[e]; simp
  have lb:bs.length+1<=q.length:=by rw[e,qw,qx]; omega
  have gl:=rK (gT s bs) p;rw[show(gT s bs).length=bs.length from List.length_map ..]at gl;have gb:PB M (B+q.length * B) (aQ p<|gT s bs):=λv hv=>(FV (gT s bs) hp (Lh hs λw hw=>hq w (by rw[e]; exact Ð _ hw)) v hv).le (by
   rw[show(gT s bs).length=bs.length from List.length_map ..];have:=Æ B (show bs.length<=q.length by omega);omega)
  have s1:=qW (Cn gb t.1) hM h1 h2;have s2:Sz ((s:Rat) * t.2):=qW (Lh hs hq (t.1,(s:Rat) * t.2)<|Ä.mpr ⟨t,tq,rfl⟩) hM h1 (by omega);simp![nv nq tq,zBp hs,OW s1 s2];rw[tI (by omega)];simp!;rw[show gT s (bs++[t])=gT s bs++[(t.1,(s:Rat) * t.2)] by unfold gT; rw[List.map_append]; rfl,CD];exact⟨_,_,rfl⟩
 .rintro _ ⟨o4,o5,rfl⟩
  have gn:aT (aQ p<|gT s q):=m9 _ np;have gl:=rK (gT s q) p;rw[show(gT s q).length=q.length from List.length_map ..]at gl;generalize aQ p (gT s q)=r at gn gl;simp!;refine j7 (λbs cs ρ=>∃ o4,ρ=[some u1,some<|dT q,some<|.d<|.int s,some<|dT r,o4,o5,some<|.t<|aN fR<|nz bs]) ⟨_,rfl⟩ ?_ ?_
  .rintro bs t cs _ e ⟨o4,rfl⟩
   have tr:t∈r:=by rw[e]; simp
   have ln:(nz bs).length<=bs.length:=ý _ _;have lb:bs.length+1<=r.length:=by rw[e,qw,qx]; omega
   simp![nv gn tr,Lj];rw[LX]
   by_cases z:t.2=0
   .simp![z,ne_eq]
    exact⟨_,rfl⟩
   .simp![z,ne_eq,nv gn tr,tI (c:=fR) (p:=nz bs) (k:=t.1) (x:=t.2) (by omega)]
    rw[Lg (cs:=cs) (by rw[<-e]; exact gn)];exact⟨_,rfl⟩
  .rintro _ ⟨o4,rfl⟩
   simp![FE]
theorem OT{N C:Nat}{p q:Pq Rat}{u1 u2:U}{Q:U×Qa U->Prop}(uR:u1.fz=some (.dict<|cp fR p))(pT:u2.fz=some (.dict<|cp fR q))(np:aT p)(nq:aT q)(hp:PB M B p)(hq:PB N C q)(lp:Ln n p)(lq:Ln n q)(ln:n < 64)(hM:0 < M)(hN:0 < N)(h1:M * N < 2^4000)(h2:M < 2^4000)(h3:N < 2^4000)(h4:B < 2^4000)(h5:C < 2^4000)(h6:p.length * q.length * (B * C) < 2^4000)(hBC:0 < B * C)
  (l1:p.length * q.length < 64) (lp6:p.length < 64) (lq6:q.length < 64) (kq:∀ yF,yF.fz=some (.dict<|cp fR q)->Q (.t<|aN fR<|nz<|aQ []<|bB p q,[dT p,yF])):Wo (uy [u1,u2]) Q:=by
 have fin:∀ (o1 o3 o4 o5 o6:Qb U) (r:Pq Rat),aT r->r.length < 64->∀ (Q:Fl->Prop),(∀ o5,Q<|.nx [some<|dT p,o1,some<|dT r,o3,o4,o5,o6,some<|.t<|aN fR<|nz r])->Wo (gv (zC 5) (bw (mB<|af (bO true) (af aS (jk (zi 2)<|zi 5)<|mC<|.int 0)<|mC<|.int 0) (kM 7 (zi 5)<|jk (zi 2)<|zi 5) cy) (r.map λt=>bP t.1) [some<|dT p,o1,some<|dT r,o3,o4,o5,o6,some<|.t []]) Q:=by
  intro o1 o3 o4 o5 o6 r gn gl Q hQ;refine j7 (λbs cs ρ=>∃ o5,ρ=[some<|dT p,o1,some<|dT r,o3,o4,o5,o6,some<|.t<|aN fR<|nz bs]) ⟨_,rfl⟩ ?_ ?_
  .rintro bs t cs _ e ⟨o5,rfl⟩
   have tr:t∈r:=by rw[e]; simp
   have ln:(nz bs).length<=bs.length:=ý _ _;have lb:bs.length+1<=r.length:=by rw[e,qw,qx]; omega
   simp![nv gn tr,Lj];rw[LX]
   by_cases z:t.2=0
   .simp![z,ne_eq]
    exact⟨_,rfl⟩
   .simp![z,ne_eq,nv gn tr,tI (c:=fR) (p:=nz bs) (k:=t.1) (x:=t.2) (by omega)]
    rw[Lg (cs:=cs) (by rw[<-e]; exact gn)];exact⟨_,rfl⟩
  .rintro _ ⟨o5,rfl⟩
   exact hQ o5
 simp![uy,Q4,uR];refine j7 (λbs cs ρ=>∃ (x:U) (o3 o4 o5 o6:Qb U),ρ=[some<|dT p,some x,some<|.t<|aN fR<|aQ []<|bB bs q,o3,o4,o5,o6,none]/\(x=u2\/x=dT q)) ⟨u2,_,_,_,_,rfl,.inl rfl⟩ ?_ ?_
 .rintro bs s cs _ e ⟨x,o3,o4,o5,o6,rfl,wY⟩
  have hx:x.fz=some (.dict<|cp fR q):=by
   rcases wY with rfl|rfl
   .exact pT
   .rfl
  have sp:s∈p:=by rw[e]; simp
  have lbs:bs.length+1<=p.length:=by rw[e,qw,qx]; omega
  have lpm:(bB bs q).length+q.length<=p.length * q.length:=by
   rw[CC];have:=Æ q.length lbs;rw[Nat.add_mul,Nat.one_mul]at this;exact this
  simp![hx];refine j7 (λds fs ρ=>∃ (o4 o5 o6:Qb U),ρ=[some<|dT p,some<|dT q,some<|.t<|aN fR<|aQ []<|bB bs q++ds.map λt=>(aY s.1 t.1,s.2 * t.2),some<|.d<|bP s.1,o4,o5,o6,none]) ⟨_,_,_,by rw[List.map_nil,List.append_nil]⟩ ?_ ?_
  .rintro ds t fs _ e2 ⟨o4,o5,o6,rfl⟩
   have tq:t∈q:=by rw[e2]; simp
   have lds:ds.length+1<=q.length:=by rw[e2,qw,qx]; omega
   have hle:s.1.length=t.1.length:=by rw[lp s sp,lq t tq]
   have s1:=qW (hp s sp) hM h2 h4;have s2:=qW (hq t tq) hN h3 h5;have hb:PB (M * N) (B * C) (bB bs q++ds.map λt=>(aY s.1 t.1,s.2 * t.2)):=λv hv=>by
    rcases Ï.mp hv with z|z
    .have(a,ha,b,hb,rfl):=Gx z
     exact(hp a (by rw[e]; exact Ð _ ha)).mul<|hq b hb
    .have(b,hb,rfl):=Ä.mp z
     exact(hp s sp).mul<|hq b (by rw[e2]; exact Ð _ hb)
   have ll:(bB bs q++ds.map λt=>(aY s.1 t.1,s.2 * t.2)).length<=p.length * q.length:=by
    rw[qw,List.length_map];omega
   have gl:=rK (bB bs q++ds.map λt=>(aY s.1 t.1,s.2 * t.2)) [];rw[List.length_nil,Nat.zero_add]at gl;have gb:PB (M * N) (p.length * q.length * (B * C)) (aQ []<|bB bs q++ds.map λt=>(aY s.1 t.1,s.2 * t.2)):=λv hv=>(FV _ (C:=0) Sb hb v hv).le (by
    have:=Æ (B * C) ll;omega)
   have s3:=qW (Cn gb<|aY s.1 t.1) (ø hM hN) h1 h6;have s4:Sz (s.2 * t.2):=qW ((hp s sp).mul<|hq t tq) (ø hM hN) h1 (by
    have h7:1 * (B * C)<=p.length * q.length * (B * C):=Æ _ (by
     have:1 * 1<=p.length * q.length:=ÿ (by omega) (by omega);omega)
    omega)
   simp![Hr hle];refine BR (e:=λt=>.int<|t.1+t.2) (by rw[List.length_zip,lp s sp]; omega) (λt ht ys=>?_) ?_
   .simp!
   .rw[show((s.1.zip t.1).map λt=>PyData.int<|t.1+t.2)=(aY s.1 t.1).map PyData.int by unfold aY; rw[List.map_zipWith,List.zip,List.map_zipWith]]
    simp![show PyData.tuple ((aY s.1 t.1).map PyData.int)=bP (aY s.1 t.1) from rfl,nv np sp,nv nq tq,PN s1 s2,OW s3 s4];rw[tI (by omega)];simp!;rw[List.map_append,<-List.append_assoc,List.map_cons,List.map_nil,CD];exact⟨_,_,_,rfl⟩
  .rintro _ ⟨o4,o5,o6,rfl⟩
   simp!;rw[zrS];exact⟨dT q,_,_,_,_,rfl,.inr rfl⟩
 .rintro _ ⟨x,o3,o4,o5,o6,rfl,hx⟩
  have gl:=rK (bB p q) [];rw[List.length_nil,CC]at gl;simp!;refine fin _ _ _ _ _ _ (m9 _ nd0) (by omega) _ λo5=>?_;rcases hx with rfl|rfl
  .simp![FE]
   exact kq x pT
  .simp!
   exact kq (dT q) rfl
def oF:Nat->Nat->Qa (Qa Int)
 | 0,_=>[[]]
 | n+1,w=>(List.range<|w+1).flatMap λ(j:Nat)=>(oF n<|w - j).map λl=>(j:Int)::l
structure Ks (n w:Nat) (a:Qa Int):Prop where
 ln:a.length=n
 pos:∀ k∈a,0<=k
 sm:a.sum<=(w:Int)
theorem Mg:∀ {a:Qa Int},(∀ k∈a,0<=k)->0<=a.sum
 | [],_=>by decide
 | k::a,h=>by
  rw[List.sum_cons];have:=h k qr;have:=Mg λj hj=>h j<|qq k hj;omega
theorem EI:∀ {n w:Nat} {a:Qa Int},Ks n w a->a∈oF n w
 | 0,_,[],_=>qu.mpr rfl
 | 0,_,_::_,h=>by have:=h.ln; simp at this
 | n+1,_,[],h=>by have:=h.ln; simp at this
 | n+1,w,k::a,h=>by
  have h1:=h.pos k qr;have h2:=Mg λj hj=>h.pos j<|qq k hj;have h3:=h.sm;rw[List.sum_cons]at h3;refine List.mem_flatMap.mpr ⟨k.toNat,Í.mpr (by omega),Ä.mpr ⟨a,EI ⟨Nat.succ.inj h.ln,λj hj=>h.pos j<|qq k hj,by omega⟩,?_⟩⟩;rw[Int.toNat_of_nonneg h1]
theorem Ks.up{w w':Nat}{a:Qa Int}(h:Ks n w a)(c:w<=w'):Ks n w' a:=⟨h.ln,h.pos,by have:=h.sm; omega⟩
theorem G0:∀ {a b:Qa Int},a.length=b.length->(aY a b).sum=a.sum+b.sum
 | [],[],_=>rfl
 | [],_::_,h=>by simp at h
 | _::_,[],h=>by simp at h
 | x::a,y::b,h=>by
  show((x+y)::aY a b).sum=_;rw[List.sum_cons,List.sum_cons,List.sum_cons,G0<|Nat.succ.inj h];omega
theorem ND:∀ {a b:Qa Int},(∀ k∈a,0<=k)->(∀ k∈b,0<=k)->∀ k∈aY a b,0<=k
 | [],_,_,_,k,hk=>by simp[aY]at hk
 | _::_,[],_,_,k,hk=>by simp[aY]at hk
 | x::a,y::b,h,h',k,hk=>by
  rcases qy.mp (show k∈(x+y)::aY a b from hk)with rfl|hk
  .have:=h x qr
   have:=h' y qr;omega
  .exact ND (λj hj=>h j<|qq _ hj) (λj hj=>h' j<|qq _ hj) k hk
theorem Ks.add{w w':Nat}{a b:Qa Int}(h:Ks n w a)(h':Ks n w' b):Ks n (w+w') (aY a b):=by
 refine⟨?_,ND h.pos h'.pos,?_⟩
 .unfold aY
  rw[List.length_zipWith,h.ln,h'.ln,Nat.min_self]
 .rw[G0<|h.ln.trans h'.ln.symm]
  have:=h.sm;have:=h'.sm;omega
theorem zBH:((oF 1 5).map λa=>hT<|kL a).Nodup:=by decide +kernel
theorem zBI:((oF 2 4).map λa=>hT<|kL a).Nodup:=by decide +kernel
theorem zBJ:((oF 3 3).map λa=>hT<|kL a).Nodup:=by decide +kernel
theorem K3{p:Pq Rat}(h1:1<=n)(h3:n<=3)(nd:aT p)(ky:∀ t∈p,Ks n (cV n) t.1):ER p:=by
 have inj:∀ a∈oF n (cV n),∀ b∈oF n (cV n),hT (kL a)=hT (kL b)->a=b:=by
  rcases(by omega:n=1\/n=2\/n=3)with rfl|rfl|rfl
  .exact BQ zBH
  .exact BQ zBI
  .exact BQ zBJ
 unfold ER tU;rw[Bool.and_eq_true_iff];constructor
 .rw[List.all_eq_true]
  intro ks hk;have(a,_,rfl):=Ä.mp hk;rw[HN,List.all_eq_true];intro k hk;have(i,_,rfl):=Ä.mp hk;rfl
 .rw[decide_eq_true_iff,List.map_map]
  have mem:∀ a∈p.map (·.1),a∈oF n (cV n):=λa ha=>by
   have(t,ht,rfl):=Ä.mp ha;exact EI<|ky t ht
  refine ú.mpr<|List.Pairwise.imp_of_mem (λ{a b} ha hb (pY:a≠b)=>?_) nd;exact λe=>pY<|inj a (mem a ha) b (mem b hb) e
def zs(n:Nat):Qa Int:=List.replicate n 0
def jj(n k:Nat):Qa Int:=List.replicate k 0++[1]++List.replicate (n - k - 1) 0
theorem BW(k:Nat):PyData.tuple (List.replicate k [PyData.int 0]).flatten=bP (List.replicate k 0):=by
 unfold bP;congr 1
 induction k with
 | zero=>rfl
 | succ k ih=>rw[List.replicate_succ,List.flatten_cons,List.replicate_succ,List.map_cons,<-ih]; rfl
theorem A4{k:Int}(h:k < 1000)(h2:-1000 < k):oO (.d<|bP [0]) (.d<|.int k)=some (.d<|bP<|List.replicate k.toNat 0):=by
 rw[<-BW];exact N9 (xs:=[.int 0]) (by decide) h h2 (by decide)
theorem Xl{k:Nat}(hk:k < n):(jj n k).length=n:=by
 unfold jj;rw[qw,qw,List.length_replicate,List.length_replicate,List.length_singleton];omega
theorem zBK(n:Nat):(zs n).length=n:=List.length_replicate
theorem Xk{k:Nat}:∀ j∈jj n k,0<=j/\j<=1:=λj hj=>by
 unfold jj at hj;rcases Ï.mp hj with z|z
 .rcases Ï.mp z with z|z
  .rw[List.eq_of_mem_replicate z]; omega
  .rw[qu.mp z]; omega
 .rw[List.eq_of_mem_replicate z]; omega
theorem zBL:∀ j∈zs n,j=0:=λj hj=>List.eq_of_mem_replicate hj
theorem Sh{t:Qa Int×Rat}:aT [t]:=by unfold aT; simp
end K35
open PySem L2
namespace K35
open PySem L2
structure Fm where
 p:Pq Int
 b:Int
 r:Int
def cF(F:Fm):D:=jH F.p F.b F.r
def g6(p:Pq Int)(b r:Int):Fm:=if(p.filter λt=>!decide (t.2=0)).isEmpty=true then⟨[],1,256⟩else⟨p.filter λt=>!decide (t.2=0),b,r⟩
theorem OG{p:Pq α}(h:aT p)(f:Qa Int×α->Bool):aT (p.filter f):=h.sublist (List.filter_sublist.map _)
theorem zDA:oN 1=1:=by decide
theorem Xj(p:Pq α):(p.map λa=>(a.1,a.2))=p:=by simp
theorem Hn{p:Pq Int}{r:Int}{u:U}(hu:u.fz=some (.dict<|cp .int p))(nd:aT p)(hl:p.length < 1000)(b1:1<=b)(hb:oN b<=r)(hg:b.natAbs.log2 < 9000):
  wD [u,.d<|.int b,.d<|.int r]=some (.d<|cF<|g6 p b r,[.d<|.dict<|cp .int p,.d<|.int b,.d<|.int r]):=by
 refine zU ?_;simp![wD,Oq,hu];rw[vV p];refine BY (c:=PyData.int) (b:=λt=>!decide (t.2=0)) (k:=(·.1)) (v:=(·.2)) (by omega) (λt ht ys=>?_) ?_
 .simp!
  by_cases h:t.2=0
  .simp![h]
  .simp![h,BS]
 .rw[Xj,F8<|OG nd _]
  simp!
  by_cases h:(p.filter λt=>!decide (t.2=0)).isEmpty=true
  .have e:g6 p b r=⟨[],1,256⟩:=if_pos h
   have e2:(p.filter λt=>!decide (t.2=0))=[]:=by simpa using h
   rw[e];simp![h];rw[e2];refine pe (λi ρ=>i=0/\ρ=[some<|U.d<|.dict<|cp .int p,some<|.d<|.int b,some<|.d<|.int r,some<|.d<|.dict<|cp .int ([]:Pq Int),some<|.d<|.int b,none,none]) ⟨rfl,rfl⟩ (λi d ρ hd=>by cases hd) ?_;rintro _ ⟨_,rfl⟩;simp!;refine BY (c:=PyData.int) (b:=λt=>true) (k:=(·.1)) (v:=λt:Qa Int×Int=>t.2) (as:=[]) (by decide) (λt ht=>by cases ht) ?_;have e3:Eg (List.map (λa:Qa Int×Int=>(a.1,a.2))<|List.filter (λ_=>true) [])=[]:=rfl;rw[e3];have d1:b.fdiv b=1:=Int.fdiv_self (by omega);have lg:∀ i:Int,i=1\/i=2->i.natAbs.log2 < 1000000:=by rintro i (rfl|rfl)<;>exact Å (Nat.log2_le_self _) (by decide)
   simp![vX (a:=b) (b:=b) ⟨by omega,hg⟩,d1,zDA,jV (a:=2) (b:=1) (lg _<|.inr rfl)<|lg _<|.inl rfl];rfl
  .have e:g6 p b r=⟨p.filter λt=>!decide (t.2=0),b,r⟩:=if_neg h
   have h':(p.filter λt=>!decide (t.2=0)).isEmpty=false:=by simpa using h
   rw[e];simp![h',hb];rfl
theorem EH{t:Qa Int×Int}:aT [t]:=by unfold aT; simp
theorem HE(hn:n<=3)(hb:oN (f.den:Int)<=256)(hg:f.den.log2 < 9000):wI [.d<|fR f,.d<|.int (n:Int)]=some (.d<|cF<|g6 [(zs n,f.num)] f.den 256,[.d<|fR f,.d<|.int (n:Int)]):=by
 refine zU ?_;have s:=Hn (u:=.t (aN .int [(zs n,f.num)])) (p:=[(zs n,f.num)]) (b:=f.den) (r:=256) nC EH (by show(1:Nat) < 1000; decide) (kY f) hb (by rw[Int.natAbs_natCast]; exact hg);simp![wI,Q9,BW,Int.toNat_natCast];rw[show [(kL<|List.replicate n 0,PyData.int f.num)]=aN PyData.int [(zs n,f.num)] from rfl];simp![s]
theorem zjN{k:Nat}(hk:k < n)(hn:n<=3):Du [.d<|.int (k:Int),.d<|.int (n:Int)]=some (.d<|cF ⟨[(jj n k,1)],1,256⟩,[.d<|.int (k:Int),.d<|.int (n:Int)]):=by
 refine zU ?_;have e:((n:Int) - (k:Int) - 1).toNat=n - k - 1:=by omega
 simp![Du,Rq,BW,Int.toNat_natCast,e,Lf,AV (a:=List.replicate k 0) (b:=[1]) (by rw[List.length_replicate]; show k+1<=1000; omega),AV (a:=List.replicate k 0++[1]) (b:=List.replicate (n - k - 1) 0) (by rw[qw,List.length_replicate,List.length_replicate]; show k+1+_<=1000; omega),A4 (k:=(k:Int)) (by omega) (by omega),A4 (k:=(n:Int) - (k:Int) - 1) (by omega) (by omega)];rw[FU];rfl
theorem zjO{a b:Qa Int}(h:a.length=b.length)(hl:a.length < 64):Dj [.d<|bP a,.d<|bP b]=some (.d<|bP<|aY a b,[.d<|bP a,.d<|bP b]):=by
 refine zU ?_;simp![Dj,Qn,Hr h];refine BR (e:=λt=>.int<|t.1+t.2) (by rw[List.length_zip,<-h]; omega) (λt ht ys=>?_) ?_
 .simp!
 .rw[show((a.zip b).map λt=>PyData.int<|t.1+t.2)=(aY a b).map PyData.int by unfold aY; rw[List.map_zipWith,List.zip,List.map_zipWith]]
  simp!;rfl
end K35
open PySem L2
namespace K35
open PySem L2
structure FZ (F:Fm):Prop where
 nd:aT F.p
 ln:F.p.length < 64
 b1:1<=F.b
 bs:F.b.natAbs < 2^1000
 ns:∀ t∈F.p,t.2.natAbs < 2^3000
 r1:256<=F.r
def cC(p:Pq Int)(c:Int):Pq Int:=p.map λt=>(t.1,t.2 * c)
def oE(F G:Fm)(f:Rat):Fm :=
 g6 (aQ (cC F.p<|(G.b * f.den).fdiv (Int.gcd F.b (G.b * f.den):Nat))<|cC G.p<|F.b.fdiv (Int.gcd F.b (G.b * f.den):Nat) * f.num) (F.b * (G.b * f.den).fdiv (Int.gcd F.b (G.b * f.den):Nat)) (if G.r > F.r then G.r else F.r)
theorem BJ{p:Pq Int}(h:aT p)(c:Int):aT (cC p c):=by
 unfold aT cC;rw[List.map_map];exact h
theorem Cf(p:Pq Int)(c:Int):(cC p c).length=p.length:=Ò ..
theorem jB{x:Int}{k:Nat}(h:x.natAbs < 2^k)(hk:k < 9000)(h0:0 < k):x.natAbs.log2 < 1000000:=Þ (uu h0 h) (Þ hk (by decide))
theorem A3{x:Int}{k:Nat}(h:x.natAbs < 2^k)(hk:k < 9000)(h0:0 < k):x.natAbs.log2 < 9000:=Þ (uu h0 h) hk
theorem K2{x:Int}{k:Nat}(hx:x.natAbs < 2^j)(hy:y.natAbs < 2^k):(x * y).natAbs < 2^(j+k):=by
 rw[Int.natAbs_mul,Nat.pow_add];exact Nat.mul_lt_mul'' hx hy
theorem Mf{x g:Int}{k:Nat}(h0:0<=x)(hg:0 < g)(hx:x.natAbs < 2^k):(x.fdiv g).natAbs < 2^k:=by
 rw[Int.fdiv_eq_ediv_of_nonneg _ (by omega)];refine Å ?_ hx;have:=Int.ediv_le_self g h0;have:=Int.ediv_nonneg h0 (by omega:0<=g);omega
theorem Me{k:Nat}(h0:0 < k)(h:b.natAbs < 2^k):oN b<=k:=by
 unfold oN Builtin.Int.intBits;split
 .exact Int.natCast_nonneg _
 .have:=uu h0 h
  omega
theorem znQ{F G:Fm}(hF:FZ F)(hG:FZ G)(hn:f.num.natAbs < 2^1000)(hd:f.den < 2^100)(hb:(F.b * (G.b * f.den).fdiv (Int.gcd F.b (G.b * f.den):Nat)).natAbs < 2^256):
  CO [.d<|cF F,.d<|cF G,.d<|fR f]=some (.d<|cF<|oE F G f,[.d<|cF F,.d<|cF G,.d<|fR f]):=by
 refine zU ?_;have xa:((f.den:Nat):Int).natAbs < 2^100:=by rw[Int.natAbs_natCast]; exact hd
 have d1:=kY f;have Fb:=hF.b1;have Gb:=hG.b1;have S3:0 < G.b * (f.den:Int):=á (by omega) (by omega);have bes:=K2 hG.bs xa;have gp:0 < Int.gcd F.b (G.b * f.den):=Int.gcd_pos_of_ne_zero_left _ (by omega);have gl:Int.gcd F.b (G.b * f.den)<=F.b.natAbs:=Int.gcd_le_natAbs_left _ (by omega);have cg:∀ z:Int,tO z ((Int.gcd F.b (G.b * f.den):Nat):Int):=λz=>⟨by omega,by rw[Int.natAbs_natCast]; exact FF gl<|A3 hF.bs (by decide) (by decide)⟩;have fs:=Mf (à S3) (by omega:(0:Int) < (Int.gcd F.b (G.b * f.den):Nat)) bes;have ss:=Mf (by omega:0<=F.b) (by omega:(0:Int) < (Int.gcd F.b (G.b * f.den):Nat)) hF.bs;have ss2:=K2 ss hn;have cf:=Dp (x:=F.b) (y:=G.b * f.den) (by omega) (by omega);unfold cF oE;generalize SG:(G.b * (f.den:Int)).fdiv (Int.gcd F.b (G.b * f.den):Nat)=fi at *;generalize hse:F.b.fdiv (Int.gcd F.b (G.b * f.den):Nat)=se at *;simp![CO,OQ,jV (a:=G.b) (b:=(f.den:Int)) (jB hG.bs (by decide) (by decide))<|jB xa (by decide) (by decide),cf,vX<|cg _,SG,hse,jV (a:=se) (b:=f.num) (jB ss (by decide) (by decide))<|jB hn (by decide) (by decide)];rw[vV F.p];have ec:(F.p.filter λ_=>true).map (λa=>(a.1,a.2 * fi))=cC F.p fi:=by
  unfold cC;rw[List.filter_eq_self.mpr λ_ _=>rfl]
 refine BY (c:=PyData.int) (b:=λt=>true) (k:=(·.1)) (v:=λt:Qa Int×Int=>t.2 * fi) (by have:=hF.ln; omega) (λt ht ys=>?_) ?_
 .simp![jV (a:=t.2) (b:=fi) (jB (hF.ns t ht) (by decide) (by decide))<|jB fs (by decide) (by decide),BS]
 rw[ec,F8<|BJ hF.nd fi];simp!;rw[vV G.p];have gnd:=BJ hF.nd fi;refine j7 (λbs cs ρ=>∃ o8 o9,ρ=[some<|U.d<|jH F.p F.b F.r,some<|U.d<|jH G.p G.b G.r,some<|U.d<|fR f,some<|U.d<|PyData.int<|G.b * (f.den:Int),some<|U.d<|PyData.int ((F.b.gcd (G.b * (f.den:Int)):Nat):Int),some<|U.d<|PyData.int fi,some<|U.d<|PyData.int<|se * f.num,some<|.t<|aN PyData.int<|aQ (cC F.p fi)<|cC bs<|se * f.num,o8,o9]) ⟨none,none,rfl⟩ ?_ ?_
 .rintro bs t cs _ e ⟨o8,o9,rfl⟩
  have ht:t∈G.p:=by rw[e]; simp
  have lb:bs.length+cs.length+1=G.p.length:=by rw[e,qw,qx]; omega
  have l1:=rK (cC bs<|se * f.num) (cC F.p fi);rw[Cf,Cf]at l1;have l2:=hF.ln;have l3:=hG.ln;have eg:aQ (cC F.p fi) (cC (bs++[t])<|se * f.num)=cu (aQ (cC F.p fi)<|cC bs<|se * f.num) t.1 ((look (aQ (cC F.p fi)<|cC bs<|se * f.num) t.1).getD 0+t.2 * (se * f.num)):=by
   unfold cC;rw[List.map_append];exact CD _ _ _
  rw[eg];have pu:∀ x:Int,xN (.t<|aN PyData.int<|aQ (cC F.p fi)<|cC bs<|se * f.num) (bP t.1) (.int x)=some (.t<|aN PyData.int<|cu (aQ (cC F.p fi)<|cC bs<|se * f.num) t.1 x):=λx=>tI (c:=PyData.int) (by omega);have mb:=jV (a:=t.2) (b:=se * f.num) (jB (hG.ns t ht) (by decide) (by decide)) (jB ss2 (by decide) (by decide));cases hl:look (aQ (cC F.p fi)<|cC bs<|se * f.num) t.1 with
  | none=>
   simp![hl,mb,pu,Option.getD_none];exact⟨_,_,rfl⟩
  | some z=>
   simp![hl,mb,pu,Option.getD_some];exact⟨_,_,rfl⟩
 .rintro _ ⟨o8,o9,rfl⟩
  have l1:=rK (cC G.p<|se * f.num) (cC F.p fi);rw[Cf,Cf]at l1;have l2:=hF.ln;have l3:=hG.ln;have fi0:0 < fi:=by
   rw[<-SG,Int.fdiv_eq_ediv_of_nonneg _ (by omega)];exact Int.ediv_pos_of_pos_of_dvd S3 (by omega)<|Int.gcd_dvd_right _ _
  have JX:1<=F.b * fi:=by have:=á (by omega:0 < F.b) fi0; omega
  have rr:256<=(if G.r > F.r then G.r else F.r):=by have:=hF.r1; have:=hG.r1; split<;>omega
  have s:=Hn (u:=.t (aN .int<|aQ (cC F.p fi)<|cC G.p<|se * f.num)) (p:=aQ (cC F.p fi) (cC G.p<|se * f.num)) (b:=F.b * fi) (r:=if G.r > F.r then G.r else F.r) nC (m9 _ gnd) (by omega) JX (ü (Me (by decide) hb) rr) (A3 hb (by decide) (by decide));simp![jV (a:=F.b) (b:=fi) (jB hF.bs (by decide) (by decide))<|jB fs (by decide) (by decide),s];rfl
def lj(F G:Fm):Fm:=g6 (aQ []<|bB F.p G.p) (F.b * G.b) (if G.r > F.r then G.r else F.r)
theorem V2(acc ts us:Pq Int):aQ acc (ts++us)=aQ (aQ acc ts) us:=List.foldl_append ..
theorem zkl{F G:Fm}(hF:FZ F)(hG:FZ G)(h1:∀ t∈F.p,t.1.length=n)(h2:∀ t∈G.p,t.1.length=n)(hn:n < 64)(hb:(F.b * G.b).natAbs < 2^256)(hl:F.p.length * G.p.length < 1000):
  ux [.d<|cF F,.d<|cF G]=some (.d<|cF<|lj F G,[.d<|cF F,.d<|cF G]):=by
 refine zU ?_;unfold cF lj;have Fb:=hF.b1;have Gb:=hG.b1;have l2:=hF.ln;have l3:=hG.ln;simp![ux,Q3];rw[vV F.p];have pl:∀ bs:Pq Int,bs.length<=F.p.length->(bB bs G.p).length < 1000:=λbs hb=>by
  rw[CC];exact Å (Æ _ hb) hl
 refine j7 (λbs cs ρ=>∃ o3 o4 o5 o6 o7,ρ=[some<|U.d<|jH F.p F.b F.r,some<|U.d<|jH G.p G.b G.r,some<|.t<|aN PyData.int<|aQ []<|bB bs G.p,o3,o4,o5,o6,o7]) ⟨none,none,none,none,none,rfl⟩ ?_ ?_
 .rintro bs s cs _ e ⟨o3,o4,o5,o6,o7,rfl⟩
  have hs:s∈F.p:=by rw[e]; simp
  have lb:bs.length+cs.length+1=F.p.length:=by rw[e,qw,qx]; omega
  simp!;rw[vV G.p];have epm:∀ ds:Pq Int,aQ [] (bB bs G.p++ds.map λt=>(aY s.1 t.1,s.2 * t.2))=aQ (aQ []<|bB bs G.p) (ds.map λt=>(aY s.1 t.1,s.2 * t.2)):=λds=>V2 _ _ _;refine j7 (λds es ρ=>∃ o5 o6 o7,ρ=[some<|U.d<|jH F.p F.b F.r,some<|U.d<|jH G.p G.b G.r,some<|.t<|aN PyData.int<|aQ []<|bB bs G.p++ds.map λt=>(aY s.1 t.1,s.2 * t.2),some<|.d<|bP s.1,some<|.d<|.int s.2,o5,o6,o7]) ⟨o5,o6,o7,by rw[List.map_nil,List.append_nil]⟩ ?_ ?_
  .rintro ds t es _ e2 ⟨o5,o6,o7,rfl⟩
   have ht:t∈G.p:=by rw[e2]; simp
   have ld:ds.length+es.length+1=G.p.length:=by rw[e2,qw,qx]; omega
   have l1:=rK (bB bs G.p++ds.map λt=>(aY s.1 t.1,s.2 * t.2)) [];rw[qw,List.length_map]at l1;have l4:=pl bs (by omega);have pp:=zjO (a:=s.1) (b:=t.1) ((h1 s hs).trans (h2 t ht).symm) (by rw[h1 s hs]; exact hn);have eg:aQ [] (bB bs G.p++(ds++[t]).map λt=>(aY s.1 t.1,s.2 * t.2))=cu (aQ []<|bB bs G.p++ds.map λt=>(aY s.1 t.1,s.2 * t.2)) (aY s.1 t.1) ((look (aQ []<|bB bs G.p++ds.map λt=>(aY s.1 t.1,s.2 * t.2))<|aY s.1 t.1).getD 0+s.2 * t.2):=by
    rw[List.map_append,<-List.append_assoc];exact CD _ _ _
   rw[eg];generalize aQ [] (bB bs G.p++ds.map λt=>(aY s.1 t.1,s.2 * t.2))=gg at *;have pu:∀ x:Int,xN (.t<|aN PyData.int gg) (bP<|aY s.1 t.1) (.int x)=some (.t<|aN PyData.int<|cu gg (aY s.1 t.1) x):=λx=>tI (c:=PyData.int) (by simp at l1; omega);have mb:=jV (a:=s.2) (b:=t.2) (jB (hF.ns s hs) (by decide) (by decide)) (jB (hG.ns t ht) (by decide) (by decide));cases SD:look gg (aY s.1 t.1)with
   | none=>
    simp![pp,SD,mb,pu,Option.getD_none];exact⟨_,_,_,rfl⟩
   | some z=>
    simp![pp,SD,mb,pu,Option.getD_some];exact⟨_,_,_,rfl⟩
  .rintro _ ⟨o5,o6,o7,rfl⟩
   simp!;have:bB (bs++[s]) G.p=bB bs G.p++G.p.map λt=>(aY s.1 t.1,s.2 * t.2):=by unfold bB; simp
   rw[this];exact⟨_,_,_,_,_,rfl⟩
 .rintro _ ⟨o3,o4,o5,o6,o7,rfl⟩
  have l1:=rK (bB F.p G.p) [];have l4:=pl F.p (qg _);have JX:1<=F.b * G.b:=by have:=á (by omega:0 < F.b) (by omega:0 < G.b); omega
  have rr:256<=(if G.r > F.r then G.r else F.r):=by have:=hF.r1; have:=hG.r1; split<;>omega
  have s:=Hn (u:=.t (aN .int<|aQ []<|bB F.p G.p)) (p:=aQ [] (bB F.p G.p)) (b:=F.b * G.b) (r:=if G.r > F.r then G.r else F.r) nC (m9 _ Ø) (by simp at l1; omega) JX (ü (Me (by decide) hb) rr) (A3 hb (by decide) (by decide));simp![jV (a:=F.b) (b:=G.b) (jB hF.bs (by decide) (by decide))<|jB hG.bs (by decide) (by decide),s];rfl
theorem zmb{F:Fm}(hF:FZ F):DA [.d<|cF F]=some (.l<|eX fR<|fY<|bY F.b F.p,[.d<|cF F]):=by
 refine zU ?_;unfold cF;have l2:=hF.ln;have Fb:=hF.b1;simp![DA,Qw];rw[vV F.p];refine BR (e:=λt=>.tuple [bP t.1,fR<|Rat.divInt t.2 F.b]) (by omega) (λt ht ys=>?_) ?_
 .simp![zfq (n:=t.2) (d:=F.b) (by omega)<|A3 hF.bs (by decide) (by decide)]
 .have e:(F.p.map λt=>PyData.tuple [bP t.1,fR<|Rat.divInt t.2 F.b])=eX fR (bY F.b F.p):=by
   unfold bY eX;rw[List.map_map];rfl
  have nd:aT (bY F.b F.p):=by
   unfold aT bY;rw[List.map_map];exact hF.nd
  have st:=zBo (c:=fR) nd (by unfold bY; rw[List.length_map]; exact l2);rw[e];simp![st]
def ind(k:Qa Int):Qa Int->Rat:=λe=>if e=k then 1 else 0
theorem FC{k:Qa Int}:∀ {p:Pq Rat},aT p->aF p (ind k)=(look p k).getD 0
 | [],_=>rfl
 | t::p,nd=>by
  have nI:aT p:=(æ.mp nd).2
  by_cases h:t.1=k
  .have n1:=(æ.mp nd).1
   have z:aF p (ind k)=0:=Cp λu hu e=>n1<|Ä.mpr ⟨u,hu,e.trans h.symm⟩;rw[zM,z];have e:look (t::p) k=some t.2:=by rw[<-h]; exact nv nd qr
   rw[e];show t.2 * (if t.1=k then 1 else 0)+0=t.2;rw[if_pos h];grind
  .rw[zM,FC nI]
   have e:look (t::p) k=look p k:=by
    unfold look;rw[List.find?_cons_of_neg (by simpa using h)]
   rw[e];show t.2 * (if t.1=k then 1 else 0)+_=_;rw[if_neg h];grind
structure QP (n k M B:Nat) (p:Pq Rat):Prop where
 nd:aT p
 nz:∀ t∈p,t.2≠0
 ky:∀ t∈p,Ks n k t.1/\t.1.sum=(k:Int)
 bd:PB M B p
theorem Md{p q:Pq Rat}(h:p.Perm q)(nd:aT q):aT p:=by
 unfold aT at nd ⊢;exact(h.map _).nodup_iff.mpr nd
theorem HS(q:Pq Rat):∀ t∈L2.nz q,t.2≠0:=λt ht=>of_decide_eq_true (Ú.mp ht).2
theorem GZ{p q:Pq Rat}(n1:aT p)(z1:∀ t∈p,t.2≠0)(n2:aT q)(z2:∀ t∈q,t.2≠0)(h:∀ g,aF p g=aF q g):p.Perm q:=by
 have e:fY p=fY q:=Gz ⟨wx n1,λt ht=>z1 t<|(h9 p).mem_iff.mp ht⟩ ⟨wx n2,λt ht=>z2 t<|(h9 q).mem_iff.mp ht⟩ λg=>by rw[pA<|h9 p,pA<|h9 q,h]
 exact(h9 p).symm.trans<|e▸h9 q
section
variable{k N C:Nat}{p q:Pq Rat}
theorem QP.perm(h:QP n k M B p)(e:q.Perm p):QP n k M B q:=⟨Md e h.nd,λt ht=>h.nz t<|e.mem_iff.mp ht,λt ht=>h.ky t<|e.mem_iff.mp ht,λt ht=>h.bd t<|e.mem_iff.mp ht⟩
theorem QP.le(h:QP n k M B p)(c:B<=C):QP n k M C p:=⟨h.nd,h.nz,h.ky,λt ht=>(h.bd t ht).le c⟩
theorem QP.wide(h:QP n k M B p)(c:Nat):QP n k (M * c) (B * c) p:=⟨h.nd,h.nz,h.ky,λt ht=>(h.bd t ht).wide c⟩
theorem QP.nil:QP n k M B []:=⟨Ø,λt h=>(by cases h),λt h=>(by cases h),λt h=>(by cases h)⟩
theorem QP.at(h:QP n k M B p)(e:Qa Int):Bd M B (aF p<|ind e):=by
 rw[FC h.nd];exact Cn h.bd e
theorem QP.add(hp:QP n k M B p)(hq:QP n k M C q):QP n k M (B+C) (L2.nz<|aQ p q):=by
 have nd:aT (aQ p q):=m9 q hp.nd;refine⟨Bv nd,HS _,λt ht=>Nn (Pk:=λe=>Ks n k e/\e.sum=(k:Int)) q hp.ky hq.ky t (Ú.mp ht).1,λt ht=>?_⟩;have e:t.2=aF p (ind t.1)+aF q (ind t.1):=by
  rw[<-rJ q _ hp.nd,FC nd,nv nd (List.mem_filter.mp ht).1];rfl
 rw[e];exact(hp.at _).add<|hq.at _
def eK(p:Pq Rat)(f:Rat):Pq Rat:=p.map λt=>(t.1,t.2 * f)
theorem Mc(p:Pq Rat)(f:Rat)(g:Qa Int->Rat):aF (eK p f) g=f * aF p g:=by
 unfold eK
 induction p with
 | nil=>rw[List.map_nil,gA,Rat.mul_zero]
 | cons t p ih=>
  rw[List.map_cons,zM,zM,ih];grind
theorem QP.R5(hp:QP n k M B p)(hf:Bd N C f)(f0:f≠0):QP n k (M * N) (B * C) (eK p f):=by
 refine⟨?_,λt ht=>?_,λt ht=>?_,λt ht=>?_⟩
 .unfold aT eK
  rw[List.map_map];exact hp.nd
 all_goals have(u,hu,rfl):=Ä.mp ht
 .exact λz=>(Rat.mul_eq_zero.mp z).elim (hp.nz u hu) f0
 .exact hp.ky u hu
 .exact(hp.bd u hu).mul hf
theorem QP.mul(hp:QP n k M B p)(hq:QP n l N C q):QP n (k+l) (M * N) (p.length * q.length * (B * C)) (L2.nz<|aQ []<|bB p q):=by
 refine⟨Bv<|m9 _ Ø,HS _,λt ht=>?_,λt ht=>?_⟩
 .refine Nn (Pk:=λe=>Ks n (k+l) e/\e.sum=((k+l:Nat):Int)) (bB p q) (λt h=>by cases h) (λt ht=>?_) t (Ú.mp ht).1
  have(u,hu,v,hv,rfl):=Gx ht;have(a,b):=hp.ky u hu;have(c,d):=hq.ky v hv;refine⟨a.add c,?_⟩;show(aY u.1 v.1).sum=_;rw[G0<|a.ln.trans c.ln.symm,b,d];omega
 .have:=FV (bB p q) (C:=0) Sb (Vz hp.bd hq.bd) t (Ú.mp ht).1
  rw[CC,Nat.zero_add]at this;exact this
def xp(n k:Nat):Qa (Qa Int):=(oF n k).filter λa=>decide<|a.sum=(k:Int)
theorem QP.len(h:QP n k M B p):p.length<=(xp n k).length:=by
 have:=List.Nodup.length_le_of_subset h.nd (l₂:=xp n k) λx hx=>by
  have(t,ht,rfl):=Ä.mp hx;have(a,b):=h.ky t ht;exact Ú.mpr ⟨EI a,decide_eq_true b⟩
 rw[List.length_map]at this;exact this
end
theorem RD:∀ n∈[1,2,3],∀ k∈List.range 7,∀ l∈List.range 7,k+l<=cV n->(xp n k).length<=15/\(xp n k).length * (xp n l).length<=36:=by decide +kernel
theorem yn{k N C:Nat}{p q:Pq Rat}(n1:1<=n)(n3:n<=3)(hp:QP n k M B p)(hq:QP n l N C q)(h:k+l<=cV n):p.length * q.length<=36:=by
 have(_,d6):=gK (n:=n);have mn:n∈[1,2,3]:=by rcases(by omega:n=1\/n=2\/n=3)with rfl|rfl|rfl<;>decide
 exact qC (ÿ hp.len hq.len) (RD n mn k (Í.mpr (by omega)) l (Í.mpr (by omega)) h).2
theorem lC{k:Nat}{p:Pq Rat}(n1:1<=n)(n3:n<=3)(hp:QP n k M B p)(h:k<=cV n):p.length<=15:=by
 have(_,d6):=gK (n:=n);have mn:n∈[1,2,3]:=by rcases(by omega:n=1\/n=2\/n=3)with rfl|rfl|rfl<;>decide
 exact qC hp.len (RD n mn k (Í.mpr (by omega)) 0 (by decide) (by omega)).1
def qL(F:Fm)(h:Qa Int->Rat):Rat:=aF (bY F.b F.p) h
theorem zBN{x:Int}(h:Bd M B (Rat.divInt x b))(b1:1<=b)(dv:b∣(M:Int))(hM:0 < M):x.natAbs<=B:=by
 have(k,e,hk):=h;have(c,hc):=dv;have e2:(k:Rat)=((x * c:Int):Rat):=by
  rw[<-e,show((M:Nat):Rat)=((M:Int):Rat) from rfl,hc,Rat.intCast_mul,Rat.intCast_mul,Rat.divInt_eq_div];have:(b:Rat)≠0:=λz=>by
   have:b=0:=by exact_mod_cast z
   omega
  grind
 have e3:k=x * c:=by exact_mod_cast e2
 have c0:c≠0:=λz=>by rw[z,Int.mul_zero]at hc; omega
 rw[e3,Int.natAbs_mul]at hk;have:1<=c.natAbs:=by omega
 exact qC (Nat.le_mul_of_pos_right _ this) hk
section
variable{F G:Fm}
theorem RC{x y:Nat}(h:x < y):2^x < 2^y:=ä (by decide) h
theorem NC{p:Pq Int}{r:Int}(hb:b≠0)(h:Qa Int->Rat):qL (g6 p b r) h=aF (bY b p) h:=by
 unfold g6 qL;rw[<-vW (bY b p) h,show(bY b p).filter (λt=>decide<|t.2≠0)=bY b (p.filter λt=>!decide (t.2=0)) from zBn hb p];split
 .rename_i z
  have e2:(p.filter λt=>!decide (t.2=0))=[]:=by simpa using z
  rw[e2];rfl
 .rfl
theorem FA{p:Pq Int}(h:aT p):aT (bY c p):=by
 unfold aT bY;rw[List.map_map];exact h
theorem Xi(hc:c≠0)(acc ts:Pq Int):bY c (aQ acc ts)=aQ (bY c acc) (bY c ts):=LZ (λk=>Rat.divInt k c) (Rat.zero_divInt c) (λa b=>by
 rw[Rat.divInt_add_divInt _ _ hc hc,<-Int.add_mul,Rat.divInt_mul_right hc]) ts acc
theorem CJ{A X:Int}(hA:1<=A)(hX:1<=X):1<=X.fdiv (Int.gcd A X:Nat)/\X.fdiv (Int.gcd A X:Nat) * (Int.gcd A X:Nat)=X/\A.fdiv (Int.gcd A X:Nat) * (Int.gcd A X:Nat)=A/\(0:Int) < (Int.gcd A X:Nat):=by
 have g0:(0:Int) < (Int.gcd A X:Nat):=by exact_mod_cast Int.gcd_pos_of_ne_zero_left _ (by omega)
 rw[Int.fdiv_eq_ediv_of_nonneg _ (by omega),Int.fdiv_eq_ediv_of_nonneg _ (by omega)];refine⟨?_,Int.ediv_mul_cancel<|Int.gcd_dvd_right _ _,Int.ediv_mul_cancel<|Int.gcd_dvd_left _ _,g0⟩;exact Int.ediv_pos_of_pos_of_dvd (by omega) (by omega)<|Int.gcd_dvd_right _ _
theorem sc1{p:Pq Int}(hb:b≠0)(hc:c≠0):bY (b * c) (cC p c)=bY b p:=by
 unfold bY cC;rw[List.map_map];refine Ö λt _=>?_;show(t.1,Rat.divInt (t.2 * c)<|b * c)=_;rw[Rat.divInt_mul_right hc]
theorem sc2{p:Pq Int}{d s:Int}(h:∀ x:Int,Rat.divInt (x * s) (b * c)=f * Rat.divInt x d):bY (b * c) (cC p s)=(bY d p).map λt=>(t.1,f * t.2):=by
 unfold bY cC;rw[List.map_map,List.map_map];refine Ö λt _=>?_;show(t.1,Rat.divInt (t.2 * s)<|b * c)=(t.1,f * Rat.divInt t.2 d);rw[h]
theorem Xh(f:Rat)(p:Pq Rat)(h:Qa Int->Rat):aF (p.map λt=>(t.1,f * t.2)) h=f * aF p h:=by
 induction p with
 | nil=>rw[List.map_nil,gA,Rat.mul_zero]
 | cons t p ih=>
  rw[List.map_cons,zM,zM,ih];grind
theorem zBO{A d:Int}(hA:1<=A)(hd:1<=d)(x:Int):
  Rat.divInt (x * (A.fdiv (Int.gcd A (d * f.den):Nat) * f.num)) (A * (d * f.den).fdiv (Int.gcd A (d * f.den):Nat))=f * Rat.divInt x d:=by
 have d1:=kY f;have X1:1<=d * (f.den:Int):=by have:=á (by omega:0 < d) (by omega:(0:Int) < f.den); omega
 have(h1,h2,h3,h4):=CJ hA X1;generalize (d * (f.den:Int)).fdiv (Int.gcd A (d * f.den):Nat)=fi at *;generalize A.fdiv (Int.gcd A (d * f.den):Nat)=se at *;generalize ((Int.gcd A (d * f.den):Nat):Int)=g at *;have hf:f * (f.den:Rat)=(f.num:Rat):=GP f;have q1:((A * fi:Int):Rat)≠0:=λz=>by
  have z:A * fi=0:=by exact_mod_cast z
  have:=á (by omega:0 < A) (by omega:0 < fi);omega
 have q2:(d:Rat)≠0:=λz=>by
  have z:d=0:=by exact_mod_cast z
  omega
 have q3:(g:Rat)≠0:=λz=>by
  have z:g=0:=by exact_mod_cast z
  omega
 have r2:(fi:Rat) * (g:Rat)=(d:Rat) * ((f.den:Int):Rat):=by rw[<-Rat.intCast_mul,<-Rat.intCast_mul,h2]
 have r3:(se:Rat) * (g:Rat)=(A:Rat):=by rw[<-Rat.intCast_mul,h3]
 have hf':f * ((f.den:Int):Rat)=(f.num:Rat):=hf;rw[Rat.divInt_eq_div,Rat.divInt_eq_div];rw[Rat.intCast_mul,Rat.intCast_mul];rw[Rat.intCast_mul]at q1 ⊢;grind
theorem V1(nF:aT F.p)(bF:1<=F.b)(hG:1<=G.b)(h:Qa Int->Rat):qL (oE F G f) h=qL F h+f * qL G h:=by
 have d1:=kY f;have X1:1<=G.b * (f.den:Int):=by have:=á (by omega:0 < G.b) (by omega:(0:Int) < f.den); omega
 have(h1,h2,h3,h4):=CJ bF X1;have A1:=bF;have c0:F.b * (G.b * (f.den:Int)).fdiv (Int.gcd F.b (G.b * f.den):Nat)≠0:=by
  have:=á (by omega:0 < F.b) (by omega:0 < (G.b * (f.den:Int)).fdiv (Int.gcd F.b (G.b * f.den):Nat));omega
 unfold oE;rw[NC c0,Xi c0,rJ _ _<|FA<|BJ nF _,sc1 (by omega) (by omega),sc2<|zBO bF hG,Xh];rfl
theorem K1{A X:Int}(hA:1<=A)(hX:1<=X)(h1:A∣(M:Int))(h2:X∣(M:Int)):A * X.fdiv (Int.gcd A X:Nat)∣(M:Int):=by
 have(f1,f2,f3,f4):=CJ hA hX;have e:A * X.fdiv (Int.gcd A X:Nat)=(Int.lcm A X:Nat):=by
  have hg:=Int.gcd_mul_lcm A X;have D7:((Int.gcd A X:Nat):Int) * ((Int.lcm A X:Nat):Int)=A * X:=by
   rw[<-Int.natCast_mul,hg];have:=á (by omega:0 < A) (by omega:0 < X)
   first|exact Int.natAbs_of_nonneg (à this) | (rw[<-Int.natAbs_mul]; exact Int.natAbs_of_nonneg<|à this)
  refine Int.eq_of_mul_eq_mul_left (a:=((Int.gcd A X:Nat):Int)) (by omega) ?_;rw[D7,Int.mul_left_comm,Int.mul_comm _<|X.fdiv _,f2]
 rw[e];exact ô.mpr<|Int.lcm_dvd h1 h2
theorem K0{p:Pq Int}{r:Int}(b1:1<=b)(r1:256<=r)(nd:aT p):1<=(g6 p b r).b/\256<=(g6 p b r).r/\aT (g6 p b r).p/\(∀ t∈(g6 p b r).p,t.2≠0)/\(g6 p b r).b∣b:=by
 unfold g6;split
 .exact⟨by decide,by decide,Ø,λt h=>(by cases h),Int.one_dvd b⟩
 .exact⟨b1,r1,OG nd _,λt h=>by simpa using (Ú.mp h).2,Int.dvd_refl b⟩
theorem Xg(hb:b≠0)(hc:c≠0)(p q:Pq Int):bY (b * c) (bB p q)=bB (bY b p) (bY c q):=by
 unfold bY bB;rw[List.map_flatMap,List.flatMap_map];refine congrArg (λg=>List.flatMap g p)<|funext λs=>?_;rw[List.map_map,List.map_map];refine Ö λt _=>?_;show(aY s.1 t.1,Rat.divInt (s.2 * t.2)<|b * c)=(aY s.1 t.1,Rat.divInt s.2 b * Rat.divInt t.2 c);rw[Rat.divInt_mul_divInt]
theorem V0(bF:1<=F.b)(bG:1<=G.b)(h:Qa Int->Rat):qL (lj F G) h=aF (bB (bY F.b F.p)<|bY G.b G.p) h:=by
 have c0:F.b * G.b≠0:=by
  have:=á (by omega:0 < F.b) (by omega:0 < G.b);omega
 unfold lj;rw[NC c0,Vx (by omega),rJ _ _ (show aT [] from Ø),gA,Rat.zero_add,Xg (by omega) (by omega)]
end
structure FP (D:Nat) (p:Pq Rat) (F:Fm):Prop where
 nd:aT F.p
 nz:∀ t∈F.p,t.2≠0
 b1:1<=F.b
 r1:256<=F.r
 dv:F.b∣(D:Int)
 pm:(bY F.b F.p).Perm p
theorem Mb{p:Pq Int}(b1:1<=b)(h:∀ t∈p,t.2≠0):∀ t∈bY b p,t.2≠0:=λs hs=>by
 have(u,hu,rfl):=Ä.mp hs;intro z;have z:Rat.divInt u.2 b=0:=z;rw[Rat.divInt_eq_div]at z;have hb:(b:Rat)≠0:=λq=>by
  have q:b=0:=by exact_mod_cast q
  omega
 have z2:(u.2:Rat)=0:=by grind
 exact h u hu (by exact_mod_cast z2)
section
variable{k N C D E:Nat}{p q:Pq Rat}{F G:Fm}
theorem FP.of(nd:aT F.p)(nz:∀ t∈F.p,t.2≠0)(b1:1<=F.b)(r1:256<=F.r)(dv:F.b∣(D:Int))(np:aT p)(zp:∀ t∈p,t.2≠0)(h:∀ g,qL F g=aF p g):FP D p F :=
 ⟨nd,nz,b1,r1,dv,GZ (FA nd) (Mb b1 nz) np zp h⟩
theorem FP.aF(h:FP D p F)(g:Qa Int->Rat):qL F g=L2.aF p g:=pA h.pm g
theorem FP.fz(h:FP M p F)(hp:QP n k M B p)(ln:p.length<=40)(hM:M < 2^256)(M0:0 < M)(hB:B < 2^3000):FZ F:=by
 have le:=Int.le_of_dvd (by omega) h.dv;have b1:=h.b1;refine⟨h.nd,?_,h.b1,?_,λt ht=>?_,h.r1⟩
 .have:=h.pm.length_eq
  unfold bY at this;rw[List.length_map]at this;omega
 .refine Å (show F.b.natAbs<=M by omega) (Þ hM<|ä (by decide) (by decide))
 .refine Å (zBN (M:=M) (B:=B) ?_ h.b1 h.dv M0) hB
  exact hp.bd _<|h.pm.mem_iff.mp<|Ä.mpr ⟨t,ht,rfl⟩
theorem FP.sum(hF:FP D p F)(hG:FP E q G)(hd:G.b * (f.den:Int)∣(D:Int)){s:Pq Rat}(ns:aT s)(zs:∀ t∈s,t.2≠0)(hs:∀ g,L2.aF s g=L2.aF p g+f * L2.aF q g):FP D s (oE F G f):=by
 have d1:=kY f;have G1:=hG.b1;have F1:=hF.b1;have X1:1<=G.b * (f.den:Int):=by have:=á (by omega:0 < G.b) (by omega:(0:Int) < f.den); omega
 have(h1,h2,h3,h4):=CJ hF.b1 X1;have c1:1<=F.b * (G.b * (f.den:Int)).fdiv (Int.gcd F.b (G.b * f.den):Nat):=by
  have:=á (by omega:0 < F.b) (by omega:0 < (G.b * (f.den:Int)).fdiv (Int.gcd F.b (G.b * f.den):Nat));omega
 have dv:=K1 hF.b1 X1 hF.dv hd;have rr:256<=(if G.r > F.r then G.r else F.r):=by have:=hF.r1; have:=hG.r1; split<;>omega
 have sl:=λg=>V1 (F:=F) (G:=G) (f:=f) hF.nd hF.b1 hG.b1 g;have(a,b,c,d,e):=K0 (p:=aQ (cC F.p<|(G.b * f.den).fdiv (Int.gcd F.b (G.b * f.den):Nat)) (cC G.p<|F.b.fdiv (Int.gcd F.b (G.b * f.den):Nat) * f.num)) c1 rr (m9 _<|BJ hF.nd _);refine FP.of (F:=oE F G f) c d a b (Int.dvd_trans e dv) ns zs λg=>?_;rw[sl g,hF.aF,hG.aF,hs]
theorem FP.tim(hF:FP D p F)(hG:FP E q G)(np:aT p):FP (D * E) (L2.nz<|aQ []<|bB p q) (lj F G):=by
 have G1:=hG.b1;have F1:=hF.b1;have c1:1<=F.b * G.b:=by have:=á (by omega:0 < F.b) (by omega:0 < G.b); omega
 have rr:256<=(if G.r > F.r then G.r else F.r):=by have:=hF.r1; have:=hG.r1; split<;>omega
 have tl:=λg=>V0 (F:=F) (G:=G) hF.b1 hG.b1 g;have(a,b,c,d,e):=K0 (p:=aQ [] (bB F.p G.p)) c1 rr (m9 _ Ø);refine FP.of (F:=lj F G) c d a b (Int.dvd_trans e ?_) (Bv<|m9 _ Ø) (HS _) λg=>?_
 .rw[Int.natCast_mul]
  exact Int.mul_dvd_mul hF.dv hG.dv
 .rw[tl g,show L2.aF (L2.nz<|aQ []<|bB p q) g=L2.aF (aQ []<|bB p q) g from vW _ g,rJ _ g (show aT [] from Ø),gA,Rat.zero_add,Gy,Gy,pA hF.pm]
  exact pz λt _=>pA hG.pm _
end
abbrev QS(n d k j:Nat)(p:Pq Rat):Prop:=QP n d (12^(k * j)) (2^(34 * (k * j))) p
abbrev QN(n k j:Nat)(p:Pq Rat):Prop:=QS n k k j p
abbrev FN(k j:Nat)(p:Pq Rat)(F:Fm):Prop:=FP (12^(k * j)) p F
theorem EG(d:Nat):12^d<=2^(4 * d):=by rw[Nat.pow_mul]; exact Nat.pow_le_pow_left (by decide) d
section
variable{d k D:Nat}{p q:Pq Rat}{F G:Fm}
theorem QP.to(h:QP n d (12^i) (2^l) p)(hi:i<=k * j)(hl:l+4 * (k * j - i)<=34 * (k * j)):QS n d k j p:=by
 have(x,hd):=Nat.exists_eq_add_of_le hi;have w:=h.wide (12^x);rw[<-Nat.pow_add,<-hd]at w;refine w.le<|qC (è _<|EG x) ?_;rw[<-Nat.pow_add];exact ã (by decide) (by omega)
theorem QS.up(h:QS n d k i p)(e9:i<=j):QS n d k j p:=by
 have e:=è k e9;exact h.to e (by omega)
theorem FP.up{E:Nat}(h:FP D p F)(hd:D∣E):FP E p F:=⟨h.nd,h.nz,h.b1,h.r1,Int.dvd_trans h.dv<|ô.mpr hd,h.pm⟩
theorem FN.up(h:FN k i p F)(e9:i<=j):FN k j p F:=FP.up h (Nat.pow_dvd_pow 12<|è k e9)
def HR(n m:Nat):Pq Rat:=[(jj n m,1)]
def Sj(n m:Nat):Fm:=⟨[(jj n m,1)],1,256⟩
theorem NB:(jj n j).sum=1:=by
 unfold jj;simp
theorem VZ(hj:j < n):Ks n 1 (jj n j):=⟨Xl hj,λk hk=>(Xk k hk).1,by rw[NB]; decide⟩
theorem VY(hm:m < n):QN n 1 j (HR n m):=by
 refine QP.to (i:=0) (l:=0) ⟨Sh,λt ht=>?_,λt ht=>?_,λt ht=>?_⟩ (Ç _) (by omega)
 all_goals cases qu.mp ht
 .exact(by decide:(1:Rat)≠0)
 .exact⟨VZ hm,NB⟩
 .exact Bd.one
theorem S0:Rat.divInt 1 1=1:=by decide
theorem zBQ:FN 1 j (HR n m) (Sj n m):=⟨EH,λt ht=>(by cases qu.mp ht; exact Int.one_ne_zero),Ó 1,Ó 256,Int.one_dvd _,by
 show(bY 1 [(jj n m,1)]).Perm [(jj n m,1)];unfold bY;rw[List.map_cons,List.map_nil,S0]⟩
def gN(p q:Pq Rat):Pq Rat:=L2.nz (aQ []<|bB p q)
theorem Ma(n1:1<=n)(n3:n<=3)(k1:1<=k)(hp:QS n d k i p)(hq:QN n l i q)(h:d+l<=cV n):QS n (d+l) (k+l) (i+1) (gN p q):=by
 have m:=QP.mul hp hq;rw[<-Nat.pow_add,<-Nat.pow_add]at m;have ln:=yn n1 n3 hp hq h;have m2:QP n (d+l) (12^(k * i+l * i)) (2^(6+(34 * (k * i)+34 * (l * i)))) (gN p q):=m.le (by
  rw[Nat.pow_add 2 6];exact Æ _<|qC ln (by decide))
 have e1:(k+l) * (i+1)=k * i+l * i+(k+l):=by rw[Nat.mul_succ,Nat.add_mul]
 exact m2.to (by omega) (by omega)
theorem L9(hp:QS n d k i p)(hF:FN k i p F)(hG:FN l i q G):FN (k+l) (i+1) (gN p q) (lj F G):=by
 have t:=FP.tim hF hG hp.nd;rw[<-Nat.pow_add]at t;exact t.up<|Nat.pow_dvd_pow 12 (by rw[Nat.mul_succ,Nat.add_mul]; omega)
end
abbrev Pt:=Rat×Pq Rat×Fm
def gq(T:Pq Rat)(xs:Qa Pt):Pq Rat:=xs.foldl (λT x=>L2.nz<|aQ T<|eK x.2.1 x.1) T
def k9(T:Fm)(xs:Qa Pt):Fm:=xs.foldl (λT x=>oE T x.2.2 x.1) T
structure xl (n d k i:Nat) (x:Pt):Prop where
 fg:Fg x.1
 qn:QS n d k i x.2.1
 fn:FN k i x.2.1 x.2.2
abbrev mM(k i:Nat):Nat:=12^(k * i) * 12
abbrev mB(k i:Nat):Nat:=2^(34 * (k * i)) * 12000000
theorem Xf{d k c:Nat}{T:Pq Rat}{G:Fm}{x:Pt}(hx:xl n d k i x)(hT:QP n d (mM k i) (c * mB k i) T)(hG:FP (mM k i) T G):
  QP n d (mM k i) ((c+1) * mB k i) (L2.nz<|aQ T<|eK x.2.1 x.1)/\FP (mM k i) (L2.nz<|aQ T<|eK x.2.1 x.1) (oE G x.2.2 x.1):=by
 have s:=hx.qn.R5 hx.fg.bd hx.fg.nz;have a:=hT.add s;rw[show c * mB k i+2^(34 * (k * i)) * 12000000=(c+1) * mB k i by rw[Nat.add_mul,Nat.one_mul]]at a;refine⟨a,FP.sum hG hx.fn ?_ a.nd a.nz λg=>?_⟩
 .rw[Int.natCast_mul]
  exact Int.mul_dvd_mul hx.fn.dv (by exact_mod_cast hx.fg.bd.dvd)
 .rw[show aF (L2.nz<|aQ T<|eK x.2.1 x.1) g=aF (aQ T<|eK x.2.1 x.1) g from vW _ g,rJ _ g hT.nd,Mc]
theorem Ce{d k:Nat}:∀ (xs:Qa Pt) {c:Nat} {T:Pq Rat} {G:Fm},(∀ x∈xs,xl n d k i x)->QP n d (mM k i) (c * mB k i) T->FP (mM k i) T G->QP n d (mM k i) ((c+xs.length) * mB k i) (gq T xs)/\FP (mM k i) (gq T xs) (k9 G xs)
 | [],c,T,G,_,hT,hG=>⟨hT,hG⟩
 | x::xs,c,T,G,hx,hT,hG=>by
  have(a,b):=Xf (hx x qr) hT hG;have:=Ce xs (λy hy=>hx y<|qq _ hy) a b;rw[qx,show c+(xs.length+1)=c+1+xs.length by omega];exact this
def gU:Fm:=⟨[],1,256⟩
theorem xT{D:Nat}:FP D [] gU:=⟨Ø,λt h=>(by cases h),by decide,by decide,Int.one_dvd _,.nil⟩
theorem Le{d k:Nat}{xs:Qa Pt}(k1:1<=k)(hx:∀ x∈xs,xl n d k i x)(hl:xs.length<=20):QS n d k (i+1) (gq [] xs)/\FN k (i+1) (gq [] xs) (k9 gU xs):=by
 have(a,b):=Ce xs (c:=0) (T:=[]) (G:=gU) hx QP.nil xT;rw[Nat.zero_add]at a;have e0:mM k i=12^(k * i+1):=(Nat.pow_succ ..).symm;have e1:k * (i+1)=k * i+k:=Nat.mul_succ k i;have a2:QP n d (12^(k * i+1)) (2^(28+34 * (k * i))) (gq [] xs):=by
  rw[<-e0];refine a.le ?_;rw[Nat.pow_add];show xs.length * (2^(34 * (k * i)) * 12000000)<=_;rw[Nat.mul_comm (2^(34 * (k * i))) 12000000,<-Nat.mul_assoc];exact Æ _<|qC (Æ _ hl) (by decide)
 refine⟨a2.to (by omega) (by omega),b.up ?_⟩;rw[e0];exact Nat.pow_dvd_pow 12 (by omega)
end K35
open PySem L2
namespace K35
open PySem L2
abbrev Nx:=Pq Rat×Fm
abbrev no:Nx:=([],gU)
def cZ(qs:Qa Nx)(prs:Qa P2):Qa Pt:=prs.map λx=>(x.1,qs.getD x.2 no)
def oU(n:Nat)(qs:Qa Nx):aK->Nx
 | .lt m=>(HR n m,Sj n m)
 | .mx prs=>(gq []<|cZ qs prs,k9 gU<|cZ qs prs)
 | .tm i j=>(gN (qs.getD i no).1 (qs.getD j no).1,lj (qs.getD i no).2 (qs.getD j no).2)
def fZ(n:Nat)(ns:Qa aK):Qa Nx:=ns.foldl (λqs nod=>qs++[oU n qs nod]) []
structure XO (n:Nat) (hs:Qa Int) (qs:Qa Nx):Prop where
 ln:qs.length=hs.length
 ok:∀ i,i < hs.length->1<=hs.getD i 0/\hs.getD i 0<=(cV n:Int)/\QN n (hs.getD i 0).toNat i (qs.getD i no).1/\FN (hs.getD i 0).toNat i (qs.getD i no).1 (qs.getD i no).2
section
variable{qs:Qa Nx}
theorem Fy{k:Int}{prs:Qa P2}(h:XO n hs qs)(hj:hs.length=j+1)(hp:∀ p∈prs,Fg p.1/\p.2 < hs.length/\hs.getD p.2 0=k):∀ x∈cZ qs prs,xl n k.toNat k.toNat j x:=λx hx=>by
 have(p,pX,rfl):=Ä.mp hx;have(a,b,c):=hp p pX;have(_,_,q,f):=h.ok p.2 b;rw[c]at q f;exact⟨a,q.up (by omega),f.up (by omega)⟩
theorem XM{k:Int}{nod:aK}(n1:1<=n)(n3:n<=3)(h:XO n hs qs)(ok:m7 n (cV n) hs k nod)(k1:1<=k)(kd:k<=(cV n:Int)):QN n k.toNat hs.length (oU n qs nod).1/\FN k.toNat hs.length (oU n qs nod).1 (oU n qs nod).2:=by
 cases nod with
 | lt m=>
  have(hm,rfl):=ok;exact⟨VY hm,zBQ⟩
 | mx prs=>
  have(h1,h2,h3,_):=ok
  match prs,h1,h2,h3 with
  | p::prs,_,h2,h3=>
   have(_,a,_):=h3 p qr;obtain⟨j,hj⟩:∃ j,hs.length=j+1:=⟨hs.length - 1,by omega⟩;have:=Le (by omega) (Fy h hj h3) (by unfold cZ; rw[List.length_map]; exact h2);rw[hj];exact this
 | tm a b=>
  have(ha,hb,_,hk,_):=ok;have(a1,a2,qa,fa):=h.ok a ha;have(b1,b2,qb,fb):=h.ok b hb;obtain⟨j,hj⟩:∃ j,hs.length=j+1:=⟨hs.length - 1,by omega⟩;have e:k.toNat=(hs.getD a 0).toNat+(hs.getD b 0).toNat:=by omega
  rw[hj,e];have yR:=QS.up (j:=j) qa (by omega);have II:=QS.up (j:=j) qb (by omega);exact⟨Ma n1 n3 (by omega) yR II (by omega),L9 yR (FN.up (j:=j) fa (by omega))<|FN.up (j:=j) fb (by omega)⟩
theorem XO.snoc{k:Int}{nod:aK}(n1:1<=n)(n3:n<=3)(h:XO n hs qs)(ok:m7 n (cV n) hs k nod)(k1:1<=k)(kd:k<=(cV n:Int)):XO n (hs++[k]) (qs++[oU n qs nod]):=by
 refine⟨by rw[qw,qw,h.ln]; rfl,λi hi=>?_⟩;rcases ß i hs.length with z|z
 .rw[tT z,tT (by rw[h.ln]; exact z)]
  exact h.ok i z
 .rw[qw,List.length_singleton]at hi
  have e:i=hs.length:=by omega
  subst e;have e2:(qs++[oU n qs nod]).getD hs.length no=oU n qs nod:=by rw[<-h.ln]; exact vT
  rw[vT,e2];exact⟨k1,kd,XM n1 n3 h ok k1 kd⟩
end
theorem yx{ns:Qa aK}{nod:aK}(e:ns[i]?=some nod):fZ n (ns.take<|i+1)=fZ n (ns.take i)++[oU n (fZ n<|ns.take i) nod]:=by
 unfold fZ;rw[List.take_succ,e,List.foldl_append];rfl
theorem uc{N:Net}(h:NO N):∀ i,i<=N.ns.length->XO N.ls.length (N.hs.take i) (fZ N.ls.length<|N.ns.take i):=by
 intro i
 induction i with
 | zero=>exact λ_=>⟨rfl,λj hj=>by simp at hj⟩
 | succ i ih=>
  intro hi;have ln:=h.gn.ln;have ok:=h.gn.ok i _ (qo (show i < N.ns.length by omega));have(a,b):=h.gn.hi gK.1 i (by omega);have:=(ih (by omega)).snoc h.n1 h.n3 ok a b;rw[yx<|qo (show i < N.ns.length by omega)];have e2:N.hs.take i++[N.hs.getD i 0]=N.hs.take (i+1):=by
   rw[List.take_succ,qE,qo (show i < N.hs.length by omega)];rfl
  rw[e2]at this;exact this
theorem DS{e:Nat}(h:e<=67):12^e < 2^256:=Å (ã (by decide) h) (by decide)
theorem mR{k:Nat}(hk:k<=cV n)(hj:j<=7):k * j<=35:=by
 have:=(gK (n:=n)).2;exact qC (ÿ (qC hk this) hj) (by decide)
theorem Cd{d k:Nat}{x:Nx}(n1:1<=n)(n3:n<=3)(hd:d<=cV n)(e:k * j<=35)(q:QS n d k j x.1)(f:FN k j x.1 x.2):FZ x.2 :=
 f.fz q (qC (lC n1 n3 q hd) (by decide)) (DS (by omega)) (ð (by decide)) (RC (by omega))
theorem FP.kl{k D:Nat}{p:Pq Rat}{F:Fm}(f:FP D p F)(q:QP n k M B p):∀ t∈F.p,t.1.length=n:=λt ht=>(q.ky _<|f.pm.mem_iff.mp<|Ä.mpr ⟨t,ht,rfl⟩).1.ln
end K35
open PySem L2
namespace K35
open PySem L2
abbrev fD(x:Nx):D:=cF x.2
theorem k8{qs:Qa Nx}{g:Nx->D}(h:i < qs.length):bU (qs.map g) (i:Int)=some (g<|qs.getD i no):=by
 unfold bU;rw[show d4 (qs.map g).length (i:Int)=some i by unfold d4; simp[h]];show(qs.map g)[i]?=_;rw[List.getElem?_map,qE,qo h];rfl
theorem XJ{qs:Qa Nx}{bs:Qa P2}{p:P2}{T:Fm}:k9 T (cZ qs<|bs++[p])=oE (k9 T<|cZ qs bs) (qs.getD p.2 no).2 p.1:=by
 unfold cZ k9;rw[List.map_append,List.foldl_append];rfl
theorem Kn{k c:Nat}(h:k * j<=35)(hc:c<=20):c * mB k j < 2^3000:=by
 have h1:c * mB k j<=2^29 * 2^(34 * (k * j)):=by
  show c * (2^(34 * (k * j)) * 12000000)<=_;rw[Nat.mul_comm (2^(34 * (k * j))) 12000000,<-Nat.mul_assoc];exact Æ _<|qC (Æ _ hc) (by decide)
 refine Å h1 ?_;rw[<-Nat.pow_add];exact RC (by omega)
theorem EL{k:Nat}(h:k * j<=35):mM k j < 2^256:=by
 rw[show mM k j=12^(k * j+1) from(Nat.pow_succ ..).symm];exact DS (by omega)
theorem OS{d k:Nat}{qs:Qa Nx}{prs:Qa P2}(n1:1<=n)(n3:n<=3)(hd:d<=cV n)(vj:k * j<=35)(hl:∀ p∈prs,p.2 < qs.length)(hx:∀ x∈cZ qs prs,xl n d k j x)(h2:prs.length<=20):
  yu [.d<|.tuple<|prs.map iT,.l<|qs.map fD,.d<|.int (n:Int)]=some (.d<|cF<|k9 gU<|cZ qs prs,[.d<|.tuple<|prs.map iT,.l<|qs.map fD,.d<|.int (n:Int)]):=by
 refine zU ?_;have num:=HE (n:=n) (f:=0) n3 (by decide) (by decide);rw[show g6 [(zs n,(0:Rat).num)] ((0:Rat).den:Int) 256=gU from rfl]at num;have z0:PyData.tuple [.int 0,.int 1]=fR 0:=rfl;simp![yu,OO,z0,num];refine j7 (λbs cs ρ=>∃ o4 o5,ρ=[some<|.d<|.tuple<|prs.map iT,some<|.l<|qs.map fD,some<|.d<|.int (n:Int),some<|.d<|cF<|k9 gU<|cZ qs bs,o4,o5]) ⟨none,none,rfl⟩ ?_ ?_
 .rintro bs p cs _ e ⟨o4,o5,rfl⟩
  have hp:p∈prs:=by rw[e]; simp
  have pl:=hl p hp;have px:=hx (p.1,qs.getD p.2 no) (Ä.mpr ⟨p,hp,rfl⟩);have fg:=px.fg;have gb:1<=(qs.getD p.2 no).2.b:=px.fn.b1;have lb:bs.length+1<=prs.length:=by rw[e,qw,qx]; omega
  have(qT,fT):=Ce (n:=n) (d:=d) (k:=k) (i:=j) (cZ qs bs) (c:=0) (T:=[]) (G:=gU) (λx hq=>hx x (by
   have(q,nO,rfl):=Ä.mp hq;exact Ä.mpr ⟨q,by rw[e]; exact Ð _ nO,rfl⟩)) QP.nil xT
  have lp:(cZ qs bs).length=bs.length:=Ò _;rw[lp,Nat.zero_add]at qT;have zT:=fT.fz qT (qC (lC n1 n3 qT hd) (by decide)) (EL vj) (ø (ð (by decide)) (by decide)) (Kn vj (by omega));have zG:=Cd (x:=qs.getD p.2 no) n1 n3 hd vj px.qn px.fn;have sz:=fg.bd.size (by decide);have dv:=K1 (M:=mM k j) fT.b1 (show 1<=(qs.getD p.2 no).2.b * (p.1.den:Int) by have:=á (by omega:0 < (qs.getD p.2 no).2.b) (by have:=kY p.1; omega:(0:Int) < p.1.den); omega) fT.dv (by rw[Int.natCast_mul]; exact Int.mul_dvd_mul px.fn.dv (by exact_mod_cast fg.bd.dvd));have m0:0 < mM k j:=ø (ð (by decide)) (by decide);have hb:((k9 gU<|cZ qs bs).b * ((qs.getD p.2 no).2.b * (p.1.den:Int)).fdiv (Int.gcd (k9 gU<|cZ qs bs).b ((qs.getD p.2 no).2.b * p.1.den):Nat)).natAbs < 2^256:=by
   refine Å ?_<|EL vj;have:=Nat.le_of_dvd m0 (Int.natAbs_dvd_natAbs.mpr dv);exact this
  have fs:=znQ zT zG (Å sz.2<|qk (by decide:12000000 < 2^30)<|ã (by decide) (by decide)) (Å sz.1 (by decide)) hb;simp![k8 (qs:=qs) (g:=fD) (i:=p.2) (by omega),fs];rw[XJ];exact⟨_,_,rfl⟩
 .rintro _ ⟨o4,o5,rfl⟩
  simp!
theorem HD{d k:Nat}{x y:Nx}(n1:1<=n)(n3:n<=3)(hd:d+l<=cV n)(e:(k+l) * j<=35)(qa:QS n d k j x.1)(fa:FN k j x.1 x.2)(qb:QN n l j y.1)(fb:FN l j y.1 y.2):
  ux [.d<|cF x.2,.d<|cF y.2]=some (.d<|cF<|lj x.2 y.2,[.d<|cF x.2,.d<|cF y.2]):=by
 rw[Nat.add_mul]at e;have za:=Cd n1 n3 (by omega) (by omega) qa fa;have zb:=Cd n1 n3 (by omega) (by omega) qb fb;have dv:x.2.b * y.2.b∣((12^35:Nat):Int):=by
  refine Int.dvd_trans (Int.mul_dvd_mul fa.dv fb.dv) ?_;rw[<-Int.natCast_mul,<-Nat.pow_add];exact ô.mpr<|Nat.pow_dvd_pow 12 e
 have hb:(x.2.b * y.2.b).natAbs < 2^256:=Å (Nat.le_of_dvd (ð (by decide))<|Int.natAbs_dvd_natAbs.mpr dv) (DS (by decide));have lm:=yn n1 n3 qa qb hd;have la:x.2.p.length=x.1.length:=by have:=fa.pm.length_eq; unfold bY at this; rw[List.length_map]at this; exact this
 have lb:y.2.p.length=y.1.length:=by have:=fb.pm.length_eq; unfold bY at this; rw[List.length_map]at this; exact this
 exact zkl za zb (fa.kl qa) (fb.kl qb) (by omega) hb (by rw[la,lb]; omega)
theorem zkn{N:Net}(h:NO N):Dk [.d N.d]=some (.l<|(fZ N.ls.length N.ns).map fD,[.d N.d]):=by
 refine zU ?_;have ln:=h.gn.ln;have nl:=h.nl;have n1:=h.n1;have n3:=h.n3;simp![Dk,PR,Net.d];refine pe (λi ρ=>∃ o5,ρ=[some<|.d N.d,some<|.d<|.tuple<|N.ls.map .str,some<|.d<|.tuple<|N.ns.map aK.d,some<|.d<|yK N.r N.os,some<|.l<|(fZ N.ls.length<|N.ns.take i).map fD,o5]) ⟨none,rfl⟩ ?_ ?_
 .rintro i d _ hd ⟨o5,rfl⟩
  rw[List.getElem?_map]at hd;have(nod,en,rfl):=qv.mp hd;have hi:=(qm.mp en).1;have ok:=h.gn.ok i nod en;have hx:=uc h i (by omega);have(k1,kd):=h.gn.hi gK.1 i (by omega);rw[yx en];generalize fZ N.ls.length (N.ns.take i)=qs at hx ⊢;have lh:(N.hs.take i).length=i:=by rw[List.length_take]; omega
  have lq:=hx.ln;have uN:(qs.map fD).length=qs.length:=Ò _;cases nod with
  | lt m=>
   have le:=zjN (k:=m) ok.1 n3;simp![aK.d,List.length_map,le,uN];rw[List.map_append];exact⟨_,rfl⟩
  | mx prs=>
   have(h1,h2,h3,_):=ok;obtain⟨j,hj⟩:∃ j,(N.hs.take i).length=j+1:=by
    match prs,h1,h3 with
    | p::_,_,h3=>have:=(h3 p qr).2.1; exact⟨(N.hs.take i).length - 1,by omega⟩
   have mf:=OS n1 n3 (by omega) (mR (n:=N.ls.length) (k:=(N.hs.getD i 0).toNat) (j:=j) (by omega) (by omega)) (λp hp=>by have:=(h3 p hp).2.1; omega) (Fy hx hj h3) h2;simp![aK.d,List.length_map,mf,uN];rw[List.map_append];exact⟨_,rfl⟩
  | tm a b=>
   have(ha,hb,_,hk,_):=ok;have(a1,a2,qa,fa):=hx.ok a ha;have(b1,b2,qb,fb):=hx.ok b hb;obtain⟨j,hj⟩:∃ j,(N.hs.take i).length=j+1:=⟨(N.hs.take i).length - 1,by omega⟩;have tm:=HD (j:=j) n1 n3 (by omega) (mR (n:=N.ls.length) (by omega) (by omega)) (QS.up qa (by omega)) (FN.up fa (by omega)) (QS.up qb (by omega)) (FN.up fb (by omega));simp![aK.d,k8 (qs:=qs) (g:=fD) (i:=a) (by omega),k8 (qs:=qs) (g:=fD) (i:=b) (by omega),tm,uN];rw[List.map_append];exact⟨_,rfl⟩
 .rintro _ ⟨o5,rfl⟩
  rw[List.length_map,List.take_length];simp!;rfl
end K35
open PySem L2
namespace K35
open PySem L2
theorem Li:PyData.tuple [.int 1,.int 1]=fR 1:=rfl
theorem zjU{k:Nat}(hk:k < n)(hn:n<=3):DE [.d<|.int (n:Int),.d<|.int (k:Int)]=some (.t<|aN fR [(jj n k,1)],[.d<|.int (n:Int),.d<|.int (k:Int)]):=by
 refine zU ?_;have e:((n:Int) - (k:Int) - 1).toNat=n - k - 1:=by omega
 simp![DE,Rm,BW,Int.toNat_natCast,e,Lf,Li,AV (a:=List.replicate k 0) (b:=[1]) (by rw[List.length_replicate]; show k+1<=1000; omega),AV (a:=List.replicate k 0++[1]) (b:=List.replicate (n - k - 1) 0) (by rw[qw,List.length_replicate,List.length_replicate]; show k+1+_<=1000; omega),A4 (k:=(k:Int)) (by omega) (by omega),A4 (k:=(n:Int) - (k:Int) - 1) (by omega) (by omega)];rfl
abbrev pD(x:Nx):D:=.dict (cp fR x.1)
theorem lM{e:Nat}(h:M<=2^e)(he:e < 4000):M < 2^4000:=Å h (ä (by decide) he)
theorem yS{e:Nat}(h:e<=67):12^e < 2^4000:=Þ (DS h) (ä (by decide) (by decide))
theorem zDD(h:Fg f):Sz f:=qW h.bd (by decide) (lM (e:=30) (by decide) (by decide)) (lM (e:=30) (by decide) (by decide))
theorem XH(bs:Pq Rat)(t:Qa Int×Rat)(f:Rat):eK (bs++[t]) f=eK bs f++[(t.1,t.2 * f)]:=by
 unfold eK;rw[List.map_append];rfl
theorem zr2{k:Nat}{p:Pq Rat}(hp:QP n k M B p)(hl:p.length < 64)(hf:Fg f)(hM:0 < M)(h1:M < 2^4000)(h2:B < 2^4000):Dx [dT p,.d<|fR f]=some (.t<|aN fR<|eK p f,[dT p,.d<|fR f]):=by
 refine zU ?_;have n0:=hf.n0;simp![Dx,QY];refine j7 (λbs cs ρ=>∃ o3,ρ=[some<|dT p,some<|.d<|fR f,some<|.t<|aN fR<|eK bs f,o3]) ⟨none,rfl⟩ ?_ ?_
 .rintro bs t cs _ e ⟨o3,rfl⟩
  have tp:t∈p:=by rw[e]; simp
  have lb:bs.length+cs.length+1=p.length:=by rw[e,qw,qx]; omega
  have ls:(eK bs f).length=bs.length:=Ò _;have ti:=PN (qW (hp.bd t tp) hM h1 h2) (zDD hf);have nd:=hp.nd;rw[e]at nd;have fr:cu (eK bs f) t.1 (t.2 * f)=eK bs f++[(t.1,t.2 * f)]:=Ox λu hu=>by
   have(v,hv,rfl):=Ä.mp hu;exact Nj nd v hv
  simp![n0,nv hp.nd tp,ti,tI (c:=fR) (p:=eK bs f) (k:=t.1) (x:=t.2 * f) (by omega)];rw[fr,XH];exact⟨_,rfl⟩
 .rintro _ ⟨o3,rfl⟩
  simp![FE]
theorem zr3{qs:Qa Nx}{bs:Qa P2}{p:P2}{T:Pq Rat}:gq T (cZ qs<|bs++[p])=L2.nz (aQ (gq T<|cZ qs bs)<|eK (qs.getD p.2 no).1 p.1):=by
 unfold cZ gq;rw[List.map_append,List.foldl_append];rfl
theorem rN{e:Nat}:0 < 12^e:=ð (by decide)
theorem zim{N:Net}{Q:U×Qa U->Prop}(h:NO N)(kq:Q (.l<|(fZ N.ls.length N.ns).map pD,[.d N.d])):Wo (Ds [.d N.d]) Q:=by
 have ln:=h.gn.ln;have nl:=h.nl;have n1:=h.n1;have n3:=h.n3;have(d1,d6):=gK (n:=N.ls.length);simp![Ds,Q2,Net.d,List.length_map];refine pe (λi ρ=>∃ o3 o4 o5 o6,ρ=[some<|.d N.d,some<|.d<|.int (N.ls.length:Int),some<|.l<|(fZ N.ls.length<|N.ns.take i).map pD,o3,o4,o5,o6]) ⟨none,none,none,none,rfl⟩ ?_ ?_
 .rintro i d _ hd ⟨o3,o4,o5,o6,rfl⟩
  rw[List.getElem?_map]at hd;have(nod,en,rfl):=qv.mp hd;have hi:=(qm.mp en).1;have ok:=h.gn.ok i nod en;have hx:=uc h i (by omega);have(k1,kd):=h.gn.hi gK.1 i (by omega);rw[yx en];generalize fZ N.ls.length (N.ns.take i)=qs at hx ⊢;have lh:(N.hs.take i).length=i:=by rw[List.length_take]; omega
  have lq:=hx.ln;have uN:(qs.map pD).length=qs.length:=Ò _;cases nod with
  | lt m=>
   have le:=zjU (k:=m) ok.1 n3;have fz:=nC (c:=fR) (p:=[(jj N.ls.length m,1)]);simp![aK.d,le,fz,uN];rw[List.map_append];exact⟨_,_,_,_,rfl⟩
  | tm a b=>
   have(ha,hb,_,hk,_):=ok;have(a1,a2,qa,fa):=hx.ok a ha;have(b1,b2,qb,fb):=hx.ok b hb;have ea:=mR (n:=N.ls.length) (k:=((N.hs.take i).getD a 0).toNat) (j:=a) (by omega) (by omega);have eb:=mR (n:=N.ls.length) (k:=((N.hs.take i).getD b 0).toNat) (j:=b) (by omega) (by omega);have lm:=yn n1 n3 qa qb (by omega);have la:=lC n1 n3 qa (by omega);have lb:=lC n1 n3 qb (by omega);simp![aK.d,k8 (qs:=qs) (g:=pD) (i:=a) (by omega),k8 (qs:=qs) (g:=pD) (i:=b) (by omega)];refine OT rfl rfl qa.nd qb.nd qa.bd qb.bd (λt ht=>(qa.ky t ht).1.ln) (λt ht=>(qb.ky t ht).1.ln) (by omega) rN rN ?_ (yS (by omega)) (yS (by omega)) (lM (qg _) (by omega)) (lM (qg _) (by omega)) ?_ (ø (ð (by decide))<|ð (by decide)) (by omega) (by omega) (by omega) λu2 pT=>?_
   .rw[<-Nat.pow_add]
    exact lM (e:=4 * 132) (qC (EG _)<|ã (by decide) (by omega)) (by decide)
   .rw[<-Nat.pow_add]
    have q1:((N.hs.take i).getD a 0).toNat * a+((N.hs.take i).getD b 0).toNat * b<=66:=by
     have x1:=è ((N.hs.take i).getD a 0).toNat (show a<=11 by omega);have x2:=è ((N.hs.take i).getD b 0).toNat (show b<=11 by omega);omega
    have q2:=ÿ (qC lm (show 36<=2^6 by decide)) (ã (n:=2) (by decide) (show 34 * (((N.hs.take i).getD a 0).toNat * a)+34 * (((N.hs.take i).getD b 0).toNat * b)<=3400 by omega));rw[<-Nat.pow_add 2 6 3400]at q2;exact lM q2 (by decide)
   .have fz:=nC (c:=fR) (p:=L2.nz (aQ []<|bB (qs.getD a no).1 (qs.getD b no).1))
    simp![fz,uN];rw[List.map_append];exact⟨_,_,_,_,rfl⟩
  | mx prs=>
   have(h1,h2,h3,_):=ok;simp![aK.d];refine j7 (λbs cs ρ=>∃ o5 o6,ρ=[some<|.d N.d,some<|.d<|.int (N.ls.length:Int),some<|.l<|qs.map pD,some<|.d (aK.mx prs).d,some<|.t<|aN fR<|gq []<|cZ qs bs,o5,o6]) ⟨_,_,rfl⟩ ?_ ?_
   .rintro bs p cs _ e ⟨o5,o6,rfl⟩
    have hp:p∈prs:=by rw[e]; simp
    have(fg,pl,ph):=h3 p hp;obtain⟨j,hj⟩:∃ j,(N.hs.take i).length=j+1:=⟨i - 1,by omega⟩;have lb:bs.length+1<=prs.length:=by rw[e,qw,qx]; omega
    have vj:(N.hs.getD i 0).toNat * j<=35:=mR (n:=N.ls.length) (by omega) (by omega);have(qT,_):=Ce (cZ qs bs) (c:=0) (T:=[]) (G:=gU) (Fy (prs:=bs) hx hj λq hq=>h3 q (by rw[e]; exact Ð _ hq)) QP.nil xT;have lp:(cZ qs bs).length=bs.length:=Ò _;rw[lp,Nat.zero_add]at qT;have(_,_,qG,_):=hx.ok p.2 pl;rw[ph]at qG;have R9:=QS.up (j:=j) qG (by omega);have lT:=lC n1 n3 qT (by omega);have lG:=lC n1 n3 qG (by omega);have sc:=zr2 R9 (by omega) fg rN (yS (by omega)) (lM (qg _) (by omega));have qS:=R9.R5 fg.bd fg.nz;have lS:(eK (qs.getD p.2 no).1 p.1).length=(qs.getD p.2 no).1.length:=Ò _;have hB:mB (N.hs.getD i 0).toNat j<=20 * mB (N.hs.getD i 0).toNat j:=by omega
    have b20:=Kn (c:=20) vj (qg _);have Ag:=K3 n1 n3 qT.nd λt ht=>(qT.ky t ht).1.up (by omega);have pa:=OU (M:=mM (N.hs.getD i 0).toNat j) (B:=20 * mB (N.hs.getD i 0).toNat j) (u1:=.t (aN fR<|gq []<|cZ qs bs)) (u2:=.t (aN fR<|eK (qs.getD p.2 no).1 p.1)) (s:=1) (KS Ag) nC (.inl rfl) qT.nd qS.nd (λt ht=>(qT.bd t ht).le<|Æ _ (by omega)) (λt ht=>(qS.bd t ht).le hB) (ø rN (by decide)) (Þ (EL vj)<|ä (by decide) (by decide)) (by
     rw[lS];refine Å (show _<=2^4 * 2^3000 from ?_) (by rw[<-Nat.pow_add]; exact ä (by decide) (by decide));have:=Æ (20 * mB (N.hs.getD i 0).toNat j) lG;omega) (by omega) (by omega)
    rw[LY]at pa;simp![k8 (qs:=qs) (g:=pD) (i:=p.2) (by omega),sc,pa];rw[zr3];exact⟨_,_,rfl⟩
   .rintro _ ⟨o5,o6,rfl⟩
    have fz:=nC (c:=fR) (p:=gq [] (cZ qs prs));simp![fz,uN];rw[List.map_append];exact⟨_,_,_,_,rfl⟩
 .rintro _ ⟨o3,o4,o5,o6,rfl⟩
  rw[List.length_map,List.take_length];simp!;exact kq
end K35
open PySem L2
namespace K35
open PySem L2
def og(n:Nat):Nx:=([(zs n,1)],⟨[(zs n,1)],1,256⟩)
def iR(n v:Nat)(qs ss:Qa Nx)(nod:aK):Nx :=
 if ss.length < v then no else if ss.length=v then og n else match nod with
 | .lt _=>no
 | .mx prs=>(gq []<|cZ ss prs,k9 gU<|cZ ss prs)
 | .tm a b=>(gN (ss.getD a no).1 (qs.getD b no).1,lj (ss.getD a no).2 (qs.getD b no).2)
def gS(n v:Nat)(qs:Qa Nx)(ns:Qa aK):Qa Nx:=ns.foldl (λss nod=>ss++[iR n v qs ss nod]) []
theorem uh{v:Nat}{qs:Qa Nx}{ns:Qa aK}{nod:aK}(e:ns[i]?=some nod):gS n v qs (ns.take<|i+1)=gS n v qs (ns.take i)++[iR n v qs (gS n v qs<|ns.take i) nod]:=by
 unfold gS;rw[List.take_succ,e,List.foldl_append];rfl
theorem rM{v:Nat}{qs:Qa Nx}(ns:Qa aK):∀ i,i<=ns.length->(gS n v qs<|ns.take i).length=i:=by
 intro i
 induction i with
 | zero=>exact λ_=>rfl
 | succ i ih=>
  intro hi;rw[uh<|qo (show i < ns.length by omega),qw,ih (by omega)];rfl
structure SO (n v:Nat) (hv:Int) (hs:Qa Int) (ss:Qa Nx):Prop where
 ln:ss.length=hs.length
 ok:∀ i,i < hs.length->QS n (hs.getD i 0 - hv).toNat (hs.getD i 0).toNat i (ss.getD i no).1/\FN (hs.getD i 0).toNat i (ss.getD i no).1 (ss.getD i no).2/\(hs.getD i 0 < hv->(ss.getD i no).1=[])
theorem NA:∀ (xs:Qa Pt),(∀ x∈xs,x.2.1=[])->gq [] xs=[]
 | [],_=>rfl
 | x::xs,h=>by
  show gq (L2.nz<|aQ []<|eK x.2.1 x.1) xs=[];rw[h x qr];exact NA xs λy hy=>h y<|qq _ hy
theorem L8{k:Nat}:QS n 0 k j (og n).1/\FN k j (og n).1 (og n).2:=by
 refine⟨QP.to (i:=0) (l:=0) ⟨Sh,λt ht=>?_,λt ht=>?_,λt ht=>?_⟩ (Ç _) (by omega),EH,λt ht=>?_,Ó 1,Ó 256,Int.one_dvd _,?_⟩
 .cases qu.mp ht; exact(by decide:(1:Rat)≠0)
 .cases qu.mp ht; exact⟨⟨zBK n,λk hk=>by rw[zBL k hk]; decide,by unfold zs; simp⟩,by unfold zs; simp⟩
 .cases qu.mp ht; exact Bd.one
 .cases qu.mp ht; exact Int.one_ne_zero
 .show(bY 1 [(zs n,1)]).Perm [(zs n,1)]
  unfold bY;rw[List.map_cons,List.map_nil,S0]
theorem XG(q:Pq Rat):gN [] q=[]:=rfl
theorem SO.cZ{v:Nat}{hv k:Int}{ss:Qa Nx}{prs:Qa P2}(h:SO n v hv hs ss)(hj:hs.length=j+1)(hp:∀ p∈prs,Fg p.1/\p.2 < hs.length/\hs.getD p.2 0=k):∀ x∈cZ ss prs,xl n (k - hv).toNat k.toNat j x/\(k < hv->x.2.1=[]):=λx hx=>by
 have(p,pX,rfl):=Ä.mp hx;have(a,b,c):=hp p pX;have(q,f,z):=h.ok p.2 b;rw[c]at q f z;exact⟨⟨a,q.up (by omega),f.up (by omega)⟩,z⟩
theorem zBR{v:Nat}{hv k:Int}{qs ss:Qa Nx}{nod:aK}(n1:1<=n)(n3:n<=3)(hx:XO n hs qs)(h:SO n v hv hs ss)(ok:m7 n (cV n) hs k nod)(k1:1<=k)(kd:k<=(cV n:Int))(v1:1<=hv)(ve:hs.length=v->k=hv){qt:Qa Nx}(hqt:∀ i,i < hs.length->qt.getD i no=qs.getD i no):
  QS n (k - hv).toNat k.toNat hs.length (iR n v qt ss nod).1/\FN k.toNat hs.length (iR n v qt ss nod).1 (iR n v qt ss nod).2/\(k < hv->(iR n v qt ss nod).1=[]):=by
 unfold iR;rw[h.ln];split
 .exact⟨QP.nil,xT,λ_=>rfl⟩
 split
 .rename_i e
  rw[ve e,Int.sub_self];exact⟨L8.1,L8.2,λz=>absurd z<|Int.lt_irrefl _⟩
 cases nod with
 | lt m=>exact⟨QP.nil,xT,λ_=>rfl⟩
 | mx prs=>
  have(h1,h2,h3,_):=ok
  match prs,h1,h2,h3 with
  | p::prs,_,h2,h3=>
   have(_,a,_):=h3 p qr;obtain⟨j,hj⟩:∃ j,hs.length=j+1:=⟨hs.length - 1,by omega⟩;have pt:=h.cZ hj h3;have m:=Le (by omega) (λx hx=>(pt x hx).1) (by unfold cZ; rw[List.length_map]; exact h2);rw[hj];exact⟨m.1,m.2,λz=>NA _ λx hx=>(pt x hx).2 z⟩
 | tm a b=>
  have(ha,hb,_,hk,_):=ok;have(qa,fa,za):=h.ok a ha;have(b1,b2,qb,fb):=hx.ok b hb;have(a1,_,_,_):=hx.ok a ha;obtain⟨j,hj⟩:∃ j,hs.length=j+1:=⟨hs.length - 1,by omega⟩;have e:k.toNat=(hs.getD a 0).toNat+(hs.getD b 0).toNat:=by omega
  have yR:=QS.up (j:=j) qa (by omega);have II:=QS.up (j:=j) qb (by omega);have tF:=L9 yR (FN.up (j:=j) fa (by omega)) (FN.up (j:=j) fb (by omega));rw[hj,e];dsimp only;rw[hqt b hb];rcases Int.lt_or_le (hs.getD a 0) hv with c|c
  .rw[za c,XG]at tF ⊢
   exact⟨QP.nil,tF,λ_=>rfl⟩
  .have tP:=Ma n1 n3 (by omega) yR II (by omega)
   rw[show(hs.getD a 0 - hv).toNat+(hs.getD b 0).toNat=(k - hv).toNat by omega]at tP;exact⟨tP,tF,λz=>absurd z (by omega)⟩
theorem SO.snoc{v:Nat}{hv k:Int}{ss:Qa Nx}{x:Nx}(h:SO n v hv hs ss)(hx:QS n (k - hv).toNat k.toNat hs.length x.1/\FN k.toNat hs.length x.1 x.2/\(k < hv->x.1=[])):SO n v hv (hs++[k]) (ss++[x]):=by
 refine⟨by rw[qw,qw,h.ln]; rfl,λi hi=>?_⟩;rcases ß i hs.length with z|z
 .rw[tT z,tT (by rw[h.ln]; exact z)]
  exact h.ok i z
 .rw[qw,List.length_singleton]at hi
  have e:i=hs.length:=by omega
  subst e;have e2:(ss++[x]).getD hs.length no=x:=by rw[<-h.ln]; exact vT
  rw[vT,e2];exact hx
abbrev nx(N:Net):Qa Nx:=fZ N.ls.length N.ns
theorem NO.all{N:Net}(h:NO N):XO N.ls.length N.hs (nx N):=by
 have:=uc h N.ns.length (qg _);rw[List.take_length,<-h.gn.ln,List.take_length]at this;exact this
theorem Hk{xs:Qa α}{z:α}(h:j < i):(xs.take i).getD j z=xs.getD j z:=by
 rw[qE,qE,List.getElem?_take,if_pos h]
theorem wC{N:Net}(h:NO N)(hi:i<=N.ns.length)(hj:j < i):(fZ N.ls.length<|N.ns.take i).getD j no=(nx N).getD j no:=by
 have(c,hc):=Nat.exists_eq_add_of_le hi;have main:∀ c,i+c<=N.ns.length->(fZ N.ls.length<|N.ns.take i).getD j no=(fZ N.ls.length<|N.ns.take<|i+c).getD j no:=by
  intro c
  induction c with
  | zero=>exact λ_=>rfl
  | succ c ih=>
   intro hle;rw[ih (by omega),<-Nat.add_assoc,yx<|qo (show i+c < N.ns.length by omega),tT];have:=(uc h (i+c) (by omega)).ln;have ln:=h.gn.ln;rw[List.length_take]at this;omega
 rw[main c (by omega),<-hc,List.take_length]
theorem VX{N:Net}(h:NO N)(hi:i < N.ns.length):N.hs.take i++[N.hs.getD i 0]=N.hs.take (i+1):=by
 have ln:=h.gn.ln;rw[List.take_succ,qE,qo (show i < N.hs.length by omega)];rfl
theorem Ld{N:Net}(h:NO N){v:Nat}(hv:v < N.ns.length):∀ i,i<=N.ns.length->SO N.ls.length v (N.hs.getD v 0) (N.hs.take i) (gS N.ls.length v (nx N)<|N.ns.take i):=by
 intro i;have ln:=h.gn.ln
 induction i with
 | zero=>exact λ_=>⟨rfl,λj hj=>by simp at hj⟩
 | succ i ih=>
  intro hi;have li:(N.hs.take i).length=i:=by rw[List.length_take]; omega
  have ok:=h.gn.ok i _ (qo (show i < N.ns.length by omega));have(a,b):=h.gn.hi gK.1 i (by omega);rw[uh<|qo (show i < N.ns.length by omega),<-VX h (by omega)];refine(ih (by omega)).snoc<|zBR h.n1 h.n3 (uc h i (by omega)) (ih (by omega)) ok a b (h.gn.hi gK.1 v (by omega)).1 (λe=>?_) λj hj=>?_
  .rw[li]at e; rw[e]
  .rw[li]at hj; exact(wC h (by omega) hj).symm
def R4(N:Net)(v:Nat):Qa Nx:=gS N.ls.length v (nx N) N.ns
abbrev sh(N:Net)(u v:Nat):Nx:=(R4 N v).getD u no
theorem NO.so{N:Net}(h:NO N){v:Nat}(hv:v < N.ns.length):SO N.ls.length v (N.hs.getD v 0) N.hs (R4 N v):=by
 have:=Ld h hv N.ns.length (qg _);rw[List.take_length,<-h.gn.ln,List.take_length]at this;exact this
theorem CI{N:Net}{v:Nat}(hi:i<=N.ns.length)(hj:j < i):(gS N.ls.length v (nx N)<|N.ns.take i).getD j no=sh N j v:=by
 have(c,hc):=Nat.exists_eq_add_of_le hi;have main:∀ c,i+c<=N.ns.length->(gS N.ls.length v (nx N)<|N.ns.take i).getD j no=(gS N.ls.length v (nx N)<|N.ns.take<|i+c).getD j no:=by
  intro c
  induction c with
  | zero=>exact λ_=>rfl
  | succ c ih=>
   intro hle;rw[ih (by omega),<-Nat.add_assoc,uh<|qo (show i+c < N.ns.length by omega),tT];rw[rM _ _ (by omega)];omega
 rw[main c (by omega),<-hc,List.take_length];rfl
end K35
open PySem L2
namespace K35
open PySem L2
theorem Km{d:D}:∀ n:Nat,(List.replicate n [d]).flatten=List.replicate n d
 | 0=>rfl
 | n+1=>by
  rw[List.replicate_succ,List.flatten_cons,Km n];rfl
theorem Wq{d:D}(h:n<=8):vD (.l [d]) (.d<|.int (n:Int))=some (.l<|List.replicate n d):=by
 have hz:sizeLine=16777216:=sizeLine_eq;have c:-1000000 < (n:Int)/\(n:Int) < 1000000/\[d].length * (n:Int).toNat<=sizeLine:=⟨by omega,by omega,by
  rw[Int.toNat_natCast,hz];show 1 * n<=_;omega⟩
 have e:vD (.l [d]) (.d<|.int (n:Int))=some (.l (List.replicate (n:Int).toNat [d]).flatten):=by
  unfold vD;dsimp only;rw[if_pos c]
 rw[e,Int.toNat_natCast,Km]
theorem Wp{xs:Qa D}{a b:Nat}(hb:b<=xs.length):iJ xs (some (a:Int)) (some (b:Int))=(xs.drop a).take (b - a):=by
 unfold iJ;rw[HT.gD,HT.gD,Nat.min_eq_left hb];rcases ß xs.length a with c|c
 .rw[Nat.min_eq_right (by omega),List.drop_eq_nil_of_le<|qg _,List.drop_eq_nil_of_le (by omega),List.take_nil,List.take_nil]
 .rw[Nat.min_eq_left c]
theorem zBS{D:Nat}{p:Pq Rat}{F:Fm}(f:FP D p F)(np:aT p)(zp:∀ t∈p,t.2≠0):fY (bY F.b F.p)=fY p :=
 Gz ⟨wx<|FA f.nd,λt ht=>Mb f.b1 f.nz t<|(h9 _).mem_iff.mp ht⟩ ⟨wx np,λt ht=>zp t<|(h9 _).mem_iff.mp ht⟩ λg=>by rw[pA<|h9 _,pA<|h9 _]; exact pA f.pm g
theorem zr4{N:Net}{v:Nat}(hv:v < N.ns.length):(gS N.ls.length v (nx N)<|N.ns.take<|v+1).map fD=List.replicate v (cF gU)++[cF (og N.ls.length).2]:=by
 have main:∀ i,i<=v->gS N.ls.length v (nx N) (N.ns.take i)=List.replicate i no:=by
  intro i
  induction i with
  | zero=>exact λ_=>rfl
  | succ i ih=>
   intro hi;rw[uh<|qo (show i < N.ns.length by omega),ih (by omega),List.replicate_succ'];unfold iR;rw[List.length_replicate,if_pos (by omega)]
 rw[uh<|qo hv,main v<|qg _,List.map_append,List.map_replicate];unfold iR;rw[List.length_replicate,if_neg (by omega),if_pos rfl];rfl
theorem XF{N:Net}(h:NO N){v:Nat}(hu:u < N.ns.length)(hv:v < N.ns.length):
  Cj [.d N.d,.d<|.int (u:Int),.d<|.int (v:Int)]=some (.d<|.tuple<|eX fR<|fY (sh N u v).1,[.d N.d,.d<|.int (u:Int),.d<|.int (v:Int)]):=by
 refine zU ?_;have nl:=h.nl;have n1:=h.n1;have n3:=h.n3;have ln:=h.gn.ln;have yW:=HE (n:=N.ls.length) (f:=0) n3 (by decide) (by decide);rw[show g6 [(zs N.ls.length,(0:Rat).num)] ((0:Rat).den:Int) 256=gU from rfl]at yW;have yV:=HE (n:=N.ls.length) (f:=1) n3 (by decide) (by decide);rw[show g6 [(zs N.ls.length,(1:Rat).num)] ((1:Rat).den:Int) 256=(og N.ls.length).2 from rfl]at yV;have z0:PyData.tuple [.int 0,.int 1]=fR 0:=rfl;have z1:PyData.tuple [.int 1,.int 1]=fR 1:=rfl;have nf:=zkn h;unfold Net.d at nf;have ct:iJ (N.ns.map aK.d) (some<|(v:Int)+1) (some<|(u:Int)+1)=((N.ns.map aK.d).drop<|v+1).take (u - v):=by
  have:=Wp (xs:=N.ns.map aK.d) (a:=v+1) (b:=u+1) (by rw[List.length_map]; omega);rw[show u+1 - (v+1)=u - v by omega]at this;exact this
 have ca:vH (.l<|List.replicate v<|cF gU) (.l [cF (og N.ls.length).2])=some (.l<|List.replicate v (cF gU)++[cF (og N.ls.length).2]):=Lx (by rw[List.length_replicate]; exact qC (Nat.add_le_add_right (show v<=8 by omega) 1) (by decide));simp![Cj,Mi,Net.d,nf,z0,z1,yW,yV,List.length_map,Wq (n:=v) (by omega),ca,ct];rw[<-zr4 hv];refine pe (λi ρ=>∃ o9,ρ=[some<|.d N.d,some<|.d<|.int (u:Int),some<|.d<|.int (v:Int),some<|.d<|.tuple<|N.ls.map .str,some<|.d<|.tuple<|N.ns.map aK.d,some<|.d<|yK N.r N.os,some<|.l<|(nx N).map fD,some<|.d<|cF gU,some<|.l<|(gS N.ls.length v (nx N)<|N.ns.take<|v+1+i).map fD,o9]) ⟨none,rfl⟩ ?_ ?_
 .rintro i d _ hd ⟨o9,rfl⟩
  rw[List.getElem?_take]at hd;split at hd
  rotate_left
  .cases hd
  rename_i iu;rw[List.getElem?_drop,List.getElem?_map]at hd;have(nod,en,rfl):=qv.mp hd;have hi:=(qm.mp en).1;have ok:=h.gn.ok _ nod en;have hx:=uc h (v+1+i) (by omega);have so:=Ld h hv (v+1+i) (by omega);have(k1,kd):=h.gn.hi gK.1 (v+1+i) (by omega);have(v1,_):=h.gn.hi gK.1 v (by omega);rw[<-Nat.add_assoc,uh en];have ls:=rM (n:=N.ls.length) (v:=v) (qs:=nx N) N.ns (v+1+i) (by omega);have nt:∀ j,j < v+1+i->(nx N).getD j no=(fZ N.ls.length<|N.ns.take<|v+1+i).getD j no:=λj hj=>(wC h (by omega) hj).symm;have lx:=h.all.ln;unfold iR;rw[if_neg (by omega),if_neg (by omega)];generalize gS N.ls.length v (nx N) (N.ns.take<|v+1+i)=ss at so ls ⊢;have lh:(N.hs.take<|v+1+i).length=v+1+i:=by rw[List.length_take]; omega
  have IZ:(ss.map fD).length=ss.length:=Ò _;cases nod with
  | lt m=>
   simp![aK.d,IZ];rw[List.map_append];exact⟨_,rfl⟩
  | mx prs=>
   have(h1,h2,h3,_):=ok;have pt:=so.cZ (j:=v+i) (by omega) h3;have mf:=OS n1 n3 (by omega) (mR (n:=N.ls.length) (k:=(N.hs.getD (v+1+i) 0).toNat) (j:=v+i) (by omega) (by omega)) (λp hp=>by have:=(h3 p hp).2.1; omega) (λx hx=>(pt x hx).1) h2;simp![aK.d,List.length_map,mf,IZ];rw[List.map_append];exact⟨_,rfl⟩
  | tm a b=>
   have(ha,hb,_,hk,_):=ok;have(qa,fa,za):=so.ok a ha;have(b1,b2,qb,fb):=hx.ok b hb;have(a1,_):=hx.ok a ha;rw[<-nt b (by omega)]at qb fb;have SX:=mR (n:=N.ls.length) (k:=((N.hs.take<|v+1+i).getD a 0).toNat+((N.hs.take<|v+1+i).getD b 0).toNat) (j:=v+i) (by omega) (by omega);have tm:ux [.d<|cF (ss.getD a no).2,.d<|cF ((nx N).getD b no).2]=some (.d<|cF<|lj (ss.getD a no).2 ((nx N).getD b no).2,[.d<|cF (ss.getD a no).2,.d<|cF ((nx N).getD b no).2]):=by
    rcases Int.lt_or_le ((N.hs.take<|v+1+i).getD a 0) (N.hs.getD v 0)with c|c
    .have qa0:QS N.ls.length 0 ((N.hs.take<|v+1+i).getD a 0).toNat (v+i) (ss.getD a no).1:=by rw[za c]; exact QP.nil
     exact HD n1 n3 (by omega) SX qa0 (FN.up fa (by omega)) (QS.up qb (by omega))<|FN.up fb (by omega)
    .exact HD n1 n3 (by omega) SX (QS.up qa (by omega)) (FN.up fa (by omega)) (QS.up qb (by omega)) (FN.up fb (by omega))
   simp![aK.d,k8 (qs:=ss) (g:=fD) (i:=a) (by omega),k8 (qs:=nx N) (g:=fD) (i:=b) (by omega),tm,IZ];rw[List.map_append];exact⟨_,rfl⟩
 .rintro _ ⟨o9,rfl⟩
  rw[List.length_take,List.length_drop,List.length_map];have e:v+1+min (u - v) (N.ns.length - (v+1))=v+1+(u - v):=by omega
  rw[e];have AL:=k8 (qs:=gS N.ls.length v (nx N) (N.ns.take<|v+1+(u - v))) (g:=fD) (i:=u) (by rw[rM _ _ (by omega)]; omega);rw[CI (by omega) (by omega)]at AL;have(q,f,_):=(h.so hv).ok u (by omega);have(k1,kd):=h.gn.hi gK.1 u (by omega);have(v1,_):=h.gn.hi gK.1 v (by omega);have fo:=zmb (Cd h.n1 h.n3 (by omega) (mR (n:=N.ls.length) (by omega) (by omega)) q f);rw[zBS f q.nd q.nz]at fo;have tu:ni (.l<|eX fR<|fY (sh N u v).1)=some (.d<|.tuple<|eX fR<|fY (sh N u v).1):=rfl;simp![AL,fo,tu];rfl
end K35
open PySem L2
namespace K35
open PySem L2
def sG(N:Net)(m:Int)(t:Nat):Bool:=match N.ns[t]? with
 | some (.tm a _)=>decide (N.hs.getD a 0<=m) && decide (m < N.hs.getD t 0)
 | _=>false
def ee(N:Net)(m:Int):Qa Nat:=(List.range N.ns.length).filter (sG N m)
abbrev iN(t:Nat):D:=.int (t:Int)
theorem XE(n:Nat):gB 0 n=(List.range n).map iN:=by
 refine List.ext_getElem (by rw[BU,List.length_map,List.length_range]) λi h1 h2=>?_;have(hi,e):=E2 (qo h1);rw[e,List.getElem_map,List.getElem_range,Int.zero_add]
theorem zr5(ns:Qa aK):nD 0 (ns.map aK.d)=(List.range ns.length).map λt=>.tuple [iN t,(ns.getD t<|.lt 0).d]:=by
 have IX:∀ (ds:Qa D) (n:Nat),(nD n ds).length=ds.length:=by
  intro ds
  induction ds with
  | nil=>intro n; rfl
  | cons d ds ih=>intro n; show(nD (n+1) ds).length+1=_; rw[ih]; rfl
 refine List.ext_getElem (by rw[IX,List.length_map,List.length_map,List.length_range]) λi h1 h2=>?_;have(x,ex,e):=HB (qo h1);rw[List.getElem?_map]at ex;have(nod,en,rfl):=qv.mp ex;rw[e,List.getElem_map,List.getElem_range,Nat.zero_add,qE,en];rfl
theorem xS{N:Net}(h:NO N){t a b:Nat}(e:N.ns[t]?=some (.tm a b)):a < N.hs.length/\b < N.hs.length/\a < t/\b < t/\N.hs.getD t 0=N.hs.getD a 0+N.hs.getD b 0:=by
 have ln:=h.gn.ln;have ht:=(qm.mp e).1;have(h1,h2,_,h4,_):=h.gn.ok t _ e;rw[List.length_take]at h1 h2;rw[Hk (by omega),Hk (by omega)]at h4;exact⟨by omega,by omega,by omega,by omega,h4⟩
theorem OF{N:Net}(h:NO N){m:Int}:yt [.d N.d,.d<|.int m]=some (.l<|(ee N m).map iN,[.d N.d,.d<|.int m]):=by
 refine zU ?_;have nl:=h.nl;have ln:=h.gn.ln;have dg:=zpf h;unfold Net.d at dg;simp![yt,NJ,Net.d,dg,zr5];refine FW (b:=sG N m) (e:=iN) (by rw[List.length_range,qV]; omega) (λt ht ys=>?_) ?_
 .have ht:=Í.mp ht
  have en:=qo ht;have eD:N.ns.getD t (.lt 0)=N.ns[t]:=by rw[qE,en]; rfl
  rw[eD];unfold sG;rw[en];cases e:N.ns[t]with
  | lt k=>simp![aK.d]
  | mx prs=>simp![aK.d]
  | tm a b=>
   have(ha,_,_,_,_):=xS h (by rw[en,e]);have a1:=gr ha;have a2:=gr (hs:=N.hs) (i:=t) (by omega)
   by_cases c1:N.hs.getD a 0<=m
   .by_cases c2:m < N.hs.getD t 0
    .simp![aK.d,a1,a2,c1,c2]
    .simp![aK.d,a1,a2,c1,c2]
   .simp![aK.d,a1,a2,c1]
 .simp!
  rfl
theorem zko{N:Net}(h:NO N){m:Int}:DB [.d<|.tuple<|N.ns.map aK.d,aL N.hs,.d<|.int m]=some (.l<|(ee N m).map iN,[.d<|.tuple<|N.ns.map aK.d,aL N.hs,.d<|.int m]):=by
 refine zU ?_;have nl:=h.nl;have ln:=h.gn.ln;simp![DB,Qz,List.length_map,Int.toNat_natCast,XE];refine FW (b:=sG N m) (e:=iN) (by rw[List.length_range,qV]; omega) (λt ht ys=>?_) ?_
 .have ht:=Í.mp ht
  have en:=qo ht;have ip:bU (N.ns.map aK.d) (t:Int)=some (N.ns[t]).d:=by
   unfold bU;rw[show d4 (N.ns.map aK.d).length (t:Int)=some t by unfold d4; simp[ht]];show(N.ns.map aK.d)[t]?=_;rw[List.getElem?_map,en];rfl
  unfold sG;rw[en];cases e:N.ns[t]with
  | lt k=>rw[e]at ip; simp![ip,aK.d]
  | mx prs=>rw[e]at ip; simp![ip,aK.d]
  | tm a b=>
   rw[e]at ip;have(ha,_,_,_,_):=xS h (by rw[en,e]);have a1:=gr ha;have a2:=gr (hs:=N.hs) (i:=t) (by omega)
   by_cases c1:N.hs.getD a 0<=m
   .by_cases c2:m < N.hs.getD t 0
    .simp![ip,aK.d,a1,a2,c1,c2]
    .simp![ip,aK.d,a1,a2,c1,c2]
   .simp![ip,aK.d,a1,a2,c1]
 .simp!
  rfl
end K35
open PySem L2
namespace K35
open PySem L2
theorem Mv:∀ p:Pq Rat,(eX fR p).mapM oA=some (aN fR p)
 | []=>rfl
 | t::p=>by
  show((PyData.tuple [bP t.1,fR t.2])::eX fR p).mapM oA=_;rw[List.mapM_cons,Mv p];show((dh<|bP t.1).bind _:Qb _).bind _=_;rw[rP];rfl
theorem Wn(p:Pq Rat):∀ acc:Pq Rat,(aN fR p).foldl (λa q=>gO a q.1 q.2) (aN fR acc)=aN fR (p.foldl (λys t=>cu ys t.1 t.2) acc):=by
 induction p with
 | nil=>intro acc; rfl
 | cons t p ih=>
  intro acc;show(aN fR p).foldl _ (gO (aN fR acc) (kL t.1)<|fR t.2)=_;rw[BS];exact ih _
theorem XD{p:Pq Rat}(nd:aT p)(hl:p.length < 1000):BX (.l<|eX fR p)=some (.t<|aN fR p):=by
 show((eX fR p).mapM oA).bind _=_;rw[Mv];show(if(eX fR p).length < sizeLine then some (U.t<|ET<|aN fR p)else none)=_;have hz:sizeLine=16777216:=sizeLine_eq;rw[if_pos (by unfold eX; rw[List.length_map]; omega)];have:=Wn p [];unfold ET;rw[show([]:Qa (Qa Key×D))=aN fR [] from rfl,this];show some (U.t<|aN fR<|Eg p)=_;rw[F8 nd]
def nK(p:Pq Rat):kG:=p.map λt=>(kL t.1,[.inl t.2.num,.inl (t.2.den:Int)])
theorem EK:∀ p:Pq Rat,sD (aN fR p)=some (nK p)
 | []=>rfl
 | t::p=>by
  show(dh<|fR t.2).bind (λv=>(sD<|aN fR p).bind λr=>some<|(kL t.1,v)::r)=_;rw[EK p];rfl
theorem zDE{a b:Qa Int}(h:kL a=kL b):a=b:=(List.map_inj_right λx y e=>by cases e; rfl).mp h
theorem XB{p q:Pq Rat}(hp:p.Perm q)(nd:aT q):jI (nK p) (nK q)=true:=by
 unfold jI;rw[show((nK p).length==(nK q).length)=true by unfold nK; rw[List.length_map,List.length_map,hp.length_eq]; exact beq_self_eq_true _,Bool.true_and];refine é.mpr λx hx=>?_;have(t,ht,rfl):=Ä.mp hx;have(j,hj):=List.mem_iff_getElem?.mp (hp.mem_iff.mp ht);refine decide_eq_true<|Nh ?_ (j:=j) ?_
 .unfold nK
  rw[List.map_map];show(q.map λt=>kL t.1).Nodup;exact ú.mpr<|(ú.mp nd).imp λh e=>h<|zDE e
 .unfold nK
  rw[List.getElem?_map,hj];rfl
theorem Lc{w:Bool}{u v:U}{p q:Pq Rat}(hu:vk u=some (aN fR p))(hv:vk v=some (aN fR q))(hp:p.Perm q)(nd:aT q):xx w u v=some (.d<|.bool w):=by
 unfold xx;rw[hu,hv];show(sD<|aN fR p).bind (λf=>(sD<|aN fR q).bind λg=>some<|U.d<|.bool<|jI f g==w)=_;rw[EK,EK];show some (U.d<|.bool<|jI (nK p) (nK q)==w)=_;rw[XB hp nd];cases w<;>rfl
def f9(N:Net)(u v:Nat):Pq Rat:=if N.hs.getD v 0<=N.hs.getD u 0 then fY (sh N u v).1 else []
abbrev jU(N:Net)(u v:Nat):D:=.dict (cp fR<|f9 N u v)
abbrev n9(N:Net)(u:Nat):D:=.list ((List.range N.ns.length).map<|jU N u)
theorem zBT{p:Pq Rat}(h:aT p):aT (fY p):=Md (h9 p) h
theorem GY(f:Nat->α)(i:Nat):(List.range i).map f++[f i]=(List.range<|i+1).map f:=by
 rw[List.range_succ,List.map_append];rfl
theorem IE{N:Net}(h:NO N){v:Nat}(hu:u < N.ns.length)(hv:v < N.ns.length):QS N.ls.length (N.hs.getD u 0 - N.hs.getD v 0).toNat (N.hs.getD u 0).toNat u (sh N u v).1:=((h.so hv).ok u (by have:=h.gn.ln; omega)).1
theorem zBU{N:Net}(h:NO N){v:Nat}(hu:u < N.ns.length)(hv:v < N.ns.length):(sh N u v).1.length<=15:=by
 have ln:=h.gn.ln;have(k1,kd):=h.gn.hi gK.1 u (by omega);have(v1,_):=h.gn.hi gK.1 v (by omega);exact lC h.n1 h.n3 (IE h hu hv) (by omega)
theorem zkp{N:Net}{Q:U×Qa U->Prop}(h:NO N)(kq:Q (.l<|(List.range N.ns.length).map<|n9 N,[.d N.d,aL N.hs])):Wo (DD [.d N.d,aL N.hs]) Q:=by
 have nl:=h.nl;have ln:=h.gn.ln;have su:=λ{u v:Nat} (hu:u < N.ns.length) (hv:v < N.ns.length)=>XF h hu hv;unfold Net.d at su;simp![DD,Rk,Net.d,List.length_map,Int.toNat_natCast];refine qX (λi ρ=>∃ o3 o4 o5,ρ=[some<|.d N.d,some<|aL N.hs,some<|.l<|(List.range i).map<|n9 N,o3,o4,o5]) ⟨_,_,_,rfl⟩ ?_ ?_
 .rintro u _ hu ⟨o3,o4,o5,rfl⟩
  simp![Net.d,List.length_map,Int.toNat_natCast];refine qX (λi ρ=>∃ o5,ρ=[some<|.d N.d,some<|aL N.hs,some<|.l<|(List.range u).map<|n9 N,some<|.d<|.int<|0+(u:Nat),some<|.l<|(List.range i).map<|jU N u,o5]) ⟨_,rfl⟩ ?_ ?_
  .rintro v _ hv ⟨o5,rfl⟩
   have a1:=gr (hs:=N.hs) (i:=v) (by omega);have a2:=gr (hs:=N.hs) (i:=u) (by omega);have lr:v < 16777216:=by omega
   by_cases c:N.hs.getD v 0<=N.hs.getD u 0
   .have dl:=XD (zBT (IE h hu hv).nd) (p:=fY (sh N u v).1) (by rw[(h9 _).length_eq]; have:=zBU h hu hv; omega)
    have fz:=nC (c:=fR) (p:=fY (sh N u v).1);have li:xK (.d<|.tuple<|eX fR<|fY (sh N u v).1)=some (.l<|eX fR<|fY (sh N u v).1):=rfl;have e:jU N u v=.dict (cp fR<|fY (sh N u v).1):=by unfold jU f9; rw[if_pos c]
    simp![Net.d,Int.zero_add,a1,a2,c,su hu hv,li,dl,fz,List.length_range,lr];rw[<-GY (jU N u) v,e];exact⟨_,rfl⟩
   .have e:jU N u v=.dict []:=by unfold jU f9; rw[if_neg c]; rfl
    simp![Net.d,Int.zero_add,a1,a2,c,List.length_range,lr];rw[<-GY (jU N u) v,e];exact⟨_,rfl⟩
  .rintro _ ⟨o5,rfl⟩
   have lr:u < 16777216:=by omega
   simp![List.length_range,lr];rw[<-GY (n9 N) u];exact⟨_,_,_,rfl⟩
 .rintro _ ⟨o3,o4,o5,rfl⟩
  simp!;exact kq
end K35
open PySem L2
namespace K35
open PySem L2
theorem ON:∀ a b c:Qa Int,aY (aY a b) c=aY a (aY b c)
 | [],_,_=>rfl
 | _::_,[],_=>rfl
 | _::_,_::_,[]=>rfl
 | x::a,y::b,z::c=>by
  show(x+y+z)::aY (aY a b) c=(x+(y+z))::aY a (aY b c);rw[ON a b c,Int.add_assoc]
theorem Mu:∀ {n:Nat} {x:Qa Int},x.length=n->aY x (zs n)=x
 | 0,[],_=>rfl
 | n+1,a::x,h=>by
  show(a+0)::aY x (zs n)=a::x;rw[Int.add_zero,Mu (by simpa using h)]
theorem Kl(p:Pq Rat):aF p (λ_=>0)=0:=by
 induction p with
 | nil=>rfl
 | cons t p ih=>rw[zM,ih]; grind
theorem Wm(p:Pq Rat)(f g:Qa Int->Rat):aF p (λx=>f x+g x)=aF p f+aF p g:=by
 induction p with
 | nil=>rw[gA,gA,gA]; grind
 | cons t p ih=>rw[zM,zM,zM,ih]; grind
section
theorem Mt(p:Pq Rat)(c:α->Rat)(F:α->Qa Int->Rat):∀ xs:Qa α,aF p (λx=>(xs.map λq=>c q * F q x).sum)=(xs.map λq=>c q * aF p (F q)).sum
 | []=>Kl p
 | q::xs=>by
  show aF p (λx=>c q * F q x+(xs.map λq=>c q * F q x).sum)=c q * aF p (F q)+(xs.map λq=>c q * aF p (F q)).sum;rw[Wm,Mt p c F xs,zrR]
theorem Ms(c:Rat)(f:β->Rat):∀ ts:Qa β,c * (ts.map f).sum=(ts.map λt=>c * f t).sum
 | []=>by show c * 0=0; grind
 | t::ts=>by
  show c * (f t+(ts.map f).sum)=c * f t+(ts.map λt=>c * f t).sum;rw[<-Ms c f ts]; grind
theorem Mr(f g:β->Rat):∀ ts:Qa β,(ts.map f).sum+(ts.map g).sum=(ts.map λt=>f t+g t).sum
 | []=>by show(0:Rat)+0=0; grind
 | t::ts=>by
  show f t+(ts.map f).sum+(g t+(ts.map g).sum)=f t+g t+(ts.map λt=>f t+g t).sum;rw[<-Mr f g ts]; grind
theorem Cr(f:β->Rat):∀ ts:Qa β,(∀ t∈ts,f t=0)->(ts.map f).sum=0
 | [],_=>rfl
 | t::ts,h=>by
  show f t+(ts.map f).sum=0;rw[h t qr,Cr f ts λs hs=>h s<|qq _ hs]; grind
theorem uj{f g:β->Rat}:∀ {ts:Qa β},(∀ t∈ts,f t=g t)->(ts.map f).sum=(ts.map g).sum:=λh=>by rw[List.map_congr_left h]
theorem Nz(c:α->Rat)(F:α->β->Rat)(ts:Qa β):∀ xs:Qa α,(xs.map λq=>c q * (ts.map<|F q).sum).sum=(ts.map λt=>(xs.map λq=>c q * F q t).sum).sum
 | []=>(Cr (λ_=>0) ts λ_ _=>rfl).symm
 | q::xs=>by
  show c q * (ts.map<|F q).sum+(xs.map λq=>c q * (ts.map<|F q).sum).sum=(ts.map λt=>c q * F q t+(xs.map λq=>c q * F q t).sum).sum;rw[Nz c F ts xs,Ms,Mr]
theorem Mq(f:Nat->Rat):∀ {ts:Qa Nat},ts.Nodup->u∈ts->(∀ t∈ts,t≠u->f t=0)->(ts.map f).sum=f u
 | t::ts,nd,hu,h=>by
  have(n1,n2):=æ.mp nd;show f t+(ts.map f).sum=f u;rcases qy.mp hu with rfl|hu
  .rw[Cr f ts λs hs=>h s (qq _ hs) λe=>n1<|e▸hs]; grind
  .rw[h t qr λe=>n1<|e▸hu,Mq f n2 hu λs hs=>h s<|qq _ hs]; grind
end
theorem GX(g:Qa Int->Rat):∀ (xs:Qa Pt) {T:Pq Rat},aT T->aF (gq T xs) g=aF T g+(xs.map λx=>x.1 * aF x.2.1 g).sum
 | [],T,_=>by show aF T g=aF T g+0; grind
 | x::xs,T,nd=>by
  show aF (gq (L2.nz<|aQ T<|eK x.2.1 x.1) xs) g=_;rw[GX g xs<|Bv<|m9 _ nd,show aF (L2.nz<|aQ T<|eK x.2.1 x.1) g=aF (aQ T<|eK x.2.1 x.1) g from vW _ g,rJ _ g nd,Mc];show _=aF T g+(x.1 * aF x.2.1 g+(xs.map λx=>x.1 * aF x.2.1 g).sum);grind
theorem Fx:aT ([]:Pq Rat):=Ø
theorem GV(p q:Pq Rat)(g:Qa Int->Rat):aF (gN p q) g=aF p λx=>aF q λy=>g (aY x y):=by
 unfold gN;rw[show aF (L2.nz<|aQ []<|bB p q) g=aF (aQ []<|bB p q) g from vW _ g,rJ _ g Fx,Gy,gA];grind
theorem Mp{xs:Qa α}{y z:α}(h:xs.length=i):(xs++[y]).getD i z=y:=by subst h; exact vT
section
variable{N:Net}
abbrev nP(N:Net)(i:Nat):Pq Rat:=((nx N).getD i no).1
abbrev nS(N:Net)(v i:Nat):Pq Rat:=(sh N i v).1
theorem Kk(h:NO N){nod:aK}(e:N.ns[i]?=some nod):(nx N).getD i no=oU N.ls.length (fZ N.ls.length<|N.ns.take i) nod:=by
 have hi:=(qm.mp e).1;rw[<-wC h (i:=i+1) (by omega) (by omega),yx e];have:=(uc h i (by omega)).ln;rw[List.length_take,Nat.min_eq_left (by have:=h.gn.ln; omega)]at this;exact Mp this
theorem By{v:Nat}{nod:aK}(e:N.ns[i]?=some nod):sh N i v=iR N.ls.length v (nx N) (gS N.ls.length v (nx N)<|N.ns.take i) nod:=by
 have hi:=(qm.mp e).1;rw[<-CI (i:=i+1) (by omega) (by omega),uh e];exact Mp<|rM _ _ (by omega)
theorem EJ(h:NO N){prs:Qa P2}(e:N.ns[i]?=some (.mx prs)):∀ q∈prs,q.2 < i/\N.hs.getD q.2 0=N.hs.getD i 0:=λq hq=>by
 have(_,_,h3,_):=h.gn.ok i _ e;have(_,b,c):=h3 q hq;rw[List.length_take]at b;rw[Hk (by omega)]at c;exact⟨by omega,c⟩
theorem zEd(h:NO N){prs:Qa P2}(e:N.ns[i]?=some (.mx prs))(g:Qa Int->Rat):aF (nP N i) g=(prs.map λq=>q.1 * aF (nP N q.2) g).sum:=by
 have hi:=(qm.mp e).1;have lt:=EJ h e;unfold nP;rw[Kk h e];show aF (gq []<|cZ _ prs) g=_;rw[GX g _ Fx,gA];unfold cZ;rw[List.map_map,show ∀ x:Rat,0+x=x from λx=>by grind];refine uj λq hq=>?_;show q.1 * aF ((fZ _ _).getD q.2 no).1 g=_;rw[wC h (by omega) (lt q hq).1]
theorem zEe(h:NO N){a b:Nat}(e:N.ns[i]?=some (.tm a b))(g:Qa Int->Rat):aF (nP N i) g=aF (nP N a) λx=>aF (nP N b) λy=>g (aY x y):=by
 have hi:=(qm.mp e).1;have(_,_,h1,h2,_):=xS h e;unfold nP;rw[Kk h e];show aF (gN ((fZ _ _).getD a no).1 ((fZ _ _).getD b no).1) g=_;rw[GV,wC h (by omega) h1,wC h (by omega) h2]
theorem Bx{v:Nat}(hi:i < N.ns.length)(c:i < v):sh N i v=no:=by
 rw[By<|qo hi];unfold iR;rw[rM _ _ (by omega),if_pos c]
theorem zDF{v:Nat}(hv:v < N.ns.length):sh N v v=og N.ls.length:=by
 rw[By<|qo hv];unfold iR;rw[rM _ _ (by omega),if_neg (by omega),if_pos rfl]
theorem RB(h:NO N){v:Nat}(ne:i≠v){prs:Qa P2}(e:N.ns[i]?=some (.mx prs))(g:Qa Int->Rat):aF (nS N v i) g=(prs.map λq=>q.1 * aF (nS N v q.2) g).sum:=by
 have hi:=(qm.mp e).1;have lt:=EJ h e;unfold nS;rcases ß i v with c|c
 .rw[Bx hi c]
  refine(Cr _ prs λq hq=>?_).symm;have:=lt q hq;rw[Bx (by omega) (by omega)];show q.1 * 0=0;grind
 .rw[By e]
  unfold iR;rw[rM _ _ (by omega),if_neg (by omega),if_neg (by omega)];show aF (gq []<|cZ _ prs) g=_;rw[GX g _ Fx,gA];unfold cZ;rw[List.map_map,show ∀ x:Rat,0+x=x from λx=>by grind];refine uj λq hq=>?_;show q.1 * aF ((gS _ _ _ _).getD q.2 no).1 g=_;rw[CI (by omega) (lt q hq).1]
theorem HQ(h:NO N){v:Nat}(ne:i≠v){a b:Nat}(e:N.ns[i]?=some (.tm a b))(g:Qa Int->Rat):aF (nS N v i) g=aF (nS N v a) λx=>aF (nP N b) λy=>g (aY x y):=by
 have hi:=(qm.mp e).1;have(_,_,h1,h2,_):=xS h e;unfold nS;rcases ß i v with c|c
 .rw[Bx hi c,Bx (by omega) (by omega)]
  rfl
 .rw[By e]
  unfold iR;rw[rM _ _ (by omega),if_neg (by omega),if_neg (by omega)];show aF (gN ((gS _ _ _ _).getD a no).1 _) g=_;rw[GV,CI (by omega) h1]
theorem Kj(h:NO N){v:Nat}(hu:u < N.ns.length)(hv:v < N.ns.length)(c:N.hs.getD u 0 < N.hs.getD v 0):nS N v u=[]:=((h.so hv).ok u (by have:=h.gn.ln; omega)).2.2 c
theorem rO{m:Int}{t:Nat}(ht:t∈ee N m):t < N.ns.length/\∃ a b,N.ns[t]?=some (.tm a b)/\N.hs.getD a 0<=m/\m < N.hs.getD t 0:=by
 have(h1,h2):=Ú.mp ht;refine⟨Í.mp h1,?_⟩;unfold sG at h2;split at h2
 .rename_i a b e
  rw[Bool.and_eq_true_iff]at h2;exact⟨a,b,e,of_decide_eq_true h2.1,of_decide_eq_true h2.2⟩
 .cases h2
theorem OE(h:NO N){m:Int}(m1:1<=m){p:Nat->Pq Rat}(kl:∀ i,i < N.ns.length->∀ t∈p i,t.1.length=N.ls.length)
  (hm:∀ i prs g,N.ns[i]?=some (.mx prs)->m < N.hs.getD i 0->aF (p i) g=(prs.map λq=>q.1 * aF (p q.2) g).sum)
  (ht:∀ i a b g,N.ns[i]?=some (.tm a b)->m < N.hs.getD i 0->aF (p i) g=aF (p a) λx=>aF (nP N b) λy=>g<|aY x y):
  ∀ c u,u < c->u < N.ns.length->m < N.hs.getD u 0->∀ g,aF (p u) g=((ee N m).map λt=>aF (p t) λx=>aF (nS N t u) λy=>g<|aY x y).sum:=by
 intro c
 induction c with
 | zero=>intro u hc; omega
 | succ c ih=>
  intro u hc hu hh g;have en:=qo hu;have ok:=h.gn.ok u _ en;cases e:N.ns[u]with
  | lt k=>
   rw[e]at ok;have:=ok.2;omega
  | mx prs=>
   rw[e]at en;have lt:=EJ h en;rw[hm u prs g en hh];have e1:(prs.map λq=>q.1 * aF (p q.2) g).sum=(prs.map λq=>q.1 * ((ee N m).map λt=>aF (p t) λx=>aF (nS N t q.2) λy=>g<|aY x y).sum).sum:=uj λq hq=>by
    have:=lt q hq;rw[ih q.2 (by omega) (by omega) (by omega) g]
   rw[e1,Nz];refine uj λt ht=>?_;have(_,a,b,et,_):=rO ht;have ne:u≠t:=λz=>by rw[z,et]at en; cases en
   rw[<-Mt];exact pz λs _=>(RB h ne en _).symm
  | tm a b=>
   rw[e]at en;have(_,_,ha,_,_):=xS h en;rcases Int.lt_or_le m (N.hs.getD a 0)with c1|c1
   .rw[ht u a b g en hh,ih a (by omega) (by omega) c1]
    refine uj λt ht=>?_;have(_,a',b',et,c2,_):=rO ht;have ne:u≠t:=λz=>by rw[<-z,en]at et; cases et; omega
    refine pz λs _=>?_;rw[HQ h ne en];refine pz λs' _=>pz λwN _=>?_;rw[ON]
   .have i3:u∈ee N m:=Ú.mpr ⟨Í.mpr hu,by unfold sG; rw[en]; exact Ă.mpr ⟨decide_eq_true c1,decide_eq_true hh⟩⟩
    refine Eq.symm<|(Mq _ (List.nodup_range.sublist List.filter_sublist) i3 λt ht ne=>?_).trans ?_
    .have(h1,a',b',et,c2,c3):=rO ht
     rw[<-Kl (p t)];refine pz λs _=>?_;rw[HQ h (λz=>ne z.symm) en,Kj h (by omega) h1 (by omega)];rfl
    .refine pz λs hs=>?_
     unfold nS;rw[zDF hu];show(1:Rat) * g (aY s.1<|zs N.ls.length)+0=_;rw[Mu<|kl u hu s hs];grind
end
end K35
open PySem L2
namespace K35
open PySem L2
theorem Lb(p:Pq Rat):vk (dT p)=some (aN fR p):=by
 show(if iV (cp fR p)=true then tN (cp fR p)else none)=_;rw[if_pos<|xQ p,Nl]
abbrev Q5(n d:Nat)(p:Pq Rat):Prop:=QS n d 35 1 p
abbrev M7:Nat:=12^(35 * 1) * 12^(35 * 1)
abbrev B7:Nat:=36 * (2^(34 * (35 * 1)) * 2^(34 * (35 * 1)))
theorem Ki:M7 < 2^4000:=by
 show 12^(35 * 1) * 12^(35 * 1) < _;rw[<-Nat.pow_add];exact lM (EG _) (by decide)
theorem Kh:B7<=2^2400:=by
 show 36 * (2^(34 * (35 * 1)) * 2^(34 * (35 * 1)))<=_;rw[<-Nat.pow_add];refine qC (Æ _ (show 36<=2^6 by decide)) ?_;rw[<-Nat.pow_add];exact ã (by decide) (by decide)
theorem QP.RZ{d k:Nat}{p:Pq Rat}(h:QS n d k j p)(e:k * j<=35):Q5 n d p:=QP.to h (by omega) (by omega)
theorem La{a b:Nat}{p q:Pq Rat}{u1 u2:U}{Q:U×Qa U->Prop}(n1:1<=n)(n3:n<=3)(uR:u1.fz=some (.dict<|cp fR p))(pT:u2.fz=some (.dict<|cp fR q))(hp:Q5 n a p)(hq:Q5 n b q)(h:a+b<=cV n)(kq:∀ yF,yF.fz=some (.dict<|cp fR q)->Q (.t<|aN fR<|gN p q,[dT p,yF])):Wo (uy [u1,u2]) Q:=by
 have lm:=yn n1 n3 hp hq h;have la:=lC n1 n3 hp (by omega);have lb:=lC n1 n3 hq (by omega);exact OT uR pT hp.nd hq.nd hp.bd hq.bd (λt ht=>(hp.ky t ht).1.ln) (λt ht=>(hq.ky t ht).1.ln) (by omega) rN rN Ki (yS (by decide)) (yS (by decide)) (lM (qg _) (by decide)) (lM (qg _) (by decide)) (lM (qC (Æ _ lm) Kh) (by decide)) (ø (ð (by decide))<|ð (by decide)) (by omega) (by omega) (by omega) kq
theorem zDH(p:Pq Rat):gN p []=[]:=by
 unfold gN bB;rw[show(p.flatMap λs=>([]:Pq Rat).map λt=>(aY s.1 t.1,s.2 * t.2))=[] from List.flatMap_eq_nil_iff.mpr λ_ _=>rfl];rfl
theorem RA{a b d:Nat}{p q:Pq Rat}(n1:1<=n)(n3:n<=3)(hp:Q5 n a p)(hq:Q5 n b q)(h:a+b<=cV n)(hd:a+b=d\/q=[]):QP n d M7 B7 (gN p q):=by
 rcases hd with rfl|rfl
 .exact(QP.mul hp hq).le (Æ _<|yn n1 n3 hp hq h)
 .rw[zDH]; exact QP.nil
theorem b8{b:Nat}(hb:b<=2^2400)(hl:l<=15):8 * b+l * (8 * b) < 2^4000:=by
 have:=Æ (8 * b) hl;refine Å (show _<=2^7 * 2^2400 from ?_) (by rw[<-Nat.pow_add]; exact ä (by decide) (by decide));generalize 2^2400=X at hb ⊢;omega
theorem K9{d c:Nat}{T p:Pq Rat}(n1:1<=n)(n3:n<=3)(hd:d<=cV n)(hc:c<=8)(hT:QP n d M7 (c * B7) T)(hp:QP n d M7 B7 p):
  uz [.t<|aN fR T,.t<|aN fR p,.d<|.int 1]=some (.t<|aN fR<|L2.nz<|aQ T p,[.t<|aN fR T,dT p,.d<|.int 1]):=by
 have lT:=lC n1 n3 hT hd;have lp:=lC n1 n3 hp hd;have Ag:=K3 n1 n3 hT.nd λt ht=>(hT.ky t ht).1.up hd;have b7:=Kh;have pa:=OU (M:=M7) (B:=8 * B7) (u1:=.t (aN fR T)) (u2:=.t (aN fR p)) (s:=1) (KS Ag) nC (.inl rfl) hT.nd hp.nd (λt ht=>(hT.bd t ht).le<|Æ _ hc) (λt ht=>(hp.bd t ht).le<|Nat.le_mul_of_pos_left _ (by decide)) (ø rN rN) Ki (b8 b7 lp) (by omega) (by omega);rw[LY]at pa;exact pa
theorem qK{f:Nat->D}{k:Nat}(h:i < k):bU ((List.range k).map f) (i:Int)=some (f i):=by
 unfold bU;rw[show d4 ((List.range k).map f).length (i:Int)=some i by unfold d4; simp[h]];show((List.range k).map f)[i]?=_;rw[List.getElem?_map,List.getElem?_range h];rfl
section
variable{N:Net}
theorem uY(h:NO N)(hi:i < N.ns.length):1<=N.hs.getD i 0/\N.hs.getD i 0<=(cV N.ls.length:Int):=h.gn.hi gK.1 i (by have:=h.gn.ln; omega)
theorem y9(h:NO N)(hi:i < N.ns.length):Q5 N.ls.length (N.hs.getD i 0).toNat (nP N i):=by
 have nl:=h.nl;have(_,_,q,_):=h.all.ok i (by have:=h.gn.ln; omega);have:=uY h hi;exact q.RZ<|mR (n:=N.ls.length) (by omega) (by omega)
theorem Si(h:NO N){v:Nat}(hu:u < N.ns.length)(hv:v < N.ns.length):Q5 N.ls.length (N.hs.getD u 0 - N.hs.getD v 0).toNat (nS N v u):=by
 have nl:=h.nl;have:=uY h hu;exact(IE h hu hv).RZ<|mR (n:=N.ls.length) (by omega) (by omega)
theorem rY(h:NO N){v:Nat}(hu:u < N.ns.length)(hv:v < N.ns.length):Q5 N.ls.length (N.hs.getD u 0 - N.hs.getD v 0).toNat (f9 N u v):=by
 unfold f9;split
 .exact(Si h hu hv).perm (h9 _)
 .exact QP.nil
theorem BI(h:NO N){v:Nat}(hu:u < N.ns.length)(hv:v < N.ns.length)(g:Qa Int->Rat):aF (f9 N u v) g=aF (nS N v u) g:=by
 unfold f9;split
 .exact pA (h9 _) g
 .rw[Kj h hu hv (by omega)]
theorem BZ{v:Nat}(c:¬N.hs.getD v 0<=N.hs.getD u 0):f9 N u v=[]:=by unfold f9; rw[if_neg c]
abbrev n8(N:Net):U:=.l ((List.range N.ns.length).map<|n9 N)
structure Acc (N:Net) (d:Nat) (A B:Nat->Pq Rat) (bs:Qa Nat) (T:Pq Rat):Prop where
 qp:QP N.ls.length d M7 (bs.length * B7) T
 li:∀ g,aF T g=(bs.map λt=>aF (A t) λx=>aF (B t) λy=>g<|aY x y).sum
theorem Acc.nil{d:Nat}{A B:Nat->Pq Rat}:Acc N d A B [] []:=⟨QP.nil,λ_=>rfl⟩
theorem Acc.snoc{d:Nat}{A B:Nat->Pq Rat}{bs:Qa Nat}{T:Pq Rat}{t:Nat}(h:Acc N d A B bs T)(ht:QP N.ls.length d M7 B7 (gN (A t)<|B t)):Acc N d A B (bs++[t]) (L2.nz<|aQ T<|gN (A t)<|B t):=by
 refine⟨?_,λg=>?_⟩
 .rw[qw,List.length_singleton,Nat.add_mul,Nat.one_mul]
  exact h.qp.add ht
 .rw[show aF (L2.nz<|aQ T<|gN (A t)<|B t) g=aF (aQ T<|gN (A t)<|B t) g from vW _ g,rJ _ g h.qp.nd,h.li,GV,List.map_append,List.sum_append]
  show _=_+(_+0);grind
theorem G2{m:Int}:(ee N m).length<=N.ns.length:=by
 have:=ý (sG N m) (List.range N.ns.length);rw[List.length_range]at this;exact this
theorem XA(h:NO N){m:Int}{ub:U}{Q:U×Qa U->Prop}(hu:u < N.ns.length)(i3:ub.fz=some (.list<|(ee N m).map iN))
  (kq:∀ T,Acc N (N.hs.getD u 0).toNat (nP N) (f9 N u) (ee N m) T->Q (.t<|aN fR T,[.l<|(nx N).map pD,n8 N,.d<|.int (u:Int),.d<|.list<|(ee N m).map iN])):
  Wo (Dw [.l<|(nx N).map pD,n8 N,.d<|.int (u:Int),ub]) Q:=by
 have nl:=h.nl;have ln:=h.gn.ln;have lx:=h.all.ln;have n1:=h.n1;have n3:=h.n3;have bl:=G2 (N:=N) (m:=m);have h1:=uY h hu;simp![Dw,QV,i3];refine j7 (λbs cs ρ=>∃ T o5,ρ=[some<|.l<|(nx N).map pD,some<|n8 N,some<|.d<|.int (u:Int),some<|.d<|.list<|(ee N m).map iN,some<|.t<|aN fR T,o5]/\Acc N (N.hs.getD u 0).toNat (nP N) (f9 N u) bs T) ⟨[],none,rfl,Acc.nil⟩ ?_ ?_
 .rintro bs t cs _ e ⟨T,o5,rfl,ac⟩
  have Jo:t∈ee N m:=by rw[e]; simp
  have(ht,_):=rO Jo;have h2:=uY h ht;have lb:bs.length+1<=(ee N m).length:=by rw[e,qw,qx]; omega
  have sd:(N.hs.getD t 0).toNat+(N.hs.getD u 0 - N.hs.getD t 0).toNat<=cV N.ls.length:=by omega
  have tq:=RA n1 n3 (y9 h ht) (rY h hu ht) sd (d:=(N.hs.getD u 0).toNat) (by
   by_cases c:N.hs.getD t 0<=N.hs.getD u 0
   .left; omega
   .right; exact BZ c)
  have pa:=K9 n1 n3 (by omega) (by omega) ac.qp tq;simp![k8 (qs:=nx N) (g:=pD) (i:=t) (by omega),qK (f:=n9 N) hu,qK (f:=jU N u) ht];refine La (p:=nP N t) (q:=f9 N u t) n1 n3 rfl rfl (y9 h ht) (rY h hu ht) sd λu2 pT=>?_;simp![pa];exact⟨_,_,rfl,ac.snoc tq⟩
 .rintro _ ⟨T,o5,rfl,ac⟩
  simp!;exact kq T ac
end
end K35
open PySem L2
namespace K35
open PySem L2
section
variable{N:Net}
theorem zBW(h:NO N){m:Int}(m1:1<=m)(hu:u < N.ns.length)(hh:m < N.hs.getD u 0){T:Pq Rat}{d:Nat}(ac:Acc N d (nP N) (f9 N u) (ee N m) T):T.Perm (nP N u):=by
 have q:=y9 h hu;refine GZ ac.qp.nd ac.qp.nz q.nd q.nz λg=>?_;rw[ac.li,OE h m1 (p:=nP N) (λi hi t ht=>((y9 h hi).ky t ht).1.ln) (λi prs g e _=>zEd h e g) (λi a b g e _=>zEe h e g) (u+1) u (by omega) hu hh g];refine uj λt ht=>pz λs _=>?_;exact BI h hu (rO ht).1 _
theorem zBX(h:NO N){m:Int}(m1:1<=m){v:Nat}(hu:u < N.ns.length)(hv:v < N.ns.length)(hh:m < N.hs.getD u 0)(hm:N.hs.getD v 0<=m){T:Pq Rat}{d:Nat}(ac:Acc N d (λt=>f9 N t v) (f9 N u) (ee N m) T):T.Perm (f9 N u v):=by
 have q:=rY h hu hv;refine GZ ac.qp.nd ac.qp.nz q.nd q.nz λg=>?_;have ne:∀ {i:Nat},m < N.hs.getD i 0->i≠v:=λz e=>by rw[e]at z; omega
 rw[ac.li,BI h hu hv,OE h m1 (p:=nS N v) (λi hi t ht=>((Si h hi hv).ky t ht).1.ln) (λi prs g e c=>RB h (ne c) e g) (λi a b g e c=>HQ h (ne c) e g) (u+1) u (by omega) hu hh g];refine uj λt ht=>?_;rw[BI h (rO ht).1 hv];exact pz λs _=>BI h hu (rO ht).1 _
theorem Wl(h:NO N){m:Int}(m1:1<=m){ub:U}{Q:U×Qa U->Prop}(hu:u < N.ns.length)(hh:m < N.hs.getD u 0)(i3:ub.fz=some (.list<|(ee N m).map iN))
  (kq:∀ lQ,lQ.fz=some (.list<|(ee N m).map iN)->Q (.d<|.bool true,[aL N.hs,n8 N,.d<|.int (u:Int),.d<|.int m,lQ])):
  Wo (De [aL N.hs,n8 N,.d<|.int (u:Int),.d<|.int m,ub]) Q:=by
 have nl:=h.nl;have ln:=h.gn.ln;have n1:=h.n1;have n3:=h.n3;have bl:=G2 (N:=N) (m:=m);have h1:=uY h hu;simp![De,P5,List.length_map,Int.toNat_natCast];refine qX (λi ρ=>∃ lQ o5 o6 o7,ρ=[some<|aL N.hs,some<|n8 N,some<|.d<|.int (u:Int),some<|.d<|.int m,some lQ,o5,o6,o7]/\lQ.fz=some (.list<|(ee N m).map iN)/\(lQ.own=true->ub.own=true)) ⟨ub,none,none,none,rfl,i3,id⟩ ?_ ?_
 .rintro v _ hv ⟨lQ,o5,o6,o7,rfl,i3,ho⟩
  have hv:v < N.ns.length:=by omega
  have a1:=gr (hs:=N.hs) (i:=v) (by omega);have h3:=uY h hv
  by_cases c:N.hs.getD v 0<=m
  .simp![Int.zero_add,a1,c,i3]
   refine j7 (λbs cs ρ=>∃ T o7,ρ=[some<|aL N.hs,some<|n8 N,some<|.d<|.int (u:Int),some<|.d<|.int m,some<|.d<|.list<|(ee N m).map iN,some<|.d<|.int (v:Int),some<|.t<|aN fR T,o7]/\Acc N (N.hs.getD u 0 - N.hs.getD v 0).toNat (λt=>f9 N t v) (f9 N u) bs T) ⟨[],_,rfl,Acc.nil⟩ ?_ ?_
   .rintro bs t cs _ e ⟨T,o7,rfl,ac⟩
    have Jo:t∈ee N m:=by rw[e]; simp
    have(ht,_,_,_,_,c3):=rO Jo;have h2:=uY h ht;have lb:bs.length+1<=(ee N m).length:=by rw[e,qw,qx]; omega
    have sd:(N.hs.getD t 0 - N.hs.getD v 0).toNat+(N.hs.getD u 0 - N.hs.getD t 0).toNat<=cV N.ls.length:=by omega
    have tq:=RA n1 n3 (rY h ht hv) (rY h hu ht) sd (d:=(N.hs.getD u 0 - N.hs.getD v 0).toNat) (by
     by_cases c:N.hs.getD t 0<=N.hs.getD u 0
     .left; omega
     .right; exact BZ c)
    have pa:=K9 n1 n3 (by omega) (by omega) ac.qp tq;simp![qK (f:=n9 N) hu,qK (f:=n9 N) ht,qK (f:=jU N u) ht,qK (f:=jU N t) hv];refine La (p:=f9 N t v) (q:=f9 N u t) n1 n3 rfl rfl (rY h ht hv) (rY h hu ht) sd λu2 pT=>?_;simp![pa];exact⟨_,_,rfl,ac.snoc tq⟩
   .rintro _ ⟨T,o7,rfl,ac⟩
    have eq:=Lc (w:=false) (u:=.t (aN fR T)) (v:=.d (jU N u v)) rfl (Lb _) (zBX h m1 hu hv hh c ac) (rY h hu hv).nd;simp![qK (f:=n9 N) hu,qK (f:=jU N u) hv,eq];exact⟨_,_,_,_,rfl,rfl,λz=>by cases z⟩
  .simp![Int.zero_add,a1,c]
   exact⟨_,_,_,_,rfl,i3,ho⟩
 .rintro _ ⟨lQ,o5,o6,o7,rfl,i3,ho⟩
  have nc:¬(lQ.own=true/\ub.own=false):=λ⟨z,z'⟩=>by rw[ho z]at z'; cases z'
  simp![nc];exact kq lQ i3
end
end K35
open PySem L2
namespace K35
open PySem L2
theorem Wj{a b:U}{x:D}(ha:a.py=some x)(hb:b.py=some x)(hs:SeqAt.shaped x=true):kJ true a b=some (.d<|.bool false):=by
 unfold kJ;rw[ha,bd,hb,bd,if_pos ⟨hs,hs⟩,if_pos rfl,SeqAt.eqv_refl x<|SeqAt.canLay_of_shaped hs];rfl
theorem znX(hs:Qa Int):SeqAt.shaped (.list<|hs.map .int)=true:=by
 have a1:=PyProof.Rows.canLayAll_ints hs;have a2:=PyProof.Rows.depthAll_ints hs;unfold SeqAt.shaped;simp[PyData.canLay0,PyData.depth,a1,a2]
theorem znY(bs:Qa Nat):SeqAt.shaped (.list<|bs.map iN)=true:=by
 have:=znX (bs.map λt:Nat=>(t:Int));rw[List.map_map]at this;exact this
theorem Ny{f:α->Bool}:∀ (zs:Qa α),(zs.map λz=>PyData.bool<|f z).mapM Eh=some (zs.map f)
 | []=>rfl
 | z::zs=>by
  rw[List.map_cons,List.mapM_cons,Ny zs];rfl
theorem zBY{f:α->Bool}{zs:Qa α}:A2 (.l<|zs.map λz=>PyData.bool<|f z)=some (.d<|.bool<|zs.all f):=by
 show((zs.map λz=>PyData.bool<|f z).mapM Eh).bind _=_;rw[Ny];show some (U.d<|.bool<|(zs.map f).all id)=_;rw[List.all_map];rfl
theorem Xz(zs:Qa α):A2 (.l<|zs.map λ_=>PyData.bool true)=some (.d<|.bool true):=by
 have al:=zBY (f:=λ_:α=>true) (zs:=zs);rw[List.all_eq_true.mpr λ_ _=>rfl]at al;exact al
theorem Xy{k:Int}:Di [.d<|.int k]=some (.d<|.bool true,[.d<|.int k]):=by
 refine zU ?_;simp![Di,Ql]
theorem zDJ{N:Net}(h:NO N):0<=qY N.hs 0/\qY N.hs 0<=5:=by
 rcases NW N.hs 0 with⟨_,e⟩|⟨e,_⟩
 .rw[e]; decide
 .have(i,hi,e):=ą e
  have g:=h.gn.hi gK.1 i hi;have d6:=(gK (n:=N.ls.length)).2;rw[qE,qo hi]at g;have g':1<=N.hs[i]/\N.hs[i]<=(cV N.ls.length:Int):=g;omega
theorem isl{xs:Qa D}:iI "list" (.l xs)=some (.d<|.bool true):=rfl
theorem zDK(ns:Qa Int)(hl:ns.length<=63):Wo (vL [.d<|.list<|ns.map .int]) λo=>o=(.d<|.bool true,[.d<|.list<|ns.map .int]):=by
 simp![vL,Kr];refine zDt (by omega) λx y=>?_;simp!;refine fN (by decide) (by decide) λr x1 y1 r0 r1=>?_;simp!;refine FY (f:=PyData.int) (xs:=[1,1,2,2,2,3]) r0 (by show r < 6; omega) λk hk _=>?_;have Sq:1<=k/\k<=3:=by
  have:∀ z∈([1,1,2,2,2,3]:Qa Int),1<=z/\z<=3:=by decide
  exact this k hk
 simp!;refine V7 Sq.1 Sq.2 λls x2 y2 hls hac=>?_;have l1:1<=ls.length:=by omega
 have l3:ls.length<=3:=by omega
 have dpe:bU [PyData.int 5,.int 4,.int 3] ((ls.length:Int) - 1)=some (.int (cV ls.length:Int)):=by
  rcases(by omega:ls.length=1\/ls.length=2\/ls.length=3)with e|e|e<;>rw[e]<;>rfl
 simp![List.length_map,dpe];refine zDz l1 l3 hac (by decide) (by decide) λN x3 y3 hN h=>?_;subst hN;have nl:=h.nl;have ln:=h.gn.ln;have lx:=h.all.ln;have mb:=zDJ h;have i1:aS (.d N.d) (.d<|.int 1)=some (.d<|.tuple<|N.ns.map aK.d):=rfl;simp![i1,K4 (by omega) h.gn];refine zim h ?_;simp!;refine zkp h ?_;simp![Nd];refine qX (λi ρ=>∃ (o7 o8 o9 o10:Qb U),ρ=[some<|.d<|.list<|ns.map .int,some<|bx x3 y3,some<|.d<|.tuple<|N.ls.map .str,some<|.d N.d,some<|aL N.hs,some<|.l<|(nx N).map pD,some<|n8 N,o7,o8,o9,o10]) ⟨_,_,_,_,rfl⟩ ?_ ?_
 .rintro i _ hi ⟨o7,o8,o9,o10,rfl⟩
  have bl:=G2 (N:=N) (m:=(i:Int));have at1:=Xz (ee N (i:Int));have eq1:=Wj (a:=.l ((ee N (i:Int)).map iN)) (b:=.l ((ee N (i:Int)).map iN)) rfl rfl (znY _);simp![Int.zero_add,OF h,i1,zko h,isl,HV,HW,List.getElem?_cons_zero,List.getElem?_cons_succ,Option.join_some];refine BR (g:=iN) (as:=ee N (i:Int)) (e:=λ_=>.bool true) (by omega) (λk hk ys=>?_) ?_
  .simp![Xy]
  simp![at1,eq1,OF h,List.length_map,Int.toNat_natCast];refine qX (λ_ ρ=>∃ (ub:U) (o10:Qb U),ρ=[some<|.d<|.list<|ns.map .int,some<|bx x3 y3,some<|.d<|.tuple<|N.ls.map .str,some<|.d N.d,some<|aL N.hs,some<|.l<|(nx N).map pD,some<|n8 N,some<|.d<|.int (i:Int),some<|.l<|(ee N (i:Int)).map iN++[.int (-1)],some ub,o10]/\ub.fz=some (.list<|(ee N (i:Int)).map iN)) ⟨_,_,rfl,rfl⟩ ?_ ?_
  .rintro u _ hu ⟨ub,o10,rfl,i3⟩
   have hu:u < N.ns.length:=by omega
   have au:=gr (hs:=N.hs) (i:=u) (by omega)
   by_cases c1:1<=(i:Int)
   .by_cases c2:(i:Int) < N.hs.getD u 0
    .simp![Int.zero_add,au,c1,c2]
     refine XA h hu i3 λT ac=>?_;have eq:=Lc (w:=false) (u:=.t (aN fR T)) (v:=.d (pD<|(nx N).getD u no)) rfl (Lb _) (zBW h c1 hu c2 ac) (y9 h hu).nd;simp![k8 (qs:=nx N) (g:=pD) (i:=u) (by omega),eq];refine Wl h c1 hu c2 rfl λlQ Jn=>?_;simp!;exact⟨_,_,rfl,Jn⟩
    .simp![Int.zero_add,au,c1,c2]
     exact⟨_,_,rfl,i3⟩
   .simp![Int.zero_add,au,c1]
    exact⟨_,_,rfl,i3⟩
  .rintro _ ⟨ub,o10,rfl,i3⟩
   simp!;exact⟨_,_,_,_,rfl⟩
 .rintro _ ⟨o7,o8,o9,o10,rfl⟩
  simp!
theorem zBZ(ns:Qa Int)(hl:ns.length<=63):∃ outs,vL [.d<|.list<|ns.map .int]=some (.d<|.bool true,outs):=⟨_,zU<|zDK ns hl⟩
abbrev K8(K:qe):Sp:=rX K 1 vL
theorem all_mk{l:PySem.W.OpenLaw}{fa:Qg}(X:K.In h)(G:h.Ns mainGlobals mg)(hfa:mg "law"=some (.ref fa)){jM:Tok}{bH mO bA gJ:Qg}{ki uH pN qH:Qb Qg}{cU gH:Array Qc}{ic sA:Nat}{j8 uD pJ:Array (Qb Qc)}{pO pS p7 pK jJ p8:Qc}
  (a0:bK K "is_number" Pc)
  (a1:bK K "common_factor" Qt)
  (a2:bK K "is_fraction" PY)
  (a3:bK K "fraction" OM)
  (a4:bK K "powers_plus" PX)
  (a5:bK K "settled" Ou)
  (a6:bK K "form_sum" OL)
  (a7:bK K "number_by_powers" Rt)
  (a8:bK K "letter_by_powers" Rr)
  (a9:bK K "times_by_powers" Q8)
  (TM:bK K "fractions_of" QM)
  (TL:bK K "is_place" OK)
  (TJ:bK K "mix_degree" PM)
  (TH:bK K "times_degree" QL)
  (TF:bK K "node_degree" PV)
  (TC:bK K "degrees" Ot)
  (TB:bK K "mix_form" OJ)
  (Tz:bK K "node_forms" PJ)
  (Tx:bK K "share" Mj)
  (Tw:bK K "border" NK)
  (Tv:bK K "_law_box" Pb)
  (Tu:bK K "_law_take" PH)
  (Ts:bK K "_law_names" PU)
  (Tr:bK K "_law_fraction" Rg)
  (Tq:bK K "_law_plus" PF)
  (Tp:bK K "_law_times" Qr)
  (To:bK K "_law_poly_add" Rf)
  (Tn:bK K "_law_poly_mult" Q7)
  (Tj:bK K "_law_poly_letter" Ro)
  (Ti:bK K "_law_number" QK)
  (Th:bK K "_law_factor" QH)
  (Tg:bK K "_law_mix" Pa)
  (Tf:bK K "_law_nodes" Qq)
  (Te:bK K "_law_high" PD)
  (Td:bK K "_law_top" O9)
  (Tc:bK K "_law_net" O8)
  (Tb:bK K "_law_scaled" QD)
  (Ta:bK K "_law_net_polys" Q6)
  (S9:bK K "_law_border" QC)
  (S8:bK K "_law_whole" Qp)
  (S7:bK K "_law_told_shares" Rn)
  (S6:bK K "_law_summed" QB)
  (S5:bK K "_law_parts" Qo)
  (S4:bK K "law" Kt)
  (z0:PySem.W.nsIn K mainGlobals "isinstance"=some none)
  (z1:PySem.W.nsIn K mainGlobals "int"=some none)
  (z2:PySem.W.nsIn K mainGlobals "bool"=some none)
  (z3:PySem.W.nsIn K mainGlobals "tuple"=some none)
  (z4:PySem.W.nsIn K mainGlobals "len"=some none)
  (z5:PySem.W.nsIn K mainGlobals "abs"=some none)
  (z6:PySem.W.nsIn K mainGlobals "zip"=some none)
  (z7:PySem.W.nsIn K mainGlobals "max"=some none)
  (z8:PySem.W.nsIn K mainGlobals "sorted"=some none)
  (z9:PySem.W.nsIn K mainGlobals "enumerate"=some none)
  (Iq:PySem.W.nsIn K mainGlobals "range"=some none)
  (Ip:PySem.W.nsIn K mainGlobals "dict"=some none)
  (Io:PySem.W.nsIn K mainGlobals "list"=some none)
  (Im:PySem.W.nsIn K mainGlobals "all"=some none)
  (Ir:Ii K Rw RV=true)
  (jb:PySem.W.nsIn K mainGlobals "ROOM"=some (some<|.int 256 jM))
  (fK:PySem.W.nsIn K mainGlobals "NOUGHT"=some (some<|.ref bH))
  (fH:K.lookup bH=some ⟨.type "tuple",ki,.seq cU ic,j8⟩)
  (fC:zW [.int<|0,.int<|1] cU.toList)
  (fB:cU.size<=sizeLine)
  (mL:PySem.W.nsIn K mainGlobals "ONE"=some (some<|.ref mO))
  (l8:K.lookup mO=some ⟨.type "tuple",uH,.seq gH sA,uD⟩)
  (lP:zW [.int<|1,.int<|1] gH.toList)
  (lO:gH.size<=sizeLine)
  (gL:PySem.W.nsIn K mainGlobals "Form"=some (some<|.ref bA))
  (iZ:PySem.W.keepIn K (.ref bA)=true)
  (iW:PySem.W.makesIn K bA=true)
  (e8:PySem.W.plainGet K bA Str.empty=true)
  (fe:PySem.W.hasDictIn K bA=true)
  (eZ:PySem.W.plainOver K bA=true)
  (eY:PySem.W.findIn K (.ref bA) "__setattr__"=some (some<|.builtin "object.__setattr__"))
  (be:PySem.W.findIn K (.ref bA) "numbers"=some none)
  (bf:PySem.W.findIn K (.ref bA) "beneath"=some none)
  (bS:PySem.W.findIn K (.ref bA) "room"=some none)
  (i0:PySem.W.findIn K (.ref bA) "__init__"=some (some<|.ref gJ))
  (iY:K.lookup gJ=some ⟨pO,pN,.func<|PySem.W.fnOf "__init__" "Form.__init__" (ui yh) (lL yh) (fU yh) .none pS p7 pK qH jJ p8,pJ⟩)
  (ja:PySem.W.codeIn K jJ "Form.__init__"=true)
  (gG:PySem.W.keepIn K (.ref gJ)=true)
  (gI:PySem.W.isFn K (.ref gJ)=true)
  : ∃ fd:FuncData,(∀ (s:Qd) (v:Qc),BindsTo s fd ⟨[v],[]⟩ [("_law_script",v)])/\∀ base:Heap,K.In base->base.Ns mainGlobals mg->cL l.prog w K mg base jg 9 fa fd ["_law_script"] (rX K 1 vL):=by
 have(_,fd,F,g):=S4;cases hfa.symm.trans (Ą X G g);refine⟨fd,λs v=>by have(_,_,_,_,_,_,_,_,_,rfl,_):=F.ex; exact .of_eq rfl,λbase _ _=>?_⟩;have hB:Bl mg ["isinstance", "int", "bool", "tuple", "len", "abs", "zip", "max", "sorted", "enumerate", "range", "dict", "list", "all"]:=Bl.cons (Ê X G z0) (Bl.cons (Ê X G z1)<|Bl.cons (Ê X G z2)<|Bl.cons (Ê X G z3)<|Bl.cons (Ê X G z4)<|Bl.cons (Ê X G z5)<|Bl.cons (Ê X G z6)<|Bl.cons (Ê X G z7)<|Bl.cons (Ê X G z8)<|Bl.cons (Ê X G z9)<|Bl.cons (Ê X G Iq)<|Bl.cons (Ê X G Ip)<|Bl.cons (Ê X G Io)<|Bl.cons (Ê X G Im)<|Bl.nil);have hT:=zDb Ir;have dD:=Ą X G jb;have bJ:=Ą X G fK;have bq:nZ K bH [0,1]:=⟨_,cU,ic,fH,rfl,rfl,fB,fC⟩;have mD:=Ą X G mL;have i7:nZ K mO [1,1]:=⟨_,gH,sA,l8,rfl,rfl,lO,lP⟩;have vf:=Ą X G gL;have mP:=LP (st:=yh) iY ja gG;have aj:vp l.prog w K mg base "Form" bA ["numbers", "beneath", "room"]:=⟨gL,⟨e8,fe,eZ,eY⟩,na3 be bf bS,vf,_,_,["self", "numbers", "beneath", "room"],⟨iW,i0,gI,iZ⟩,mP.binds (λ_ _ _ _ _ _ us hl=>by have(_,_,_,_,rfl):=Rx hl; rfl),mP.ok (k:=0) Xo (λvs H Q E h=>Wh h) λbT A outer s H vs Q E hr nM=>⟨_,G7 (Ga (pv 0) (pv 1) rfl)<|G7 (Ga (pv 0) (pv 2) rfl)<|ML<|Ga (pv 0) (pv 3) rfl,Yr ⟨e8,fe,eZ,eY⟩ be bf bS (by decide) (by decide) (by decide) nM⟩⟩
 let Z:Zs:=⟨l.prog,w,K,mg,base⟩
 have B:Bs Z:=⟨hB,hT,⟨_,dD⟩,⟨_,bJ,bq⟩,⟨_,mD,i7⟩,⟨_,aj⟩⟩;have C0:=znF B (a0.z X G);have C1:=zil B (a1.z X G);have C2:=zkc B (a2.z X G) C0 C1;have C3:=zpa B (a3.z X G) C1;have C4:=zka B (a4.z X G);have C5:=zr0 B (a5.z X G) C1;have C6:=zpc B (a6.z X G) C1 C5;have C7:=zgh B (a7.z X G) C5;have C8:=zgg B (a8.z X G);have C9:=zg1 B (a9.z X G) C4 C5;have C10:=zjC B (TM.z X G) C3;have Ke:=zpb B (TL.z X G) C0;have C12:=zl5 B (TJ.z X G) C2 Ke;have C13:=zjD B (TH.z X G) Ke;have C14:=zkf B (TF.z X G) Ke C12 C13;have C15:=zr1 B (TC.z X G) C14;have T6:=zpd B (TB.z X G) C6 C7;have C17:=zl6 B (Tz.z X G) C8 C9 T6;have C18:=Wa B (Tx.z X G) C7 C9 C10 T6 C17;have C19:=Xn B (Tw.z X G) C15;have C20:=znG B (Tv.z X G);have vw:=zl2 B (Tu.z X G);have C22:=zkd B (Ts.z X G) vw;have Kd:=zhx B (Tr.z X G);have T5:=zl4 B (Tq.z X G) Kd;have T4:=zke B (Tp.z X G) Kd;have Kc:=zhy B (To.z X G) T5;have Kb:=zg0 B (Tn.z X G) T5 T4;have C28:=zfo B (Tj.z X G);have T3:=zjB B (Ti.z X G) vw Kd;have C30:=zjE B (Th.z X G) T3;have C31:=znI B (Tg.z X G) vw C30;have Ka:=zl3 B (Te.z X G);have C32:=zkh B (Tf.z X G) vw C31 Ka;have C34:=znH B (Td.z X G) vw T3 Ka;have C35:=znL B (Tc.z X G) vw C32 C34;have C36:=zjF B (Tb.z X G) T4;have C37:=zg2 B (Ta.z X G) Kc Kb C28 C36;have C38:=zjx B (S9.z X G);have C39:=zkb B (S8.z X G);have C40:=zfp B (S7.z X G) C18;have C41:=zjI B (S6.z X G) Kc Kb;have C42:=zkg B (S5.z X G) Kc Kb;exact zBG (Z:=Z) B F C19 C20 vw C22 Ka C35 C37 C38 C39 C40 C41 C42
theorem walk{l:PySem.W.OpenLaw}{q:Qe}{loose:Qa Str}{XP:(Str->Qb Qc)->Heap->Prop}{YP:Qh->Heap->Prop}{d:DefRec}{K:Params->qe}(hn:l.most=some 63)(Av:d.params.defaults=[])
  (hY:∀ (w:Qh) (h:Heap),YP w h->(K w.params).In h)
  (F:∀ (w:Qh) (mg:Str->Qb Qc) (fa:Qg) (h:Heap),(K w.params).In h->h.Ns mainGlobals mg->mg d.name=some (.ref fa)->
   ∃ fd:FuncData,(∀ (s:Qd) (u:Qc),BindsTo s fd ⟨[u],[]⟩ [("_law_script",u)])/\∀ base:Heap,(K w.params).In base->base.Ns mainGlobals mg->cL l.prog w (K w.params) mg base jg 9 fa fd ["_law_script"] (K8<|K w.params)):
  PySem.W.WalkO q loose XP YP l.row.toRowW d [] (λf vs=>PySem.call f vs):=
 L2.pG (n:=63) (k:=9) (x := "_law_script") (CX:=λ_=>jg) (sp:=λw=>K8<|K w.params) hn (by decide) Av ⟨rfl,by decide,by decide,rfl⟩ hY F (λw H a ns hl hO hS=>zAJ hO hS<|zBZ ns hl) λ_ _ _ _ _ z=>z
end K35
namespace PySem.W.Fast
def tw362492746287111776:=()
def tw9519858537907008965:=()
def tw10543553967643721812:=()
def tw15385433637356076589:=()
def tw6101615699326769639:=()
def tw18145409963317749467:=()
def tw8911043882820575489:=()
def tw7629895943144064020:=()
def tw5259438563592465600:=()
def tw6597430218158650184:=()
def tw10868980420239026111:=()
def tw1966623203448353364:=()
def tw8972671545147791067:=()
def tw1743449907748840308:=()
def tw1325408709672267221:=()
def tw10371348897335160692:=()
def tw8643229825994011987:=()
def tw9202162856711177933:=()
def tw8732668984428812185:=()
def tw16164636965811489941:=()
def tw10030902923434469272:=()
def tw10788578797629174517:=()
def tw6099035498294992674:=()
def tw2112566125622154232:=()
def tw10646203641210288871:=()
def tw8903673819111622752:=()
def tw14659696236739928904:=()
def tw10958428545777843267:=()
def tw2148633874238188425:=()
def tw2267516856807191216:=()
def tw13396195152453597413:=()
def tw9315885347485946661:=()
def tw14724506199552522063:=()
def tw10782372261808767930:=()
def tw15980736957287288115:=()
def tw2102139875364098345:=()
def tw6640087719264440234:=()
def tw9297916449954665717:=()
def tw4425046641743864236:=()
def tw17098829279448496673:=()
def tw15602261844338620407:=()
def tw17824153705601764002:=()
def tw8226176812841473361:=()
def tw1020533795272240216:=()
def tw12547038056606150575:=()
def tw11610922983086277679:=()
def tw2707926552284669200:=()
def tw1798328063106953566:=()
def tw12219832779332111876:=()
def tw1056646169383229300:=()
def tw14015626690714819296:=()
def tw10644495891397094486:=()
def tw226934600339010361:=()
def tw13115051209708064470:=()
def tw514443192345568301:=()
def tw12758404576739156787:=()
def tw748723346417273336:=()
def tw17214003535285611334:=()
def tw5795936125734298089:=()
def tw15954201237577945223:=()
def tw15260458327155453890:=()
def tw7365379922621040593:=()
def tw10409520683066730705:=()
def tw10301580290470103769:=()
def tw5673427012810543200:=()
def tw301579447900433240:=()
def tw78185813239347587:=()
def tw18276341634337688324:=()
def tw7380885415610835005:=()
def tw5749490184383130489:=()
def tw17800091017509745734:=()
def tw3347302020344879699:=()
def tw17662454473271633273:=()
def tw10655827313348085681:=()
def tw12193542951640092211:=()
def tw10565553557577173910:=()
def tw3640065108314701678:=()
def tw2555640399651364122:=()
def tw6848642648330072581:=()
def tw3381900694300040055:=()
def tw13641639841779905363:=()
def tw13678876081466535590:=()
def tw7490179963490737195:=()
def tw6949762690648985207:=()
def tw1544388910661121730:=()
def tw10223879262259655845:=()
def tw8965024995026416349:=()
def tw16138443056093779515:=()
def tw7210568508971007269:=()
def tw3896311097129026624:=()
def tw7062399391146907493:=()
def tw9094586447259055897:=()
def tw7504180092796042569:=()
def tw13559248625532166035:=()
def tw11508773756395829704:=()
def tw18274617173993592592:=()
def tw7088740081888709824:=()
def tw18143356585793424250:=()
def tw4258089998753145183:=()
def tw1335113673905742241:=()
def tw4867642485724788529:=()
def tw14171694924444831514:=()
def tw17076633820111005044:=()
def tw540101532020644080:=()
def tw6993711264722052306:=()
def tw17914629422906502426:=()
def tw10103542793996888570:=()
def tw17874046993655077954:=()
def tw11397588293324253346:=()
def tw2279072712983778045:=()
def tw5730320905899269991:=()
def tw8034646648056376710:=()
def tw14188733953151721088:=()
def tw14018639247386608153:=()
def tw15990420891735333458:=()
def tw2872931562450930216:=()
def tw4798495482109637754:=()
def tw15395626164732141840:=()
def tw9097102368100236909:=()
def tw11558399304099736142:=()
def tw5091376346735627893:=()
def tw14912395570866690707:=()
def tw10801233040350377144:=()
def tw5649326693923883088:=()
def tw10027344501782174037:=()
def tw6304944194418795889:=()
def tw7195312326188498045:=()
def tw5012417333301817371:=()
def tw2863303175539087763:=()
def tw5150361347033468023:=()
def tw11229119232108882754:=()
def tw8820266389179076182:=()
def tw12444146273690531245:=()
def tw8288771148131823363:=()
def tw10382440141888228691:=()
def tw12457137579419149550:=()
def tw888016839950628652:=()
def tw9447113146089118537:=()
def tw13206311478729508054:=()
def tw7565742569707582354:=()
def tw7600056654309033902:=()
def tw16387338196947481344:=()
def tw9550096788503080180:=()
def tw10512819338384018498:=()
def tw18271482738728706081:=()
def tw15414160109518518536:=()
def tw9515395278665718379:=()
def tw472379812975607923:=()
def tw6689944470621647971:=()
def tw7944259665570690742:=()
def tw16667737817574826476:=()
def tw9535426925322391214:=()
def tw7668453457122384217:=()
def tw353205802933416287:=()
def tw17689847017095954589:=()
def tw11255285467377713921:=()
def tw9749291757933358953:=()
def tw6074473540049405194:=()
def tw3583249648916374152:=()
def tw10643352129371368738:=()
def tw11314889203957113652:=()
def tw2177413541561515727:=()
def tw14693554056709823415:=()
def tw15037382140350050658:=()
def tw4291714074231861687:=()
def tw15076395496586212677:=()
def tw4183520847710892145:=()
def tw16313157719534844878:=()
def tw4881668564373574870:=()
def tw16275234168080718267:=()
def tw9249349023682922164:=()
def tw9718840543017748340:=()
def tw5547373849761959604:=()
def tw5744990991239689384:=()
def tw6516256299242351343:=()
def tw15368497188116378496:=()
def tw13323366861431958803:=()
def tw4851613878987876980:=()
def tw15093168560271374070:=()
def tw7778411780604660573:=()
def tw108127222247952408:=()
def tw13035042244294653604:=()
def tw3871252837039930087:=()
def tw16848131200449159799:=()
def tw8401230884873248965:=()
def tw9075475562700170494:=()
def tw6866502716911968466:=()
def tw3235611420356303046:=()
def tw16756597283591192397:=()
def tw14218416100565466715:=()
def tw13880837440227785179:=()
def tw2257348903507699710:=()
def tw6412562116985869550:=()
def tw17239621676084071695:=()
def tw2302322325824889745:=()
def tw6380861106514964666:=()
def tw1268842651358346357:=()
def tw7018334593618658101:=()
def tw1825416734413723509:=()
def tw6796203520667281236:=()
def tw11258131276953381611:=()
end PySem.W.Fast
open PySem PySem.W PyProof.Rows
set_option maxRecDepth 100000 in
set_option maxHeartbeats 0 in
theorem PySem.Challenge.cw_undivide_k35_whole_borders_holds : PySem.Challenge.rw_undivide_k35_whole_borders.Holds := by
 w_on; o_law; k_head; (case hw=>w_witness2)
 k_fill
 refine K35.walk (l:=PySem.Challenge.rw_undivide_k35_whole_borders) rfl rfl (λw h Y=>PySem.W.kIn_of Y) ?F
 case F=>
  intro w mg fa h KX G Ak;refine' K35.all_mk KX G Ak ?a0 ?a1 ?a2 ?a3 ?a4 ?a5 ?a6 ?a7 ?a8 ?a9 ?TM ?TL ?TJ ?TH ?TF ?TC ?TB ?Tz ?Tx ?Tw ?Tv ?Tu ?Ts ?Tr ?Tq ?Tp ?To ?Tn ?Tj ?Ti ?Th ?Tg ?Tf ?Te ?Td ?Tc ?Tb ?Ta ?S9 ?S8 ?S7 ?S6 ?S5 ?S4 ?z0 ?z1 ?z2 ?z3 ?z4 ?z5 ?z6 ?z7 ?z8 ?z9 ?Iq ?Ip ?Io ?Im ?Ir ?jb ?fK ?fH ?fC ?fB ?mL ?l8 ?lP ?lO ?gL ?iZ ?iW ?e8 ?fe ?eZ ?eY ?be ?bf ?bS ?i0 ?iY ?ja ?gG ?gI
  any_goals (refine' L2.fnK ?_ ?_ ?_ ?_<;>try k_is)
  (case z0=>k_is)
  (case z1=>k_is)
  (case z2=>k_is)
  (case z3=>k_is)
  (case z4=>k_is)
  (case z5=>k_is)
  (case z6=>k_is)
  (case z7=>k_is)
  (case z8=>k_is)
  (case z9=>k_is)
  (case Iq=>k_is)
  (case Ip=>k_is)
  (case Io=>k_is)
  (case Im=>k_is)
  (case Ir=>kernel_rfl)
  (case jb=>k_is)
  (case fK=>k_is)
  (case fH=>k_is)
  (case fC=>(repeat (first|exact .nil|refine .cons ⟨_,rfl⟩ ?_)))
  (case fB=>exact by decide)
  (case mL=>k_is)
  (case l8=>k_is)
  (case lP=>(repeat (first|exact .nil|refine .cons ⟨_,rfl⟩ ?_)))
  (case lO=>exact by decide)
  (case gL=>k_is)
  (case iZ=>k_is)
  (case iW=>k_is)
  (case e8=>k_is)
  (case fe=>k_is)
  (case eZ=>k_is)
  (case eY=>k_is)
  (case be=>k_is)
  (case bf=>k_is)
  (case bS=>k_is)
  (case i0=>k_is)
  (case iY=>k_is)
  (case ja=>k_is)
  (case gG=>k_is)
  (case gI=>k_is)
