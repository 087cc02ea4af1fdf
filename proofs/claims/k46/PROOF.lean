import PyProof.Rows.All
import Wide.All
import OpenK.AllK
import Wide.FinOn
import Lean
import PyProof.EqAt
import PyProof.EqKinds
import PyProof.TupleCall
import PySem.Challenge.RW_undivide_k46_whole_tables_of_webs
set_option Elab.async false
set_option linter.all false
set_option maxRecDepth 100000
set_option compiler.extract_closed false
local macro_rules | `(tactic| omega)=> `(tactic| lia)
noncomputable section
open Lean in
local macro_rules|`(tactic|have($a,$b,*):=$e)=>do
 let p<-(#[a]++b.getElems).mapM λx=>match x with|`($i:ident)=>`(Parser.Tactic.rcasesPatLo|$i:ident)|_=>`(Parser.Tactic.rcasesPatLo|_)
 `(tactic|obtain⟨$p,*⟩:=$e)
namespace L2
open PySem PySem.Spec PyProof.Rows
abbrev À.{u,v}:=@List.mem_map.{u,v}
abbrev Á:=@List.mem_range
abbrev Â:=@PyProof.Rows.boot_tuple
abbrev Ã.{u,v}:=@List.map_congr_left.{u,v}
abbrev Ä:=@Nat.lt_of_le_of_lt
abbrev Å:=@PySem.boot_len
abbrev Æ.{u}:=@List.mem_of_getElem?.{u}
abbrev Ç:=@Nat.pow_le_pow_right
abbrev È:=@Nat.mul_le_mul_right
abbrev É:=@Nat.zero_le
abbrev Ê:=@PyProof.Rows.boot_isinstance
abbrev Ë:=@PySem.W.mg_none_of
abbrev Ì.{u}:=@List.mem_append.{u}
abbrev Í:=@Nat.lt_irrefl
abbrev Î.{u}:=@List.pairwise_cons.{u}
abbrev Ï:=@PySem.W.kia_one
abbrev Ð:=@PySem.F.slot_dict_itemiterator_next
abbrev Ñ:=@PySem.Heap.SameBut.update
abbrev Ò.{u}:=@List.mem_filter.{u}
abbrev Ó:=@PyProof.Rows.callWith_type1
abbrev Ô:=@PySem.F.slot_dict_valueiterator_next
abbrev Õ:=@Nat.lt_succ_self
abbrev Ö:=@Int.le_of_lt
abbrev Ø:=@Int.le_refl
abbrev Ù:=@Int.mul_pos
abbrev Ú:=@PySem.F.slot_dict_keyiterator_next
abbrev Û.{u}:=@List.nodup_cons.{u}
abbrev Ü.{u}:=@List.mem_append_left.{u}
abbrev Ý:=@PySem.F.slot_list_append
abbrev Þ:=@PySem.F.type_list_append
abbrev ß:=@Int.emod_nonneg
abbrev à:=@Nat.lt_succ_of_lt
abbrev á.{u,v}:=@List.pairwise_map.{u,v}
abbrev â:=@PySem.F.plainAttrs_list
abbrev ã.{u}:=@List.nodup_nil.{u}
abbrev ä.{u}:=@List.all_eq_true.{u}
abbrev å:=@PySem.Calls.callWith_builtin
abbrev æ:=@Nat.lt_trans
abbrev ç:=@Int.dvd_gcd_mul_iff_dvd_mul
abbrev è:=@Int.emod_lt_of_pos
abbrev é:=@PySem.Heap.get?_update_self
abbrev ê:=@PyProof.Rows.boot_int
abbrev ë.{u}:=@List.pairwise_iff_getElem.{u}
abbrev ì.{u}:=@List.any_eq_true.{u}
abbrev í:=@Int.mul_ediv_cancel_left
abbrev î:=@PySem.mem_of_lookup
abbrev ï.{u}:=@List.Nodup.length_le_of_subset.{u}
abbrev ð:=@Nat.le_succ
abbrev ñ:=@PySem.Heap.get?_update_other
abbrev ò.{u}:=@List.getElem?_set_self.{u}
abbrev ó:=@Nat.pow_pos
abbrev ô:=@PySem.Obj.isFreed_of_fields
abbrev õ:=@Int.le_trans
abbrev ö.{u}:=@List.length_filter_le.{u}
abbrev ø:=@Int.gcd_pos_of_ne_zero_right
abbrev ù:=@Nat.mul_le_mul
abbrev ú:=@PyProof.Rows.boot_abs
abbrev û:=@PyProof.Rows.boot_max
abbrev ü:=@Int.eq_of_mul_eq_mul_right
abbrev ý:=@PySem.W.mg_of
abbrev þ:=@Nat.le_of_eq
abbrev ÿ:=@PySem.Obj.data_mapFields
abbrev Qa.{u}:=@List.{u}
abbrev Qb.{u}:=@Option.{u}
abbrev Qc:=Value
abbrev Qd:=Shared
abbrev Qe:=Program
abbrev Qf:=Around
abbrev Qg:=Addr
abbrev Qh:=World
abbrev qa:=@wpAny_bind
abbrev qb:=@wpAny_pure
abbrev qc:=PySem.W.Frag
abbrev qd:=@Heap.get?_push_of_some
abbrev qe:=@Nat.le_refl
abbrev qf:=@Bool.false_ne_true
abbrev qg:=@Heap.get?_push_size
abbrev qh:=@Heap.lt_size
abbrev qi:=@Nat.lt_of_lt_of_le
abbrev qj:=@Nat.ne_of_lt
abbrev qk.{u}:=@List.getElem?_eq_some_iff.{u}
abbrev ql.{u}:=@List.getElem?_eq_getElem.{u}
abbrev qm.{u}:=@List.mem_cons_of_mem.{u}
abbrev qo.{u}:=@List.mem_cons_self.{u}
abbrev qp.{u}:=@List.mem_singleton.{u}
abbrev qq.{u,v}:=@Option.map_eq_some_iff.{u,v}
abbrev qr.{u}:=@List.length_append.{u}
abbrev qt.{u}:=@List.length_cons.{u}
abbrev qu.{u}:=@List.mem_cons.{u}
abbrev qv.{u}:=@List.mem_append_right.{u}
abbrev qw.{u}:=@Option.some.inj.{u}
abbrev qx:=@Nat.le_trans
abbrev qy:=@wpAny_newObj_type
abbrev qA.{u}:=@List.getD_eq_getElem?_getD.{u}
abbrev qB.{u}:=@List.getElem?_set_ne.{u}
abbrev Key:=Sum Int Str
def ux:Key->Qc->Bool
 | .inl k,v=>Value.isInt k v
 | .inr x,v=>Value.isStrOf x v
def OX(w:Qh):Key->Int
 | .inl k=>hashInt k
 | .inr x=>hashStr w x
theorem n6:∀ {k:Key} {v:Qc},ux k v=true->(∃ i t,k=Sum.inl i/\v=Value.int i t)\/(∃ x t,k=Sum.inr x/\v=Value.str x t)
 | .inl i,v,h=>by
  have(t,e):=Value.isInt_shape (k:=i) (v:=v) h;exact .inl ⟨i,t,rfl,e⟩
 | .inr x,v,h=>by
  have(t,e):=Value.isStrOf_shape (x:=x) (v:=v) h;exact .inr ⟨x,t,rfl,e⟩
theorem YW(i:Int)(t:Tok):ux (.inl i) (.int i t)=true:=by simp[ux,Value.isInt]
theorem YV(x:Str)(t:Tok):ux (.inr x) (.str x t)=true:=by simp[ux,Value.isStrOf]
theorem Tf(a b:Int):decide ((Sum.inl a:Key)=Sum.inl b)=(a==b):=by
 by_cases e:a=b
 .subst e; simp
 .have h:¬(Sum.inl a:Key)=Sum.inl b:=λq=>e<|Sum.inl.inj q
  rw[decide_eq_false h];exact(beq_eq_false_iff_ne.mpr e).symm
theorem Te(a b:Str):decide ((Sum.inr a:Key)=Sum.inr b)=decide (a=b):=by
 by_cases e:a=b
 .subst e; simp
 .have h:¬(Sum.inr a:Key)=Sum.inr b:=λq=>e<|Sum.inr.inj q
  rw[decide_eq_false h,decide_eq_false e]
theorem Td(a:Int)(b:Str):decide ((Sum.inl a:Key)=Sum.inr b)=false:=decide_eq_false (λq=>nomatch q)
theorem Tc(a:Str)(b:Int):decide ((Sum.inr a:Key)=Sum.inl b)=false:=decide_eq_false (λq=>nomatch q)
def zW(prog:Qe)(w:Qh):PySem.KeyKind prog w Key where
 is:=ux
 hash:=OX w
 inj:=λv a b ha hb=>by
  rcases n6 ha with⟨i,t,rfl,rfl⟩|⟨x,t,rfl,rfl⟩
  .rcases n6 hb with⟨j,u,rfl,e⟩|⟨y,u,rfl,e⟩
   .injection e with e1 _; rw[e1]
   .exact nomatch e
  .rcases n6 hb with⟨j,u,rfl,e⟩|⟨y,u,rfl,e⟩
   .exact nomatch e
   .injection e with e1 _; rw[e1]
 byValue:=λk v h=>by
  rcases n6 h with⟨i,t,rfl,rfl⟩|⟨x,t,rfl,rfl⟩<;>rfl
 pyHash:=λhv h=>by
  rcases n6 hv with⟨i,t,rfl,rfl⟩|⟨x,t,rfl,rfl⟩
  .exact wpAny_pyHash_int h
  .exact wpAny_pyHash_str h
 eqBool:=λhu hv h=>by
  rcases n6 hu with⟨i,t,rfl,rfl⟩|⟨x,t,rfl,rfl⟩
  .rcases n6 hv with⟨j,u,rfl,rfl⟩|⟨y,u,rfl,rfl⟩
   .rw[Tf]at h; exact wpAny_eqBool_int h
   .rw[Td]at h; exact SeqAt.EqAt.int_str i t y u _ _ _ _ h
  .rcases n6 hv with⟨j,u,rfl,rfl⟩|⟨y,u,rfl,rfl⟩
   .rw[Tc]at h; exact SeqAt.EqAt.str_int x t j u _ _ _ _ h
   .rw[Te]at h; exact wpAny_eqBool_str h
 «strs»:=λk x t v h=>by
  rcases n6 h with⟨i,u,rfl,e⟩|⟨y,u,rfl,e⟩
  .exact nomatch e
  .injection e with e1 _
   subst e1;cases v<;>rfl
theorem zkR(prog:Qe)(w:Qh)(i:Int)(t:Tok):(zW prog w).is (.inl i) (.int i t)=true:=YW i t
theorem zkS(prog:Qe)(w:Qh)(x:Str)(t:Tok):(zW prog w).is (.inr x) (.str x t)=true:=YV x t
inductive V where
 | aI|bl (b:Bool) | int (i:Int) | str (x:Str) | ji (b:Array UInt8) | tV (b:UInt64) | ref (a:Qg) | ty (n:String)
 deriving DecidableEq
def zO:V->Qc->Prop
 | .aI,u=>u=Value.none
 | .bl b,u=>u=Value.bool b
 | .int i,u=>∃ t,u=Value.int i t
 | .str x,u=>∃ t,u=Value.str x t
 | .ji b,u=>∃ t,u=Value.bytes b t
 | .tV b,u=>∃ t,u=Value.float b t
 | .ref a,u=>u=Value.ref a
 | .ty n,u=>u=Value.type n
abbrev zM:Qa V->Qa Qc->Prop:=Paired zO
theorem zM.length{xs:Qa V}{us:Qa Qc}(r:zM xs us):xs.length=us.length:=Paired.length r
theorem zM.get:∀ {xs:Qa V} {us:Qa Qc} {i:Nat} {x:V},zM xs us->xs[i]?=some x->∃ u,us[i]?=some u/\zO x u
 | _,_,_,_,.nil,e=>by simp at e
 | _,_,0,_,.cons r _,e=>by simp at e; subst e; exact⟨_,rfl,r⟩
 | _,_,i+1,x,.cons _ t,e=>by
  have(u,h1,h2):=zM.get (i:=i) (x:=x) t (by simpa using e);exact⟨u,by simpa using h1,h2⟩
theorem zM.set{x:V}{u:Qc}(r:zO x u):∀ {xs:Qa V} {us:Qa Qc} (i:Nat),zM xs us->zM (xs.set i x) (us.set i u)
 | _,_,_,.nil=>.nil
 | _,_,0,.cons _ t=>.cons r t
 | _,_,i+1,.cons q t=>.cons q<|zM.set r i t
theorem zM.append:∀ {xs ys:Qa V} {us ws:Qa Qc},zM xs us->zM ys ws->zM (xs++ys) (us++ws)
 | _,_,_,_,.nil,s=>s
 | _,_,_,_,.cons r t,s=>.cons r<|zM.append t s
theorem zM.take:∀ {xs:Qa V} {us:Qa Qc} (n:Nat),zM xs us->zM (xs.take n) (us.take n)
 | _,_,0,_=>.nil
 | _,_,_+1,.nil=>.nil
 | _,_,n+1,.cons r t=>.cons r<|zM.take n t
theorem zM.drop:∀ {xs:Qa V} {us:Qa Qc} (n:Nat),zM xs us->zM (xs.drop n) (us.drop n)
 | _,_,0,r=>r
 | _,_,_+1,.nil=>.nil
 | _,_,n+1,.cons _ t=>zM.drop n t
def iu:Qb V->Qb Qc->Prop
 | some v,some u=>zO v u
 | none,none=>True
 | _,_=>False
def KV{κ:Type}:Qa (κ×V)->Qa (κ×Qc)->Prop:=Paired λ(p:κ×V) (q:κ×Qc)=>p.1=q.1/\zO p.2 q.2
def kV:Key->V
 | .inl i=>.int i
 | .inr x=>.str x
inductive HO where
 | lst (xs:Qa V)
 | tup (xs:Qa V)
 | dK (kvs:Qa (Key×V)) | dT (kvs:Qa (Qa Key×V))
 | set (S:Int->Bool) (n:Nat)
 | ins (C dx:Qg) (fs:Qa (Str×V))
 | own (x:Qg)
 | xd (fs:Qa (Str×V))
 | met (f x:Qg)
 | sQ (lo hi:Int)
 | aQ (o:Obj) (u:HO)
 | sL (ps:Array Qc)
 | ext (φ:Heap->Prop)
abbrev Hp:=Qg->Qb HO
def upd(H:Hp)(a:Qg)(o:HO):Hp:=λb=>if b=a then some o else H b
theorem zw{H:Hp}{a:Qg}{o:HO}:upd H a o a=some o:=by unfold upd; rw[if_pos rfl]
theorem zy{H:Hp}{a b:Qg}{o:HO}(h:b≠a):upd H a o b=H b:=by unfold upd; rw[if_neg h]
theorem AV{H:Hp}{a:Qg}{o u:HO}:upd (upd H a o) a u=upd H a u:=by
 funext b; unfold upd; split<;>rfl
theorem nB{H:Hp}{a b:Qg}{o u:HO}(h:H a=some o)(h':H b=some u)(d:o≠u):a≠b:=by
 intro e; subst e; rw[h]at h'; exact d<|qw h'
theorem jD{H:Hp}{a b:Qg}{o:HO}(h:H a=some o)(h':H b=none):a≠b:=by
 intro e; subst e; rw[h]at h'; cases h'
def zBV(K:qc)(a:Qg)(xs:Qa V):Prop:=∃ (o:Obj) (ah:Array Qc) (n:Nat),K.lookup a=some o/\o.cls=.type "tuple"/\o.data=.seq ah n/\ah.size<=sizeLine/\zM xs ah.toList/\∃ i r,xs=.int i::r
def aV(K:qc)(H:Hp)(a:Qg)(xs:Qa V):Prop:=H a=some (.tup xs)\/zBV K a xs
theorem aV.keeps{K:qc}{H H':Hp}{a:Qg}{xs:Qa V}(h:aV K H a xs)(ht:∀ b ys,H b=some (.tup ys)->H' b=some (.tup ys)):aV K H' a xs:=h.imp (ht _ _) id
def mE(h:Heap)(a:Qg)(items:Array Qc):Prop:=∃ o,h.get? a=some o/\o.cls=.type "tuple"/\(∃ n,o.data=.seq items n)/\(o.dict=none\/∃ i t r,items.toList=.int i t::r)
theorem mE.tup{h:Heap}{a:Qg}{items:Array Qc}(x:mE h a items):IsTup h a items:=let ⟨o,e,c,d,_⟩:=x; ⟨o,e,c,d⟩
theorem mE.lt{h:Heap}{a:Qg}{items:Array Qc}(x:mE h a items):a < h.objs.size:=x.tup.lt
theorem mE.new(h:Heap)(items:Array Qc):mE (h.push {cls:=.type "tuple",data:=.seq items}) h.objs.size items:=⟨_,qg _ rfl,rfl,⟨_,rfl⟩,.inl rfl⟩
section
variable(P:Qe)(w:Qh)(K:qc)
def bR(H:Hp)(h:Heap)(a:Qg):HO->Prop
 | .lst xs=>xs.length<=sizeLine/\∃ (ah:Qa Qc) (n:Nat),zM xs ah/\h.get? a=some {cls:=.type "list",data:=.seq ah.toArray n}
 | .tup xs=>xs.length<=sizeLine/\∃ ah:Qa Qc,zM xs ah/\mE h a ah.toArray
 | .dK kvs=>kvs.length<=sizeLine/\(a==sysModules)=false/\∃ vs,KV kvs vs/\h.DictOf (zW P w) a vs
 | .dT kvs=>kvs.length<=sizeLine/\(a==sysModules)=false/\∃ xs:Qa (Qa Key×Qg×Qc),
   Paired (λ(p:Qa Key×V) (q:Qa Key×Qg×Qc)=>p.1=q.1/\aV K H q.2.1 (p.1.map kV)/\zO p.2 q.2.2) kvs xs/\
   ∃ o es ep,h.get? a=some o/\o.ExactDict/\o.data=.dict es ep/\es.toList=xs.map (entryOfKey<|tupleKind<|zW P w)/\(xs.map (·.1)).Nodup
 | .set S n=>h.SetOf (intKind P w) a S n
 | .ins C dx fs=>H dx=some (.own a)/\fs.length<=1000/\dx≠a/\h.get? a=some (PySem.W.instObj C dx)/\
   ∃ mA,h.Ns1 dx mA/\(∀ f,iu (fs.lookup f)<|mA f)/\PySem.Within mA (fs.map (·.1))
 | .own _=>∃ o,h.get? a=some o
 | .xd fs=>∃ mA,h.Ns1 a mA/\∀ f,iu (fs.lookup f)<|mA f
 | .sQ lo hi=>∃ t u v,h.get? a=some {cls:=.type "range",data:=.fields #[.int lo t,.int hi u,.int 1 v]}
 | .aQ o u=>h.get? a=some o/\bR H h a u
 | .sL ps=>h.get? a=some {cls:=.none,data:=.fields ps}
 | .met f x=>h.get? a=some (PySem.W.methodObj (.ref f)<|.ref x)
 | .ext φ=>φ h/\(∃ o,h.get? a=some o)/\∀ h1 h2:Heap,φ h1->(∀ o,h1.get? a=some o->h2.get? a=some o)->φ h2
def cu(H:Hp)(h:Heap):Prop:=∀ a o,H a=some o->bR P w K H h a o
end
section
variable{P:Qe}{w:Qh}{K:qc}{H H':Hp}{h h':Heap}{a:Qg}{o:HO}
theorem bR.lt(x:bR P w K H h a o):a < h.objs.size:=by
 cases o with
 | lst xs=>have(_,_,_,_,e):=x; exact qh e
 | tup xs=>have(_,_,_,p):=x; exact p.lt
 | dK kvs=>have(_,_,_,_,o,_,_,e,_):=x; exact qh e
 | dT kvs=>have(_,_,_,_,o,_,_,e,_):=x; exact qh e
 | set S n=>have(o,_,_,_,e,_):=x; exact qh e
 | ins C dx fs=>have(_,_,_,e,_):=x; exact qh e
 | own y=>have(_,e):=x; exact qh e
 | xd fs=>obtain⟨_,⟨_,_,_,e,_⟩,_⟩:=x; exact qh e
 | sQ lo hi=>have(_,_,_,e):=x; exact qh e
 | aQ ob u=>have(e,_):=x; exact qh e
 | sL ps=>exact qh (show h.get? a=some _ from x)
 | met f y=>exact qh (show h.get? a=some _ from x)
 | ext φ=>obtain⟨_,⟨_,e⟩,_⟩:=x; exact qh e
theorem Paired.oE{α β:Type}{F G:α->β->Prop}:∀ {xA:Qa α} {l₂:Qa β},Paired F xA l₂->(∀ a b,F a b->G a b)->Paired G xA l₂
 | _,_,.nil,_=>.nil
 | _,_,.cons r t,f=>.cons (f _ _ r)<|Paired.oE t f
theorem bR.cK(x:bR P w K H h a o)(k:∀ b u,(b=a\/H b=some (.own a))->h.get? b=some u->h'.get? b=some u)
  (ho:∀ b,H b=some (.own a)->H' b=some (.own a)) (ht:∀ b xs,H b=some (.tup xs)->H' b=some (.tup xs)):bR P w K H' h' a o:=by
 induction o with
 | lst xs=>have(z,ah,n,r,e):=x; exact⟨z,ah,n,r,k _ _ (.inl rfl) e⟩
 | tup xs=>have(z,ah,r,ob,e,c):=x; exact⟨z,ah,r,ob,k _ _ (.inl rfl) e,c⟩
 | dK kvs=>have(z,y,vs,r,ob,es,ep,e,c):=x; exact⟨z,y,vs,r,ob,es,ep,k _ _ (.inl rfl) e,c⟩
 | dT kvs=>
  have(z,y,xs,r,ob,es,ep,e,c):=x;exact⟨z,y,xs,Paired.oE r λp q z=>⟨z.1,z.2.1.keeps ht,z.2.2⟩,ob,es,ep,k _ _ (.inl rfl) e,c⟩
 | set S n=>have(ob,es,ep,t,e,c):=x; exact⟨ob,es,ep,t,k _ _ (.inl rfl) e,c⟩
 | ins C dx fs=>
  obtain⟨d,z,ne,e,mA,⟨od,es,ep,e2,c⟩,r⟩:=x;exact⟨ho _ d,z,ne,k _ _ (.inl rfl) e,mA,⟨od,es,ep,k _ _ (.inr d) e2,c⟩,r⟩
 | own y=>have(ob,e):=x; exact⟨ob,k _ _ (.inl rfl) e⟩
 | xd fs=>obtain⟨mA,⟨od,es,ep,e,c⟩,r⟩:=x; exact⟨mA,⟨od,es,ep,k _ _ (.inl rfl) e,c⟩,r⟩
 | sQ lo hi=>have(t,u,v,e):=x; exact⟨t,u,v,k _ _ (.inl rfl) e⟩
 | aQ ob u ih=>have(e,q):=x; exact⟨k _ _ (.inl rfl) e,ih q⟩
 | sL ps=>
  have e:h.get? a=some {cls:=.none,data:=.fields ps}:=x;show h'.get? a=some {cls:=.none,data:=.fields ps};exact k a _ (.inl rfl) e
 | met f y=>
  have e:h.get? a=some (PySem.W.methodObj (.ref f)<|.ref y):=x;show h'.get? a=some (PySem.W.methodObj (.ref f)<|.ref y);exact k a _ (.inl rfl) e
 | ext φ=>obtain⟨p,⟨o,e⟩,st⟩:=x; exact⟨st _ _ p λo q=>k _ _ (.inl rfl) q,⟨o,k _ _ (.inl rfl) e⟩,st⟩
theorem cu.lt(x:cu P w K H h)(e:H a=some o):a < h.objs.size:=(x a o e).lt
theorem cu.fresh(x:cu P w K H h)(e:h.objs.size<=a):H a=none:=by
 cases q:H a with
 | none=>rfl
 | some u=>exact absurd (qi (x.lt q) e)<|Í _
theorem cu.kept(x:cu P w K H h)(k:∀ b u,h.get? b=some u->h'.get? b=some u):cu P w K H h':=λa o e=>
 (x a o e).cK (λb u _ q=>k b u q) (λ_ q=>q) λ_ _ q=>q
theorem cu.laid(x:cu P w K H h)(k:∀ b u,h.get? b=some u->h'.get? b=some u)(hp:h.objs.size<=a)(new:bR P w K (upd H a o) h' a o):cu P w K (upd H a o) h':=λb u e=>by
 have hn:=x.fresh hp
 by_cases hb:b=a
 .subst hb; rw[zw]at e; cases e; exact new
 .rw[zy hb]at e
  exact(x b u e).cK (λc v _ q=>k c v q) (λc q=>by rw[zy<|jD q hn]; exact q) λc xs q=>by rw[zy<|jD q hn]; exact q
end
def Rd(H:Hp)(a:Qg)(u:HO):Prop:=H a=some u\/∃ o,H a=some (.aQ o u)
theorem Rd.ok{P:Qe}{w:Qh}{K:qc}{H:Hp}{h:Heap}{a:Qg}{u:HO}(r:Rd H a u)(x:cu P w K H h):bR P w K H h a u:=by
 rcases r with r|⟨o,r⟩
 .exact x a u r
 .have(_,q):=x a _ r
  exact q
def yo:Qb HO->Prop
 | some (.lst _)=>True
 | some (.dK _)=>True
 | some (.dT _)=>True
 | some (.set _ _)=>True
 | some (.ins _ _ _)=>True
 | some (.ext _)=>True
 | _=>False
section
variable{P:Qe}{w:Qh}{K:qc}{H:Hp}{h h':Heap}{x e:Qg}{o':HO}
theorem cu.write(ok:cu P w K H h)(mu:yo (H x))(he:e=x\/H e=some (.own x))(k:∀ b u,b≠e->h.get? b=some u->h'.get? b=some u)(vw:∃ u,h'.get? e=some u)
  (new:bR P w K (upd H x o') h' x o'):cu P w K (upd H x o') h':=λb u q=>by
 have xt:∀ c y,H c=some (.own y)->c≠x:=λc y r z=>by subst z; rw[r]at mu; exact mu
 have G0:∀ c xs,H c=some (.tup xs)->c≠x:=λc xs r z=>by subst z; rw[r]at mu; exact mu
 by_cases hb:b=x
 .subst hb; rw[zw]at q; cases q; exact new
 .rw[zy hb]at q
  by_cases tR:b=e
  .have q':H b=some (.own x):=by
    rcases he with z|z
    .exact absurd (tR.trans z) hb
    .rw[tR]; exact z
   rw[q]at q'; cases q';have(v,hv):=vw;exact⟨v,by rw[tR]; exact hv⟩
  .refine(ok b u q).cK (λc v hc r=>k c v ?_ r) (λc r=>by rw[zy<|xt c b r]; exact r) λc xs r=>by rw[zy<|G0 c xs r]; exact r
   rcases hc with rfl|hc
   .exact tR
   .rintro rfl
    rcases he with z|z
    .exact xt c b hc z
    .rw[hc]at z; cases z; exact hb rfl
end
structure Un (fs ex:Qa Qg) (H H':Hp) (h h':Heap):Prop where
 keep:∀ b o,h.get? b=some o->H b=none->b∉fs->b∉ex->h'.get? b=some o
 slot:∀ b o,h.get? b=some o->H b=none->b∈fs->b∉ex->∃ sl,h'.get? b=some {o with slots:=sl}
 free:∀ b o,h.get? b=some o->H b=none->b∉ex->H' b=none
 there:∀ b o,h.get? b=some o->b∉ex->∃ o',h'.get? b=some o'
 eU:∀ b xs,H b=some (.tup xs)->H' b=some (.tup xs)
 dJ:∀ b o u,H b=some (.aQ o u)->H' b=some (.aQ o u)
 ft:∀ b ps,H b=some (.sL ps)->∃ more,H' b=some (.sL<|ps++more)
section
variable{fs fs' ex ex':Qa Qg}{H H1 H2:Hp}{h h1 h2 h':Heap}{a x e:Qg}{o:HO}
theorem Un.any(u:Un fs ex H H1 h h1){b:Qg}{ob:Obj}(q:h.get? b=some ob)(n:H b=none)(hx:b∉ex):∃ sl,h1.get? b=some {ob with slots:=sl}:=by
 by_cases hb:b∈fs
 .exact u.slot b ob q n hb hx
 .exact⟨ob.slots,u.keep b ob q n hb hx⟩
theorem Un.kept(k:∀ b u,h.get? b=some u->h'.get? b=some u):Un fs ex H H h h' :=
 ⟨λb ob q _ _ _=>k b ob q,λb ob q _ _ _=>⟨ob.slots,k b ob q⟩,λ_ _ _ n _=>n,λb ob q _=>⟨ob,k b ob q⟩,λ_ _ q=>q,λ_ _ _ q=>q,λ_ ps q=>⟨#[],by rw[q]; simp⟩⟩
theorem Un.refl:Un fs ex H H h h:=Un.kept λ_ _ q=>q
theorem Un.laid(k:∀ b u,h.get? b=some u->h'.get? b=some u)(hp:h.objs.size<=a)(hn:H a=none):Un fs ex H (upd H a o) h h' where
 keep:=λb u q _ _ _=>k b u q
 slot:=λb u q _ _ _=>⟨u.slots,k b u q⟩
 free:=λb u q n _=>by rw[zy<|qj<|qi (qh q) hp]; exact n
 there:=λb u q _=>⟨u,k b u q⟩
 eU:=λb xs q=>by rw[zy<|jD q hn]; exact q
 dJ:=λb u xs q=>by rw[zy<|jD q hn]; exact q
 ft:=λb ps q=>⟨#[],by rw[zy<|jD q hn,q]; simp⟩
theorem Un.write(mu:yo (H x))(he:e=x\/H e=some (.own x))(k:∀ b u,b≠e->h.get? b=some u->h'.get? b=some u)(vw:∃ u,h'.get? e=some u):Un fs ex H (upd H x o) h h':=by
 have hx:∀ b,H b=none->b≠x:=λb n z=>by subst z; rw[n]at mu; exact mu
 have hb:∀ b,H b=none->b≠e:=λb n z=>by
  subst z;rcases he with r|r
  .exact hx b n r
  .rw[n]at r; cases r
 have hm:∀ b u,H b=some u->¬yo (some u)->b≠x:=λb u q nm z=>by subst z; rw[q]at mu; exact nm mu
 refine⟨λb u q n _ _=>k b u (hb b n) q,λb u q n _ _=>⟨u.slots,k b u (hb b n) q⟩,λb u q n _=>by rw[zy<|hx b n]; exact n,λb u q _=>?_,
  λb xs q=>by rw[zy<|hm b _ q λz=>z]; exact q,λb u xs q=>by rw[zy<|hm b _ q λz=>z]; exact q,λb ps q=>⟨#[],by rw[zy<|hm b _ q λz=>z,q]; simp⟩⟩
 by_cases tR:b=e
 .subst tR; exact vw
 .exact⟨u,k b u tR q⟩
end
def BW(h:Heap)(H:Hp):Qa Qg:=(List.range h.objs.size).filter λa=>(H a).isSome
def nu(h:Heap)(H:Hp):Heap:=PySem.W.hideAll h (BW h H)
theorem YU(h:Heap)(H:Hp):(nu h H).objs.size=h.objs.size:=PySem.W.hideAll_size _ _
theorem Yh{h:Heap}{H:Hp}{b:Qg}{o:Obj}(e:h.get? b=some o)(n:H b=none):(nu h H).get? b=some o :=
 PySem.W.hideAll_get _ e λhm=>by
  have q:(H b).isSome=true:=(Ò.mp hm).2;rw[n]at q; simp at q
theorem Vs{h:Heap}{H:Hp}{b:Qg}{o:Obj}(e:(nu h H).get? b=some o):h.get? b=some o/\H b=none:=by
 have e':h.get? b=some o:=PySem.W.of_hideAll (BW h H) e;refine⟨e',?_⟩;cases q:H b with
 | none=>rfl
 | some x=>
  have hm:b∈BW h H:=Ò.mpr ⟨Á.mpr<|qh e',by simp[q]⟩;have z:(nu h H).get? b=none:=PySem.W.hideAll_none (BW h H) hm;rw[z]at e; cases e
def Vr(g h:Heap)(L:Qg):Qa (Qg×Obj):=(List.range h.objs.size).filterMap λa=>if a=L\/(g.get? a).isSome=true then none else(h.get? a).map λo=>(a,o)
def du(g h:Heap)(L d:Qg):Qa (Qg×Obj):=(Vr g h L).filter λp=>decide<|p.1≠d
structure Mod (K:qc) (mg:Str->Qb Qc) (base:Heap):Prop where
 jb:K.In base
 glob:base.Ns mainGlobals mg
 blt:∃ mb,base.Ns builtinsNs mb/\∀ x:Str,x ≠ "__name__"->mb x=bootBuiltins x
 nolimit:base.NoLimit
structure Cx where
 prog:Qe
 w:Qh
 K:qc
 mg:Str->Qb Qc
 base:Heap
 A:Qf
 N:Qa Str
 aY:Qd
 av:Hp
 env:Env
 outer:Qa Env
 stack:Qa Env
 ex:Qa Qg
 fn:Str->Bool
 calm:Bool
 pn:Qa (Qg×Obj)
 xe:Qc->Qd->Prop
def jR(l:Qa Env):Qa Qg:=l.filterMap (·.frame)
abbrev Cx.fs(X:Cx):Qa Qg:=jR X.outer
def CB(sc:Scope)(x:Str):Prop:=sc.names.lookup x=some .local\/sc.names.lookup x=some .cell\/sc.names.lookup x=some .free
def Loc(sc:Scope)(x:Str):Prop:=sc.names.lookup x=some .local\/sc.names.lookup x=some .cell
def zBW(env:Env)(h:Heap)(m:Str->Qb Qc)(x:Str)(u:Qc):Prop :=
 (env.kindOf x=some .local/\m x=some u)\/((env.kindOf x=some .cell\/env.kindOf x=some .free)/\∃ c,env.cells.lookup x=some c/\h.IsCell c (some u))
structure Cx.Ok (X:Cx):Prop where
 mod:Mod X.K X.mg X.base
 kind:X.env.scope.kind=.function
 glob:X.env.globals=mainGlobals
 blt:X.env.builtins=builtinsNs
 above:X.aY.heap.objs.size<=X.env.locals
 inj:∀ x y c,X.env.cells.lookup x=some c->X.env.cells.lookup y=some c->x=y
 has:∀ x,(X.env.kindOf x=some .cell\/X.env.kindOf x=some .free)->∃ c,X.env.cells.lookup x=some c
 vC:∀ x c,X.fn x=true->X.env.cells.lookup x=some c->X.aY.heap.objs.size<=c
 hd:X.calm=true->X.A.handled=none
 frames:X.A.frames=some X.stack
 xm:X.stack=X.outer\/(X.stack=X.env::X.outer/\X.env.frame=some X.env.locals)
 yf:∀ b∈X.ex,b≠X.env.locals/\∀ x c,X.env.cells.lookup x=some c->c≠b
 bs:∀ b o,X.base.get? b=some o->X.aY.heap.get? b=some o/\X.av b=none
 mX:X.base.objs.size<=X.aY.heap.objs.size
 jJ:∀ b o,X.base.get? b=some o->b∉X.ex
 lM:∀ b∈X.ex,b∉X.fs
 dA:X.aY.heap.FunFrames X.base X.outer
 qT:∀ b∈X.fs,X.av b=none
structure Inv (X:Cx) (pins:Qa (Qg×Obj)) (σ:Qa (Qb V)) (H:Hp) (s:Qd):Prop where
 ok:X.Ok
 os:s.os=X.aY.os
 bare:AllBare s.gens
 base:Un X.fs X.ex X.av H X.aY.heap s.heap
 loc:∃ m,s.heap.Ns X.env.locals m/\∀ (i:Nat) (x:Str) (v:V),X.N[i]?=some x->σ[i]?=some (some v)->CB X.env.scope x->∃ u,zO v u/\zBW X.env s.heap m x u
 cell:∀ x c,X.env.cells.lookup x=some c->∃ v,s.heap.IsCell c v
 free:H X.env.locals=none
 bQ:∀ x c,X.env.cells.lookup x=some c->H c=none
 pin:∀ p∈X.pn++pins,s.heap.get? p.1=some p.2/\H p.1=none/\p.1≠X.env.locals/\p.1∉X.fs/\∀ v,p.2.data≠.cell v
 aw:cu X.prog X.w X.K H s.heap
 len:σ.length=X.N.length
section
variable{X:Cx}{pins:Qa (Qg×Obj)}{σ:Qa (Qb V)}{H H':Hp}{s:Qd}{h':Heap}
theorem Cx.Ok.G3(ok:X.Ok){b:Qg}{o:Obj}(e:X.base.get? b=some o):b∉X.fs:=λhb=>by
 have:=(ok.dA.mem hb).1;rw[e]at this; cases this
theorem Inv.bs(I:Inv X pins σ H s):∀ b o,X.base.get? b=some o->s.heap.get? b=some o/\H b=none:=λb o e=>
 ⟨I.base.keep b o (I.ok.bs b o e).1 (I.ok.bs b o e).2 (I.ok.G3 e)<|I.ok.jJ b o e,I.base.free b o (I.ok.bs b o e).1 (I.ok.bs b o e).2<|I.ok.jJ b o e⟩
theorem Inv.bk(I:Inv X pins σ H s):∀ b o,X.base.get? b=some o->s.heap.get? b=some o:=λb o e=>(I.bs b o e).1
theorem Inv.mod(I:Inv X pins σ H s):Mod X.K X.mg X.base:=I.ok.mod
theorem Inv.bN(I:Inv X pins σ H s):X.K.In s.heap:=I.ok.mod.jb.keeps I.bk
theorem Inv.fr(I:Inv X pins σ H s):∃ m,Fr X.base X.env.locals s.heap m :=
 let ⟨m,hn,_⟩:=I.loc
 ⟨m,hn,I.bk,qx I.ok.mX I.ok.above⟩
theorem Inv.lt(I:Inv X pins σ H s):X.env.locals < s.heap.objs.size:=let ⟨_,hn,_⟩:=I.loc; hn.lt
theorem Inv.sz(I:Inv X pins σ H s):X.aY.heap.objs.size<=s.heap.objs.size:=qx I.ok.above (Nat.le_of_lt I.lt)
theorem Inv.G2(I:Inv X pins σ H s){a:Qg}(h:s.heap.objs.size<=a):a∉X.fs:=λhb=>by
 have(_,o,ho,_):=I.ok.dA.mem hb;exact absurd (qi (qh ho)<|qx I.sz h)<|Í _
theorem Inv.mW(I:Inv X pins σ H s):∀ x c,X.env.cells.lookup x=some c->c≠X.env.locals:=λx c e z=>by
 have(v,o,ho,hd):=I.cell x c e;obtain⟨m,⟨o',es,ep,ff,qR,_⟩,_⟩:=I.loc;rw[z,ff]at ho; cases ho; rw[qR]at hd; cases hd
theorem Inv.dA(I:Inv X pins σ H s):s.heap.FunFrames X.base X.outer:=by
 have all:∀ (l:Qa Env),(∀ b∈jR l,b∈X.fs)->X.aY.heap.FunFrames X.base l->s.heap.FunFrames X.base l:=by
  intro l
  induction l with
  | nil=>intro _ _; trivial
  | cons env r ih=>
   intro hs hl;obtain⟨hk,⟨L,o,hf,hn,ho,hd⟩,hr⟩:=hl;have hL:L∈X.fs:=hs L (by unfold jR; rw[List.filterMap_cons,hf]; exact qo);have(sl,e):=I.base.slot L o ho (I.ok.qT L hL) hL λz=>I.ok.lM L z hL;exact⟨hk,⟨L,_,hf,hn,e,hd⟩,ih (λb hb=>hs b (by unfold jR; rw[List.filterMap_cons,hf]; exact qm _ hb)) hr⟩
 exact all X.outer (λ_ hb=>hb) I.ok.dA
theorem Inv.stack(I:Inv X pins σ H s):s.heap.FunFrames X.base X.stack:=by
 rcases I.ok.xm with e|⟨e,hf⟩
 .rw[e]; exact I.dA
 .rw[e]
  have(m,hn,_):=I.loc;refine .cons (by rw[I.ok.kind]; decide) hf hn ?_ I.dA;exact Heap.get?_none_of_le<|qx I.ok.mX I.ok.above
theorem Inv.eV(I:Inv X pins σ H s):∀ b∈jR X.stack,b∈X.env.locals::X.fs:=λb hb=>by
 rcases I.ok.xm with e|⟨e,hf⟩
 .rw[e]at hb; exact qm _ hb
 .rw[e]at hb
  unfold jR at hb;rw[List.filterMap_cons,hf]at hb;exact hb
theorem Inv.i5(I:Inv X pins σ H s):∀ b∈jR X.stack,H b=none:=λb hb=>by
 rcases qu.mp (I.eV b hb)with e|hb
 .rw[e]; exact I.free
 .have(_,o,ho,_):=I.ok.dA.mem hb
  exact I.base.free b o ho (I.ok.qT b hb) λz=>I.ok.lM b z hb
theorem Inv.step{g':Array GenState}{t':Nat}{d':Drawn}{ch:Qa Qg}(I:Inv X pins σ H s)
  (jN:∀ b∈ch,(b∈X.ex\/X.aY.heap.objs.size<=b)/\b≠X.env.locals/\(∀ x c,X.env.cells.lookup x=some c->c≠b)/\∀ p∈X.pn++pins,p.1≠b)
  (keep:∀ b o,b≠X.env.locals->b∉X.fs->b∉ch->s.heap.get? b=some o->H b=none->h'.get? b=some o)
  (slot:∀ b o,b≠X.env.locals->b∈X.fs->b∉ch->s.heap.get? b=some o->H b=none->∃ sl,h'.get? b=some {o with slots:=sl}) (free:∀ b o,b∉ch->s.heap.get? b=some o->H b=none->H' b=none)
  (there:∀ b o,b∉ch->s.heap.get? b=some o->∃ o',h'.get? b=some o')
  (eU:∀ b xs,H b=some (.tup xs)->H' b=some (.tup xs)) (dJ:∀ b o u,H b=some (.aQ o u)->H' b=some (.aQ o u)) (ft:∀ b ps,H b=some (.sL ps)->∃ more,H' b=some (.sL<|ps++more))
  (ns:∀ m,s.heap.Ns X.env.locals m->h'.Ns X.env.locals m) (aw:cu X.prog X.w X.K H' h') (hg:AllBare g'):
  Inv X pins σ H' {s with heap:=h',gens:=g',drawn:=d',toks:=t'}:=by
 have Pe:∀ b o,X.aY.heap.get? b=some o->b≠X.env.locals:=λb o e=>qj<|qi (qh e) I.ok.above;have B7:∀ b o,X.aY.heap.get? b=some o->b∉X.ex->b∉ch:=λb o e hx hb=>by
  rcases(jN b hb).1 with z|z
  .exact hx z
  .exact absurd (qi (qh e) z) (Í _)
 have cellK:∀ x c,X.env.cells.lookup x=some c->∀ v,s.heap.IsCell c v->h'.IsCell c v:=λx c e v ⟨o,ho,hd⟩=>by
  have xw:c∉ch:=λz=>(jN c z).2.2.1 x c e rfl
  by_cases hc:c∈X.fs
  .have(sl,q):=slot c o (I.mW x c e) hc xw ho (I.bQ x c e)
   exact⟨_,q,hd⟩
  .exact⟨o,keep c o (I.mW x c e) hc xw ho<|I.bQ x c e,hd⟩
 refine⟨I.ok,I.os,hg,⟨λb o e n hb hx=>?_,λb o e n hb hx=>?_,λb o e n hx=>?_,λb o e hx=>?_,λb xs e=>eU b xs<|I.base.eU b xs e,λb o xs e=>dJ b o xs<|I.base.dJ b o xs e,λb ps e=>?_⟩,?_,λx c e=>?_,?_,λx c e=>?_,λp hp=>?_,aw,I.len⟩
 .exact keep b o (Pe b o e) hb (B7 b o e hx) (I.base.keep b o e n hb hx) (I.base.free b o e n hx)
 .have(sl,e1):=I.base.slot b o e n hb hx
  have(sl',e2):=slot b _ (Pe b o e) hb (B7 b o e hx) e1 (I.base.free b o e n hx);exact⟨sl',e2⟩
 .have(o',e1):=I.base.there b o e hx
  exact free b o' (B7 b o e hx) e1<|I.base.free b o e n hx
 .have(o',e1):=I.base.there b o e hx
  exact there b o' (B7 b o e hx) e1
 .have(m1,e1):=I.base.ft b ps e
  have(m2,e2):=ft b _ e1;exact⟨m1++m2,by rw[e2,Array.append_assoc]⟩
 .have(m,hn,hl):=I.loc
  refine⟨m,ns m hn,λi x v e1 e2 e3=>?_⟩;have(u,r,l):=hl i x v e1 e2 e3;refine⟨u,r,?_⟩;rcases l with l|⟨k,c,e,z⟩
  .exact .inl l
  .exact .inr ⟨k,c,e,cellK x c e _ z⟩
 .have(v,z):=I.cell x c e
  exact⟨v,cellK x c e v z⟩
 .obtain⟨m,⟨o,_,_,ho,_⟩,_⟩:=I.loc
  exact free _ o (λz=>(jN _ z).2.1 rfl) ho I.free
 .have(v,o,ho,hd):=I.cell x c e
  exact free c o (λz=>(jN c z).2.2.1 x c e rfl) ho<|I.bQ x c e
 .have(e,n,ne,nf,d):=I.pin p hp
  have xw:p.1∉ch:=λz=>(jN p.1 z).2.2.2 p hp rfl;exact⟨keep p.1 p.2 ne nf xw e n,free p.1 p.2 xw e n,ne,nf,d⟩
theorem Inv.un{t':Nat}(I:Inv X pins σ H s)(u:Un X.fs [] H H' s.heap h')(aw:cu X.prog X.w X.K H' h'):Inv X pins σ H' {s with heap:=h',toks:=t'}:=by
 obtain⟨m,⟨o,es,ep,ho,r⟩,_⟩:=id I.loc;have(sl,hL):=u.any ho I.free (by simp);exact I.step (g':=s.gens) (d':=s.drawn) (ch:=[]) (λ_ z=>nomatch z) (λb o _ hb _ e n=>u.keep b o e n hb (by simp)) (λb o _ hb _ e n=>u.slot b o e n hb (by simp)) (λb o _ e n=>u.free b o e n (by simp)) (λb o _ e=>u.there b o e (by simp)) u.eU u.dJ u.ft (λm' hm=>by
  have(o',lN,dM,ff,r'):=hm;rw[ho]at ff; cases ff;exact⟨_,lN,dM,hL,r'⟩) aw I.bare
theorem Inv.call{g':Array GenState}{t':Nat}{d':Drawn}{ch:Qa Qg}(I:Inv X pins σ H s)(u:Un (jR X.stack) ch H H' s.heap h')(aw:cu X.prog X.w X.K H' h')(hg:AllBare g')
  (jN:∀ b∈ch,(b∈X.ex\/X.aY.heap.objs.size<=b)/\b≠X.env.locals/\(∀ x c,X.env.cells.lookup x=some c->c≠b)/\∀ p∈X.pn++pins,p.1≠b):
  Inv X pins σ H' {s with heap:=h',gens:=g',drawn:=d',toks:=t'}:=by
 obtain⟨m,⟨o,es,ep,ho,r⟩,_⟩:=id I.loc;have(sl,hL):=u.any ho I.free λz=>(jN _ z).2.1 rfl;exact I.step (ch:=ch) jN (λb o hL hb hc e n=>u.keep b o e n (λz=>(qu.mp<|I.eV b z).elim hL hb) hc) (λb o _ _ hc e n=>u.any e n hc) (λb o hc e n=>u.free b o e n hc) (λb o hc e=>u.there b o e hc) u.eU u.dJ u.ft (λm' hm=>by
  have(o',lN,dM,ff,r'):=hm;rw[ho]at ff; cases ff;exact⟨_,lN,dM,hL,r'⟩) aw hg
theorem Inv.turned{t':Nat}{it:Qg}(I:Inv X pins σ H s)(k:∀ b o,b≠it->s.heap.get? b=some o->h'.get? b=some o)(hn:H it=none)(hL:it≠X.env.locals)
  (h1:it∈X.ex\/X.aY.heap.objs.size<=it) (h2:∀ x c,X.env.cells.lookup x=some c->c≠it) (h3:∀ p∈X.pn++pins,p.1≠it):Inv X pins σ H {s with heap:=h',toks:=t'}:=by
 have jK:∀ b u,H b=some u->b≠it:=λb u e z=>by rw[z,hn]at e; cases e
 refine I.step (g':=s.gens) (d':=s.drawn) (ch:=[it]) (λb hb=>?_) (λb o _ _ hc e _=>k b o (λz=>hc (by simp[z])) e) (λb o _ _ hc e _=>⟨o.slots,k b o (λz=>hc (by simp[z])) e⟩) (λ_ _ _ _ n=>n)
  (λb o hc e=>⟨o,k b o (λz=>hc (by simp[z])) e⟩) (λ_ _ e=>e) (λ_ _ _ e=>e) (λb ps e=>⟨#[],by rw[e]; simp⟩) (λm hm=>?_) (λb u e=>?_) I.bare
 .have e:b=it:=by simpa using hb
  subst e;exact⟨h1,hL,h2,h3⟩
 .have(o,es,ep,ho,r):=hm
  exact⟨o,es,ep,k _ o (Ne.symm hL) ho,r⟩
 .refine(I.aw b u e).cK (λc v hc q=>k c v ?_ q) (λ_ q=>q) λ_ _ q=>q
  rcases hc with z|z
  .rw[z]; exact jK b u e
  .exact jK c _ z
theorem Inv.tok(I:Inv X pins σ H s)(t:Nat):Inv X pins σ H {s with toks:=t}:=I.un (h':=s.heap) (t':=t) Un.refl I.aw
theorem Inv.kept{t':Nat}(I:Inv X pins σ H s)(k:∀ b u,s.heap.get? b=some u->h'.get? b=some u):Inv X pins σ H {s with heap:=h',toks:=t'}:=I.un (Un.kept k) (I.aw.kept k)
theorem Inv.laid{a:Qg}{o:HO}{t':Nat}(I:Inv X pins σ H s)(k:∀ b u,s.heap.get? b=some u->h'.get? b=some u)(hp:s.heap.objs.size<=a)(new:bR X.prog X.w X.K (upd H a o) h' a o):
  Inv X pins σ (upd H a o) {s with heap:=h',toks:=t'}:=I.un (Un.laid k hp<|I.aw.fresh hp) (I.aw.laid k hp new)
theorem Inv.write{x e:Qg}{o:HO}{t':Nat}(I:Inv X pins σ H s)(mu:yo (H x))(he:e=x\/H e=some (.own x))(k:∀ b u,b≠e->s.heap.get? b=some u->h'.get? b=some u)(vw:∃ u,h'.get? e=some u)
  (new:bR X.prog X.w X.K (upd H x o) h' x o):Inv X pins σ (upd H x o) {s with heap:=h',toks:=t'}:=I.un (Un.write mu he k vw) (I.aw.write mu he k vw new)
theorem Inv.weak{aG:Qa (Qb V)}(I:Inv X pins σ H s)(hl:aG.length=σ.length)(w:∀ (i:Nat) v,aG[i]?=some (some v)->σ[i]?=some (some v)):Inv X pins aG H s :=
 ⟨I.ok,I.os,I.bare,I.base,let ⟨m,hn,hl'⟩:=I.loc; ⟨m,hn,λi x v e1 e2 e3=>hl' i x v e1 (w i v e2) e3⟩,I.cell,I.free,I.bQ,I.pin,I.aw,hl.trans I.len⟩
theorem Inv.cU{p8:Qa (Qg×Obj)}(I:Inv X pins σ H s)(h:∀ p∈p8,s.heap.get? p.1=some p.2/\H p.1=none/\p.1≠X.env.locals/\p.1∉X.fs/\∀ v,p.2.data≠.cell v):Inv X p8 σ H s :=
 ⟨I.ok,I.os,I.bare,I.base,I.loc,I.cell,I.free,I.bQ,λp hp=>(Ì.mp hp).elim (λz=>I.pin p<|Ü _ z)<|h p,I.aw,I.len⟩
theorem L9{N:Qa Str}(hN:N.Nodup){i j:Nat}{x:Str}(a:N[i]?=some x)(b:N[j]?=some x):i=j:=by
 have(h1,e1):=qk.mp a;have(h2,e2):=qk.mp b;exact(List.getElem_inj hN).mp<|e1.trans e2.symm
theorem F0{M:Model}{A:Qf}{E:Qc->Qd->Prop}{i:Nat}{x:Str}{v:V}{u:Qc}{Q:Unit->Qd->Prop}(I:Inv X pins σ H s)(hN:X.N.Nodup)(hi:X.N[i]?=some x)(hx:Loc X.env.scope x)(r:zO v u)
  (h:∀ s',Inv X pins (σ.set i<|some v) H s'->(∃ a,Heap.SameBut a s.heap s'.heap/\(a=X.env.locals\/X.env.cells.lookup x=some a))->Q () s') (hf:X.fn x=true\/X.env.scope.names.lookup x=some .local:=by first|exact .inl rfl|exact .inr rfl|assumption):wpAny M A (storeName X.env x u) Q E s:=by
 have(m,hn,hl):=id I.loc;have HE:(X.env.scope.kind==.class || (X.env.scope.kind==.module && X.env.locals != X.env.globals))=false:=by rw[I.ok.kind]; rfl
 have xT:i < σ.length:=by rw[I.len]; exact(qk.mp hi).1
 have mW:=I.mW;have tracked:∀ {a:Qg} {h':Heap},(∃ o,s.heap.get? a=some o/\H a=none)->Heap.SameBut a s.heap h'->cu X.prog X.w X.K H h':=λ{a h'} ha hs b ob e=>by
  have(_,_,qO):=ha;refine(I.aw b ob e).cK (λc w' hc q=>(hs.2 c ?_).trans q) (λ_ q=>q) λ_ _ q=>q;rintro rfl;rcases hc with rfl|hc
  .rw[qO]at e; cases e
  .rw[qO]at hc; cases hc
 rcases hx with hk|hk
 .refine wpAny_storeName_local hk hn (λh' hn' hs=>?_) HE
  have(oL,_,_,oO,_):=id hn;refine h _ ⟨I.ok,I.os,I.bare,⟨λb o e n hb hx=>?_,λb o e n hb hx=>?_,I.base.free,λb o e hx=>?_,I.base.eU,I.base.dJ,I.base.ft⟩,⟨_,hn',λj y v' e1 e2 e3=>?_⟩,λy c e=>?_,I.free,I.bQ,λp hp=>?_,tracked ⟨oL,oO,I.free⟩ hs,by simpa using I.len⟩ ⟨_,hs,.inl rfl⟩
  .exact(hs.2 b<|qj<|qi (qh e) I.ok.above).trans (I.base.keep b o e n hb hx)
  .have(sl,e1):=I.base.slot b o e n hb hx
   exact⟨sl,(hs.2 b<|qj<|qi (qh e) I.ok.above).trans e1⟩
  .have(o',e1):=I.base.there b o e hx
   exact⟨o',(hs.2 b<|qj<|qi (qh e) I.ok.above).trans e1⟩
  .by_cases hj:j=i
   .subst hj
    rw[hi]at e1; cases e1;rw[List.getElem?_set_self xT]at e2;cases e2;exact⟨u,r,.inl ⟨hk,by simp⟩⟩
   .rw[qB<|Ne.symm hj]at e2
    have(u',r',q):=hl j y v' e1 e2 e3;refine⟨u',r',?_⟩;rcases q with⟨k,e⟩|⟨k,c,e,z⟩
    .refine .inl ⟨k,?_⟩
     have:y≠x:=λe=>hj<|L9 hN e1<|e▸hi;simp[this,e]
    .exact .inr ⟨k,c,e,z.sameBut hs<|mW y c e⟩
  .have(w',z):=I.cell y c e
   exact⟨w',z.sameBut hs<|mW y c e⟩
  .have(e,n,ne,nf,d):=I.pin p hp
   exact⟨(hs.2 p.1 ne).trans e,n,ne,nf,d⟩
 .have HD:X.fn x=true:=by
   rcases hf with z|z
   .exact z
   .rw[z]at hk; cases hk
  have(c,hc):=I.ok.has x (.inl hk);have(w',z):=I.cell x c hc;refine wpAny_storeName_cell I.ok.kind hk hc z λh' jP hs=>?_;have(oc,Py,Hy):=id z;refine h {s with heap:=h'} ⟨I.ok,I.os,I.bare,⟨λb o e n hb hx=>?_,λb o e n hb hx=>?_,I.base.free,λb o e hx=>?_,I.base.eU,I.base.dJ,I.base.ft⟩,⟨m,hn.sameBut hs<|Ne.symm<|mW x c hc,λj y v' e1 e2 e3=>?_⟩,λy c' e=>?_,I.free,I.bQ,λp hp=>?_,tracked ⟨oc,Py,I.bQ x c hc⟩ hs,by simpa using I.len⟩ ⟨c,hs,.inr hc⟩
  .exact(hs.2 b<|qj<|qi (qh e)<|I.ok.vC x c HD hc).trans (I.base.keep b o e n hb hx)
  .have(sl,e1):=I.base.slot b o e n hb hx
   exact⟨sl,(hs.2 b<|qj<|qi (qh e)<|I.ok.vC x c HD hc).trans e1⟩
  .have(o',e1):=I.base.there b o e hx
   exact⟨o',(hs.2 b<|qj<|qi (qh e)<|I.ok.vC x c HD hc).trans e1⟩
  .by_cases hj:j=i
   .subst hj
    rw[hi]at e1; cases e1;rw[List.getElem?_set_self xT]at e2;cases e2;exact⟨u,r,.inr ⟨.inl hk,c,hc,jP⟩⟩
   .rw[qB<|Ne.symm hj]at e2
    have(u',r',q):=hl j y v' e1 e2 e3;refine⟨u',r',?_⟩;rcases q with q|⟨k,c',e,z'⟩
    .exact .inl q
    .refine .inr ⟨k,c',e,z'.sameBut hs ?_⟩
     rintro rfl;exact hj<|L9 hN e1<|I.ok.inj _ _ _ e hc▸hi
  .by_cases PM:c'=c
   .subst PM; exact⟨_,jP⟩
   .have(w2,z2):=I.cell y c' e
    exact⟨w2,z2.sameBut hs PM⟩
  .have(e,n,ne,nf,d):=I.pin p hp
   refine⟨(hs.2 p.1 ?_).trans e,n,ne,nf,d⟩;intro q;rw[q,Py]at e;have q':oc=p.2:=qw e;exact d w' (by rw[<-q']; exact Hy)
theorem Bb{M:Model}{A:Qf}{E:Qc->Qd->Prop}{i:Nat}{x:Str}{v:V}{u:Qc}{Q:Unit->Qd->Prop}(I:Inv X pins σ H s)(hN:X.N.Nodup)(hi:X.N[i]?=some x)(hx:Loc X.env.scope x)(r:zO v u)
  (h:∀ s',Inv X pins (σ.set i<|some v) H s'->Q () s') (hf:X.fn x=true\/X.env.scope.names.lookup x=some .local:=by first|exact .inl rfl|exact .inr rfl|assumption):wpAny M A (storeName X.env x u) Q E s :=
 F0 I hN hi hx r (λs' I' _=>h s' I') hf
theorem Inv.qX{s':Qd}{ch:Qa Qg}(I:Inv X pins σ H s)(ho:s'.os=s.os)(u:Un (jR X.stack) ch H H' s.heap s'.heap)(aw:cu X.prog X.w X.K H' s'.heap)(hg:AllBare s'.gens)
  (jN:∀ b∈ch,(b∈X.ex\/X.aY.heap.objs.size<=b)/\b≠X.env.locals/\(∀ x c,X.env.cells.lookup x=some c->c≠b)/\∀ p∈X.pn++pins,p.1≠b):Inv X pins σ H' s':=by
 have(h',g',d',t',o'):=s';have e:o'=s.os:=ho;subst e;exact I.call (g':=g') (t':=t') (d':=d') u aw hg jN
end
abbrev XK:=Qc->Qb Qg->Hp->Prop
abbrev St:=Qa (Qb V)
abbrev VK:=V->Hp->Prop
abbrev TE:=St->Hp->VK->Prop
abbrev TT:=St->Hp->(Bool->Hp->Prop)->Prop
abbrev TA:=St->Hp->(Qa V->Hp->Prop)->Prop
structure Ends where
 nx:St->Hp->Prop
 rt:VK
 bk:St->Hp->Prop:=λ_ _=>False
 ct:St->Hp->Prop:=λ_ _=>False
abbrev TS:=Ends->St->Hp->Prop
def EP(X:Cx)(pins:Qa (Qg×Obj))(σ:St)(Q:VK)(u:Qc)(s':Qd):Prop:=∃ v H',Inv X pins σ H' s'/\zO v u/\Q v H'
def TP(X:Cx)(pins:Qa (Qg×Obj))(σ:St)(Q:Bool->Hp->Prop)(b:Bool)(s':Qd):Prop:=∃ H',Inv X pins σ H' s'/\Q b H'
def AP(X:Cx)(pins:Qa (Qg×Obj))(σ:St)(Q:Qa V->Hp->Prop)(us:Qa Qc)(s':Qd):Prop:=∃ vs H',Inv X pins σ H' s'/\zM vs us/\Q vs H'
def SP(X:Cx)(pins:Qa (Qg×Obj))(D:Ends)(f:Flow)(s':Qd):Prop :=
 match f with
 | .next=>∃ aG H',Inv X pins aG H' s'/\D.nx aG H'
 | .brk=>∃ aG H',Inv X pins aG H' s'/\D.bk aG H'
 | .cont=>∃ aG H',Inv X pins aG H' s'/\D.ct aG H'
 | .ret u=>∃ v aG H',Inv X pins aG H' s'/\zO v u/\D.rt v H'
def PE(X:Cx)(e:Expr)(t:TE):Prop :=
 ∀ (pins:Qa (Qg×Obj)) (s:Qd) (σ:St) (H:Hp) (Q:VK),Inv X pins σ H s->t σ H Q->wpAny (model X.prog X.w) X.A (eval e X.env) (EP X pins σ Q) X.xe s
def PT(X:Cx)(e:Expr)(t:TT):Prop :=
 ∀ (pins:Qa (Qg×Obj)) (s:Qd) (σ:St) (H:Hp) (Q:Bool->Hp->Prop),Inv X pins σ H s->t σ H Q->wpAny (model X.prog X.w) X.A (isTrue e X.env<|eval e X.env) (TP X pins σ Q) X.xe s
def PW(X:Cx)(e:Expr)(t:TT):Prop :=
 ∀ (whole:Sem Qc) (pins:Qa (Qg×Obj)) (s:Qd) (σ:St) (H:Hp) (Q:Bool->Hp->Prop),Inv X pins σ H s->t σ H Q->wpAny (model X.prog X.w) X.A (isTrue e X.env whole) (TP X pins σ Q) X.xe s
theorem PW.pt{X:Cx}{e:Expr}{t:TT}(h:PW X e t):PT X e t:=h _
def PA(X:Cx)(es:Qa Expr)(t:TA):Prop :=
 ∀ (pos:Pos) (pins:Qa (Qg×Obj)) (s:Qd) (σ:St) (H:Hp) (Q:Qa V->Hp->Prop),Inv X pins σ H s->t σ H Q->wpAny (model X.prog X.w) X.A (spliced<|backTo pos<|starEach es X.env) (AP X pins σ Q) X.xe s
def PS(X:Cx)(st:Stmt)(t:TS):Prop :=
 ∀ (pins:Qa (Qg×Obj)) (s:Qd) (σ:St) (H:Hp) (D:Ends),Inv X pins σ H s->t D σ H->wpAny (model X.prog X.w) X.A (exec st X.env) (SP X pins D) X.xe s
def eI(X:Cx)(st:Qa Stmt)(t:TS):Prop :=
 ∀ (pins:Qa (Qg×Obj)) (s:Qd) (σ:St) (H:Hp) (D:Ends),Inv X pins σ H s->t D σ H->wpAny (model X.prog X.w) X.A (execs st X.env) (SP X pins D) X.xe s
theorem aD{α:Type}{t:Sem α}{Q Q':α->Qd->Prop}{M:Model}{A:Qf}{E:Qc->Qd->Prop}{s:Qd}(h:wpAny M A t Q E s)(hQ:∀ a s,Q a s->Q' a s):wpAny M A t Q' E s:=wpAny_mono h hQ λ_ _ x=>x
section
variable{X:Cx}
def iV(i:Nat):TE:=λσ H Q=>∃ v,σ[i]?=some (some v)/\Q v H
def tC(v:V):TE:=λ_ H Q=>Q v H
theorem Tb{i:Nat}{x:Str}{pos:Pos}(hN:X.N[i]?=some x)(hv:CB X.env.scope x)(hd:(x==("__debug__":Str))=false:=by decide)(jO:(x==("__classdict__":Str))=false:=by decide):PE X (.Name x pos) (iV i):=by
 intro pins s σ H Q I h;have(v,e,h):=h;have(m,hn,hl):=I.loc;have(u,r,l):=hl i x v hN e hv;have fin:EP X pins σ Q u s:=⟨v,H,I,r,h⟩;rcases l with⟨hk,hm⟩|⟨hk,c,hc,qS⟩
 .exact wpAny_Name (wpAny_loadName_local I.ok.kind hk hn hm fin) hd
 .rcases hk with hk|hk
  .exact wpAny_Name (wpAny_loadName_cell I.ok.kind hk hc qS fin) hd
  .exact wpAny_Name (wpAny_loadName_free I.ok.kind hk hc qS fin jO) hd
theorem Ta{i j pos}:PE X (.Constant (.int i) j pos) (tC<|.int i):=λ_ _ _ H _ I h=>wpAny_Constant_int ⟨.int i,H,I.tok _,⟨_,rfl⟩,h⟩
theorem zAe{b j pos}:PE X (.Constant (.bool b) j pos) (tC<|.bl b):=λ_ _ _ H _ I h=>Constant_bool ⟨.bl b,H,I,rfl,h⟩
theorem S9{j pos}:PE X (.Constant .none j pos) (tC .aI):=λ_ _ _ H _ I h=>Constant_none ⟨.aI,H,I,rfl,h⟩
theorem S8{x j pos}:PE X (.Constant (.str x) j pos) (tC<|.str x):=λ_ _ _ H _ I h=>Calls.Constant_str ⟨.str x,H,I.tok _,⟨_,rfl⟩,h⟩
def Gl(X:Cx)(x:Str):Prop:=X.env.kindOf x=some .globalImplicit
theorem Fo{E:Qc->Qd->Prop}{pins:Qa (Qg×Obj)}{s:Qd}{σ:St}{H:Hp}{x:Str}{u:Qc}{pos:Pos}{Q:Qc->Qd->Prop}(I:Inv X pins σ H s)(hg:Gl X x)(hm:X.mg x=some u)(h:Q u s)
  (hd:(x==("__debug__":Str))=false:=by decide):wpAny (model X.prog X.w) X.A (eval (.Name x pos) X.env) Q E s :=
 Calls.Name_function_global I.ok.kind hg (Calls.loadGlobal_global (by rw[I.ok.glob]; exact I.mod.glob.keeps I.bk) hm h) hd
theorem pO{E:Qc->Qd->Prop}{pins:Qa (Qg×Obj)}{s:Qd}{σ:St}{H:Hp}{x:Str}{u:Qc}{pos:Pos}{Q:Qc->Qd->Prop}(I:Inv X pins σ H s)(hg:Gl X x)(hm:X.mg x=none)(hv:bootBuiltins x=some u)(h:Q u s)
  (hn:x ≠ "__name__":=by decide) (hd:(x==("__debug__":Str))=false:=by decide):wpAny (model X.prog X.w) X.A (eval (.Name x pos) X.env) Q E s:=by
 have(mb,h1,h2):=I.mod.blt;exact Calls.Name_function_global I.ok.kind hg (Calls.loadGlobal_builtin (by rw[I.ok.glob]; exact I.mod.glob.keeps I.bk) hm (by rw[I.ok.blt]; exact h1.keeps I.bk) ((h2 x hn).trans hv) h) hd
theorem Vq{x:Str}{v:V}{u:Qc}{pos:Pos}(hg:Gl X x)(hm:X.mg x=some u)(r:zO v u)(hd:(x==("__debug__":Str))=false:=by decide):PE X (.Name x pos) (tC v):=
 λ_ _ _ H _ I h=>Fo I hg hm ⟨v,H,I,r,h⟩ hd
theorem Vp{x:Str}{v:V}{u:Qc}{pos:Pos}(hg:Gl X x)(hm:X.mg x=none)(hv:bootBuiltins x=some u)(r:zO v u)(hn:x ≠ "__name__":=by decide)(hd:(x==("__debug__":Str))=false:=by decide):PE X (.Name x pos) (tC v):=
 λ_ _ _ H _ I h=>pO I hg hm hv ⟨v,H,I,r,h⟩ hn hd
variable{a b:Expr}{ta tb:TE}{pos:Pos}
def tB(t:TE):TT:=λσ H Q=>t σ H λx H1=>∃ c,x=.bl c/\Q c H1
theorem S7{e:Expr}{t:TE}(h:PE X e t)(he:∀ whole,isTrue e X.env whole=(do let v <-whole; standAt e.pos; holding [v] (truthy v)):=by intro _; rfl):PT X e (tB t):=by
 intro pins s σ H Q I hw;refine isTrue_plain (aD (h pins s σ H _ I hw) λv s1 hZ=>?_)<|he _;have(x,H1,I1,r1,q1):=hZ;have(d,rfl,q):=q1;cases r1;exact wpAny_truthy_bool ⟨H1,I1,q⟩
variable{tA mN:TT}{du:Qa Expr}
def DC(t u:TT):TT:=λσ H Q=>t σ H λc H1=>if c=true then u σ H1 Q else Q false H1
def GG(t u:TT):TT:=λσ H Q=>t σ H λc H1=>if c=true then Q true H1 else u σ H1 Q
def DB(t:TT):TT:=λσ H Q=>t σ H λc H1=>Q (!c) H1
theorem Vo(ha:PT X a tA):PW X (.BoolOp .And [a] pos) tA:=by
 intro wh pins s σ H Q I h;refine isTrue_and<|aD (ha pins s σ H Q I h) λc s1 e=>?_;cases c with
 | true=>exact isTrue_and_nil e
 | false=>exact e
theorem S6(ha:PT X a tA):PW X (.BoolOp .Or [a] pos) tA:=by
 intro wh pins s σ H Q I h;refine isTrue_or<|aD (ha pins s σ H Q I h) λc s1 e=>?_;cases c with
 | false=>exact isTrue_or_nil e
 | true=>exact e
theorem S5(ha:PT X a tA)(hb:PW X (.BoolOp .And (b::du) pos) mN):PW X (.BoolOp .And (a::b::du) pos) (DC tA mN):=by
 intro wh pins s σ H Q I h;refine isTrue_and<|aD (ha pins s σ H _ I h) λc s1 hZ=>?_;have(H1,I1,q1):=hZ;cases c with
 | true=>exact hb wh pins s1 σ H1 Q I1 q1
 | false=>exact⟨H1,I1,q1⟩
theorem zAf(ha:PT X a tA)(hb:PW X (.BoolOp .Or (b::du) pos) mN):PW X (.BoolOp .Or (a::b::du) pos) (GG tA mN):=by
 intro wh pins s σ H Q I h;refine isTrue_or<|aD (ha pins s σ H _ I h) λc s1 hZ=>?_;have(H1,I1,q1):=hZ;cases c with
 | true=>exact⟨H1,I1,q1⟩
 | false=>exact hb wh pins s1 σ H1 Q I1 q1
theorem S4(ha:PT X a tA):PT X (.UnaryOp .Not a pos) (DB tA):=by
 intro pins s σ H Q I h;exact isTrue_not<|ha pins s σ H (λc H1=>Q (!c) H1) I h
def D4(ta tb:TE):TE:=λσ H Q=>ta σ H λx H1=>∃ c,x=.bl c/\if c=true then tb σ H1 Q else Q (.bl false) H1
def D3(ta:TE):TE:=λσ H Q=>ta σ H λx H1=>∃ c,x=.bl c/\Q (.bl (!c)) H1
theorem S3{op}{t:TE}(h:PE X a t):PE X (.BoolOp op [a] pos) t:=λpins s σ H Q I hw=>BoolOp_one<|h pins s σ H Q I hw
theorem Tp(ha:PE X a ta)(hb:PE X (.BoolOp .And (b::du) pos) tb):PE X (.BoolOp .And (a::b::du) pos) (D4 ta tb):=by
 intro pins s σ H Q I h;refine BoolOp_and<|aD (ha pins s σ H _ I h) λv s1 hZ=>?_;have(x,H1,I1,r1,q1):=hZ;have(c,rfl,q1):=q1;cases r1;refine wpAny_truthy_bool ?_;cases c with
 | true=>exact hb pins s1 σ H1 Q I1 q1
 | false=>exact⟨.bl false,H1,I1,rfl,q1⟩
theorem To(ha:PE X a ta):PE X (.UnaryOp .Not a pos) (D3 ta):=by
 intro pins s σ H Q I h;refine UnaryOp_<|aD (ha pins s σ H _ I h) λv s1 hZ=>?_;have(x,H1,I1,r1,q1):=hZ;have(c,rfl,q1):=q1;cases r1;exact not_of<|wpAny_truthy_bool ⟨.bl (!c),H1,I1,rfl,q1⟩
def GH(t:TT)(ta tb:TE):TE:=λσ H Q=>t σ H λc H1=>if c=true then ta σ H1 Q else tb σ H1 Q
theorem Yg{c:Expr}(hc:PT X c tA)(ha:PE X a ta)(hb:PE X b tb):PE X (.IfExp c a b pos) (GH tA ta tb):=by
 intro pins s σ H Q I h;refine wpAny_IfExp<|aD (hc pins s σ H _ I h) λd s1 hZ=>?_;have(H1,I1,q1):=hZ;cases d with
 | true=>exact ha pins s1 σ H1 Q I1 q1
 | false=>exact hb pins s1 σ H1 Q I1 q1
end
def bA(K:qc)(H:Hp)(a:Qg)(xs:Qa V):Prop :=
 Rd H a (.lst xs)\/
  ∃ (o:Obj) (ah:Array Qc) (n:Nat),K.lookup a=some o/\o.cls=.type "list"/\o.dict=none/\o.data=.seq ah n/\ah.size<=sizeLine/\zM xs ah.toList
def bz(K:qc)(H:Hp)(a:Qg)(xs:Qa V):Prop :=
 Rd H a (.tup xs)\/
  ∃ (o:Obj) (ah:Array Qc) (n:Nat),K.lookup a=some o/\o.cls=.type "tuple"/\o.data=.seq ah n/\ah.size<=sizeLine/\zM xs ah.toList
def zBX:Qc->Qb V
 | .none=>some .aI
 | .bool b=>some<|.bl b
 | .int i _=>some<|.int i
 | .str x _=>some<|.str x
 | .bytes b _=>some<|.ji b
 | .float b _=>some<|.tV b
 | .ref a=>some<|.ref a
 | .type n=>some<|.ty n
 | _=>none
theorem zO.abs{x:V}{u:Qc}(r:zO x u):zBX u=some x:=by
 cases x with
 | aI=>cases r; rfl
 | bl _=>cases r; rfl
 | int _=>have(t,rfl):=r; rfl
 | str _=>have(t,rfl):=r; rfl
 | ji _=>have(t,rfl):=r; rfl
 | tV _=>have(t,rfl):=r; rfl
 | ref _=>cases r; rfl
 | ty _=>cases r; rfl
theorem zO.inj{x y:V}{u:Qc}(r:zO x u)(q:zO y u):x=y:=qw (r.abs.symm.trans q.abs)
theorem zM.inj:∀ {xs ys:Qa V} {us:Qa Qc},zM xs us->zM ys us->xs=ys
 | _,_,_,.nil,.nil=>rfl
 | _,_,_,.cons r t,.cons r' t'=>by rw[r.inj r',zM.inj t t']
section
variable{X:Cx}{pins:Qa (Qg×Obj)}{σ:St}{H:Hp}{s:Qd}{a:Qg}{xs ys:Qa V}
theorem bA.of{K:qc}(h:H a=some (.lst xs)):bA K H a xs:=.inl (.inl h)
theorem Inv.list(I:Inv X pins σ H s)(h:bA X.K H a xs):∃ ah:Qa Qc,zM xs ah/\PlainL s.heap a ah.toArray/\xs.length<=sizeLine:=by
 rcases h with h|⟨o,ah,n,hk,hc,hd,hs,hz,r⟩
 .have(z,ah,n,r,e):=h.ok I.aw
  exact⟨ah,r,⟨_,n,e,rfl,rfl,rfl⟩,z⟩
 .refine⟨ah.toList,r,⟨o,n,I.bN a o hk,hc,hd,by simpa using hs⟩,?_⟩
  have e:=r.length;simp only[Array.length_toList]at e;omega
theorem Inv.tuple(I:Inv X pins σ H s)(h:bz X.K H a xs):∃ ah:Qa Qc,zM xs ah/\IsTup s.heap a ah.toArray/\xs.length<=sizeLine:=by
 rcases h with h|⟨o,ah,n,hk,hc,hs,hz,r⟩
 .have(z,ah,r,p):=h.ok I.aw
  exact⟨ah,r,p.tup,z⟩
 .refine⟨ah.toList,r,⟨o,I.bN a o hk,hc,n,by simpa using hs⟩,?_⟩
  have e:=r.length;simp only[Array.length_toList]at e;omega
theorem Inv.gI(I:Inv X pins σ H s)(h:bA X.K H a xs)(h':bA X.K H a ys):xs=ys:=by
 obtain⟨ah,r,⟨o,n,e,_,_,d⟩,_⟩:=I.list h;obtain⟨its',r',⟨o',n',e',_,_,d'⟩,_⟩:=I.list h';rw[e]at e'; cases e';rw[d]at d';injection d' with d1 _;have:ah=its':=by simpa using congrArg Array.toList d1
 subst this;exact r.inj r'
theorem Inv.cy(I:Inv X pins σ H s)(h:bz X.K H a xs)(h':bz X.K H a ys):xs=ys:=by
 obtain⟨ah,r,⟨o,e,_,n,d⟩,_⟩:=I.tuple h;obtain⟨its',r',⟨o',e',_,n',d'⟩,_⟩:=I.tuple h';rw[e]at e'; cases e';rw[d]at d';injection d' with d1 _;have:ah=its':=by simpa using congrArg Array.toList d1
 subst this;exact r.inj r'
end
abbrev Cx.fq(X:Cx)(E:Qc->Qd->Prop):Cx:={X with xe:=E}
abbrev Cx.sZ(X:Cx):Cx:=X.fq λ_ _=>False
theorem Cx.Ok.fq{X:Cx}(ok:X.Ok)(E:Qc->Qd->Prop):(X.fq E).Ok :=
 ⟨ok.mod,ok.kind,ok.glob,ok.blt,ok.above,ok.inj,ok.has,ok.vC,ok.hd,ok.frames,ok.xm,ok.yf,ok.bs,ok.mX,ok.jJ,ok.lM,ok.dA,ok.qT⟩
theorem Cx.Ok.b9{X:Cx}{E:Qc->Qd->Prop}(ok:(X.fq E).Ok):X.Ok :=
 ⟨ok.mod,ok.kind,ok.glob,ok.blt,ok.above,ok.inj,ok.has,ok.vC,ok.hd,ok.frames,ok.xm,ok.yf,ok.bs,ok.mX,ok.jJ,ok.lM,ok.dA,ok.qT⟩
section
variable{X:Cx}{pins:Qa (Qg×Obj)}{σ:St}{H:Hp}{s:Qd}{E:Qc->Qd->Prop}
theorem Inv.fq(I:Inv X pins σ H s)(E:Qc->Qd->Prop):Inv (X.fq E) pins σ H s:=⟨I.ok.fq E,I.os,I.bare,I.base,I.loc,I.cell,I.free,I.bQ,I.pin,I.aw,I.len⟩
theorem Inv.b9(I:Inv (X.fq E) pins σ H s):Inv X pins σ H s:=⟨I.ok.b9,I.os,I.bare,I.base,I.loc,I.cell,I.free,I.bQ,I.pin,I.aw,I.len⟩
theorem SP.b9{D:Ends}{f:Flow}{s':Qd}(h:SP (X.fq E) pins D f s'):SP X pins D f s':=by
 cases f with
 | next=>have(aG,H',I,q):=h; exact⟨aG,H',I.b9,q⟩
 | brk=>have(aG,H',I,q):=h; exact⟨aG,H',I.b9,q⟩
 | cont=>have(aG,H',I,q):=h; exact⟨aG,H',I.b9,q⟩
 | ret u=>have(v,aG,H',I,r,q):=h; exact⟨v,aG,H',I.b9,r,q⟩
theorem eI.sZ{st:Qa Stmt}{t:TS}(h:eI X.sZ st t):eI X st t:=λpins s σ H D I hw=>
 wpAny_mono (h pins s σ H D (I.fq _) hw) (λ_ _ q=>q.b9) λ_ _ z=>False.elim z
end
section
variable{X:Cx}{st:Stmt}{du:Qa Stmt}{t u:TS}{e:Expr}{te:TE}{pos:Pos}
def Ed:TS:=λD σ H=>D.nx σ H
def vN(t u:TS):TS:=λD σ H=>t {D with nx:=u D} σ H
theorem Vn:eI X [] Ed:=λ_ _ σ H _ I h=>wpAny_execs_nil ⟨σ,H,I,h⟩
theorem FP(h1:PS X st t)(h2:eI X du u):eI X (st::du) (vN t u):=by
 intro pins s σ H D I h;refine wpAny_execs_cons<|aD (h1 pins s σ H {D with nx:=u D} I h) λf s1 q=>?_;cases f with
 | next=>
  have(aG,H',I',q):=q;exact h2 pins s1 aG H' D I' q
 | ret v=>exact q
 | brk=>exact q
 | cont=>exact q
theorem Ld(h1:PS X st t):eI X [st] t:=by
 intro pins s σ H D I h;refine wpAny_execs_cons<|aD (h1 pins s σ H D I h) λf s1 q=>?_;cases f with
 | next=>exact wpAny_execs_nil q
 | ret v=>exact q
 | brk=>exact q
 | cont=>exact q
theorem Inv.quiet{pins:Qa (Qg×Obj)}{σ:St}{H:Hp}{s:Qd}(I:Inv X pins σ H s):interactive X.env=false:=by simp[interactive,I.ok.kind]
def Ec(te:TE):TS:=λD σ H=>te σ H λ_ H1=>D.nx σ H1
theorem Vm(he:PE X e te)(hs:swapsWith e none pos.line X.env=pure false:=by rfl):PS X (.Expr e pos) (Ec te):=by
 intro pins s σ H D I h;exact wpAny_Expr_any (aD (he pins s σ H _ I h) λv s1 ⟨x,H1,I1,r1,q1⟩=>⟨σ,H1,I1,q1⟩) I.quiet hs
def yM(te:TE):TS:=λD σ H=>te σ H D.rt
theorem Tn(he:PE X e te):PS X (.Return (some e) pos) (yM te):=by
 intro pins s σ H D I h;exact wpAny_Return_some<|aD (he pins s σ H _ I h) λv s1 ⟨x,H1,I1,r1,q1⟩=>⟨x,σ,H1,I1,r1,q1⟩
def DG(c:TT)(t u:TS):TS:=λD σ H=>c σ H λb H1=>if b=true then t D σ H1 else u D σ H1
theorem zAg{c:Expr}{a b:Qa Stmt}{tc:TT}(hc:PT X c tc)(ha:eI X a t)(hb:eI X b u):PS X (.If c a b pos) (DG tc t u):=by
 intro pins s σ H D I h;refine wpAny_If<|aD (hc pins s σ H _ I h) λd s1 hZ=>?_;have(H1,I1,q1):=hZ;cases d with
 | true=>exact ha pins s1 σ H1 D I1 q1
 | false=>exact hb pins s1 σ H1 D I1 q1
end
abbrev TG:=V->St->Hp->(St->Hp->Prop)->Prop
abbrev hW:=Qa V->St->Hp->(St->Hp->Prop)->Prop
def PG(X:Cx)(target:Expr)(t:TG):Prop :=
 ∀ (pins:Qa (Qg×Obj)) (s:Qd) (σ:St) (H:Hp) (v:V) (u:Qc) (Q:St->Hp->Prop),Inv X pins σ H s->zO v u->t v σ H Q->
  wpAny (model X.prog X.w) X.A (assign target X.env u) (λ_ s'=>∃ aG H',Inv X pins aG H' s'/\Q aG H') X.xe s
def qZ(X:Cx)(ts:Qa Expr)(t:hW):Prop :=
 ∀ (pins:Qa (Qg×Obj)) (s:Qd) (σ:St) (H:Hp) (vs:Qa V) (us:Qa Qc) (Q:St->Hp->Prop),Inv X pins σ H s->zM vs us->t vs σ H Q->
  wpAny (model X.prog X.w) X.A (assignInOrder ((assignEach ts X.env).map (·.2)) us) (λ_ s'=>∃ aG H',Inv X pins aG H' s'/\Q aG H') X.xe s
abbrev yL:=V->V->V->Hp->(Hp->Prop)->Prop
def DE(X:Cx)(t:yL):Prop :=
 ∀ (pins:Qa (Qg×Obj)) (s:Qd) (σ:St) (H:Hp) (o i v:V) (ov iv u:Qc) (Q:Hp->Prop),Inv X pins σ H s->zO o ov->zO i iv->zO v u->t o i v H Q->
  wpAny (model X.prog X.w) X.A (setItem ov iv u) (λ_ s'=>∃ H',Inv X pins σ H' s'/\Q H') X.xe s
section
variable{X:Cx}{pos:Pos}
def jv(i:Nat):TG:=λv σ H Q=>Q (σ.set i<|some v) H
theorem Vl{i:Nat}{x:Str}(hN:X.N.Nodup)(hi:X.N[i]?=some x)(hx:Loc X.env.scope x)(hf:X.fn x=true\/X.env.scope.names.lookup x=some .local:=by first|exact .inl rfl|exact .inr rfl|assumption):PG X (.Name x pos) (jv i):=by
 intro pins s σ H v u Q I r h;exact wpAny_assign_Name<|Bb I hN hi hx r (λs' I'=>⟨_,H,I',h⟩) hf
def yK:hW:=λvs σ H Q=>vs=[]/\Q σ H
def wa(t:TG)(u:hW):hW:=λvs σ H Q=>∃ v r,vs=v::r/\t v σ H λaG H'=>u r aG H' Q
theorem Vk:qZ X [] yK:=by
 intro pins s σ H vs us Q I r h;have(e,h):=h;subst e;cases r;exact assignInOrder_nil ⟨σ,H,I,h⟩
theorem YJ{e:Expr}{es:Qa Expr}{t:TG}{u:hW}(h1:PG X e t)(h2:qZ X es u)
  (hs:(assignEach (e::es) X.env).map (·.2)=assign e X.env::(assignEach es X.env).map (·.2):=by rfl):qZ X (e::es) (wa t u):=by
 intro pins s σ H vs us Q I r h;have(v,vr,e1,h):=h;subst e1;cases r with
 | cons r rr=>
  rw[hs];refine assignInOrder_cons<|aD (h1 pins s σ H _ _ _ I r h) λ_ s1 hZ=>?_;have(dQ,H1,I1,q1):=hZ;exact h2 pins s1 dQ H1 _ _ Q I1 rr q1
def yJ(K:qc)(n:Nat)(t:hW):TG:=λv σ H Q=>∃ a xs,v=.ref a/\bz K H a xs/\xs.length=n/\t xs σ H Q
theorem Tj{es:Qa Expr}{k:Nat}{t:hW}{n:Nat}(hc:X.calm=true)(h:qZ X es t)
  (hn:(assignEach es X.env).length=n:=by rfl) (vq:(assignEach es X.env).findIdx? (·.1)=none:=by rfl):PG X (.Tuple es k pos) (yJ X.K n t):=by
 intro pins s σ H v u Q I r hw;have(a,xs,e1,hq,hl,hw):=hw;subst e1;cases r;have(ah,rv,ht,hz):=I.tuple hq;refine assign_Tuple_tuple (I.ok.hd hc) ht (by simp[hn,<-hl,rv.length]) vq λh' hx=>?_;have I1:Inv X pins σ H {s with heap:=h'}:=I.kept (t':=s.toks) λb o e=>hx b o (qj<|qh e) e;exact h pins _ σ H xs _ Q I1 (by simpa using rv) hw
def DD(to ti:TE)(t:yL):TG:=λv σ H Q=>to σ H λo H1=>ti σ H1 λi H2=>t o i v H2 λH3=>Q σ H3
theorem Ti{o i:Expr}{to ti:TE}{t:yL}(ho:PE X o to)(hi:PE X i ti)(hs:DE X t)
  (ha:∀ v,assign (.Subscript o i pos) X.env v=(do
   let ov <-holding [v] (eval o X.env)
   let iv <-holding [v,ov] (eval i X.env)
   standAt pos
   holding [v,ov,iv] (setItem ov iv v)
   release [v,ov,iv] []):=by intro _; rfl):PG X (.Subscript o i pos) (DD to ti t):=by
 intro pins s σ H v u Q I r h;rw[ha];refine qa<|wpAny_holding<|aD (ho pins s σ H _ I h) λov s1 hZ=>?_;have(x,H1,I1,r1,q1):=hZ;refine qa<|wpAny_holding<|aD (hi pins s1 σ H1 _ I1 q1) λiv s2 hZ=>?_;have(y,H2,I2,r2,q2):=hZ;refine qa<|wpAny_standAt<|qa<|wpAny_holding<|aD (hs pins s2 σ H2 x y v ov iv u _ I2 r1 r2 r q2) λ_ s3 hZ=>?_;have(H3,I3,q3):=hZ;exact wpAny_release ⟨σ,H3,I3,q3⟩
def nj(te:TE)(g:TG):TS:=λD σ H=>te σ H λx H1=>g x σ H1 D.nx
theorem Th{tg e:Expr}{te:TE}{g:TG}(he:PE X e te)(hg:PG X tg g)(hs:swapsWithSole [tg] e pos.line X.env=pure false:=by rfl)(hw:swappedStores [tg] e X.env=pure none:=by rfl)
  (h1:(assignEach [tg] X.env).map (·.2)=[assign tg X.env]:=by rfl):PS X (.Assign [tg] e pos) (nj te g):=by
 intro pins s σ H D I h;refine wpAny_Assign_stores (aD (he pins s σ H _ I h) λv s1 hZ=>?_) hs hw;have(x,H1,I1,r1,q1):=hZ;rw[h1];exact aD (hg pins s1 σ H1 x v _ I1 r1 q1) λ_ s2 q=>q
theorem Tg{i:Nat}{x:Str}{e:Expr}{te:TE}{pos':Pos}(hN:X.N.Nodup)(hi:X.N[i]?=some x)(hx:Loc X.env.scope x)(he:PE X e te)(hs:swapsWith e (some<|.Name x pos') pos.line X.env=pure false:=by rfl)(hf:X.fn x=true\/X.env.scope.names.lookup x=some .local:=by first|exact .inl rfl|exact .inr rfl|assumption):
  PS X (.Assign [.Name x pos'] e pos) (nj te<|jv i):=by
 intro pins s σ H D I h;refine wpAny_Assign_Name (aD (he pins s σ H _ I h) λv s1 hZ=>?_) hs;have(y,H1,I1,r1,q1):=hZ;exact Bb I1 hN hi hx r1 (λs2 I2=>⟨_,H1,I2,q1⟩) hf
def Du(i j:Nat)(ta:TA):TS:=λD σ H=>ta σ H λvs H1=>∃ v w,vs=[v,w]/\D.nx ((σ.set i<|some v).set j<|some w) H1
theorem R8{i j:Nat}{x y:Str}{a b:Expr}{ta:TA}{px py pt:Pos}{kt k2 sS}(hc:X.calm=true)(hN:X.N.Nodup)(hi:X.N[i]?=some x)(hj:X.N[j]?=some y)(fG:i≠j)
  (hx:X.env.scope.names.lookup x=some .local) (hy:X.env.scope.names.lookup y=some .local) (ha:PA X [a,b] ta)
  (hw:swappedStores [.Tuple [.Name x px,.Name y py] kt pt] (.Tuple [a,b] k2 sS) X.env=pure (some [x,y]))
  (hs:swapsWithSole [.Tuple [.Name x px,.Name y py] kt pt] (.Tuple [a,b] k2 sS) pos.line X.env=pure false:=by rfl):
  PS X (.Assign [.Tuple [.Name x px,.Name y py] kt pt] (.Tuple [a,b] k2 sS) pos) (Du i j ta):=by
 intro pins s σ H D I h;rw[exec_Assign_arm];refine qa<|wpAny_standAt ?_;rw[hs];refine qa<|qb ?_;rw[if_neg (by decide)];refine qa<|Tuple_<|aD (ha _ pins s σ H _ I h) λus s1 hZ=>?_;have(vs,H1,I1,r1,q1):=hZ;have(v,w,e1,q1):=q1;subst e1;obtain⟨u1,u2,rfl,rv,jH⟩:∃ u1 u2,us=[u1,u2]/\zO v u1/\zO w u2:=by
  cases r1 with
  | cons p q=>
   cases q with
   | cons p' q'=>
    cases q';exact⟨_,_,rfl,p,p'⟩
 refine qy ?_ (by show 2<=sizeLine; decide);have I2:Inv X pins σ H1 {s1 with heap:=s1.heap.push {cls:=.type "tuple",data:=.seq [u1,u2].toArray}}:=I1.kept (t':=s1.toks) λb o e=>qd _ e;rw[hw];refine qa<|qb ?_;show wpAny (model X.prog X.w) X.A (do rule "assign.swapped-stores"; let items <-unpackItems (.ref s1.heap.objs.size) 2 none; assignInOrder [λv=>bindName X.env y v,λv=>bindName X.env x v] items.reverse; pure Flow.next) _ _ _;refine qa<|wpAny_rule<|qa<|unpackItems_tuple (items:=#[u1,u2]) (I.ok.hd hc) (IsTup.new s1.heap _) λh' vn=>?_;have I3:=I2.kept (h':=h') (t':=s1.toks) λb o e=>vn b o (qj<|qh e) e;show wpAny _ _ (assignInOrder [λv=>bindName X.env y v,λv=>bindName X.env x v] [u2,u1] >>= λ_=>pure Flow.next) _ _ _;refine qa<|assignInOrder_cons<|wpAny_bindName<|Bb I3 hN hj (.inl hy) jH (λs2 I4=>?_)<|.inr hy;refine assignInOrder_cons<|wpAny_bindName<|Bb I4 hN hi (.inl hx) rv (λs3 I5=>assignInOrder_nil<|qb ?_)<|.inr hx;rw[List.set_comm _ _<|Ne.symm fG]at I5;exact⟨_,H1,I5,q1⟩
end
section
variable{X:Cx}{pos:Pos}
def EH(c:TT)(tb:TS):TS:=λD σ H=>∃ W:Nat->St->Hp->Prop,(∃ m,W m σ H)/\∀ m σ H,W m σ H->
 c σ H λb H1=>if b=true then ∃ N:St->Hp->Prop,(∀ aG H',N aG H'->∃ m',m' < m/\W m' aG H')/\tb {D with nx:=N,ct:=N,bk:=D.nx} σ H1 else D.nx σ H1
theorem YI{c:Expr}{body:Qa Stmt}{tc:TT}{tb:TS}(hp:PassesOwn (model X.prog X.w) X.A X.env X.xe)(hc:PT X c tc)(hb:eI X body tb):PS X (.While c body [] pos) (EH tc tb):=by
 intro pins s σ H D I h;obtain⟨W,⟨m0,w0⟩,turn⟩:=h;refine wpAny_While<|codeAny_whileLoop (λn s'=>∃ aG H',Inv X pins aG H' s'/\W n aG H') ?_ m0 ⟨σ,H,I,w0⟩;rintro n s1 ⟨dQ,H1,I1,w1⟩;refine wpAny_passesOwn hp<|aD (hc pins s1 dQ H1 _ I1<|turn n dQ H1 w1) λb s2 hZ=>?_;have(H2,I2,q2):=hZ;cases b with
 | true=>
  have(N,hN,q2):=q2;rw[if_pos rfl];refine wpAny_passesOwn hp<|aD (hb pins s2 dQ H2 _ I2 q2) λf s3 q3=>?_;cases f with
  | next=>
   have(dC,H3,I3,n3):=q3;have(m',hm,w3):=hN dC H3 n3;exact⟨m',hm,dC,H3,I3,w3⟩
  | cont=>
   have(dC,H3,I3,n3):=q3;have(m',hm,w3):=hN dC H3 n3;exact⟨m',hm,dC,H3,I3,w3⟩
  | brk=>exact q3
  | ret v=>exact q3
 | false=>
  rw[if_neg qf];exact wpAny_execs_nil ⟨dQ,H2,I2,q2⟩
end
structure It where
 go:Nat->Hp->Prop
 u7:Nat->Hp->V->Hp->Prop
 stop:Nat->Hp->Prop
def fm(X:Cx)(pins:Qa (Qg×Obj))(H:Hp)(b:Qg):Prop :=
 H b=none/\b≠X.env.locals/\b∉X.fs/\(b∈X.ex\/X.aY.heap.objs.size<=b)/\(∀ x c,X.env.cells.lookup x=some c->c≠b)/\∀ p∈X.pn++pins,p.1≠b
theorem Inv.cM{X:Cx}{pins:Qa (Qg×Obj)}{σ:St}{H H':Hp}{s:Qd}{b:Qg}(I:Inv X pins σ H s)(hb:s.heap.objs.size<=b)(hn:H' b=none):fm X pins H' b:=by
 refine⟨hn,Nat.ne_of_gt<|qi I.lt hb,I.G2 hb,.inr<|qx I.sz hb,λx c e z=>?_,λp hp z=>?_⟩
 .have(v,q):=I.cell x c e
  exact absurd (qi q.lt (by rw[z]; exact hb))<|Í _
 .exact absurd (qi (qh (I.pin p hp).1) (by rw[z]; exact hb)) (Í _)
structure Turn (P:Qe) (w:Qh) (K:qc) (tg:Expr) (J:It) (fp:Qa Qg) (it:Qg) (tn:Nat->Heap->Prop):Prop where
 mem:it∈fp
 obj:∀ i h,tn i h->∀ b∈fp,∃ o,h.get? b=some o/\∀ v,o.data≠.cell v
 keep:∀ i h h',tn i h->(∀ b∈fp,∀ o,h.get? b=some o->h'.get? b=some o)->tn i h'
 item:∀ (X:Cx),X.prog=P->X.w=w->X.K=K->X.calm=true->∀ (i:Nat) (pins:Qa (Qg×Obj)) (s:Qd) (σ:St) (H:Hp) (E:Qc->Qd->Prop),Inv X pins σ H s->(∀ b∈fp,fm X pins H b)->tn i s.heap->J.go i H->
  wpAny (model P w) X.A (pyNext<|.ref it) (λr s1=>∃ u,r=some u/\
   wpAny (model P w) X.A (letOwnedTupleGo tg (.ref it) u) (λ_ s2=>∃ x H',Inv X pins σ H' s2/\zO x u/\J.u7 i H x H'/\tn (i+1) s2.heap/\∀ b∈fp,H' b=none) E s1) E s
 done:∀ (X:Cx),X.prog=P->X.w=w->X.K=K->X.calm=true->∀ (i:Nat) (pins:Qa (Qg×Obj)) (s:Qd) (σ:St) (H:Hp) (E:Qc->Qd->Prop),Inv X pins σ H s->(∀ b∈fp,fm X pins H b)->tn i s.heap->J.stop i H->
  wpAny (model P w) X.A (pyNext<|.ref it) (λr s1=>r=none/\Inv X pins σ H s1) E s
 self:∀ (A:Qf) (i:Nat) (s:Qd) (Q:Qc->Qd->Prop) (E:Qc->Qd->Prop),tn i s.heap->Q (.ref it) s->wpAny (model P w) A (pyIter<|.ref it) Q E s
abbrev TI:=St->Hp->(It->Hp->Prop)->Prop
def Ie(X:Cx)(pins:Qa (Qg×Obj))(σ:St)(tg:Expr)(R:It->Hp->Prop)(vm:Qc)(s2:Qd):Prop :=
 ∃ (it:Qg) (fp:Qa Qg) (tn:Nat->Heap->Prop) (J:It) (H':Hp),vm=.ref it/\Inv X pins σ H' s2/\Turn X.prog X.w X.K tg J fp it tn/\tn 0 s2.heap/\(∀ b∈fp,fm X pins H' b)/\R J H'
def PI(X:Cx)(tg iter:Expr)(wi:TI):Prop :=
 ∀ (pins:Qa (Qg×Obj)) (s:Qd) (σ:St) (H:Hp) (R:It->Hp->Prop),Inv X pins σ H s->wi σ H R->
  wpAny (model X.prog X.w) X.A (eval iter X.env) (λv s1=>wpAny (model X.prog X.w) X.A (pyIter v) (Ie X pins σ tg R) X.xe s1) X.xe s
theorem vZ{M:Model}{A:Qf}{E:Qc->Qd->Prop}{s:Qd}{tg:Expr}{it:Qg}{u:Qc}{o:Obj}{n:String}{vs:Array Qc}{Q:Unit->Qd->Prop}(ho:s.heap.get? it=some o)(hc:o.cls=.type n)(hd:o.data=.fields vs)
  (hn:["enumerate", "zip", "dict_itemiterator", "dict_reverseitemiterator", "odict_iterator", "itertools.zip_longest", "itertools.pairwise"].contains n=false) (hQ:Q () s):wpAny M A (letOwnedTupleGo tg (.ref it) u) Q E s:=by
 unfold letOwnedTupleGo;cases tg<;>first
  | exact qb hQ
  | (cases u<;>first
    | exact qb hQ
    | (refine qa<|wpAny_load ho ?_
       rw[hc,hd];show wpAny M A (if(["enumerate", "zip", "dict_itemiterator", "dict_reverseitemiterator", "odict_iterator", "itertools.zip_longest", "itertools.pairwise"].contains n && vs[0]?==some (rawInt _))=true then _ else _) Q E s;rw[if_neg (by intro h; rw[hn,Bool.false_and]at h; cases h)];exact qb hQ))
def QP(K:qc)(a:Qg):It :=
 ⟨λi H=>∃ xs x,bA K H a xs/\xs[i]?=some x,λi H x H'=>H'=H/\∀ xs,bA K H a xs->xs[i]?=some x,λi H=>∃ xs,bA K H a xs/\xs.length<=i⟩
def QN(K:qc)(a:Qg):It :=
 ⟨λi H=>∃ xs x,bz K H a xs/\xs[i]?=some x,λi H x H'=>H'=H/\∀ xs,bz K H a xs->xs[i]?=some x,λi H=>∃ xs,bz K H a xs/\xs.length<=i⟩
def yp(lo:Int)(n:Nat):It:=⟨λi _=>i < n,λi H x H'=>H'=H/\x=.int (lo+i),λi _=>n<=i⟩
theorem YT{P:Qe}{w:Qh}{K:qc}{tg:Expr}(a it:Qg):Turn P w K tg (QP K a) [it] it (λi h=>h.IsListIter it a i) where
 mem:=by simp
 obj:=λi h st b hb=>by
  have e:b=it:=by simpa using hb
  subst e;have(o,e,c,d):=st;exact⟨o,e,λv z=>by rw[d]at z; cases z⟩
 keep:=λi h h' st k=>st.at λo e=>k it (by simp) o e
 item:=by
  intro X hP hw hK hc i pins s σ H E I hf st hg;subst hP hw hK;have(xs,x,hq,hx):=hg;have(ah,rv,p,hz):=I.list hq;have(u,hu,ru):=rv.get hx;have(f0,f1,f2,f3,f4,f5):=hf it (by simp);refine wpAny_pyNext_list_item st p.isList (x:=u) (by simpa using hu) λh' fu sb=>?_;have I1:Inv X pins σ H {s with heap:=h'}:=I.turned (t':=s.toks) (λb o hb e=>(sb.2 b hb).trans e) f0 f1 f3 f4 f5;have(o,e,c,d):=id fu;exact⟨u,rfl,vZ (s:={s with heap:=h'}) e c d (by decide) ⟨x,H,I1,ru,⟨rfl,λys hy=>by rw[I.gI hy hq]; exact hx⟩,fu,λb hb=>(hf b hb).1⟩⟩
 done:=by
  intro X hP hw hK hc i pins s σ H E I hf st hg;subst hP hw hK;have(xs,hq,hx):=hg;have(ah,rv,p,hz):=I.list hq;have(f0,f1,f2,f3,f4,f5):=hf it (by simp);have hl:=rv.length;exact wpAny_pyNext_list_end (I.ok.hd hc) st p.isList (by simp; omega) λh' eb=>⟨rfl,I.turned (t':=s.toks) (λb o hb e=>eb b o hb e) f0 f1 f3 f4 f5⟩
 self:=λ_ _ _ _ _ st h=>wpAny_pyIter_listiter st h
theorem zms{P:Qe}{w:Qh}{K:qc}{tg:Expr}(a it:Qg):Turn P w K tg (QN K a) [it] it (λi h=>h.IsTupleIter it a i) where
 mem:=by simp
 obj:=λi h st b hb=>by
  have e:b=it:=by simpa using hb
  subst e;have(o,e,c,d):=st;exact⟨o,e,λv z=>by rw[d]at z; cases z⟩
 keep:=λi h h' st k=>st.at λo e=>k it (by simp) o e
 item:=by
  intro X hP hw hK hc i pins s σ H E I hf st hg;subst hP hw hK;have(xs,x,hq,hx):=hg;have(ah,rv,p,hz):=I.tuple hq;have(u,hu,ru):=rv.get hx;have(f0,f1,f2,f3,f4,f5):=hf it (by simp);refine wpAny_pyNext_tuple_item st (show s.heap.IsTuple a ah.toArray from p) (x:=u) (by simpa using hu) λh' fu sb=>?_;have I1:Inv X pins σ H {s with heap:=h'}:=I.turned (t':=s.toks) (λb o hb e=>(sb.2 b hb).trans e) f0 f1 f3 f4 f5;have(o,e,c,d):=id fu;exact⟨u,rfl,vZ (s:={s with heap:=h'}) e c d (by decide) ⟨x,H,I1,ru,⟨rfl,λys hy=>by rw[I.cy hy hq]; exact hx⟩,fu,λb hb=>(hf b hb).1⟩⟩
 done:=by
  intro X hP hw hK hc i pins s σ H E I hf st hg;subst hP hw hK;have(xs,hq,hx):=hg;have(ah,rv,p,hz):=I.tuple hq;have(f0,f1,f2,f3,f4,f5):=hf it (by simp);have hl:=rv.length;exact wpAny_pyNext_tuple_end (I.ok.hd hc) st (show s.heap.IsTuple a ah.toArray from p) (by simp; omega) λh' eb=>⟨rfl,I.turned (t':=s.toks) (λb o hb e=>eb b o hb e) f0 f1 f3 f4 f5⟩
 self:=λ_ _ _ _ _ st h=>wpAny_pyIter_tupleiter st h
theorem zmt{P:Qe}{w:Qh}{K:qc}{tg:Expr}(it:Qg)(lo:Int)(n:Nat):Turn P w K tg (yp lo n) [it] it (λi h=>IsRangeIter h it (lo+(i:Nat) * 1) ((n:Int) - (i:Nat)) 1) where
 mem:=by simp
 obj:=λi h st b hb=>by
  have e:b=it:=by simpa using hb
  subst e;exact⟨_,st,λv z=>by
   have z':Data.fields _=Data.cell v:=z;cases z'⟩
 keep:=λi h h' st k=>k it (by simp) _ st
 item:=by
  intro X hP hw hK hc i pins s σ H E I hf st hg;subst hP hw hK;have(f0,f1,f2,f3,f4,f5):=hf it (by simp);have W:=Walks.range (prog:=X.prog) (w:=X.w) (I.ok.hd hc) it lo 1 n;refine W.item i s _ _ hg st λv h' tk hv fu kk=>?_;have(t,rfl):=hv;have I1:Inv X pins σ H {s with heap:=h',toks:=tk}:=I.turned (λb o hb e=>kk b o (by simpa using hb) e) f0 f1 f3 f4 f5;refine⟨_,rfl,vZ (s:={s with heap:=h',toks:=tk}) (n := "range_iterator") fu rfl rfl (by decide) ⟨.int<|lo+i,H,I1,⟨t,?_⟩,⟨rfl,rfl⟩,fu,λb hb=>(hf b hb).1⟩⟩;rw[Int.mul_one]
 done:=by
  intro X hP hw hK hc i pins s σ H E I hf st hg;subst hP hw hK;have(f0,f1,f2,f3,f4,f5):=hf it (by simp);exact wpAny_pyNext_range_end (I.ok.hd hc) st (by have:n<=i:=hg; omega) λh' eb=>⟨rfl,I.turned (t':=s.toks) (λb o hb e=>eb b o hb e) f0 f1 f3 f4 f5⟩
 self:=λ_ _ _ _ _ st h=>wpAny_pyIter_rangeiter st h
section
variable{X:Cx}{tg:Expr}
def Eb(K:qc)(tl:TE):TI:=λσ H R=>tl σ H λx H1=>∃ a,x=.ref a/\(∃ xs,bA K H1 a xs)/\R (QP K a) H1
def Dt(K:qc)(tl:TE):TI:=λσ H R=>tl σ H λx H1=>∃ a,x=.ref a/\(∃ xs,bz K H1 a xs)/\R (QN K a) H1
theorem Vj{l:Expr}{tl:TE}(hl:PE X l tl):PI X tg l (Eb X.K tl):=by
 intro pins s σ H R I h;refine aD (hl pins s σ H _ I h) λv s1 hZ=>?_;have(x,H1,I1,r1,q1):=hZ;obtain⟨a,e,⟨xs,hq⟩,q⟩:=q1;subst e;cases r1;have(ah,rv,p,hz):=I1.list hq;refine wpAny_pyIter_list p.isList ?_;refine⟨s1.heap.objs.size,[s1.heap.objs.size],_,_,H1,rfl,I1.kept (t':=s1.toks) λb o e=>qd _ e,YT a _,⟨_,qg _ rfl,rfl,rfl⟩,λb hb=>?_,q⟩;have e:b=s1.heap.objs.size:=by simpa using hb
 subst e;exact I1.cM (qe _)<|I1.aw.fresh<|qe _
theorem R7{l:Expr}{tl:TE}(hl:PE X l tl):PI X tg l (Dt X.K tl):=by
 intro pins s σ H R I h;refine aD (hl pins s σ H _ I h) λv s1 hZ=>?_;have(x,H1,I1,r1,q1):=hZ;obtain⟨a,e,⟨xs,hq⟩,q⟩:=q1;subst e;cases r1;have(ah,rv,p,hz):=I1.tuple hq;refine wpAny_pyIter_tuple (show s1.heap.IsTuple a ah.toArray from p) ?_;refine⟨s1.heap.objs.size,[s1.heap.objs.size],_,_,H1,rfl,I1.kept (t':=s1.toks) λb o e=>qd _ e,zms a _,⟨_,qg _ rfl,rfl,rfl⟩,λb hb=>?_,q⟩;have e:b=s1.heap.objs.size:=by simpa using hb
 subst e;exact I1.cM (qe _)<|I1.aw.fresh<|qe _
theorem L8{pins:Qa (Qg×Obj)}{σ:St}{H:Hp}{s:Qd}{R:It->Hp->Prop}{E:Qc->Qd->Prop}{lo hi:Int}{t u v:Tok}{tk:Nat}(I:Inv X pins σ H s)(h1:-(2^62)<=lo)(h2:lo < 2^62)(h3:-(2^62)<=hi)(h4:hi < 2^62)
  (q:R (yp lo (hi - lo).toNat) H):wpAny (model X.prog X.w) X.A (pyIter<|.ref s.heap.objs.size) (Ie X pins σ tg R) E {s with heap:=s.heap.push {cls:=.type "range",data:=.fields #[.int lo t,.int hi u,.int 1 v]},toks:=tk}:=by
 refine wpAny_pyIter_range (IsRange.new ..) (small_one h1 h2 h3 h4) ?_;have I1:Inv X pins σ H {s with heap:=s.heap.push {cls:=.type "range",data:=.fields #[.int lo t,.int hi u,.int 1 v]},toks:=tk}:=I.kept λb o e=>qd _ e;refine⟨(s.heap.push {cls:=.type "range",data:=.fields #[.int lo t,.int hi u,.int 1 v]}).objs.size,[(s.heap.push {cls:=.type "range",data:=.fields #[.int lo t,.int hi u,.int 1 v]}).objs.size],_,_,H,rfl,
  I1.kept (t':=tk) λb o e=>qd _ e,zmt _ lo (hi - lo).toNat,?_,λb hb=>?_,q⟩
 .have e1:lo+((0:Nat):Int) * 1=lo:=by simp
  have e2:(((hi - lo).toNat:Nat):Int) - ((0:Nat):Int)=Builtin.Range.rangeSize lo hi 1:=by rw[rangeSize_one]; split<;>omega
  show IsRangeIter _ _ (lo+((0:Nat):Int) * 1) ((((hi - lo).toNat:Nat):Int) - ((0:Nat):Int)) 1;rw[e1,e2];exact qg _ rfl
 .have e:b=(s.heap.push {cls:=.type "range",data:=.fields #[.int lo t,.int hi u,.int 1 v]}).objs.size:=by simpa using hb
  subst e;exact I1.cM (qe _)<|I1.aw.fresh<|qe _
def Ea(ta:TA):TI:=λσ H R=>ta σ H λvs H1=>∃ j:Int,vs=[.int j]/\-(2^62)<=j/\j < 2^62/\R (yp 0 j.toNat) H1
def D9(ta:TA):TI:=λσ H R=>ta σ H λvs H1=>∃ i j:Int,vs=[.int i,.int j]/\(-(2^62)<=i/\i < 2^62/\-(2^62)<=j/\j < 2^62)/\R (yp i (j - i).toNat) H1
theorem YS{a:Expr}{ta:TA}{p pos:Pos}(hg:Gl X "range")(hm:X.mg "range"=none)(ha:PA X [a] ta)(hs:starEach [a] X.env=[(false,eval a X.env)]:=by rfl):PI X tg (.Call (.Name "range" p) [a] [] pos) (Ea ta):=by
 intro pins s σ H R I h;refine Call_<|pO I hg hm boot_range<|Ó (aD (ha pos pins s σ H _ I h) λus s1 hZ=>?_) hs rfl;have(vs,H1,I1,r1,q1):=hZ;have(j,e,q1,q2,q):=q1;subst e;cases r1 with
 | cons r rr=>
  cases rr;have(t,rfl):=r;exact call_range_1<|L8 I1 (by omega) (by omega) q1 q2 (by simpa using q)
theorem YR{a b:Expr}{ta:TA}{p pos:Pos}(hg:Gl X "range")(hm:X.mg "range"=none)(ha:PA X [a,b] ta)(hs:starEach [a,b] X.env=[(false,eval a X.env),(false,eval b X.env)]:=by rfl)(mS:starEach [b] X.env=[(false,eval b X.env)]:=by rfl):
  PI X tg (.Call (.Name "range" p) [a,b] [] pos) (D9 ta):=by
 intro pins s σ H R I h;refine Call_<|pO I hg hm boot_range<|Ó (aD (ha pos pins s σ H _ I h) λus s1 hZ=>?_) (by rw[hs,mS]) (by rw[mS]; rfl);have(vs,H1,I1,r1,q1):=hZ;obtain⟨i,j,e,⟨q1,q2,q3,q4⟩,q⟩:=q1;subst e;cases r1 with
 | cons r rr=>
  cases rr with
  | cons r' rr=>
   cases rr;have(t,rfl):=r;have(t',rfl):=r';exact call_range_2<|L8 I1 q1 q2 q3 q4 q
def Ds(wi:TI)(g:TG)(tb:TS):TS:=λD σ H=>wi σ H λJ H1=>∃ W:Nat->Nat->St->Hp->Prop,(∃ m,W 0 m σ H1)/\∀ i m σ H,W i m σ H->
 (J.stop i H/\D.nx σ H)\/(J.go i H/\∃ N:St->Hp->Prop,(∀ aG H',N aG H'->∃ m',m' < m/\W (i+1) m' aG H')/\∀ x H',J.u7 i H x H'->g x σ H' λeJ H2=>tb {D with nx:=N,ct:=N,bk:=D.nx} eJ H2)
def uH(fp:Qa Qg)(h:Heap):Qa (Qg×Obj):=fp.filterMap λb=>(h.get? b).map λo=>(b,o)
theorem uZ{fp:Qa Qg}{h:Heap}{b:Qg}{o:Obj}(hb:b∈fp)(e:h.get? b=some o):(b,o)∈uH fp h:=List.mem_filterMap.mpr ⟨b,hb,by rw[e]; rfl⟩
theorem YQ{fp:Qa Qg}{h:Heap}{p:Qg×Obj}(hp:p∈uH fp h):p.1∈fp/\h.get? p.1=some p.2:=by
 have(b,hb,e):=List.mem_filterMap.mp hp;cases q:h.get? b with
 | none=>rw[q]at e; cases e
 | some o=>
  rw[q]at e;have e':(b,o)=p:=qw e;subst e';exact⟨hb,q⟩
theorem Inv.pinned{pins:Qa (Qg×Obj)}{σ:St}{H:Hp}{s:Qd}{fp:Qa Qg}(I:Inv X pins σ H s)(hf:∀ b∈fp,fm X pins H b)(ho:∀ b∈fp,∃ o,s.heap.get? b=some o/\∀ v,o.data≠.cell v):Inv X (pins++uH fp s.heap) σ H s :=
 I.cU λp hp=>(Ì.mp hp).elim (λz=>I.pin p<|qv _ z) λz=>by
  have(hb,e):=YQ z;have(f0,f1,f2,_):=hf p.1 hb;have(o,e',d):=ho p.1 hb;rw[e]at e'; cases e';exact⟨e,f0,f1,f2,d⟩
theorem Inv.eT{pins pl:Qa (Qg×Obj)}{σ:St}{H:Hp}{s:Qd}(I:Inv X (pins++pl) σ H s):Inv X pins σ H s:=I.cU λp hp=>I.pin p<|qv _<|Ü _ hp
theorem R6{iter:Expr}{body:Qa Stmt}{wi:TI}{g:TG}{tb:TS}{pos:Pos}(hp:PassesOwn (model X.prog X.w) X.A X.env X.xe)(hc:X.calm=true)(hi:PI X tg iter wi)(hg:PG X tg g)(hb:eI X body tb)
  (hs:∀ x,foldedSetIterable iter X.env x=pure x:=by intro _; rfl):PS X (.For tg iter body [] pos) (Ds wi g tb):=by
 intro pins s σ H D I h;refine wpAny_For (aD (hi pins s σ H _ I h) λv s1 h1=>aD h1 λvm s2 h2=>?_) hs;obtain⟨it,fp,tn,J,H2,e,I2,T,gE,f2,W,⟨m0,w0⟩,turn⟩:=h2;subst e;have sM:∀ {H':Hp},(∀ b∈fp,H' b=none)->∀ b∈fp,fm X pins H' b:=λhn b hb=>⟨hn b hb,(f2 b hb).2⟩;refine codeAny_forLoop_any (λn s'=>∃ i aG H',Inv X pins aG H' s'/\tn i s'.heap/\(∀ b∈fp,H' b=none)/\W i n aG H') ?_ m0 ⟨0,σ,H2,I2,gE,λb hb=>(f2 b hb).1,w0⟩;rintro n s3 ⟨i,dC,H3,I3,pZ,qU,w3⟩;rcases turn i n dC H3 w3 with⟨stop,qn⟩|⟨go,N,hN,step⟩
 .refine wpAny_passesOwn hp (aD (T.done X rfl rfl rfl hc i pins s3 dC H3 X.xe I3 (sM qU) pZ stop) λr s4 hZ=>?_)
  have(hr,I4):=hZ;subst hr;exact wpAny_execs_nil ⟨dC,H3,I4,qn⟩
 .refine wpAny_passesOwn hp (aD (T.item X rfl rfl rfl hc i pins s3 dC H3 X.xe I3 (sM qU) pZ go) λr s4 hZ=>?_)
  have(u,hr,h4):=hZ;subst hr;refine wpAny_passesOwn hp<|aD h4 λ_ s5 hZ=>?_;have(x,H5,I5,r5,y5,lj,yc):=hZ;have yq:=I5.pinned (sM yc) (T.obj _ _ lj);refine wpAny_passesOwn hp<|aD (hg _ s5 dC H5 x u _ yq r5<|step x H5 y5) λ_ s6 hZ=>?_;have(lV,H6,I6,q6):=hZ;refine wpAny_passesOwn hp<|aD (hb _ s6 lV H6 _ I6 q6) λf s7 q7=>?_;have again:∀ {kD:St} {H7:Hp},Inv X (pins++uH fp s5.heap) kD H7 s7->N kD H7->∃ m,m < n/\∃ i aG H',Inv X pins aG H' s7/\tn i s7.heap/\(∀ b∈fp,H' b=none)/\W i m aG H':=λ{kD H7} I7 n7=>by
   have(m',hm,w7):=hN kD H7 n7;refine⟨m',hm,i+1,kD,H7,I7.eT,T.keep _ _ _ lj λb hb o e=>(I7.pin (b,o)<|qv _<|qv _<|uZ hb e).1,λb hb=>?_,w7⟩;have(o,e,d):=T.obj _ _ lj b hb;exact(I7.pin (b,o)<|qv _<|qv _<|uZ hb e).2.1
  cases f with
  | next=>have(kD,H7,I7,n7):=q7; exact again I7 n7
  | cont=>have(kD,H7,I7,n7):=q7; exact again I7 n7
  | brk=>have(kD,H7,I7,q7):=q7; exact⟨kD,H7,I7.eT,q7⟩
  | ret v=>have(x7,kD,H7,I7,r7,q7):=q7; exact⟨x7,kD,H7,I7.eT,r7,q7⟩
end
abbrev R2:=V->V->Hp->VK->Prop
def bH(X:Cx)(f:Qc->Qc->Sem Qc)(r:R2):Prop :=
 ∀ (pins:Qa (Qg×Obj)) (s:Qd) (σ:St) (H:Hp) (x y:V) (v u:Qc) (Q:VK),Inv X pins σ H s->zO x v->zO y u->r x y H Q->
  wpAny (model X.prog X.w) X.A (f v u) (EP X pins σ Q) X.xe s
def CD(X:Cx)(f:Qc->Sem Qc)(r:V->Hp->VK->Prop):Prop :=
 ∀ (pins:Qa (Qg×Obj)) (s:Qd) (σ:St) (H:Hp) (x:V) (v:Qc) (Q:VK),Inv X pins σ H s->zO x v->r x H Q->
  wpAny (model X.prog X.w) X.A (f v) (EP X pins σ Q) X.xe s
def e8(X:Cx)(f:Qc)(r:Qa V->Hp->VK->Prop):Prop :=
 ∀ (pins:Qa (Qg×Obj)) (s:Qd) (σ:St) (H:Hp) (xs:Qa V) (us:Qa Qc) (Q:VK),Inv X pins σ H s->zM xs us->r xs H Q->
  wpAny (model X.prog X.w) X.A (call f us) (EP X pins σ Q) X.xe s
def zBY(X:Cx)(r:V->Hp->(Bool->Hp->Prop)->Prop):Prop :=
 ∀ (pins:Qa (Qg×Obj)) (s:Qd) (σ:St) (H:Hp) (x:V) (v:Qc) (Q:Bool->Hp->Prop),Inv X pins σ H s->zO x v->r x H Q->
  wpAny (model X.prog X.w) X.A (truthy v) (TP X pins σ Q) X.xe s
def mL(r:R2)(ta tb:TE):TE:=λσ H Q=>ta σ H λx H1=>tb σ H1 λy H2=>r x y H2 Q
def BY(r:V->Hp->VK->Prop)(ta:TE):TE:=λσ H Q=>ta σ H λx H1=>r x H1 Q
def rI(C:Int->Int->Prop)(g:Int->Int->V):R2:=λx y H Q=>∃ i j,x=.int i/\y=.int j/\C i j/\Q (g i j) H
def gG(g:Int->Int->V):R2:=λx y H Q=>∃ i j,x=.int i/\y=.int j/\Q (g i j) H
def rU(g:Int->V):V->Hp->VK->Prop:=λx H Q=>∃ i,x=.int i/\Q (g i) H
section
variable{X:Cx}{a b c:Expr}{ta tb tc:TE}{pos:Pos}
theorem Dr(ha:PE X a ta)(hb:PE X b tb){pins:Qa (Qg×Obj)}{s:Qd}{σ:St}{H:Hp}{R:V->V->Hp->Prop}(I:Inv X pins σ H s)
  (h:ta σ H λx H1=>tb σ H1 λy H2=>R x y H2) {Q:Qc->Qd->Prop} {f:Qc->Qc->Sem Qc}
  (hf:∀ v u s2 x y H2,Inv X pins σ H2 s2->zO x v->zO y u->R x y H2->wpAny (model X.prog X.w) X.A (f v u) Q X.xe s2):
  wpAny (model X.prog X.w) X.A (eval a X.env) (λv aF=>wpAny (model X.prog X.w) X.A (eval b X.env) (λu jF=>wpAny (model X.prog X.w) X.A (f v u) Q X.xe jF) X.xe aF) X.xe s:=by
 refine aD (ha pins s σ H _ I h) λv s1 hZ=>?_;have(x,H1,I1,r1,q1):=hZ;refine aD (hb pins s1 σ H1 _ I1 q1) λu s2 hZ=>?_;have(y,H2,I2,r2,q2):=hZ;exact hf v u s2 x y H2 I2 r1 r2 q2
theorem zAh{op:Operator}{r:R2}(ho:bH X (binaryOp op) r)(ha:PE X a ta)(hb:PE X b tb):PE X (.BinOp a op b pos) (mL r ta tb):=by
 intro pins s σ H Q I h;exact wpAny_BinOp<|Dr ha hb I h λv u s2 x y H2 I2 rx ry q=>ho pins s2 σ H2 x y v u Q I2 rx ry q
theorem zAi{op:UnaryOp}{r:V->Hp->VK->Prop}(ho:CD X (unaryOp op) r)(ha:PE X a ta):PE X (.UnaryOp op a pos) (BY r ta):=by
 intro pins s σ H Q I h;exact UnaryOp_<|aD (ha pins s σ H _ I h) λv s1 ⟨x,H1,I1,r1,q1⟩=>ho pins s1 σ H1 x v Q I1 r1 q1
theorem qC{f:Qc->Qc->Sem Qc}{C:Int->Int->Prop}{g:Int->Int->Int}
  (rule:∀ (i j:Int) (t u:Tok) (s:Qd) (Q:Qc->Qd->Prop) (E:Qc->Qd->Prop),C i j->Q (.int (g i j) s.toks) {s with toks:=s.toks+1}->wpAny (model X.prog X.w) X.A (f (.int i t)<|.int j u) Q E s):
  bH X f (rI C λi j=>.int<|g i j):=by
 intro pins s σ H x y v u Q I rx ry h;have(i,j,rfl,rfl,hc,q):=h;have(t,rfl):=rx;have(t',rfl):=ry;exact rule i j t t' s _ _ hc ⟨.int<|g i j,H,I.tok _,⟨_,rfl⟩,q⟩
theorem Dq{f:Qc->Qc->Sem Qc}{g:Int->Int->Int}
  (rule:∀ (i j:Int) (t u:Tok) (s:Qd) (Q:Qc->Qd->Prop) (E:Qc->Qd->Prop),Q (.int (g i j) s.toks) {s with toks:=s.toks+1}->wpAny (model X.prog X.w) X.A (f (.int i t)<|.int j u) Q E s):
  bH X f (gG λi j=>.int<|g i j):=by
 intro pins s σ H x y v u Q I rx ry h;have(i,j,rfl,rfl,q):=h;have(t,rfl):=rx;have(t',rfl):=ry;exact rule i j t t' s _ _ ⟨.int<|g i j,H,I.tok _,⟨_,rfl⟩,q⟩
theorem yI{f:Qc->Qc->Sem Qc}{g:Int->Int->Bool}
  (rule:∀ (i j:Int) (t u:Tok) (s:Qd) (Q:Qc->Qd->Prop) (E:Qc->Qd->Prop),Q (.bool<|g i j) s->wpAny (model X.prog X.w) X.A (f (.int i t)<|.int j u) Q E s):
  bH X f (gG λi j=>.bl<|g i j):=by
 intro pins s σ H x y v u Q I rx ry h;have(i,j,rfl,rfl,q):=h;have(t,rfl):=rx;have(t',rfl):=ry;exact rule i j t t' s _ _ ⟨.bl<|g i j,H,I,rfl,q⟩
def lX(i j:Int):Prop:=0<=j/\j<=1000000/\i.natAbs < 2^64
def uh(i j:Int):Prop:=(-(2^64) < i/\i < 2^64)\/(-(2^64) < j/\j < 2^64)
theorem uh.ok{i j:Int}(h:uh i j):IntMulOk i j:=by
 rcases h with⟨h1,h2⟩|⟨h1,h2⟩
 .exact .of_left (intBits_le_64 h1 h2)
 .exact .of_right (intBits_le_64 h1 h2)
theorem zmu(k:Nat):(0:Int)<=2^k:=by
 rw[two_pow_cast];exact Int.natCast_nonneg _
theorem eQ:bH X (binaryOp .Add) (gG λi j=>.int<|i+j):=Dq λ_ _ _ _ _ _ _ q=>add_int q
theorem gD:bH X (binaryOp .Sub) (gG λi j=>.int<|i - j):=Dq λ_ _ _ _ _ _ _ q=>sub_int q
theorem ko:bH X (binaryOp .Mult) (rI uh λi j=>.int<|i * j):=qC λ_ _ _ _ _ _ _ hc q=>mul_int q hc.ok
theorem jC:bH X (binaryOp .Mod) (rI (λ_ j=>0 < j) λi j=>.int<|i % j):=qC λi j _ _ _ _ _ hc q=>by
 have h1:(0:Int) < j:=hc;exact mod_int' (by omega) (by rw[Int.fmod_eq_emod_of_nonneg i (by omega)]; exact q)
theorem R5:bH X (binaryOp .Pow) (rI lX λi j=>.int<|i^j.toNat):=qC λ_ _ _ _ _ _ _ hc q=>pow_int_small hc.1 hc.2.1 hc.2.2 q
theorem EG:bH X (binaryOp .LShift) (rI lX λi j=>.int<|i * 2^j.toNat):=qC λ_ _ _ _ _ _ _ hc q=>lshift_int_small hc.1 hc.2.1 hc.2.2 q
theorem R4:bH X (binaryOp .RShift) (rI (λ_ j=>0<=j) λi j=>.int<|i / 2^j.toNat):=qC λi j _ _ _ _ _ hc q=>
 rshift_int hc (by rw[Int.fdiv_eq_ediv_of_nonneg i<|zmu _]; exact q)
theorem R3:bH X (binaryOp .BitAnd) (gG λi j=>.int<|Builtin.bitAnd i j):=Dq λ_ _ _ _ _ _ _ q=>and_int q
theorem unI{f:Qc->Sem Qc}{g:Int->Int}
  (rule:∀ (i:Int) (t:Tok) (s:Qd) (Q:Qc->Qd->Prop) (E:Qc->Qd->Prop),Q (.int (g i) s.toks) {s with toks:=s.toks+1}->wpAny (model X.prog X.w) X.A (f<|.int i t) Q E s):
  CD X f (rU λi=>.int<|g i):=by
 intro pins s σ H x v Q I rx h;have(i,rfl,q):=h;have(t,rfl):=rx;exact rule i t s _ _ ⟨.int<|g i,H,I.tok _,⟨_,rfl⟩,q⟩
theorem so:CD X (unaryOp .USub) (rU λi=>.int (-i)):=unI λ_ _ _ _ _ q=>neg_int q
end
def Dp:V->V->Bool
 | .aI,.aI=>true | .aI,.int _=>true | .int _,.aI=>true | .aI,.bl _=>true | .bl _,.aI=>true | .aI,.str _=>true | .str _,.aI=>true
 | .int _,.int _=>true | .bl _,.bl _=>true | .str _,.str _=>true | .ji _,.ji _=>true
 | .int _,.str _=>true | .str _,.int _=>true | .bl _,.str _=>true | .str _,.bl _=>true
 | _,_=>false
def Pb:R2:=λx y H Q=>Dp x y=true/\Q (.bl<|decide<|x=y) H
def Pa:R2:=λx y H Q=>Dp x y=true/\Q (.bl (!decide (x=y))) H
theorem Lc{i j:Int}:decide (V.int i=V.int j)=(i==j):=by
 rw[Bool.eq_iff_iff];simp
theorem Kf{i j:Bool}:decide (V.bl i=V.bl j)=(i==j):=by
 rw[Bool.eq_iff_iff];simp
theorem Lb{i j:Str}:decide (V.str i=V.str j)=(i==j):=by
 rw[Bool.eq_iff_iff];simp
theorem La{i j:Array UInt8}:decide (V.ji i=V.ji j)=(i.toList==j.toList):=by
 rw[Bool.eq_iff_iff];cases i;cases j;simp
section
variable{X:Cx}{a b c:Expr}{ta tb tc:TE}{pos:Pos}
theorem zY{pins:Qa (Qg×Obj)}{σ:St}{H:Hp}{s:Qd}{Q:VK}{k k':Bool}(I:Inv X pins σ H s)(q:Q (.bl k) H)(e:k=k'):EP X pins σ Q (.bool k') s:=by
 subst e;exact⟨.bl k,H,I,rfl,q⟩
theorem mq:bH X (compareOp .Eq) Pb:=by
 intro pins s σ H x y v u Q I rx ry h;have(hs,q):=h;cases x with
 | aI=>
  cases rx;cases y with
  | aI=>cases ry; exact PySem.EqNone.eq_none_none<|zY I q (by simp)
  | bl j=>cases ry; exact PySem.EqNone.eq_none_bool<|zY I q (by simp)
  | int j=>have(t',rfl):=ry; exact PySem.EqNone.eq_none_int<|zY I q (by simp)
  | str j=>have(t',rfl):=ry; exact PySem.EqNone.eq_none_str<|zY I q (by simp)
  | _=>exact absurd (show false=true from hs) qf
 | bl i=>
  cases rx;cases y with
  | aI=>cases ry; exact PySem.EqNone.eq_bool_none<|zY I q (by simp)
  | bl j=>cases ry; exact eq_bool<|zY I q Kf
  | str j=>have(t',rfl):=ry; exact PySem.EqMixed.eq_bool_str<|zY I q (by simp)
  | _=>exact absurd (show false=true from hs) qf
 | int i=>
  have(t,rfl):=rx;cases y with
  | aI=>cases ry; exact PySem.EqNone.eq_int_none<|zY I q (by simp)
  | int j=>have(t',rfl):=ry; exact eq_int<|zY I q Lc
  | str j=>have(t',rfl):=ry; exact PySem.EqMixed.eq_int_str<|zY I q (by simp)
  | _=>exact absurd (show false=true from hs) qf
 | str i=>
  have(t,rfl):=rx;cases y with
  | aI=>cases ry; exact PySem.EqNone.eq_str_none<|zY I q (by simp)
  | bl j=>cases ry; exact PySem.EqMixed.eq_str_bool<|zY I q (by simp)
  | int j=>have(t',rfl):=ry; exact PySem.EqMixed.eq_str_int<|zY I q (by simp)
  | str j=>have(t',rfl):=ry; exact eq_str<|zY I q Lb
  | _=>exact absurd (show false=true from hs) qf
 | ji i=>
  have(t,rfl):=rx;cases y with
  | ji j=>have(t',rfl):=ry; exact PySem.W.eq_bytes<|zY I q La
  | _=>exact absurd (show false=true from hs) qf
 | _=>cases y<;>exact absurd (show false=true from hs) qf
theorem nL:bH X (compareOp .NotEq) Pa:=by
 intro pins s σ H x y v u Q I rx ry h;have(hs,q):=h;cases x with
 | aI=>
  cases rx;cases y with
  | aI=>cases ry; exact PySem.EqNone.ne_none_none<|zY I q (by simp)
  | bl j=>cases ry; exact PySem.EqNone.ne_none_bool<|zY I q (by simp)
  | int j=>have(t',rfl):=ry; exact PySem.EqNone.ne_none_int<|zY I q (by simp)
  | str j=>have(t',rfl):=ry; exact PySem.EqNone.ne_none_str<|zY I q (by simp)
  | _=>exact absurd (show false=true from hs) qf
 | bl i=>
  cases rx;cases y with
  | aI=>cases ry; exact PySem.EqNone.ne_bool_none<|zY I q (by simp)
  | bl j=>cases ry; exact ne_bool<|zY I q<|congrArg not Kf
  | str j=>have(t',rfl):=ry; exact PySem.EqMixed.ne_bool_str<|zY I q (by simp)
  | _=>exact absurd (show false=true from hs) qf
 | int i=>
  have(t,rfl):=rx;cases y with
  | aI=>cases ry; exact PySem.EqNone.ne_int_none<|zY I q (by simp)
  | int j=>have(t',rfl):=ry; exact ne_int<|zY I q<|congrArg not Lc
  | str j=>have(t',rfl):=ry; exact PySem.EqMixed.ne_int_str<|zY I q (by simp)
  | _=>exact absurd (show false=true from hs) qf
 | str i=>
  have(t,rfl):=rx;cases y with
  | aI=>cases ry; exact PySem.EqNone.ne_str_none<|zY I q (by simp)
  | bl j=>cases ry; exact PySem.EqMixed.ne_str_bool<|zY I q (by simp)
  | int j=>have(t',rfl):=ry; exact PySem.EqMixed.ne_str_int<|zY I q (by simp)
  | str j=>have(t',rfl):=ry; exact ne_str<|zY I q<|congrArg not Lb
  | _=>exact absurd (show false=true from hs) qf
 | ji i=>
  have(t,rfl):=rx;cases y with
  | ji j=>have(t',rfl):=ry; exact PySem.W.ne_bytes<|zY I q<|congrArg not La
  | _=>exact absurd (show false=true from hs) qf
 | _=>cases y<;>exact absurd (show false=true from hs) qf
theorem rQ:bH X (compareOp .Lt) (gG λi j=>.bl<|decide<|i < j):=yI λ_ _ _ _ _ _ _ q=>lt_int q
theorem Jg:bH X (compareOp .LtE) (gG λi j=>.bl<|decide<|i<=j):=yI λ_ _ _ _ _ _ _ q=>le_int q
theorem Ad:bH X (compareOp .Gt) (gG λi j=>.bl<|decide<|j < i):=yI λ_ _ _ _ _ _ _ q=>gt_int q
theorem zAj:bH X (compareOp .GtE) (gG λi j=>.bl<|decide<|j<=i):=yI λ_ _ _ _ _ _ _ q=>ge_int q
theorem Ke:bH X (compareOp .Is) (λx y H Q=>y=.aI/\Q (.bl<|decide<|x=.aI) H):=by
 intro pins s σ H x y v u Q I rx ry h;have(rfl,q):=h;cases ry;refine is_none_gen<|zY I q ?_;cases x<;>first
  | (cases rx; rfl)
  | (have(t,rfl):=rx; rfl)
theorem Kd(b:Expr){op:CmpOp}(h:op≠.In:=by decide)(h2:op≠.NotIn:=by decide):behindInMarks op b=false:=by
 have e1:(op==CmpOp.In)=false:=by cases op<;>first|rfl|exact absurd rfl h
 have e2:(op==CmpOp.NotIn)=false:=by cases op<;>first|rfl|exact absurd rfl h2
 cases b<;>simp[behindInMarks,e1,e2]
theorem Vi{op:CmpOp}{r:R2}(ho:bH X (compareOp op) r)(ha:PE X a ta)(hb:PE X b tb)(hm:behindInMarks op b=false):PE X (.Compare a [op] [b] pos) (mL r ta tb):=by
 intro pins s σ H Q I h;exact wpAny_Compare1 (Dr ha hb I h λv u s2 x y H2 I2 rx ry q=>ho pins s2 σ H2 x y v u Q I2 rx ry q) hm
def D8(t:TE):TT:=λσ H Q=>t σ H λx H'=>∃ k,x=.bl k/\Q k H'
theorem Vh{op:CmpOp}{r:R2}(ho:bH X (compareOp op) r)(ha:PE X a ta)(hb:PE X b tb)(hm:behindInMarks op b=false):PT X (.Compare a [op] [b] pos) (D8<|mL r ta tb):=by
 intro pins s σ H Q I h;refine wpAny_isTrue_Compare1 (aD (ha pins s σ H _ I h) λv s1 ⟨x,H1,I1,r1,q1⟩=>aD (hb pins s1 σ H1 _ I1 q1) λu s2 ⟨y,H2,I2,r2,q2⟩=>
  aD (ho pins s2 σ H2 x y v u _ I2 r1 r2 q2) λc s3 ⟨z,H3,I3,r3,k,e,q3⟩=>?_) hm
 subst e;cases r3;exact wpAny_truthy_bool ⟨H3,I3,q3⟩
def EF(r r':R2)(ta tb tc:TE):TE:=λσ H Q=>ta σ H λx H1=>tb σ H1 λy H2=>r x y H2 λz H3=>∃ k,z=.bl k/\
 (if k=true then tc σ H3 λw' H4=>r' y w' H4 Q else Q (.bl false) H3)
theorem YH{op sX:CmpOp}{r r':R2}(ho:bH X (compareOp op) r)(ff:bH X (compareOp sX) r')(ha:PE X a ta)(hb:PE X b tb)(hc:PE X c tc)
  (hm:lastMarks [op,sX] [b,c]=false:=by with_unfolding_all rfl):PE X (.Compare a [op,sX] [b,c] pos) (EF r r' ta tb tc):=by
 intro pins s σ H Q I h;refine Compare_chain (aD (ha pins s σ H _ I h) λv s1 ⟨x,H1,I1,r1,q1⟩=>chain_link (aD (hb pins s1 σ H1 _ I1 q1) λu s2 ⟨y,H2,I2,r2,q2⟩=>
  aD (ho pins s2 σ H2 x y v u _ I2 r1 r2 q2) λd s3 ⟨z,H3,I3,r3,k,e,q3⟩=>?_)) hm
 subst e;cases r3;refine wpAny_truthy_bool ?_;cases k with
 | false=>exact ite_ff ⟨.bl false,H3,I3,rfl,q3⟩
 | true=>exact ite_tt<|chain_last<|aD (hc pins s3 σ H3 _ I3 q3) λw' s4 ⟨z',H4,I4,r4,q4⟩=>ff pins s4 σ H4 y z' u w' Q I4 r2 r4 q4
def Dm(K:qc)(x:V)(H:Hp)(k:Bool):Prop :=
 match x with
 | .aI=>k=false
 | .bl b=>k=b
 | .int i=>k=(i != 0)
 | .str y=>y.length<=sizeLine/\k=((y.length:Int) != 0)
 | .ji y=>y.size<=sizeLine/\k=((y.size:Int) != 0)
 | .ref p=>(∃ xs,bA K H p xs/\k=!xs.isEmpty)\/(∃ xs,bz K H p xs/\k=!xs.isEmpty)\/∃ kvs,H p=some (.dK kvs)/\k=!kvs.isEmpty
 | _=>False
theorem zmx{κ:Type}{kvs:Qa (κ×V)}{vs:Qa (κ×Qc)}(r:KV kvs vs):(!vs.isEmpty)=!kvs.isEmpty:=by
 cases r<;>rfl
theorem M1{xs:Qa V}{ah:Qa Qc}(r:zM xs ah):(!ah.toArray.isEmpty)=!xs.isEmpty:=by
 cases r<;>simp
theorem uG:(sizeLine:Nat) < 2^63:=by rw[sizeLine_eq]; decide
theorem R1:zBY X (λx H Q=>∃ k,Dm X.K x H k/\Q k H):=by
 intro pins s σ H x v Q I rx h;have(k,e,q):=h;have hl:=uG;have hs:sizeLine=16777216:=sizeLine_eq;cases x with
 | aI=>
  cases rx;have e':k=false:=e;subst e';exact truthy_none ⟨H,I,q⟩
 | bl b=>
  cases rx;have e':k=b:=e;subst e';exact wpAny_truthy_bool ⟨H,I,q⟩
 | int i=>
  have(t,rfl):=rx;have e':k=(i != 0):=e;subst e';exact PySem.P.truthy_int ⟨H,I,q⟩
 | str y=>
  have(t,rfl):=rx;obtain⟨hy,e'⟩:y.length<=sizeLine/\k=((y.length:Int) != 0):=e;subst e';exact PySem.P.truthy_str (by omega) ⟨H,I.tok _,q⟩
 | ji y=>
  have(t,rfl):=rx;obtain⟨hy,e'⟩:y.size<=sizeLine/\k=((y.size:Int) != 0):=e;subst e';exact PySem.W.truthy_bytes (by omega) ⟨H,I.tok _,q⟩
 | ref p=>
  cases rx;have e':(∃ xs,bA X.K H p xs/\k=!xs.isEmpty)\/(∃ xs,bz X.K H p xs/\k=!xs.isEmpty)\/∃ kvs,H p=some (.dK kvs)/\k=!kvs.isEmpty:=e;rcases e' with⟨xs,hx,e'⟩|⟨xs,hx,e'⟩|⟨kvs,hx,e'⟩
  .subst e'
   have(ah,r,pl,hz):=I.list hx;have hlen:=r.length;exact wpAny_truthy_list pl.isList (by simp only[List.size_toArray]; omega) ⟨H,I.tok _,by rw[M1 r]; exact q⟩
  .subst e'
   have(ah,r,pl,hz):=I.tuple hx;have hlen:=r.length;exact truthy_tuple pl (by simp only[List.size_toArray]; omega) ⟨H,I.tok _,by rw[M1 r]; exact q⟩
  .subst e'
   obtain⟨hz,hS,vs,r,m⟩:kvs.length<=sizeLine/\(p==sysModules)=false/\∃ vs,KV kvs vs/\s.heap.DictOf (zW X.prog X.w) p vs:=I.aw p _ hx;have hlen:kvs.length=vs.length:=Paired.length r;exact wpAny_truthy_dict hS m (by omega) ⟨H,I.tok _,by rw[zmx r]; exact q⟩
 | _=>exact(show False from e).elim
theorem YG(ha:PE X a ta)(he:∀ whole,isTrue a X.env whole=(do let v <-whole; standAt a.pos; holding [v] (truthy v))):
  PT X a (λσ H Q=>ta σ H λx H'=>∃ k,Dm X.K x H' k/\Q k H'):=by
 intro pins s σ H Q I h;exact isTrue_plain (aD (ha pins s σ H _ I h) λv s1 ⟨x,H1,I1,r1,q1⟩=>R1 pins s1 σ H1 x v Q I1 r1 q1)<|he _
theorem Bz:bH X (binaryOp .Add) (λx y H Q=>∃ i j,x=.str i/\y=.str j/\i.length+j.length<=sizeLine/\Q (.str<|i++j) H):=by
 intro pins s σ H x y v u Q I rx ry h;have(i,j,rfl,rfl,hz,q):=h;have(t,rfl):=rx;have(t',rfl):=ry;exact add_str (λt' tk=>⟨.str<|i++j,H,I.tok _,⟨_,rfl⟩,q⟩) hz
theorem ju{x:V}{us:Qa Qc}(r:zM [x] us):∃ u,us=[u]/\zO x u:=by
 cases r with
 | cons r1 r2=>cases r2; exact⟨_,rfl,r1⟩
theorem Ac{x y:V}{us:Qa Qc}(r:zM [x,y] us):∃ u w',us=[u,w']/\zO x u/\zO y w':=by
 cases r with
 | cons r1 r2=>
  cases r2 with
  | cons r3 r4=>cases r4; exact⟨_,_,rfl,r1,r3⟩
theorem Bm:e8 X (.builtin "abs") (λxs H Q=>∃ i,xs=[.int i]/\Q (.int (if i < 0 then -i else i)) H):=by
 intro pins s σ H xs us Q I r h;have(i,rfl,q):=h;have(u,rfl,t,rfl):=ju r;exact call_abs_int λu tk=>⟨.int (if i < 0 then -i else i),H,I.tok _,⟨_,rfl⟩,q⟩
theorem Bw(hc:X.calm=true):e8 X (.builtin "max") (λxs H Q=>∃ i j,xs=[.int i,.int j]/\Q (.int (if j > i then j else i)) H):=by
 intro pins s σ H xs us Q I r h;have(i,j,rfl,q):=h;obtain⟨u,w',rfl,⟨t,rfl⟩,⟨t',rfl⟩⟩:=Ac r;refine max_two_ints (I.ok.hd hc) λh' tk k=>⟨_,H,I.kept k,?_,q⟩
 by_cases hj:j > i
 .rw[if_pos hj,if_pos hj]; exact⟨_,rfl⟩
 .rw[if_neg hj,if_neg hj]; exact⟨_,rfl⟩
theorem Zi(hc:X.calm=true):e8 X (.builtin "min") (λxs H Q=>∃ i j,xs=[.int i,.int j]/\Q (.int (if j < i then j else i)) H):=by
 intro pins s σ H xs us Q I r h;have(i,j,rfl,q):=h;obtain⟨u,w',rfl,⟨t,rfl⟩,⟨t',rfl⟩⟩:=Ac r;refine min_two_ints (I.ok.hd hc) λh' tk k=>⟨_,H,I.kept k,?_,q⟩
 by_cases hj:j < i
 .rw[if_pos hj,if_pos hj]; exact⟨_,rfl⟩
 .rw[if_neg hj,if_neg hj]; exact⟨_,rfl⟩
theorem FY:e8 X (.type "int") (λxs H Q=>(∃ i,xs=[.int i]/\Q (.int i) H)\/∃ k,xs=[.bl k]/\Q (.int (if k then 1 else 0)) H):=by
 intro pins s σ H xs us Q I r h;rcases h with⟨i,rfl,q⟩|⟨k,rfl,q⟩
 .have(u,rfl,t,rfl):=ju r
  exact call_int_int ⟨.int i,H,I,⟨_,rfl⟩,q⟩
 .have(u,rfl,r1):=ju r
  cases r1;exact call_int_bool ⟨.int (if k then 1 else 0),H,I.tok _,⟨_,rfl⟩,q⟩
end
structure iO (h:Heap) (x dx C:Qg) (mA:Str->Qb Qc):Prop where
 obj:h.get? x=some (PySem.W.instObj C dx)
 ns:h.Ns1 dx mA
 ne:dx≠x
theorem Zh{h:Heap}{dx:Qg}{mA:Str->Qb Qc}(n:h.Ns1 dx mA):∃ od,h.get? dx=some od/\∀ name,PySem.W.lookIn name od=some (mA name):=by
 have(o,es,ep,ho,hd,hk,_,hm):=n;refine⟨o,ho,λname=>?_⟩;have e:=hm name;unfold nsFind findBy at e;rw[<-Array.find?_toList]at e;unfold PySem.W.lookIn;rw[hd];dsimp only;split
 .rename_i y q
  rw[q]at e;exact congrArg some e
 .rename_i q
  rw[q]at e;have a:es.toList.any (·.refKey)=false:=by
   rw[List.any_eq_false];intro y hy;have(z,t,HB):=hk y (Array.mem_toList_iff.mp hy);simp[DictEntry.refKey,HB]
  have a':¬es.toList.any (·.refKey)=true:=by rw[a]; exact qf
  rw[if_neg a'];exact congrArg some e
theorem iO.look{h:Heap}{x dx C:Qg}{mA:Str->Qb Qc}(I:iO h x dx C mA):∃ od,PySem.W.InstAt h x (PySem.W.instObj C dx) C (some od)/\∀ name,PySem.W.lookIn name od=some (mA name):=
 let ⟨od,ho,hl⟩:=Zh I.ns
 ⟨od,⟨I.obj,rfl,rfl,ho⟩,hl⟩
section
variable{prog:Qe}{w:Qh}{A:Qf}{E:Qc->Qd->Prop}{s:Qd}{K:qc}{x dx C f:Qg}{mA:Str->Qb Qc}{name:Str}{v:Qc}
theorem V2{expr:Bool}{Q:Qc->Qd->Prop}(X:K.In s.heap)(I:iO s.heap x dx C mA)(hg:PySem.W.plainGet K C name=true)(hh:PySem.W.hasDictIn K C=true)
  (ha:PySem.W.findIn K (.ref C) name=some none) (hv:mA name=some v) (hv':PySem.W.handedIn v=true) (h:Q v {s with toks:=s.toks+1}):
  wpAny (model prog w) A (getAttr (.ref x) name expr) Q E s:=by
 have(od,J,hl):=I.look;exact PySem.W.get_value X J (PySem.W.plainGet_of hg).1 (PySem.W.findObj_own hh ha rfl (by rw[hl,hv])) hv' h
theorem V1{ns:Qa Str}{Q:Unit->Qd->Prop}(X:K.In s.heap)(I:iO s.heap x dx C mA)
  (hs:PySem.W.findIn K (.ref C) "__setattr__"=some (some<|.builtin "object.__setattr__")) (hp:PySem.W.plainOver K C=true) (ht:PySem.W.takerIn K C name=some none) (hh:PySem.W.hasDictIn K C=true)
  (hw:PySem.Within mA ns) (hsz:ns.length<=sizeLine)
  (h:∀ h',iO h' x dx C (λy=>if y=name then some v else mA y)->Heap.SameBut dx s.heap h'->Q () {s with heap:=h',toks:=s.toks+2}):
  wpAny (model prog w) A (setAttr (.ref x) name v) Q E s:=by
 have(od,J,hl):=I.look;refine PySem.W.set_plain X J hs<|PySem.W.osa_open (s:={s with toks:=s.toks+1}) (r:=none) X J hp ht λb=>?_;have(cd,hc,qR):=PySem.W.any_some hh;have hx:s.heap.get? x=some ⟨.ref C,some dx,.plain,#[]⟩:=I.obj;refine qa<|qb<|qa<|qa<|wpAny_loadPart hx<|qa<|PySem.W.Looks.here (s:={s with toks:=s.toks+1}) (PySem.W.looks_clsIn X hc) ?_;rw[qR];refine qb (a:=some dx)<|qa<|qb<|qa ?_;refine wpAny_nsSet1 (s:={s with toks:=s.toks+1}) I.ns λh' Cp mS=>?_;have(oD,esD,epD,hoD,hdD,hcD):=Cp.count (PySem.Within.cons name v hw);refine qa<|wpAny_lookBehind hoD (by rw[hdD]; exact pastItsLine_dict<|qx hcD (by rw[qt]; omega)) ?_;exact qb<|h _ ⟨(mS.2 _<|Ne.symm I.ne).trans I.obj,Cp,I.ne⟩ mS
theorem YF{R:Result->Qd->Prop}{vs:Qa Qc}{kw:Qa (Str×Qc)}(X:K.In s.heap)(hm:PySem.W.makesIn K C=true)
  (hi:PySem.W.findIn K (.ref C) "__init__"=some (some<|.ref f)) (hf:PySem.W.typeIn K (.ref f)=some (.type "function"))
  (h:codeAny (model prog w) (A.under<|.builtin "type.__call__" ⟨.ref C::vs,kw⟩) (.call (.ref f) ⟨.ref (s.heap.objs.size+1)::vs,kw⟩) (PySem.W.InitBack (s.heap.objs.size+1) R)
   {s with heap:=(s.heap.push PySem.W.emptyDict).push (PySem.W.instObj C s.heap.objs.size)}):
  codeAny (model prog w) A (.call (.ref C) ⟨vs,kw⟩) R s:=by
 have(hh,g,d,t,os):=s;exact PySem.W.make_core (PySem.W.makes_of X hm) (PySem.W.looks_findIn X hi) (λself=>PySem.W.bind_fn X self hf) (.inl rfl) h
end
def eL(f:Str)(v:V):Qa (Str×V)->Qa (Str×V)
 | []=>[(f,v)]
 | (g,x)::r=>if g=f then(g,v)::r else(g,x)::eL f v r
theorem Nk(f g:Str)(v:V):∀ fs:Qa (Str×V),(eL f v fs).lookup g=if g=f then some v else fs.lookup g
 | []=>by
  show List.lookup g [(f,v)]=_
  by_cases h:g=f
  .have hb:(g==f)=true:=beq_iff_eq.mpr h
   simp only[List.lookup,hb,if_pos h]
  .have hb:(g==f)=false:=beq_eq_false_iff_ne.mpr h
   simp only[List.lookup,hb,if_neg h]
 | (k,x)::r=>by
  have ih:=Nk f g v r;rw[show eL f v ((k,x)::r)=(if k=f then(k,v)::r else(k,x)::eL f v r) from rfl]
  by_cases hk:k=f
  .rw[if_pos hk]
   by_cases h:g=k
   .have hb:(g==k)=true:=beq_iff_eq.mpr h
    simp only[List.lookup,hb,if_pos<|h.trans hk]
   .have hb:(g==k)=false:=beq_eq_false_iff_ne.mpr h
    simp only[List.lookup,hb,if_neg (λe:g=f=>h<|e.trans hk.symm)]
  .rw[if_neg hk]
   by_cases h:g=k
   .have hb:(g==k)=true:=beq_iff_eq.mpr h
    simp only[List.lookup,hb,if_neg (λe:g=f=>hk<|h.symm.trans e)]
   .have hb:(g==k)=false:=beq_eq_false_iff_ne.mpr h
    simp only[List.lookup,hb];exact ih
theorem FW(f:Str)(v:V):∀ fs:Qa (Str×V),f∈(eL f v fs).map (·.1)/\∀ g,g∈fs.map (·.1)->g∈(eL f v fs).map (·.1)
 | []=>⟨by simp[eL],λg h=>by simp at h⟩
 | (k,x)::r=>by
  have(i1,i2):=FW f v r;rw[show eL f v ((k,x)::r)=(if k=f then(k,v)::r else(k,x)::eL f v r) from rfl]
  by_cases hk:k=f
  .rw[if_pos hk]
   subst hk;exact⟨by simp,λg h=>by simpa using h⟩
  .rw[if_neg hk]
   refine⟨?_,λg h=>?_⟩
   .rw[List.map_cons]
    exact qm _ i1
   .rw[List.map_cons]at h ⊢
    rcases qu.mp h with e|e
    .exact qu.mpr (.inl e)
    .exact qm _ (i2 g e)
theorem Nj(f:Str)(v:V):∀ fs:Qa (Str×V),(eL f v fs).length<=fs.length+1
 | []=>by simp[eL]
 | (k,x)::r=>by
  have ih:=Nj f v r;rw[show eL f v ((k,x)::r)=(if k=f then(k,v)::r else(k,x)::eL f v r) from rfl]
  by_cases hk:k=f
  .rw[if_pos hk,qt,qt]; omega
  .rw[if_neg hk,qt,qt]; omega
theorem iu.some_of{v:V}{o:Qb Qc}(r:iu (some v) o):∃ u,o=some u/\zO v u:=by
 cases o with
 | none=>exact(show False from r).elim
 | some u=>exact⟨u,rfl,r⟩
theorem Zg{v:V}{u:Qc}(r:zO v u):PySem.W.handedIn u=true:=by
 cases v with
 | aI=>cases(show u=Value.none from r); rfl
 | bl b=>cases(show u=Value.bool b from r); rfl
 | int i=>have(t,e):=(show ∃ t,u=Value.int i t from r); cases e; rfl
 | str x=>have(t,e):=(show ∃ t,u=Value.str x t from r); cases e; rfl
 | ji b=>have(t,e):=(show ∃ t,u=Value.bytes b t from r); cases e; rfl
 | tV b=>have(t,e):=(show ∃ t,u=Value.float b t from r); cases e; rfl
 | ref a=>cases(show u=Value.ref a from r); rfl
 | ty n=>cases(show u=Value.type n from r); rfl
section
variable{P:Qe}{w:Qh}{K:qc}{H H':Hp}{h h':Heap}{a C dx:Qg}{fs fs':Qa (Str×V)}
theorem K9(aw:cu P w K H h)(e:H a=some (.ins C dx fs)):∃ mA,iO h a dx C mA/\(∀ f,iu (fs.lookup f)<|mA f)/\PySem.Within mA (fs.map (·.1))/\fs.length<=1000/\H dx=some (.own a):=by
 have(d,z,ne,ob,mA,n,r,q):=(show bR P w K H h a (.ins C dx fs) from aw a _ e);exact⟨mA,⟨ob,n,ne⟩,r,q,z,d⟩
end
structure m3 (K:qc) (C:Qg):Prop where
 pg:PySem.W.plainGet K C Str.empty=true
 hd:PySem.W.hasDictIn K C=true
 po:PySem.W.plainOver K C=true
 sa:PySem.W.findIn K (.ref C) "__setattr__"=some (some<|.builtin "object.__setattr__")
theorem m3.get{K:qc}{C:Qg}(c:m3 K C)(f:Str):PySem.W.plainGet K C f=true:=c.pg
def g6(K:qc)(C:Qg)(f:Str):Prop:=PySem.W.findIn K (.ref C) f=some none
theorem g6.xj{K:qc}{C:Qg}{f:Str}(n:g6 K C f):PySem.W.takerIn K C f=some none:=by
 unfold PySem.W.takerIn;rw[show PySem.W.findIn K (.ref C) f=some none from n];rfl
section
variable{X:Cx}{pins:Qa (Qg×Obj)}{σ:St}{H:Hp}{s:Qd}{a C dx:Qg}{fs:Qa (Str×V)}{f:Str}{v:V}{A:Qf}{E:Qc->Qd->Prop}
theorem zmy{y:V}{u:Qc}{Q:Unit->Qd->Prop}(I:Inv X pins σ H s)(e:H a=some (.ins C dx fs))(c:m3 X.K C)(n:g6 X.K C f)(hl:fs.length < 1000)(ry:zO y u)
  (h:∀ s',Inv X pins σ (upd H a<|.ins C dx<|eL f y fs) s'->Q () s'):wpAny (model X.prog X.w) A (setAttr (.ref a) f u) Q E s:=by
 have(mA,O,r,wi,_,ho):=K9 I.aw e;have hz:(fs.map (·.1)).length<=sizeLine:=by rw[List.length_map,sizeLine_eq]; omega
 refine V1 I.bN O c.sa c.po n.xj c.hd wi hz λh' O' sb=>h _ ?_;have hd:∃ o,h'.get? dx=some o:=let ⟨o,_,_,e',_⟩:=O'.ns; ⟨o,e'⟩;refine I.write (x:=a) (e:=dx) (by rw[e]; exact True.intro) (.inr ho) (λb q hb z=>(sb.2 b hb).trans z) hd ?_;refine⟨by rw[zy O.ne]; exact ho,?_,O.ne,O'.obj,_,O'.ns,λg=>?_,λg hg=>?_⟩
 .have:=Nj f y fs; omega
 .show iu ((eL f y fs).lookup g) (if g=f then some u else mA g)
  rw[Nk]
  by_cases q:g=f
  .rw[if_pos q,if_pos q]; exact ry
  .rw[if_neg q,if_neg q]; exact r g
 .by_cases q:g=f
  .rw[q]; exact(FW f y fs).1
  .refine(FW f y fs).2 g (wi g λz=>hg ?_)
   show(if g=f then some u else mA g)=none;rw[if_neg q]; exact z
theorem Inv.made(I:Inv X pins σ H s):Inv X pins σ (upd (upd H s.heap.objs.size<|.own<|s.heap.objs.size+1) (s.heap.objs.size+1)<|.ins C s.heap.objs.size [])
  {s with heap:=(s.heap.push PySem.W.emptyDict).push (PySem.W.instObj C s.heap.objs.size)}:=by
 have e1:(s.heap.push PySem.W.emptyDict).get? s.heap.objs.size=some PySem.W.emptyDict:=qg s.heap rfl;have e2:((s.heap.push PySem.W.emptyDict).push<|PySem.W.instObj C s.heap.objs.size).get? (s.heap.objs.size+1)=some (PySem.W.instObj C s.heap.objs.size):=by
  have:=qg (s.heap.push PySem.W.emptyDict) (o:=PySem.W.instObj C s.heap.objs.size) rfl
  rwa[Heap.size_push]at this
 have e3:(s.heap.push PySem.W.emptyDict).Ns s.heap.objs.size (λ_=>none):=⟨PySem.W.emptyDict,#[],_,e1,rfl,(λe he=>absurd he (by simp)),λ_=>rfl⟩;have I1:=I.laid (a:=s.heap.objs.size) (o:=.own (s.heap.objs.size+1)) (h':=s.heap.push PySem.W.emptyDict) (t':=s.toks) (λb u q=>qd _ q) (qe _) ⟨_,e1⟩;refine I1.laid (a:=s.heap.objs.size+1) (o:=.ins C s.heap.objs.size []) (t':=s.toks) (λb u q=>qd _ q) (þ<|Heap.size_push _ _) ?_;have ne:s.heap.objs.size≠s.heap.objs.size+1:=qj (Õ _);refine⟨by rw[zy ne,zw],É _,ne,e2,λ_=>none,(Heap.Ns1.of_empty e3).at λo q=>qd _ q,λ_=>True.intro,λy hy=>absurd rfl hy⟩
theorem V0{prog:Qe}{w:Qh}{env:Env}{e:Expr}{f:Str}{pos:Pos}{s:Qd}{Q:Qc->Qd->Prop}(hb:attributeBase e f env (eval e env)=eval e env)
  (h:wpAny (model prog w) A (eval e env) (λo aF=>wpAny (model prog w) A (getAttr o f true) Q E aF) E s):wpAny (model prog w) A (eval (.Attribute e f pos) env) Q E s :=
 Attribute_any_ h (by rw[arm_eval_Attribute,hb])
end
def yO(K:qc)(ta tv:TE)(f:Str):TS:=λD σ H=>tv σ H λy H1=>ta σ H1 λx H2=>∃ a C dx fs,x=.ref a/\H2 a=some (.ins C dx fs)/\m3 K C/\g6 K C f/\fs.length < 1000/\
 D.nx σ (upd H2 a<|.ins C dx<|eL f y fs)
section
variable{X:Cx}{o e value:Expr}{f:Str}{pos pos' k9:Pos}{ta tv:TE}
theorem ED(ha:PE X o ta)(hv:PE X value tv)(hs:swapsWith value (some<|.Attribute o f pos') pos.line X.env=pure false):PS X (.Assign [.Attribute o f pos'] value pos) (yO X.K ta tv f):=by
 intro pins s σ H D I h;refine plainObj_wpAny_Assign_Attribute (aD (hv pins s σ H _ I h) λu s1 ⟨y,H1,I1,ry,q⟩=>aD (ha pins s1 σ H1 _ I1 q) λov s2 hZ=>?_) hs;have(x,H2,I2,rx,a,C,dx,fs,ex,ea,c,n,l,q2):=hZ;subst ex;obtain rfl:ov=Value.ref a:=rx;exact zmy I2 ea c n l ry λs3 I3=>⟨σ,_,I3,q2⟩
end
section
variable{X:Cx}{pins:Qa (Qg×Obj)}{σ:St}{H:Hp}{s:Qd}{A:Qf}{E:Qc->Qd->Prop}{Q:Qc->Qd->Prop}{c:Qc}{b:Bool}
inductive cY (K:qc) (H:Hp):V->Qc->Prop where
 | aI:cY K H .aI (.type "NoneType")
 | bl (x:Bool):cY K H (.bl x) (.type "bool")
 | int (i:Int):cY K H (.int i) (.type "int")
 | str (x:Str):cY K H (.str x) (.type "str")
 | tV (x:UInt64):cY K H (.tV x) (.type "float")
 | lst {a:Qg} {xs:Qa V} (e:H a=some (.lst xs)):cY K H (.ref a) (.type "list")
 | aQ {a:Qg} {o:Obj} {xs:Qa V} (e:H a=some (.aQ o<|.lst xs)):cY K H (.ref a) (.type "list")
 | tup {a:Qg} {xs:Qa V} (e:aV K H a xs):cY K H (.ref a) (.type "tuple")
 | dK {a:Qg} {kvs:Qa (Key×V)} (e:H a=some (.dK kvs)):cY K H (.ref a) (.type "dict")
 | dT {a:Qg} {kvs:Qa (Qa Key×V)} (e:H a=some (.dT kvs)):cY K H (.ref a) (.type "dict")
 | ins {a C dx:Qg} {fs:Qa (Str×V)} (e:H a=some (.ins C dx fs)) (cl:m3 K C) (ha:PySem.W.findIn K (.ref C) "__class__"=some (some<|.builtin "object.__class__"))
   (hn:PySem.W.specialIn K (.builtin "object.__class__") "__get__"=some (some<|.builtin "getset_descriptor.__get__")) (Pu:PySem.W.takesIn K (.builtin "object.__class__")=some true)
   (hm:PySem.W.mroIn K C (.type "object")=some true):cY K H (.ref a) (.ref C)
theorem Zf{x:V}{u t:Qc}(I:Inv X pins σ H s)(rx:zO x u)(ty:cY X.K H x t)(e:PySem.W.kitOne X.K t c=some b)(h:∀ tk,Q (.bool b) {s with toks:=tk}):
  wpAny (model X.prog X.w) A (call (.builtin "isinstance") [u,c]) Q E s:=by
 cases ty with
 | aI=>cases(show u=Value.none from rx); exact Ï PySem.W.kitx_none I.bN True.intro e (λz=>nomatch z) h
 | bl y=>cases(show u=Value.bool y from rx); exact Ï PySem.W.kitx_bool I.bN True.intro e (λz=>nomatch z) h
 | int i=>have(t,q):=(show ∃ t,u=Value.int i t from rx); cases q; exact Ï PySem.W.kitx_int I.bN True.intro e (λz=>nomatch z) h
 | str y=>have(t,q):=(show ∃ t,u=Value.str y t from rx); cases q; exact Ï PySem.W.kitx_str I.bN True.intro e (λz=>nomatch z) h
 | tV y=>have(t,q):=(show ∃ t,u=Value.float y t from rx); cases q; exact Ï PySem.W.kitx_float I.bN True.intro e (λz=>nomatch z) h
 | @lst a xs ea=>
  cases(show u=Value.ref a from rx);have(_,_,n,_,h1):=(show bR X.prog X.w X.K H s.heap a (.lst xs) from I.aw a _ ea);exact Ï PySem.W.kitx_list I.bN ⟨_,h1,rfl⟩ e (λz=>nomatch z) h
 | @aQ a ob xs ea=>
  cases(show u=Value.ref a from rx);have(_,_,_,n,_,h1):=(show bR X.prog X.w X.K H s.heap a (.aQ ob<|.lst xs) from I.aw a _ ea);exact Ï PySem.W.kitx_list I.bN ⟨_,h1,rfl⟩ e (λz=>nomatch z) h
 | @tup a xs ea=>
  cases(show u=Value.ref a from rx);rcases ea with ea|⟨o,ah,n,hk,hc,_⟩
  case inr=>exact Ï PySem.W.kitx_tuple I.bN ⟨o,I.bN a o hk,hc⟩ e (λz=>nomatch z) h
  have(_,_,_,p):=(show bR X.prog X.w X.K H s.heap a (.tup xs) from I.aw a _ ea);have(o,h1,h2,_):=p;exact Ï PySem.W.kitx_tuple I.bN ⟨o,h1,h2⟩ e (λz=>nomatch z) h
 | @dK a kvs ea=>
  cases(show u=Value.ref a from rx);have(_,_,vs,_,p):=(show bR X.prog X.w X.K H s.heap a (.dK kvs) from I.aw a _ ea);have(o,es,ep,h1,h2,_):=p;exact Ï PySem.W.kitx_dict I.bN ⟨o,h1,h2.1⟩ e (λz=>nomatch z) h
 | @dT a kvs ea=>
  cases(show u=Value.ref a from rx);have(_,_,xs,_,o,es,ep,h1,h2,_):=(show bR X.prog X.w X.K H s.heap a (.dT kvs) from I.aw a _ ea);exact Ï PySem.W.kitx_dict I.bN ⟨o,h1,h2.1⟩ e (λz=>nomatch z) h
 | @ins a C dx fs ea cl ha hn Pu hm=>
  cases(show u=Value.ref a from rx);have(mA,O,_):=K9 I.aw ea;have(od,J,_):=O.look;exact Ï (PySem.W.kitx_own (cl.get _) cl.hd ha hn Pu hm) I.bN J e (λz=>nomatch z) h
end
structure aH (k:Nat) (A:Qf):Prop where
 hd:A.handled=none
 dp:A.depth+3 * k+5 < recursionLimit
 un:A.units+16 * k+200 < cLine
 gd:A.guards=some []
theorem aH.mono{j k:Nat}{A:Qf}(r:aH k A)(h:j<=k):aH j A:=⟨r.hd,by have:=r.dp; omega,by have:=r.un; omega,r.gd⟩
theorem aH.deeper{k:Nat}{A:Qf}(r:aH (k+1) A)(env:Env):aH k (A.deeper env):=
 ⟨r.hd,by have:=r.dp; show A.depth+1+3 * k+5 < _; omega,by have:=r.un; show A.units+3+16 * k+200 < _; omega,r.gd⟩
theorem zmA{A:Qf}{C:Qg}{us:Qa Qc}{kw:Qa (Str×Qc)}:(A.under<|.builtin "type.__call__" ⟨.ref C::us,kw⟩).depth=A.depth+1:=by
 first|rfl|simp[Around.under,Code.weight,Code.isCreation,Code.isGuard,Code.isCaller,Code.frames,Code.isFrame,guardIds]
theorem zmB{A:Qf}{C:Qg}{us:Qa Qc}{kw:Qa (Str×Qc)}:(A.under<|.builtin "type.__call__" ⟨.ref C::us,kw⟩).units=A.units+1:=by
 first|rfl|simp[Around.under,Code.cUnits,Code.frames,Code.isFrame]
theorem aH.make{k:Nat}{A:Qf}(r:aH (k+1) A)(C:Qg)(us:Qa Qc)(kw:Qa (Str×Qc)):aH k (A.under<|.builtin "type.__call__" ⟨.ref C::us,kw⟩):=
 ⟨r.hd,by have:=r.dp; rw[zmA]; omega,by have:=r.un; rw[zmB]; omega,by have:=r.gd; first|exact this|simpa [Around.under,Code.isGuard,guardIds] using this⟩
theorem aH.depth{k:Nat}{A:Qf}(r:aH k A):A.depth < recursionLimit:=by have:=r.dp; omega
theorem aH.units{k:Nat}{A:Qf}(r:aH k A):A.units+64 < cLine:=by have:=r.un; omega
def rB:TA:=λ_ H Q=>Q [] H
def nK(ta:TE)(tr:TA):TA:=λσ H Q=>ta σ H λx H1=>tr σ H1 λxs H2=>Q (x::xs) H2
section
variable{X:Cx}{e:Expr}{es:Qa Expr}{te:TE}{t:TA}{pos:Pos}
theorem R0:PA X [] rB:=λ_ _ _ _ H Q I h=>Calls.spliced_nil ⟨[],H,I,.nil,h⟩
theorem VZ(ha:PE X e te)(hr:PA X es t)(hs:starEach (e::es) X.env=(false,eval e X.env)::starEach es X.env:=by rfl):PA X (e::es) (nK te t):=by
 intro pos pins s σ H Q I h;rw[hs];show wpAny _ _ (spliced<|(false,eval e X.env)::backTo pos (starEach es X.env)) _ _ s;refine Calls.spliced_cons<|aD (ha pins s σ H _ I h) λu s1 hZ=>?_;have(x,H1,I1,r1,q1):=hZ;exact aD (hr pos pins s1 σ H1 _ I1 q1) λus s2 ⟨xs,H2,I2,r2,q2⟩=>⟨x::xs,H2,I2,.cons r1 r2,q2⟩
def Dl(t:TA):TE:=λσ H Q=>t σ H λxs H1=>xs.length<=sizeLine/\∀ p,H1 p=none->Q (.ref p) (upd H1 p<|.tup xs)
def Dk(t:TA):TE:=λσ H Q=>t σ H λxs H1=>xs.length<=sizeLine/\∀ p,H1 p=none->Q (.ref p) (upd H1 p<|.lst xs)
theorem RZ{x1}(h:PA X es t):PE X (.Tuple es x1 pos) (Dl t):=by
 intro pins s σ H Q I hq;refine wpAny_Tuple_spliced<|aD (h pos pins s σ H _ I hq) λus s1 ⟨xs,H1,I1,r,z,q⟩=>⟨by rw[<-r.length]; exact z,?_⟩;have hf:H1 s1.heap.objs.size=none:=I1.aw.fresh (qe _);refine⟨.ref s1.heap.objs.size,upd H1 s1.heap.objs.size<|.tup xs,I1.laid (t':=s1.toks) (λb u e=>qd _ e) (qe _) ?_,rfl,q _ hf⟩;exact⟨z,us,r,⟨_,qg _ rfl,rfl,⟨_,rfl⟩,.inl rfl⟩⟩
theorem RY(h:PA X es t):PE X (.List es pos) (Dk t):=by
 intro pins s σ H Q I hq;refine wpAny_List_spliced<|aD (h pos pins s σ H _ I hq) λus s1 ⟨xs,H1,I1,r,z,q⟩=>⟨by rw[<-r.length]; exact z,?_⟩;have hf:H1 s1.heap.objs.size=none:=I1.aw.fresh (qe _);refine⟨.ref s1.heap.objs.size,upd H1 s1.heap.objs.size<|.lst xs,I1.laid (t':=s1.toks) (λb u e=>qd _ e) (qe _) ?_,rfl,q _ hf⟩;exact⟨z,us,0,r,qg _ rfl⟩
end
abbrev Sp:=Qa V->Hp->VK->XK->Prop
abbrev jo:=Qa Env->Hp->Qd->XK->Qc->Qd->Prop
structure iP (P:Qe) (w:Qh) (K:qc) (mg:Str->Qb Qc) (base:Heap) (A:Qf) (outer:Qa Env) (s:Qd) (H:Hp):Prop where
 frames:A.frames=some outer
 mod:Mod K mg base
 bs:∀ b o,base.get? b=some o->s.heap.get? b=some o/\H b=none
 mX:base.objs.size<=s.heap.objs.size
 dA:s.heap.FunFrames base outer
 qT:∀ b∈jR outer,H b=none
 aw:cu P w K H s.heap
 bare:AllBare s.gens
def CE(outer:Qa Env)(P:Qe)(w:Qh)(K:qc)(H:Hp)(s:Qd)(Q:VK)(u:Qc)(s':Qd):Prop :=
 ∃ v H',s'.os=s.os/\AllBare s'.gens/\Un (jR outer) [] H H' s.heap s'.heap/\cu P w K H' s'.heap/\zO v u/\Q v H'
def CR(CX:jo)(outer:Qa Env)(P:Qe)(w:Qh)(K:qc)(H:Hp)(s:Qd)(Q:VK)(E:XK)(r:Result)(s':Qd):Prop :=
 match r with
 | .ok (.ret u)=>CE outer P w K H s Q u s'
 | .ok _=>False
 | .error e=>CX outer H s E e s'
structure cw (P:Qe) (w:Qh) (K:qc) (mg:Str->Qb Qc) (base:Heap) (CX:jo) (k:Nat) (f:Qg) (fd:FuncData) (ps:Qa Str) (sp:Sp):Prop where
 len:∀ vs H Q E,sp vs H Q E->vs.length=ps.length
 run:∀ (A:Qf) (outer:Qa Env) (s:Qd) (H:Hp) (args:Args) (us:Qa Qc) (vs:Qa V) (Q:VK) (E:XK),aH k A->iP P w K mg base A outer s H->BindsTo s fd args (ps.zip us)->zM vs us->sp vs H Q E->
  codeAny (model P w) A (.call (.ref f) args) (CR CX outer P w K H s Q E) s
theorem iP.make{P:Qe}{w:Qh}{K:qc}{mg:Str->Qb Qc}{base:Heap}{A:Qf}{outer:Qa Env}{s:Qd}{H:Hp}(e:iP P w K mg base A outer s H)(C:Qg)(us:Qa Qc)(kw:Qa (Str×Qc)):
  iP P w K mg base (A.under<|.builtin "type.__call__" ⟨.ref C::us,kw⟩) outer s H:=⟨by first|exact e.frames | (simpa [Around.under,Code.envs,Code.isFrame,pushEnvs] using e.frames),e.mod,e.bs,e.mX,e.dA,e.qT,e.aw,e.bare⟩
section
variable{X:Cx}{pins:Qa (Qg×Obj)}{σ:St}{H:Hp}{s s':Qd}
theorem Inv.yh(I:Inv X pins σ H s):iP X.prog X.w X.K X.mg X.base X.A X.stack s H :=
 ⟨I.ok.frames,I.ok.mod,I.bs,qx I.ok.mX I.sz,I.stack,I.i5,I.aw,I.bare⟩
theorem Inv.after{Q:VK}{u:Qc}(I:Inv X pins σ H s)(h:CE X.stack X.prog X.w X.K H s Q u s'):EP X pins σ Q u s':=by
 have(v,H',os,bare,un,aw,r,q):=h;have(hh,g,d,t,B4):=s';obtain rfl:B4=s.os:=os;exact⟨v,H',I.call (h':=hh) (g':=g) (d':=d) (t':=t) (ch:=[]) un aw bare (λb z=>absurd z (by simp)),r,q⟩
end
def zAk(sp:Sp)(dvs:Qa V)(E:XK)(t:TA):TE:=λσ H Q=>t σ H λvs H1=>sp (vs++dvs) H1 Q E
def Jf(C:Qg)(sp:Sp)(dvs:Qa V)(E:XK)(t:TA):TE:=λσ H Q=>t σ H λvs H1=>∀ x dx,H1 x=none->H1 dx=none->dx≠x->
 sp (.ref x::(vs++dvs)) (upd (upd H1 dx<|.own x) x<|.ins C dx []) (λv H2=>v=.aI/\Q (.ref x) H2) E
def mn(K:qc)(fd:FuncData)(ps:Qa Str)(ds:Qa Qc):Prop :=
 ∀ (s:Qd) (us:Qa Qc),K.In s.heap->(us++ds).length=ps.length->BindsTo s fd ⟨us,[]⟩ (ps.zip<|us++ds)
theorem mn.all{K:qc}{fd:FuncData}{ps:Qa Str}(h:∀ us:Qa Qc,us.length=ps.length->bindArgs fd ⟨us,[]⟩=pure (ps.zip us)):mn K fd ps []:=λs us _ hl=>by
 rw[List.append_nil]at hl ⊢;exact .of_eq<|h us hl
def wo(CX:jo)(X:Cx)(E:XK):Prop:=∀ (pins:Qa (Qg×Obj)) (σ:St) (H:Hp) (s:Qd) (e:Qc) (s':Qd),Inv X pins σ H s->CX X.stack H s E e s'->X.xe e s'
section
variable{X:Cx}{CX:jo}{k:Nat}{f C:Qg}{fd:FuncData}{ps:Qa Str}{sp:Sp}{dvs:Qa V}{ds:Qa Qc}{E:XK}{x m:Str}{p pos apos:Pos}{e o:Expr}{es:Qa Expr}{ta:TE}{t:TA}
theorem RW{pins:Qa (Qg×Obj)}{σ:St}{H:Hp}{s:Qd}{Q:VK}{us:Qa Qc}{vs:Qa V}(F:cw X.prog X.w X.K X.mg X.base CX k f fd ps sp)(hr:aH k X.A)(hb:mn X.K fd ps ds)(hd:zM dvs ds)(hx:wo CX X E)
  (I:Inv X pins σ H s) (r:zM vs us) (h:sp (vs++dvs) H Q E):wpAny (model X.prog X.w) X.A (call (.ref f) us) (EP X pins σ Q) X.xe s:=by
 have r2:zM (vs++dvs) (us++ds):=r.append hd;have hl:(us++ds).length=ps.length:=by rw[<-r2.length]; exact F.len _ _ _ _ h
 refine wpAny_call<|codeAny_mono (F.run X.A X.stack s H ⟨us,[]⟩ (us++ds) (vs++dvs) Q E hr I.yh (hb s us I.bN hl) r2 h) λr s' hq=>?_;cases r with
 | error e=>exact hx pins σ H s e s' I hq
 | ok fl=>
  cases fl with
  | ret u=>exact I.after hq
  | next=>exact False.elim hq
  | brk=>exact False.elim hq
  | cont=>exact False.elim hq
theorem VY(F:cw X.prog X.w X.K X.mg X.base CX k f fd ps sp)(hr:aH k X.A)(hg:Gl X x)(hm:X.mg x=some (.ref f))(hk:PySem.W.keepIn X.K (.ref f)=true)(hb:mn X.K fd ps ds)(hd:zM dvs ds)(hx:wo CX X E)
  (ha:PA X (e::es) t) (dg:(x==("__debug__":Str))=false:=by decide) (he:starEach (e::es) X.env=(false,eval e X.env)::starEach es X.env:=by rfl) (eC:(backTo pos<|starEach es X.env).any (·.1)=false:=by rfl):
  PE X (.Call (.Name x p) (e::es) [] pos) (zAk sp dvs E t):=by
 intro pins s σ H Q I h;refine wpAny_Call_Name_kw<|Fo I hg hm ?_ dg;refine PySem.W.callWith_K (h₀:=X.base) I.ok.mod.jb hk (aD (ha pos pins s σ H _ I h) λus s1 ⟨vs,H1,I1,r,q⟩=>⟨I1.bN,?_⟩) he eC;exact RW F hr hb hd hx I1 r q
structure Mk (K:qc) (C f:Qg):Prop where
 makes:PySem.W.makesIn K C=true
 init:PySem.W.findIn K (.ref C) "__init__"=some (some<|.ref f)
 fn:PySem.W.isFn K (.ref f)=true
 kp:PySem.W.keepIn K (.ref C)=true
theorem YE{pins:Qa (Qg×Obj)}{σ:St}{H:Hp}{s:Qd}{Q:VK}{us:Qa Qc}{vs:Qa V}(M:Mk X.K C f)(F:cw X.prog X.w X.K X.mg X.base CX k f fd ps sp)(hr:aH (k+1) X.A)(hb:mn X.K fd ps ds)(hd:zM dvs ds)
  (hx:wo CX X E) (I:Inv X pins σ H s) (r:zM vs us)
  (h:∀ x dx,H x=none->H dx=none->dx≠x->sp (.ref x::(vs++dvs)) (upd (upd H dx<|.own x) x<|.ins C dx []) (λv H2=>v=.aI/\Q (.ref x) H2) E):
  wpAny (model X.prog X.w) X.A (call (.ref C) us) (EP X pins σ Q) X.xe s:=by
 have hq:=h (s.heap.objs.size+1) s.heap.objs.size (I.aw.fresh<|ð _) (I.aw.fresh<|qe _) (qj<|Õ _);have I2:=Inv.made (C:=C) I;have r2:zM (V.ref (s.heap.objs.size+1)::(vs++dvs)) (Value.ref (s.heap.objs.size+1)::(us++ds)):=.cons rfl (r.append hd);have hl:(Value.ref (s.heap.objs.size+1)::us++ds).length=ps.length:=by
  have e:=r2.length;rw[F.len _ _ _ _ hq]at e;exact e.symm
 refine wpAny_call<|YF (f:=f) I.bN M.makes M.init (beq_iff_eq.mp M.fn)<|codeAny_mono (F.run _ X.stack _ _ ⟨Value.ref (s.heap.objs.size+1)::us,[]⟩ (Value.ref (s.heap.objs.size+1)::(us++ds)) _ _ E (hr.make C us [])
  (I2.yh.make C us []) (hb _ (Value.ref (s.heap.objs.size+1)::us) I2.bN hl) r2 hq) λr s' oK=>?_
 cases r with
 | error e=>exact hx pins σ _ _ e s' I2 oK
 | ok fl=>
  cases fl with
  | ret u=>
   have(v,H',I3,rv,ev,q3):=I2.after oK;subst ev;exact⟨rv,⟨V.ref<|s.heap.objs.size+1,H',I3,rfl,q3⟩⟩
  | next=>exact False.elim oK
  | brk=>exact False.elim oK
  | cont=>exact False.elim oK
theorem VX(M:Mk X.K C f)(F:cw X.prog X.w X.K X.mg X.base CX k f fd ps sp)(hr:aH (k+1) X.A)(hg:Gl X x)(hm:X.mg x=some (.ref C))(hb:mn X.K fd ps ds)(hd:zM dvs ds)(hx:wo CX X E)
  (ha:PA X (e::es) t) (dg:(x==("__debug__":Str))=false:=by decide) (he:starEach (e::es) X.env=(false,eval e X.env)::starEach es X.env:=by rfl) (eC:(backTo pos<|starEach es X.env).any (·.1)=false:=by rfl):
  PE X (.Call (.Name x p) (e::es) [] pos) (Jf C sp dvs E t):=by
 intro pins s σ H Q I h;refine wpAny_Call_Name_kw<|Fo I hg hm ?_ dg;refine PySem.W.callWith_K (h₀:=X.base) I.ok.mod.jb M.kp (aD (ha pos pins s σ H _ I h) λus s1 ⟨vs,H1,I1,r,q⟩=>⟨I1.bN,?_⟩) he eC;exact YE M F hr hb hd hx I1 r q
end
section
variable{X:Cx}{CX:jo}{k:Nat}{f C:Qg}{fd:FuncData}{ps ks:Qa Str}{sp:Sp}{E:XK}{x m:Str}{p pos apos kpos:Pos}{e o:Expr}{es:Qa Expr}{kws:Qa Keyword}{te ta:TE}{t tk:TA}{nm:Qb Str}
variable{g:Qa Qc->Qa Qc->Qa Qc}{gV:Qa V->Qa V->Qa V}
end
structure bJ (N P:Qa Str) (sc:Scope):Prop where
 kind:sc.kind=.function
 co:sc.isCoroutine=false
 gen:sc.isGenerator=false
 nd:N.Nodup
 pre:N.take P.length=P
 par:∀ x∈P,sc.names.lookup x=some .local\/sc.names.lookup x=some .cell
 tj:∀ y∈sc.names,y.2≠.free
theorem Mu{kindOf:Str->Qb NameKind}{x:Str}:∀ {binds:Qa (Str×Qc)} {m:Str->Qb Qc},(∀ v,(x,v)∉binds)->bindL kindOf binds m x=m x
 | [],_,_=>rfl
 | (n,v)::r,m,h=>by
  unfold bindL;rw[Mu λw hw=>h w<|qm _ hw];split
  .have:x≠n:=by rintro rfl; exact h v qo
   simp[this]
  .rfl
theorem Mt{kindOf:Str->Qb NameKind}{x:Str}:∀ {binds:Qa (Str×Qc)} {m:Str->Qb Qc},(∀ v,(x,v)∉binds)->bindC kindOf binds m x=m x
 | [],_,_=>rfl
 | (n,v)::r,m,h=>by
  unfold bindC;rw[Mt λw hw=>h w<|qm _ hw];split
  .rfl
  .have:x≠n:=by rintro rfl; exact h v qo
   simp[this]
theorem Ms{kindOf:Str->Qb NameKind}{x:Str}{v:Qc}:∀ {P:Qa Str} {vs:Qa Qc} {i:Nat} {m:Str->Qb Qc},P.Nodup->P[i]?=some x->vs[i]?=some v->kindOf x=some .local->
  bindL kindOf (P.zip vs) m x=some v
 | [],_,_,_,_,h,_,_=>by simp at h
 | _::_,[],_,_,_,_,h,_=>by simp at h
 | p::P,w::vs,0,m,nd,h1,h2,hk=>by
  simp at h1 h2; subst h1; subst h2;show bindL kindOf ((p,w)::P.zip vs) m p=_;unfold bindL;rw[Mu λv hv=>(List.nodup_cons.mp nd).1 (List.of_mem_zip hv).1,if_pos hk];simp
 | p::P,w::vs,i+1,m,nd,h1,h2,hk=>by
  show bindL kindOf ((p,w)::P.zip vs) m x=_;unfold bindL;exact Ms (i:=i) (Û.mp nd).2 (by simpa using h1) (by simpa using h2) hk
theorem Mr{kindOf:Str->Qb NameKind}{x:Str}{v:Qc}:∀ {P:Qa Str} {vs:Qa Qc} {i:Nat} {m:Str->Qb Qc},P.Nodup->P[i]?=some x->vs[i]?=some v->kindOf x≠some .local->
  bindC kindOf (P.zip vs) m x=some v
 | [],_,_,_,_,h,_,_=>by simp at h
 | _::_,[],_,_,_,_,h,_=>by simp at h
 | p::P,w::vs,0,m,nd,h1,h2,hk=>by
  simp at h1 h2; subst h1; subst h2;show bindC kindOf ((p,w)::P.zip vs) m p=_;unfold bindC;rw[Mt λv hv=>(List.nodup_cons.mp nd).1 (List.of_mem_zip hv).1,if_neg hk];simp
 | p::P,w::vs,i+1,m,nd,h1,h2,hk=>by
  show bindC kindOf ((p,w)::P.zip vs) m x=_;unfold bindC;exact Mr (i:=i) (Û.mp nd).2 (by simpa using h1) (by simpa using h2) hk
def gv(N:Qa Str)(vs:Qa V):St:=vs.map some++List.replicate (N.length - vs.length) none
def nh(CX:jo)(P:Qe)(w:Qh)(K:qc)(mg:Str->Qb Qc)(base:Heap)(N:Qa Str)(qual:Str)(scope:Scope)(f:Qg)(cd:Qc)(A:Qf)(outer:Qa Env)(s:Qd)(H:Hp)(E:XK):Cx where
 prog:=P
 w:=w
 K:=K
 mg:=mg
 base:=base
 A:=A.deeper (envOfC qual scope s.heap.objs.size f cd)
 N:=N
 aY:=s
 av:=H
 env:=envOfC qual scope s.heap.objs.size f cd
 outer:=outer
 stack:=envOfC qual scope s.heap.objs.size f cd::outer
 ex:=[]
 calm:=true
 fn:=λ_=>true
 pn:=[]
 xe:=λe s'=>wpAny (model P w) (A.deeper<|envOfC qual scope s.heap.objs.size f cd) (leaving (envOfC qual scope s.heap.objs.size f cd) e) (λ_ sP=>CX outer H s E e sP) (λe' sP=>CX outer H s E e' sP) s'
theorem L7{sc:Scope}{n:Nat}{x:Str}(h:sc.names.lookup x=some .cell):∃ c,(cellsFrom n sc.names []).lookup x=some c:=by
 have q:=PySem.W.cellsFrom_some sc.names n [] (.inl h);exact Option.isSome_iff_exists.mp q
theorem Ze{CX:jo}{P:Qe}{w:Qh}{K:qc}{mg:Str->Qb Qc}{base:Heap}{N ps:Qa Str}{qual:Str}{scope:Scope}{f:Qg}{cd:Qc}{A:Qf}{outer:Qa Env}{s s1:Qd}{H:Hp}{E:XK}{us:Qa Qc}{vs:Qa V}
  (S:bJ N ps scope) (hd:A.handled=none) (e0:iP P w K mg base A outer s H) (hl:vs.length=ps.length) (r:zM vs us)
  (x:InCallC s s.heap.objs.size (bindL (envOfC qual scope s.heap.objs.size f cd).kindOf (ps.zip us) λ_=>none) (cellsFrom (s.heap.objs.size+1) scope.names []) (bindC (envOfC qual scope s.heap.objs.size f cd).kindOf (ps.zip us) λ_=>none) s1):
  Inv (nh CX P w K mg base N qual scope f cd A outer s H E) [] (gv N vs) H s1:=by
 have eC:ps.length<=N.length:=by have:=congrArg List.length S.pre; rw[List.length_take]at this; omega
 have(h1,tk,rfl,hk):=x.done;have xv:∀ b:Qg,b∉(nh CX P w K mg base N qual scope f cd A outer s H E).ex:=λb z=>absurd (show b∈([]:Qa Qg) from z) (by simp);refine⟨⟨e0.mod,S.kind,rfl,rfl,qe _,λy z c h1 h2=>?_,λy hy=>?_,λy c _ h=>?_,λ_=>hd,Around.frames_deeper e0.frames,.inr ⟨rfl,rfl⟩,λb z=>absurd z<|xv b,e0.bs,e0.mX,λb _ _=>xv b,λb z=>absurd z<|xv b,e0.dA,e0.qT⟩,
  rfl,e0.bare,Un.kept hk,⟨_,x.toInCall.ns,λi y v h1 h2 h3=>?_⟩,λy c h=>⟨_,x.cell y c h⟩,e0.aw.fresh<|qe _,λy c h=>?_,λp hp=>absurd (show p∈([]:Qa (Qg×Obj)) from hp) (by simp),e0.aw.kept hk,?_⟩
 .exact name_of_addr x.apart (î h1) (î h2)
 .have hy:scope.names.lookup y=some .cell\/scope.names.lookup y=some .free:=hy
  rcases hy with hy|hy
  .exact L7 hy
  .exact absurd rfl (S.tj _<|î hy)
 .exact Nat.le_of_lt (x.above y c<|î h)
 .have hi:i < vs.length:=by
   unfold gv at h2
   by_cases hi:i < vs.length
   .exact hi
   .rw[List.getElem?_append_right (by simpa using hi)]at h2
    rw[List.getElem?_replicate]at h2;split at h2<;>cases h2
  have ha:vs[i]?=some v:=by
   unfold gv at h2;rw[List.getElem?_append_left (by simpa using hi),List.getElem?_map]at h2;cases e:vs[i]? with
   | none=>rw[e]at h2; cases h2
   | some a=>rw[e]at h2; cases h2; rfl
  have(u,hu,rv):=r.get ha;have hp:ps[i]?=some y:=by
   rw[<-S.pre,List.getElem?_take_of_lt (by omega)]; exact h1
  have Pf:ps.Nodup:=by rw[<-S.pre]; exact S.nd.sublist<|List.take_sublist _ _
  refine⟨u,rv,?_⟩;rcases S.par y (Æ hp)with k|k
  .exact .inl ⟨k,Ms Pf hp hu k⟩
  .have(c,e):=L7 (n:=s.heap.objs.size+1) k
   refine .inr ⟨.inl k,c,e,?_⟩;have q:=x.cell y c e;rw[Mr Pf hp hu (by show scope.names.lookup y≠_; rw[k]; decide)]at q;exact q
 .exact e0.aw.fresh (Nat.le_of_lt<|x.above y c<|î h)
 .unfold gv
  show _=N.length;rw[qr,List.length_map,List.length_replicate];omega
theorem zAl{CX:jo}{P:Qe}{w:Qh}{K:qc}{mg:Str->Qb Qc}{base:Heap}{k:Nat}{f:Qg}{name qual:Str}{params:Arguments}{body:Qa Stmt}{scope:Scope}{dV kV doc pm bG ct oc:Qc}{an od:Qb Qg}
  {oz:Array (Qb Qc)} {N ps:Qa Str} {sp:Sp} (lk:K.lookup f=some ⟨oc,od,.func<|PySem.W.fnOf name qual params body scope dV kV doc pm an bG ct,oz⟩) (jO:PySem.W.codeIn K bG qual=true) (S:bJ N ps scope)
  (len:∀ vs H Q E,sp vs H Q E->vs.length=ps.length)
  (cn:∀ (A:Qf) (outer:Qa Env) (s:Qd) (H:Hp) (vs:Qa V) (Q:VK) (E:XK),aH k (A.deeper<|envOfC qual scope s.heap.objs.size f bG)->sp vs H Q E->
   ∃ t,eI (nh CX P w K mg base N qual scope f bG A outer s H E) body t/\t {nx:=λ_ H'=>Q .aI H',rt:=Q} (gv N vs) H):
  cw P w K mg base CX (k+1) f (PySem.W.fnOf name qual params body scope dV kV doc pm an bG ct) ps sp:=by
 refine⟨len,λA outer s H args us vs Q E hr e0 hb r mR=>?_⟩;have hl:=len _ _ _ _ mR;have KX:K.In s.heap:=e0.mod.jb.keeps λb o e=>(e0.bs b o e).1;have lim:s.heap.NoLimit:=e0.mod.nolimit.keeps λb o e=>(e0.bs b o e).1;have xQ:∀ y∈ps.zip us,scope.names.lookup y.1=some .local\/(scope.names.lookup y.1=some .cell/\((cellsFrom (s.heap.objs.size+1) scope.names []).lookup y.1).isSome=true):=λ⟨n,v⟩ hy=>by
  rcases S.par n (List.of_mem_zip hy).1 with q|q
  .exact .inl q
  .exact .inr ⟨q,PySem.W.cellsFrom_some _ _ _<|.inl q⟩
 refine codeAny_call_function hr.depth (KX _ _ lk) rfl S.co S.gen rfl (PySem.W.codeRec_of KX jO)<|hb _ _ _ _ ?_;refine wpAny_newFunctionEnv_cells S.kind xQ λenv he s1 x=>?_;subst he;refine⟨lim.keeps x.toInCall.keep,codeAny_func ?_⟩;have(t,ht,hq):=cn A outer s H vs Q E (hr.deeper _) mR;have I:Inv (nh CX P w K mg base N qual scope f bG A outer s H E) [] (gv N vs) H s1:=Ze S hr.hd e0 hl r x;refine wpAny_mono (ht [] s1 (gv N vs) H _ I hq) (λfl s' hs=>?_) λe s' hs=>hs;have fin:∀ {aG:St} {H':Hp} {v:V} {u:Qc},Inv (nh CX P w K mg base N qual scope f bG A outer s H E) [] aG H' s'->zO v u->Q v H'->CE outer P w K H s Q u s' :=
  λ{aG H' v u} J rv q=>⟨v,H',J.os,J.bare,J.base,J.aw,rv,q⟩
 cases fl with
 | ret u=>
  have(v,aG,H',J,rv,q):=hs;exact fin J rv q
 | next=>
  have(aG,H',J,q):=hs;exact fin (v:=V.aI) (u:=Value.none) J rfl q
 | brk=>
  have(_,_,_,q):=hs;exact False.elim q
 | cont=>
  have(_,_,_,q):=hs;exact False.elim q
section
variable{X:Cx}{x:Str}{p pos:Pos}{e:Expr}{es:Qa Expr}{t:TA}{id T:String}{r:Qa V->Hp->VK->Prop}
def mM(r:Qa V->Hp->VK->Prop)(t:TA):TE:=λσ H Q=>t σ H λvs H1=>r vs H1 Q
theorem YD(hc:e8 X (.builtin id) r)(hg:Gl X x)(hm:X.mg x=none)(hv:bootBuiltins x=some (.builtin id))(ha:PA X (e::es) t)(hn:x ≠ "__name__":=by decide)(dg:(x==("__debug__":Str))=false:=by decide)
  (he:starEach (e::es) X.env=(false,eval e X.env)::starEach es X.env:=by rfl) (eC:(backTo pos<|starEach es X.env).any (·.1)=false:=by rfl):PE X (.Call (.Name x p) (e::es) [] pos) (mM r t):=by
 intro pins s σ H Q I h;refine wpAny_Call_Name_kw<|pO I hg hm hv ?_ hn dg;exact PyProof.Rows.callWith_builtin1 (aD (ha pos pins s σ H _ I h) λus s1 ⟨vs,H1,I1,r1,q1⟩=>hc pins s1 σ H1 vs us Q I1 r1 q1) he eC
theorem Zd(hc:e8 X (.type T) r)(hg:Gl X x)(hm:X.mg x=none)(hv:bootBuiltins x=some (.type T))(ha:PA X (e::es) t)(hn:x ≠ "__name__":=by decide)(dg:(x==("__debug__":Str))=false:=by decide)
  (he:starEach (e::es) X.env=(false,eval e X.env)::starEach es X.env:=by rfl) (eC:(backTo pos<|starEach es X.env).any (·.1)=false:=by rfl):PE X (.Call (.Name x p) (e::es) [] pos) (mM r t):=by
 intro pins s σ H Q I h;refine wpAny_Call_Name_kw<|pO I hg hm hv ?_ hn dg;exact Ó (aD (ha pos pins s σ H _ I h) λus s1 ⟨vs,H1,I1,r1,q1⟩=>hc pins s1 σ H1 vs us Q I1 r1 q1) he eC
end
end L2
variable{E:L2.Qc->L2.Qd->Prop}{K:L2.qc}{H:L2.Hp}{α:Type}{pins:L2.Qa (L2.Qg×Obj)}{n:Nat}{s:L2.Qd}{i:Nat}{Q:L2.Qc->L2.Qd->Prop}{pos:Pos}{w:L2.Qh}{A:L2.Qf}{js:L2.Qa Nat}{nt:Nat}{p:Array Nat}{σ:L2.St}{kvs:L2.Qa (L2.Qa L2.Key×L2.V)}{a:L2.Qg}{R:Result->L2.Qd->Prop}{x:Str}{prog:L2.Qe}{b:Int}{es:Array DictEntry}{pn:L2.Qa Nat}{e:Expr}{H':L2.Hp}{v:L2.V}{xs:L2.Qa (L2.Qa L2.Key×L2.Qg×L2.Qc)}{β:Type}{te:L2.TE}{j:Nat}{cl:L2.Qa (Str×L2.Qg)}{ps:L2.Qa Str}{P:L2.Qe}{tg:Expr}{r:L2.Qa L2.V->L2.Hp->L2.VK->Prop}{mg:Str->L2.Qb L2.Qc}{ifs elts:L2.Qa Expr}{ns:L2.Qa Int}{fd:FuncData}{ta:L2.TE}{φ:L2.Qa Int->L2.Qa Int->Rat}{tv:L2.TE}{h:Heap}{vs:L2.Qa L2.V}{g:L2.TG}{M:Nat}{o:Expr}{st:Stmt}{iter:Expr}{T:String}{N fl:L2.Qa Str}{m:Nat}{tt:L2.TT}{c:Nat}{u:L2.Qc}{scope:Scope}{f:Str}{td tk:L2.TE}{it:L2.Qg}{apos:Pos}{tn:Nat->Heap->Prop}{RR:L2.Qc->L2.Qg->Result->L2.Qd->Prop}{ep:Nat}{sp:L2.Sp}{aX k9:Pos}{y:Int}{wi:L2.TI}{l:L2.Qb Nat}{h':Heap}{env:Env}{pos':Pos}{B:Nat}{us:L2.Qa L2.Qc}{tb ty:L2.TE}{op:CmpOp}{d:L2.Qg}{ys:L2.Qa (L2.Qa L2.Key×L2.Qg×L2.Qc)}{cmp:Nat->Nat->(Bool->L2.Qd->Prop)->L2.Qd->Prop}{G:Array GenState->Array GenState->Prop}{qual:Str}{ks:L2.Qa Int}{κ:Type}{ws:L2.Qa (κ×L2.V)}{elt:Expr}{au:L2.St}{av aA:L2.Hp}{as:L2.Qa α}{kx vx:Expr}{oz:Array (L2.Qb L2.Qc)}{fp:L2.Qa L2.Qg}{sl:Array (L2.Qb L2.Qc)}
namespace HT
open PySem PyProof.Rows
section
open PySem.SeqAt
open PySem.AutoSeq1 (wpAny_loadPart')
open PySem.MeetsSeq PySem.MeetsSeq2 PySem.MeetsSeq3
end
section
variable{prog:Program} {w:World} {A:Around} {E:Value->Shared->Prop} {s:Shared}
theorem oZ{t b:Addr}{vs ws:List Value}{Q:Value->Shared->Prop}(ht:IsTup s.heap t vs.toArray)(hb:IsTup s.heap b ws.toArray)(hv:vs≠[])
  (h1:ws=[]->Q (.ref t) s) (h2:ws≠[]->Q (.ref s.heap.objs.size) {s with heap:=s.heap.push {cls:=.type "tuple",data:=.seq (vs++ws).toArray}})
  (hsz:vs.length+ws.length<=sizeLine):wpAny (model prog w) A (binaryOp .Add (.ref t)<|.ref b) Q E s:=by
 obtain⟨⟨cls,dd,data,sl⟩,ho,hc,n,hd⟩:=id ht;obtain⟨⟨HZ,vB,data2,vf⟩,tM,xX,n2,hd2⟩:=id hb;simp only at hc hd xX hd2;subst hc hd xX hd2;have e:vs.toArray++ws.toArray=(vs++ws).toArray:=by simp
 by_cases hw:ws=[]
 .exact concat_meets ⟨_,ho,rfl⟩ ⟨_,tM,rfl⟩ noFill_tuple_add seq_tuple_add PySem.F.slot_tuple_add PySem.F.entry_tuple_add (PySem.F.args_tuple_add_2 _ _)
   (tuple_addW1 t b vs.toArray ws.toArray n n2 dd vB sl vf (by simpa using hv) (by simp[hw])) ⟨ho,tM,h1 hw⟩
 .refine concat_meets ⟨_,ho,rfl⟩ ⟨_,tM,rfl⟩ noFill_tuple_add seq_tuple_add PySem.F.slot_tuple_add PySem.F.entry_tuple_add (PySem.F.args_tuple_add_2 _ _)
   (tuple_addW2 t b vs.toArray ws.toArray n n2 dd vB sl vf (by simpa using hv) (by simpa using hw) (by rw[List.size_toArray,List.size_toArray]; exact hsz)) ⟨ho,tM,?_⟩
  rw[e];exact h2 hw
def aN(n d:Nat):Option Int->Nat
 | none=>d
 | some v=>if v < 0 then(v+(n:Int)).toNat else min v.toNat n
theorem RV(n d:Nat)(hd:d<=n)(o:Option Int):aN n d o<=n:=by
 cases o with
 | none=>exact hd
 | some v=>
  show(if v < 0 then(v+(n:Int)).toNat else min v.toNat n)<=n
  by_cases hv:v < 0
  .rw[if_pos hv]; omega
  .rw[if_neg hv]; exact Nat.min_le_right _ _
theorem K8(v:Int)(n d:Nat):(if v < 0 then max (v+(n:Int)) 0 else min v (n:Int))=((aN n d (some v):Nat):Int):=by
 show(if v < 0 then max (v+(n:Int)) 0 else min v (n:Int))=(((if v < 0 then(v+(n:Int)).toNat else min v.toNat n):Nat):Int)
 by_cases hv:v < 0
 .simp only[if_pos hv]; omega
 .simp only[if_neg hv]; omega
theorem zmD(lo hi:Option Int)(n:Nat):Builtin.Slice.sliceAdjust lo hi 1 (n:Int)=(((aN n 0 lo:Nat):Int),((aN n n hi:Nat):Int)):=by
 have h1:¬((1:Int) < 0):=by omega
 unfold Builtin.Slice.sliceAdjust;simp only[h1,if_false];refine Prod.ext ?_ ?_
 .cases lo with
  | none=>rfl
  | some v=>exact K8 v n 0
 .cases hi with
  | none=>rfl
  | some v=>exact K8 v n n
theorem zmE(i j:Nat):Builtin.Slice.slicePlaces (i:Int) (j:Int) 1=j - i:=by
 unfold Builtin.Slice.slicePlaces;have h1:(1:Int) > 0:=by omega
 simp only[h1,if_true,Int.ediv_one];split<;>omega
theorem M0{v:Value}{o:Option Int}{Q:Option Int->Shared->Prop}(p:IsPart v o)(h:Q o s):wpAny (model prog w) A (Builtin.Slice.slicePartIndex v) Q E s:=by
 cases p with
 | none=>exact slicePart_none h
 | int i t=>exact slicePart_int h
theorem N1{sl:Addr}{vl vu:Value}{lo hi:Option Int}{n:Nat}{Q:Int×Int×Nat->Shared->Prop}(hs:s.heap.IsSliceOf sl vl vu .none)(pl:IsPart vl lo)(pu:IsPart vu hi)
  (h:Q (((aN n 0 lo:Nat):Int),1,aN n n hi - aN n 0 lo) s):wpAny (model prog w) A (Builtin.Slice.sliceApplied (.ref sl)<|pure (n:Int)) Q E s:=by
 have(os,tJ,Cr,xU):=id hs;unfold Builtin.Slice.sliceApplied Builtin.Slice.sliceFields;refine wpAny_bind<|wpAny_bind<|wpAny_field tJ xU (x:=vl) rfl<|wpAny_bind<|wpAny_field tJ xU (x:=vu) rfl<|wpAny_bind<|wpAny_field tJ xU (x:=.none) rfl<|wpAny_pure ?_;refine wpAny_bind<|slicePart_none ?_;show wpAny _ _ (if((1:Int)==0)=true then _ else _) _ _ s;rw[if_neg (by decide)];refine wpAny_bind<|M0 pl<|wpAny_bind<|M0 pu<|wpAny_bind<|wpAny_pure ?_;show wpAny _ _ (match Builtin.Slice.sliceAdjust lo hi 1 (n:Int)with | (lo,hi)=>pure (lo,(1:Int),Builtin.Slice.slicePlaces lo hi 1)) _ _ s;rw[zmD lo hi n];show wpAny _ _ (pure (((aN n 0 lo:Nat):Int),(1:Int),Builtin.Slice.slicePlaces ((aN n 0 lo:Nat):Int) ((aN n n hi:Nat):Int) 1)) _ _ s;rw[zmE];exact wpAny_pure h
theorem YC(xs:Array Value)(i k:Nat):((List.range k).filterMap λ(m:Nat)=>xs[((i:Int)+(m:Int) * 1).toNat]?).toArray=((xs.toList.drop i).take k).toArray:=by
 have e:(λ(m:Nat)=>xs[((i:Int)+(m:Int) * 1).toNat]?)=λm=>xs[i+m]?:=by
  funext m
  have:((i:Int)+(m:Int) * 1).toNat=i+m:=by omega
  rw[this]
 rw[e];have:=pick_run xs i k;rw[List.filterMap_map]at this;have e2:((λx=>xs[x]?) ∘ λx=>i+x)=λm=>xs[i+m]?:=rfl;rw[e2]at this;rw[this]
theorem cW{t sl:Addr}{items:Array Value}{vl vu:Value}{lo hi:Option Int}{Q:Value->Shared->Prop}(ht:IsTup s.heap t items)(hs:s.heap.IsSliceOf sl vl vu .none)(pl:IsPart vl lo)(pu:IsPart vu hi)
  (hw:¬(aN items.size 0 lo=0/\aN items.size items.size hi=items.size))
  (h:Q (.ref s.heap.objs.size) {s with heap:=s.heap.push {cls:=.type "tuple",data:=.seq ((items.toList.drop<|aN items.size 0 lo).take<|aN items.size items.size hi - aN items.size 0 lo).toArray}})
  (hsz:items.size<=sizeLine):wpAny (model prog w) A (getItem (.ref t)<|.ref sl) Q E s:=by
 have jc:sizeOk (.seq ((items.toList.drop<|aN items.size 0 lo).take<|aN items.size items.size hi - aN items.size 0 lo).toArray):=by
  show((items.toList.drop<|aN items.size 0 lo).take<|aN items.size items.size hi - aN items.size 0 lo).toArray.size<=sizeLine;rw[List.size_toArray,List.length_take,List.length_drop,Array.length_toList];omega
 have hj:aN items.size items.size hi<=items.size:=RV _ _ (Nat.le_refl _) hi;have(os,tJ,Cr,xU):=id hs;have HG:s.TypeIs (.ref sl) "slice":=⟨os,tJ,Cr⟩;unfold getItem
 try with_reducible refine wpAny_holding ?_
 first|refine wpAny_bind (wpAny_pure ?_) | skip
 refine wpAny_bind<|wpAny_sequenceKey ht.typeIs (by decide) ?_;refine wpAny_bind (wpAny_callSpecial?_slot (name:=Str.ofString "__getitem__") ht.typeIs PyProof.Rows.slot_tuple_getitem
  (wpAny_call_entry PyProof.Rows.slot_tuple_getitem ht.typeIs entry_tuple_getitem ?_<|args_tuple_getitem _ _))
 show wpAny _ _ (Builtin.Tuple.tupleItemsOf (.ref t) >>= _) _ _ s;refine wpAny_bind<|tupleItemsOf_ ht ?_;refine wpAny_bind<|wpAny_typeOf HG ?_;rw[if_pos (by decide)];refine wpAny_bind<|N1 hs pl pu ?_;have Hz:¬((((aN items.size 0 lo:Nat):Int)==0 && (1:Int)==1 && (aN items.size items.size hi - aN items.size 0 lo)==items.size)=true):=by
  intro q;rw[Bool.and_eq_true,Bool.and_eq_true]at q;have q1:((aN items.size 0 lo:Nat):Int)=0:=eq_of_beq q.1.1;have q2:aN items.size items.size hi - aN items.size 0 lo=items.size:=eq_of_beq q.2;exact hw ⟨by omega,by omega⟩
 show wpAny _ _ (if(((aN items.size 0 lo:Nat):Int)==0 && (1:Int)==1 && (aN items.size items.size hi - aN items.size 0 lo)==items.size)=true then _ else _) _ _ s;rw[if_neg Hz,YC]
 first
  | exact wpAny_bind (m:=Builtin.Tuple.tupleExact _)<|wpAny_newObj_type (wpAny_pure ⟨_,rfl,wpAny_pure h⟩) jc
  | exact wpAny_bind (m:=Builtin.Tuple.tupleExact _)<|wpAny_newObj_type (wpAny_bind<|wpAny_pure<|wpAny_pure ⟨_,rfl,wpAny_pure h⟩) jc
  | exact wpAny_bind<|wpAny_bind (m:=Builtin.Tuple.tupleExact _)<|wpAny_newObj_type (wpAny_pure<|wpAny_pure ⟨_,rfl,wpAny_pure h⟩) jc
  | exact wpAny_bind<|wpAny_bind (m:=Builtin.Tuple.tupleExact _)<|wpAny_newObj_type (wpAny_pure ⟨_,rfl,wpAny_pure h⟩) jc
end
end HT
namespace L2
open PySem PySem.Spec PyProof.Rows
abbrev TO:=St->Hp->(Qb Int->Hp->Prop)->Prop
def PO(X:Cx)(e:Qb Expr)(t:TO):Prop :=
 ∀ (pins:Qa (Qg×Obj)) (s:Qd) (σ:St) (H:Hp) (Q:Qb Int->Hp->Prop),Inv X pins σ H s->t σ H Q->
  wpAny (model X.prog X.w) X.A (evalPart e X.env) (λu s'=>∃ o H',Inv X pins σ H' s'/\IsPart u o/\Q o H') X.xe s
def Fn:TO:=λ_ H Q=>Q none H
def D7(t:TE):TO:=λσ H Q=>t σ H λx H1=>∃ i,x=.int i/\Q (some i) H1
theorem MZ:∀ {us:Qa Qc},zM (ns.map V.int) us->IntsAre us ns:=by
 induction ns with
 | nil=>intro us r; rw[List.map_nil]at r; cases r; exact .nil
 | cons n ns ih=>
  intro us r;rw[List.map_cons]at r;cases r with
  | cons r1 r2=>
   have(t,e):=r1;subst e;exact .cons n t<|ih r2
section
variable{X:Cx}{lo hi:Qb Expr}{tl th:TO}{p2:Pos}
theorem VW:PO X none Fn:=by
 intro pins s σ H Q I h;rw[evalPart_none];exact qb ⟨none,H,I,.none,h⟩
theorem VR(h:PE X e te):PO X (some e) (D7 te):=by
 intro pins s σ H Q I hw;rw[evalPart_some];refine aD (h pins s σ H _ I hw) λu s1 hZ=>?_;have(x,H1,I1,r1,q1):=hZ;have(i,rfl,q):=q1;have(t,rfl):=r1;exact⟨some i,H1,I1,.int i t,q⟩
def vG(X:Cx)(r:V->Qb Int->Qb Int->Hp->VK->Prop):Prop :=
 ∀ (pins:Qa (Qg×Obj)) (s:Qd) (σ:St) (H:Hp) (x:V) (v vl vu:Qc) (lo hi:Qb Int) (sl:Qg) (Q:VK),Inv X pins σ H s->zO x v->s.heap.IsSliceOf sl vl vu .none->IsPart vl lo->IsPart vu hi->r x lo hi H Q->
  ∃ T id,typeLookup (.type T) "__getitem__"=pure (some<|.builtin id)/\s.TypeIs v T/\wpAny (model X.prog X.w) X.A (getItem v<|.ref sl) (EP X pins σ Q) X.xe s
def GF(r:V->Qb Int->Qb Int->Hp->VK->Prop)(te:TE)(tl th:TO):TE:=λσ H Q=>te σ H λx H1=>tl σ H1 λl H2=>th σ H2 λu H3=>r x l u H3 Q
theorem YB{r:V->Qb Int->Qb Int->Hp->VK->Prop}(hr:vG X r)(he:PE X e te)(hl:PO X lo tl)(hu:PO X hi th):PE X (.Subscript e (.Slice lo hi none p2) pos) (GF r te tl th):=by
 intro pins s σ H Q I h;refine Subscript_<|aD (he pins s σ H _ I h) λv s1 hZ=>?_;have(x,H1,I1,r1,q1):=hZ;refine wpAny_Slice<|aD (hl pins s1 σ H1 _ I1 q1) λvl s2 ⟨l,H2,I2,pl,q2⟩=>aD (hu pins s2 σ H2 _ I2 q2) λvu s3 hZ=>?_;have(u,H3,I3,pu,q3):=hZ;rw[evalPart_none];refine qb ?_;have I4:Inv X pins σ H3 {s3 with heap:=s3.heap.push {cls:=.type "slice",data:=.fields #[vl,vu,.none]}}:=I3.kept (t':=s3.toks) λb ob q=>qd _ q;have(T,id,hT,ht,hg):=hr pins {s3 with heap:=s3.heap.push {cls:=.type "slice",data:=.fields #[vl,vu,.none]}} σ H3 x v vl vu l u s3.heap.objs.size Q I4 r1 (Heap.IsSliceOf.new ..) pl pu q3;show wpAny (model X.prog X.w) X.A (subscriptTail e (.Slice lo hi none p2) v<|.ref s3.heap.objs.size) (EP X pins σ Q) X.xe {s3 with heap:=s3.heap.push {cls:=.type "slice",data:=.fields #[vl,vu,.none]}};exact tail_any (ops:=[.ref s3.heap.objs.size,v]) ht hT hg (by with_unfolding_all rfl)
def j8(xs:Qa V)(lo hi:Qb Int):Qa V:=(xs.drop<|HT.aN xs.length 0 lo).take (HT.aN xs.length xs.length hi - HT.aN xs.length 0 lo)
theorem Ni(xs:Qa V)(lo hi:Qb Int):(j8 xs lo hi).length<=xs.length:=by
 unfold j8;rw[List.length_take,List.length_drop];omega
def zBZ(K:qc):V->Qb Int->Qb Int->Hp->VK->Prop:=λx lo hi H Q=>∃ a xs,x=.ref a/\bz K H a xs/\
 ¬(HT.aN xs.length 0 lo=0/\HT.aN xs.length xs.length hi=xs.length)/\∀ p,H p=none->Q (.ref p) (upd H p<|.tup<|j8 xs lo hi)
theorem RU:vG X (zBZ X.K):=by
 intro pins s σ H x v vl vu lo hi sl Q I rx hs pl pu h;have(a,xs,rfl,hx,hw,q):=h;cases rx;have(ah,r,ht,hz):=I.tuple hx;have hlen:ah.toArray.size=xs.length:=by rw[List.size_toArray]; exact r.length.symm
 refine⟨"tuple",_,PyProof.Rows.slot_tuple_getitem.lookup,ht.typeIs,?_⟩;refine HT.cW ht hs pl pu (by rw[hlen]; exact hw) ?_ (by rw[hlen]; exact hz);rw[hlen];refine⟨.ref s.heap.objs.size,_,I.laid (t':=s.toks) (o:=.tup (j8 xs lo hi)) (λb ob q=>qd _ q) (qe _) ?_,rfl,q _<|I.aw.fresh<|qe _⟩;exact⟨qx (Ni xs lo hi) hz,_,(r.drop<|HT.aN xs.length 0 lo).take<|HT.aN xs.length xs.length hi - HT.aN xs.length 0 lo,mE.new _ _⟩
def D6(K:qc):R2:=λx y H Q=>∃ a b xs ys,x=.ref a/\y=.ref b/\bz K H a xs/\bz K H b ys/\xs≠[]/\xs.length+ys.length<=sizeLine/\
 (ys=[]->Q (.ref a) H)/\(ys≠[]->∀ p,H p=none->Q (.ref p) (upd H p<|.tup<|xs++ys))
theorem zM.fQ{xs:Qa V}(r:zM xs us):us=[]↔xs=[]:=by
 cases r with
 | nil=>simp
 | cons _ _=>simp
theorem VQ:bH X (binaryOp .Add) (D6 X.K):=by
 intro pins s σ H x y v u Q I rx ry h;have(a,b,xs,ys,rfl,rfl,ha,hb,hx,hz,q1,q2):=h;cases rx;cases ry;have(ah,r1,p1,_):=I.tuple ha;have(dz,r2,p2,_):=I.tuple hb;refine HT.oZ p1 p2 (λz=>hx<|r1.fQ.mp z) (λz=>⟨.ref a,H,I,rfl,q1<|r2.fQ.mp z⟩) (λz=>?_) (by rw[<-r1.length,<-r2.length]; exact hz);refine⟨.ref s.heap.objs.size,_,I.laid (t':=s.toks) (o:=.tup (xs++ys)) (λb ob q=>qd _ q) (qe _) ?_,rfl,q2 (λw=>z<|r2.fQ.mpr w) _<|I.aw.fresh<|qe _⟩;exact⟨by rw[qr]; exact hz,_,r1.append r2,mE.new _ _⟩
end
def eB(n:Nat)(i:Int):Qb Nat:=if 0<=i then(if i < n then some i.toNat else none)else if -(n:Int)<=i then some (i+n).toNat else none
def bY(xs:Qa α)(i:Int):Qb α:=(eB xs.length i).bind λj=>xs[j]?
theorem K7{i:Int}(h:eB n i=some j):seqIndex? i n=some j/\j < n/\-(n:Int)<=i/\i < n:=by
 unfold eB at h
 by_cases h0:0<=i
 .rw[if_pos h0]at h
  by_cases h1:i < n
  .rw[if_pos h1]at h
   have e:i.toNat=j:=qw h;exact⟨by rw[seqIndex_of h0 h1,e],by omega,by omega,h1⟩
  .rw[if_neg h1]at h; cases h
 .rw[if_neg h0]at h
  by_cases h1:-(n:Int)<=i
  .rw[if_pos h1]at h
   have e:(i+n).toNat=j:=qw h;exact⟨by rw[seqIndex_neg (by omega) h1,e],by omega,h1,by omega⟩
  .rw[if_neg h1]at h; cases h
theorem Fk{xs:Qa α}{i:Int}{v:α}(h:bY xs i=some v):∃ j,seqIndex? i xs.length=some j/\xs[j]?=some v/\j < xs.length/\-(xs.length:Int)<=i/\i < xs.length:=by
 unfold bY at h;cases e:eB xs.length i with
 | none=>rw[e]at h; cases h
 | some j=>
  rw[e]at h;have(h1,h2,h3,h4):=K7 e;exact⟨j,h1,h,h2,h3,h4⟩
theorem VP{xs:Qa α}{v:α}(h:xs[j]?=some v):bY xs (j:Int)=some v:=by
 have hj:j < xs.length:=(qk.mp h).1;have e:eB xs.length (j:Int)=some j:=by
  unfold eB;rw[if_pos (by omega),if_pos (by omega)]; simp
 unfold bY; rw[e]; exact h
def K6(b:Expr):Prop:=∀ o i,subscripted b false o i=operate [o,i] (getItem o i)
def t7(X:Cx)(r:R2):Prop :=
 ∀ (value slice:Expr) (pins:Qa (Qg×Obj)) (s:Qd) (σ:St) (H:Hp) (x y:V) (v u:Qc) (Q:VK),Inv X pins σ H s->zO x v->zO y u->r x y H Q->
  subscripted slice false v u=operate [v,u] (getItem v u)->wpAny (model X.prog X.w) X.A (subscriptTail value slice v u) (EP X pins σ Q) X.xe s
def QL(X:Cx)(id:String)(r:V->Qa V->Hp->VK->Prop):Prop :=
 ∀ (pins:Qa (Qg×Obj)) (s:Qd) (σ:St) (H:Hp) (x:V) (xs:Qa V) (v:Qc) (us:Qa Qc) (Q:VK),Inv X pins σ H s->zO x v->zM xs us->r x xs H Q->
  wpAny (model X.prog X.w) X.A (call (.builtin id)<|v::us) (EP X pins σ Q) X.xe s
section
variable{X:Cx}{a b:Expr}
theorem zAm{r:R2}(hr:t7 X r)(ha:PE X a ta)(hb:PE X b tb)(hs:K6 b):PE X (.Subscript a b pos) (mL r ta tb):=by
 intro pins s σ H Q I h;exact Subscript_<|Dr ha hb I h λv u s2 x y H2 I2 rx ry q=>hr a b pins s2 σ H2 x y v u Q I2 rx ry q<|hs _ _
def Dj(K:qc):R2:=λx y H Q=>∃ p xs i v,x=.ref p/\y=.int i/\bA K H p xs/\bY xs i=some v/\Q v H
def Di(K:qc):R2:=λx y H Q=>∃ p xs i v,x=.ref p/\y=.int i/\bz K H p xs/\bY xs i=some v/\Q v H
def OW:R2:=λx y H Q=>∃ z i c,x=.str z/\y=.int i/\z.length<=sizeLine/\bY z.cps.toList i=some c/\Q (.str ⟨#[c]⟩) H
theorem VN:t7 X (Dj X.K):=by
 intro value slice pins s σ H x y v u Q I rx ry h hs;have(p,xs,i,z,rfl,rfl,hq,he,q):=h;cases rx;have(t,rfl):=ry;have(ah,r,pl,hz):=I.list hq;have(j,h1,h2,h3,h4,h5):=Fk he;have(w,ew,jH):=r.get h2;have hl:=r.length;have hn:=uG;have fin:EP X pins σ Q w s:=⟨z,H,I,jH,q⟩
 by_cases h0:0<=i
 .have hj:i.toNat=j:=by
   rw[seqIndex_of h0 h5]at h1;exact qw h1
  exact item_listR pl.isList h0 (by omega) (by rw[hj]; simpa using ew) fin hs
 .have hj:(i+(ah.toArray.size:Int)).toNat=j:=by
   rw[seqIndex_neg (by omega) h4]at h1;rw[List.size_toArray,<-hl];exact qw h1
  exact subscriptTail_builtinR (x:=w) pl.isList.typeIs slot_list_getitem.lookup
   (wpAny_getItem_list_neg (Q:=λr s'=>r=w/\EP X pins σ Q r s') pl.isList (by omega) (by rw[List.size_toArray]<;>omega) (by omega) (by rw[hj]; simpa using ew) ⟨rfl,fin⟩) hs
theorem RT:t7 X (Di X.K):=by
 intro value slice pins s σ H x y v u Q I rx ry h hs;have(p,xs,i,z,rfl,rfl,hq,he,q):=h;cases rx;have(t,rfl):=ry;have(ah,r,pl,hz):=I.tuple hq;have(j,h1,h2,h3,h4,h5):=Fk he;have(w,ew,jH):=r.get h2;have hl:=r.length;have hn:=uG;have fin:EP X pins σ Q w s:=⟨z,H,I,jH,q⟩;exact subscriptTail_builtinR (x:=w) pl.typeIs slot_tuple_getitem.lookup
  (getItem_tuple (j:=j) (Q:=λr s'=>r=w/\EP X pins σ Q r s') pl (by omega) (by omega) (by rw[List.size_toArray,<-hl]; exact h1) (by simpa using ew) ⟨rfl,fin⟩) hs
theorem ER:t7 X OW:=by
 intro value slice pins s σ H x y v u Q I rx ry h hs;have(z,i,c,rfl,rfl,hz,he,q):=h;have(t,rfl):=rx;have(t',rfl):=ry;have(j,h1,h2,h3,h4,h5):=Fk he;have hl:z.cps.toList.length=z.length:=by simp[Str.length]
 rw[hl]at h1 h4 h5;have hn:=uG;exact tail_any (typeIs_str s z t) slot_str_getitem.lookup (getItem_str (c:=c) (by
  have e1:decide (i < -(2^63:Int))=false:=decide_eq_false (by omega);have e2:decide (i>=2^63)=false:=decide_eq_false (by omega);rw[e1,e2,Bool.or_false]) (by rw[h1]; simpa using h2) ⟨.str ⟨#[c]⟩,H,I.tok _,⟨_,rfl⟩,q⟩) hs
theorem zmG(ah:Qa Qc)(n j:Nat)(u:Qc):Obj.mapSeq (·.setIfInBounds j u) {cls:=.type "list",data:=.seq ah.toArray n}={cls:=.type "list",data:=.seq (ah.set j u).toArray n}:=by
 simp[Obj.mapSeq]
theorem Inv.lst{p:Qg}{xs:Qa V}(I:Inv X pins σ H s)(h:H p=some (.lst xs)):
  ∃ (ah:Qa Qc) (n:Nat),zM xs ah/\s.heap.get? p=some {cls:=.type "list",data:=.seq ah.toArray n}/\xs.length<=sizeLine:=by
 have(z,ah,n,r,e):=I.aw p _ h;exact⟨ah,n,r,e,z⟩
theorem Inv.tE{p:Qg}{xs ys:Qa V}{ah its':Qa Qc}{n':Nat}{f:Obj->Obj}(I:Inv X pins σ H s)(h:H p=some (.lst xs))
  (ho:s.heap.get? p=some {cls:=.type "list",data:=.seq ah.toArray n}) (hf:f {cls:=.type "list",data:=.seq ah.toArray n}={cls:=.type "list",data:=.seq its'.toArray n'}) (r:zM ys its') (hz:ys.length<=sizeLine) (t:Nat):
  Inv X pins σ (upd H p<|.lst ys) {s with heap:=s.heap.update p f,toks:=t}:=by
 have e:(s.heap.update p f).get? p=some {cls:=.type "list",data:=.seq its'.toArray n'}:=by
  rw[Heap.get?_update_self f ho (by rw[hf]<;>rfl),hf]
 refine I.write (x:=p) (e:=p) (by rw[h]; trivial) (.inl rfl) (λb u hb q=>(ñ _ _<|Ne.symm hb).trans q) ⟨_,e⟩ ?_;exact⟨hz,its',n',r,e⟩
def Je:V->V->V->Hp->(Hp->Prop)->Prop:=λo i v H Q=>∃ p xs k j,o=.ref p/\i=.int k/\H p=some (.lst xs)/\eB xs.length k=some j/\Q (upd H p<|.lst<|xs.set j v)
theorem Bk:DE X Je:=by
 intro pins s σ H o i v ov iv u Q I ro ri rv h;have(p,xs,k,j,rfl,rfl,hp,hj,q):=h;cases ro;have(t,rfl):=ri;have(ah,n,r,ho,hz):=I.lst hp;have(h1,h2,h3,h4):=K7 hj;have hl:=r.length;have hn:=uG;have I':Inv X pins σ (upd H p<|.lst<|xs.set j v) {s with heap:=s.heap.update p (Obj.mapSeq (·.setIfInBounds j u))}:=
  I.tE hp ho (zmG ah n j u) (r.set rv j) (by rw[List.length_set]; exact hz) s.toks
 by_cases h0:0<=k
 .have hk:k.toNat=j:=by
   rw[seqIndex_of h0 h4]at h1;exact qw h1
  exact PySem.W.ki_setAt ho h0 (by omega) (by rw[List.size_toArray,<-hl]; exact h4) (by rw[hk]; exact⟨_,I',q⟩)
 .have hk:(k+(ah.toArray.size:Int)).toNat=j:=by
   rw[seqIndex_neg (by omega) h3]at h1;rw[List.size_toArray,<-hl];exact qw h1
  exact PySem.W.ki_setBack ho (by omega) (by rw[List.size_toArray,<-hl]; exact h3) (by omega) (by rw[hk]; exact⟨_,I',q⟩)
theorem zjN(lo hi:Qb Int)(n:Nat):(sliceBounds lo hi none n).1=((HT.aN n 0 lo:Nat):Int)/\(sliceBounds lo hi none n).2.1=((HT.aN n n hi:Nat):Int)/\(sliceBounds lo hi none n).2.2=1:=by
 refine⟨?_,?_,rfl⟩
 .cases lo with
  | none=>simp[sliceBounds,HT.aN]
  | some i=>
   simp only[sliceBounds,HT.aN,Option.getD_none,show(1:Int) > 0 by decide,if_true]
   by_cases h:i < 0
   .simp only[h,if_true]<;>omega
   .simp only[h,if_false]<;>omega
 .cases hi with
  | none=>simp[sliceBounds,HT.aN]
  | some i=>
   simp only[sliceBounds,HT.aN,Option.getD_none,show(1:Int) > 0 by decide,if_true]
   by_cases h:i < 0
   .simp only[h,if_true]<;>omega
   .simp only[h,if_false]<;>omega
theorem ziY(ah:Qa Qc)(lo hi:Qb Int):slicePick ah.toArray lo hi none=((ah.drop<|HT.aN ah.length 0 lo).take<|HT.aN ah.length ah.length hi - HT.aN ah.length 0 lo).toArray:=by
 have(h1,h2,h3):=zjN lo hi ah.toArray.size;unfold slicePick;rw[h1,h2,h3];simp only[sliceRange_one,pick_run,List.size_toArray]<;>rfl
def Dh(K:qc):V->Qb Int->Qb Int->Hp->VK->Prop:=λx lo hi H Q=>∃ a xs,x=.ref a/\bA K H a xs/\∀ p,H p=none->Q (.ref p) (upd H p<|.lst<|j8 xs lo hi)
theorem VM:vG X (Dh X.K):=by
 intro pins s σ H x v vl vu lo hi sl Q I rx hs pl pu h;have(a,xs,rfl,hx,q):=h;cases rx;have(ah,r,ht,hz):=I.list hx;have hlen:=r.length;refine⟨"list",_,slot_list_getitem.lookup,ht.isList.typeIs,?_⟩;refine wpAny_getItem_list_slice ht.isList hs pl pu .none (by simp) ?_ (by rw[List.size_toArray]<;>omega);rw[ziY,<-hlen];refine⟨.ref s.heap.objs.size,_,I.laid (t':=s.toks) (o:=.lst (j8 xs lo hi)) (λb ob q=>qd _ q) (qe _) ?_,rfl,q _<|I.aw.fresh<|qe _⟩;exact⟨qx (Ni xs lo hi) hz,_,0,(r.drop<|HT.aN xs.length 0 lo).take<|HT.aN xs.length xs.length hi - HT.aN xs.length 0 lo,qg _ rfl⟩
def mf:V->Bool
 | .aI=>true
 | .bl _=>true
 | .int _=>true
 | .str _=>true
 | _=>false
def oV:V->V->Bool
 | .aI,.aI=>true
 | .bl a,.bl b=>a==b
 | .bl a,.int b=>(if a then 1 else 0)==b
 | .int a,.bl b=>a==(if b then 1 else 0)
 | .int a,.int b=>a==b
 | .str a,.str b=>a==b
 | _,_=>false
theorem Sw{y x:V}{v:Qc}(ry:zO y u)(rx:zO x v)(fy:mf y=true)(fx:mf x=true):SeqAt.EqAt A s u v (oV y x):=by
 cases y with
 | aI=>
  cases ry;cases x with
  | aI=>cases rx; exact SeqAt.EqAt.same _
  | bl b=>cases rx; exact SeqAt.EqAt.none_bool b
  | int b=>have(t,rfl):=rx; exact SeqAt.EqAt.none_int b t
  | str b=>have(t,rfl):=rx; exact SeqAt.EqAt.none_str b t
  | _=>exact absurd (show false=true from fx) qf
 | bl a=>
  cases ry;cases x with
  | aI=>cases rx; exact SeqAt.EqAt.bool_none a
  | bl b=>cases rx; exact SeqAt.EqAt.bool_bool a b
  | int b=>have(t,rfl):=rx; exact SeqAt.EqAt.bool_int a b t
  | str b=>have(t,rfl):=rx; exact SeqAt.EqAt.bool_str a b t
  | _=>exact absurd (show false=true from fx) qf
 | int a=>
  have(t',rfl):=ry;cases x with
  | aI=>cases rx; exact SeqAt.EqAt.int_none a t'
  | bl b=>cases rx; exact SeqAt.EqAt.int_bool a t' b
  | int b=>have(t,rfl):=rx; exact SeqAt.EqAt.int_int a t' b t
  | str b=>have(t,rfl):=rx; exact SeqAt.EqAt.int_str a t' b t
  | _=>exact absurd (show false=true from fx) qf
 | str a=>
  have(t',rfl):=ry;cases x with
  | aI=>cases rx; exact SeqAt.EqAt.str_none a t'
  | bl b=>cases rx; exact SeqAt.EqAt.str_bool a t' b
  | int b=>have(t,rfl):=rx; exact SeqAt.EqAt.str_int a t' b t
  | str b=>have(t,rfl):=rx; exact SeqAt.EqAt.str_str a t' b t
  | _=>exact absurd (show false=true from fx) qf
 | _=>exact absurd (show false=true from fy) qf
def iK(x:V)(u:Qc):Bool:=match u with
 | .none=>oV .aI x
 | .bool b=>oV (.bl b) x
 | .int i _=>oV (.int i) x
 | .str z _=>oV (.str z) x
 | _=>false
theorem Kc{x y:V}(r:zO y u)(f:mf y=true):iK x u=oV y x:=by
 cases y with
 | aI=>cases r; rfl
 | bl b=>cases r; rfl
 | int i=>have(t,rfl):=r; rfl
 | str z=>have(t,rfl):=r; rfl
 | _=>exact absurd (show false=true from f) qf
theorem wC{x:V}:∀ {xs:Qa V} {us:Qa Qc},zM xs us->xs.all mf=true->us.any (iK x)=xs.any λy=>oV y x
 | _,_,.nil,_=>rfl
 | y::xs,u::us,.cons r t,f=>by
  rw[List.all_cons,Bool.and_eq_true]at f;rw[List.any_cons,List.any_cons,Kc r f.1,wC t f.2]
theorem wL{x:V}{v:Qc}(rx:zO x v)(fx:mf x=true):∀ {xs:Qa V} {us:Qa Qc},zM xs us->xs.all mf=true->∀ u∈us,SeqAt.EqAt A s u v<|iK x u
 | _,_,.nil,_=>λu hu=>by cases hu
 | y::xs,u::us,.cons r t,f=>λu' hu=>by
  rw[List.all_cons,Bool.and_eq_true]at f;rcases qu.mp hu with rfl|hu
  .rw[Kc r f.1]; exact Sw r rx f.1 fx
  .exact wL rx fx t f.2 u' hu
def xF(x:V)(xs:Qa V):Bool:=xs.any λy=>oV y x
def xp(K:qc)(neg:Bool):R2:=λx y H Q=>∃ p xs,y=.ref p/\(bA K H p xs\/bz K H p xs)/\mf x=true/\xs.all mf=true/\Q (.bl (if neg then !xF x xs else xF x xs)) H
theorem Zc:bH X (compareOp .In) (xp X.K false):=by
 intro pins s σ H x y v u Q I rx ry h;have(p,xs,rfl,hq,fx,fs,q):=h;cases ry;rcases hq with hq|hq
 .have(ah,r,pl,hz):=I.list hq
  refine SeqAt.in_listAt (iK x) pl.isList (λw hw=>wL rx fx r fs w (by simpa using hw)) ⟨.bl _,H,I,rfl,?_⟩;rw[show ah.toArray.any (iK x)=ah.any (iK x) by simp,wC r fs];exact q
 .have(ah,r,pl,hz):=I.tuple hq
  refine SeqAt.in_tupleAt (iK x) pl (λw hw=>wL rx fx r fs w (by simpa using hw)) ⟨.bl _,H,I,rfl,?_⟩;rw[show ah.toArray.any (iK x)=ah.any (iK x) by simp,wC r fs];exact q
theorem zjO:bH X (compareOp .NotIn) (xp X.K true):=by
 intro pins s σ H x y v u Q I rx ry h;have(p,xs,rfl,hq,fx,fs,q):=h;cases ry;rcases hq with hq|hq
 .have(ah,r,pl,hz):=I.list hq
  refine SeqAt.notIn_listAt (iK x) pl.isList (λw hw=>wL rx fx r fs w (by simpa using hw)) ⟨.bl _,H,I,rfl,?_⟩;rw[show ah.toArray.any (iK x)=ah.any (iK x) by simp,wC r fs];exact q
 .have(ah,r,pl,hz):=I.tuple hq
  refine SeqAt.notIn_tupleAt (iK x) pl (λw hw=>wL rx fx r fs w (by simpa using hw)) ⟨.bl _,H,I,rfl,?_⟩;rw[show ah.toArray.any (iK x)=ah.any (iK x) by simp,wC r fs];exact q
theorem zjP:e8 X (.builtin "len") (λxs H Q=>∃ p ys,xs=[.ref p]/\(bA X.K H p ys\/bz X.K H p ys)/\Q (.int ys.length) H):=by
 intro pins s σ H xs us Q I r h;have(p,ys,rfl,hq,q):=h;have(u,rfl,rx):=ju r;cases rx;have hn:=uG;rcases hq with hq|hq
 .have(ah,r',pl,hz):=I.list hq
  have hlen:=r'.length;exact Calls.call_len_list pl.isList (by simp only[List.size_toArray]<;>omega) ⟨.int ys.length,H,I.tok _,⟨s.toks+1,by rw[List.size_toArray,hlen]⟩,q⟩
 .have(ah,r',pl,hz):=I.tuple hq
  have hlen:=r'.length;exact len_tuple pl (by simp only[List.size_toArray]<;>omega) ⟨.int ys.length,H,I.tok _,⟨s.toks+1,by rw[List.size_toArray,hlen]⟩,q⟩
theorem ziZ:e8 X (.type "tuple") (λxs H Q=>∃ p ys,xs=[.ref p]/\((bA X.K H p ys/\∀ l,H l=none->Q (.ref l) (upd H l<|.tup ys))\/(bz X.K H p ys/\Q (.ref p) H))):=by
 intro pins s σ H xs us Q I r h;have(p,ys,rfl,h):=h;have(u,rfl,rx):=ju r;cases rx;rcases h with⟨hq,q⟩|⟨hq,q⟩
 .have(ah,r',pl,hz):=I.list hq
  have hlen:=r'.length;refine call_tuple_list pl.isList (λh' kp=>?_) (by simp only[List.size_toArray]<;>omega);have I1:Inv X pins σ H {s with heap:=h'}:=I.kept (t':=s.toks) kp;have I2:Inv X pins σ (upd H h'.objs.size<|.tup ys) {s with heap:=h'.push {cls:=.type "tuple",data:=.seq ah.toArray}}:=
   I1.laid (t':=s.toks) (λb o e=>qd _ e) (qe _) (show bR X.prog X.w X.K _ _ _ (.tup ys) from⟨hz,ah,r',mE.new _ _⟩)
  exact⟨.ref h'.objs.size,_,I2,rfl,q _<|I1.aw.fresh<|qe _⟩
 .have(ah,r',pl,hz):=I.tuple hq
  exact call_tuple_same pl ⟨.ref p,H,I,rfl,q⟩
def xf(K:qc)(T:String)(x:V)(H:Hp):Prop:=match x with
 | .str _=>T = "str"
 | .int _=>T = "int"
 | .ref p=>(T = "list"/\∃ xs,bA K H p xs)\/(T = "tuple"/\∃ o,K.lookup p=some o/\o.cls=.type "tuple"/\o.dict=none)\/
   (T = "dict"/\((∃ kvs,H p=some (.dK kvs))\/∃ kvs,H p=some (.dT kvs)))\/(T = "set"/\∃ S n,H p=some (.set S n))
 | _=>False
theorem Kb{x:V}{v:Qc}(I:Inv X pins σ H s)(r:zO x v)(ty:xf X.K T x H):
  s.TypeIs v T/\∀ a,v=.ref a->∃ ob,s.heap.get? a=some ob/\ob.dict=none:=by
 cases x with
 | str z=>
  have(t,rfl):=r;cases(show T = "str" from ty);exact⟨typeIs_str s z t,λ_ e=>nomatch e⟩
 | int i=>
  have(t,rfl):=r;cases(show T = "int" from ty);exact⟨typeIs_int s i t,λ_ e=>nomatch e⟩
 | ref p=>
  cases r;rcases ty with⟨rfl,xs,hq⟩|⟨rfl,o,hk,hc,hd⟩|⟨rfl,hk⟩|⟨rfl,S,n,hk⟩
  .have(ah,_,pl,_):=I.list hq
   refine⟨pl.isList.typeIs,λa e=>?_⟩;cases e;have(o,n,e,c,hd,_):=pl;exact⟨o,e,hd⟩
  .refine⟨⟨o,I.bN p o hk,hc⟩,λa e=>?_⟩
   cases e;exact⟨o,I.bN _ o hk,hd⟩
  .have z:∃ o,s.heap.get? p=some o/\o.ExactDict:=by
    rcases hk with⟨kvs,hk⟩|⟨kvs,hk⟩
    .have(_,_,_,_,o,_,_,e,ex,_):=I.aw p _ hk
     exact⟨o,e,ex⟩
    .have(_,_,_,_,o,_,_,e,ex,_):=I.aw p _ hk
     exact⟨o,e,ex⟩
   have(o,e,ex):=z;refine⟨⟨o,e,ex.1⟩,λa e2=>?_⟩;cases e2;exact⟨o,e,ex.2.1⟩
  .have(o,_,_,_,e,ex,_):=I.aw p _ hk
   refine⟨⟨o,e,ex.1⟩,λa e2=>?_⟩;cases e2;exact⟨o,e,ex.2.1⟩
 | _=>exact False.elim ty
def DA(K:qc)(T:String)(r:V->Qa V->Hp->VK->Prop)(to:TE):TE:=λσ H Q=>to σ H λx H1=>xf K T x H1/\r x [] H1 Q
def BZ(K:qc)(T:String)(r:V->Qa V->Hp->VK->Prop)(to:TE)(t:TA):TE:=λσ H Q=>to σ H λx H1=>xf K T x H1/\t σ H1 λxs H2=>r x xs H2 Q
variable{es:Qa Expr}{to:TE}{t:TA}{name:Str}{id:String}{r:V->Qa V->Hp->VK->Prop}
theorem Sv(pa:PlainAttrs T)(slot:Slot T name id)(oI:typeOf (.builtin id)=pure (.type "method_descriptor"))(hm:QL X id r)(ho:PE X o to)
  (cp:attributeBase o name X.env (eval o X.env)=eval o X.env:=by rfl) (cj:(apos.endLine==aX.line)=true:=by rfl):PE X (.Call (.Attribute o name apos) [] [] aX) (DA X.K T r to):=by
 intro pins s σ H Q I h;refine wpAny_Call_method0_late cp cj<|aD (ho pins s σ H _ I h) λv s1 hZ=>?_;have(x,H1,I1,r1,ty,q1):=hZ;have(h1,h2):=Kb I1 r1 ty;exact⟨T,id,pa,slot,oI,h1,h2,å rfl<|PySem.evalArgs_none<|hm pins s1 σ H1 x [] v [] Q I1 r1 .nil q1⟩
theorem zAo(pa:PlainAttrs T)(slot:Slot T name id)(oI:typeOf (.builtin id)=pure (.type "method_descriptor"))(hm:QL X id r)(ho:PE X o to)(ha:PA X (e::es) t)
  (cp:attributeBase o name X.env (eval o X.env)=eval o X.env:=by rfl)
  (tN:((backTo aX<|starEach (e::es) X.env).all (λx=>!x.1) && (backToKw aX<|keywordEach [] X.env).all (λx=>x.1.isSome)
   && decide ((e::es).length+([]:Qa Keyword).length+(if([]:Qa Keyword).isEmpty then 0 else 1) < 30))=true:=by rfl)
  (cj:(apos.endLine==aX.line)=true:=by rfl) (hs:starEach (e::es) X.env=(false,eval e X.env)::starEach es X.env:=by rfl) (tI:(backTo aX<|starEach es X.env).any (·.1)=false:=by rfl):
  PE X (.Call (.Attribute o name apos) (e::es) [] aX) (BZ X.K T r to t):=by
 intro pins s σ H Q I h;refine wpAny_Call_method_late cp tN cj rfl<|aD (ho pins s σ H _ I h) λv s1 hZ=>?_;have(x,H1,I1,r1,ty,q1):=hZ;have(h1,h2):=Kb I1 r1 ty;refine⟨T,id,pa,slot,oI,h1,h2,?_⟩;have hA:=ha aX pins s1 σ H1 _ I1 q1;rw[hs]at hA ⊢;refine å (by show(false || (backTo aX<|starEach es X.env).any (·.1))=false; rw[tI]<;>rfl)<|Calls.evalArgs_plain ?_;exact aD hA λus s2 ⟨vs,H2,I2,r2,q2⟩=>hm pins s2 σ H2 x vs v us Q I2 r1 r2 q2
end
def vH(X:Cx)(id:String)(r:V->Qa V->Hp->VK->Prop):Prop :=
 ∀ (pins:Qa (Qg×Obj)) (s:Qd) (σ:St) (H:Hp) (x:V) (xs:Qa V) (v:Qc) (us:Qa Qc) (Q:VK),Inv X pins σ H s->zO x v->zM xs us->r x xs H Q->
  wpAny (model X.prog X.w) X.A (call (.builtin id)<|v::us) (EP X pins σ Q) X.xe s
theorem zM.one{x:V}(h:zM [x] us):∃ u,us=[u]/\zO x u:=by
 cases h with
 | cons r t=>cases t; exact⟨_,rfl,r⟩
theorem zM.two{x y:V}(h:zM [x,y] us):∃ u v,us=[u,v]/\zO x u/\zO y v:=by
 cases h with
 | cons r t=>
  have(v,rfl,q):=zM.one t;exact⟨_,v,rfl,r,q⟩
theorem zM.rep{xs:Qa V}(h:zM xs us):∀ k:Nat,zM (List.replicate k xs).flatten (List.replicate k us).flatten
 | 0=>.nil
 | k+1=>by
  rw[List.replicate_succ,List.replicate_succ,List.flatten_cons,List.flatten_cons];exact zM.append h<|zM.rep h k
theorem Mq(ah:Qa Qc):∀ (k:Nat) (acc:Qa Qc),
  List.foldl (λx1 x2=>x1++x2) acc.toArray (List.replicate k ah.toArray)=(acc++(List.replicate k ah).flatten).toArray
 | 0,acc=>by simp
 | k+1,acc=>by
  have e:acc.toArray++ah.toArray=(acc++ah).toArray:=by simp
  have e2:(acc++ah)++(List.replicate k ah).flatten=acc++(List.replicate (k+1) ah).flatten:=by
   rw[List.replicate_succ,List.flatten_cons,List.append_assoc]
  rw[<-e2,<-Mq ah k (acc++ah),<-e,List.replicate_succ,List.foldl_cons]
section
variable{X:Cx}{l b:Qg}{xs ys zs:Qa V}
theorem Inv.xD{ah its':Qa Qc}{f:Array Qc->Array Qc}{t':Nat}(I:Inv X pins σ H s)(hH:H l=some (.lst xs))
  (e:s.heap.get? l=some {cls:=.type "list",data:=.seq ah.toArray n}) (hf:f ah.toArray=its'.toArray) (hv:zM ys its') (hz:ys.length<=sizeLine):
  Inv X pins σ (upd H l<|.lst ys) {s with heap:=s.heap.update l (Obj.mapSeq f),toks:=t'}:=by
 have q:=PySem.IsL.update e f;rw[hf]at q;refine I.write (x:=l) (e:=l) (by rw[hH]; exact trivial) (.inl rfl) (λb' u hb hu=>(ñ s.heap (Obj.mapSeq f)<|Ne.symm hb).trans hu) ⟨_,q⟩ ?_;exact⟨hz,its',_,hv,q⟩
theorem Inv.G6{ah:Qa Qc}{t':Nat}(I:Inv X pins σ H s)(hv:zM ys ah)(hz:ys.length<=sizeLine):
  Inv X pins σ (upd H s.heap.objs.size<|.lst ys) {s with heap:=s.heap.push {cls:=.type "list",data:=.seq ah.toArray},toks:=t'}:=
 I.laid (λ_ _ q=>qd _ q) (qe _) ⟨hz,ah,0,hv,qg _ rfl⟩
theorem Inv.fresh(I:Inv X pins σ H s):H s.heap.objs.size=none:=I.aw.fresh (qe _)
theorem Inv.lC(I:Inv X pins σ H s)(hH:H l=some (.lst xs)):xs.length<=sizeLine/\∃ (ah:Qa Qc) (n:Nat),zM xs ah/\xs.length=ah.length/\s.heap.get? l=some {cls:=.type "list",data:=.seq ah.toArray n}:=by
 have(z,ah,n,r,e):=I.aw l _ hH;exact⟨z,ah,n,r,r.length,e⟩
theorem YA(h:n<=sizeLine):Builtin.List.listTooLong n=false:=by
 unfold Builtin.List.listTooLong;exact decide_eq_false (by omega)
end
section
variable{X:Cx}
def K5:V->Qa V->Hp->VK->Prop:=λx vs H Q=>∃ l xs y,x=.ref l/\vs=[y]/\H l=some (.lst xs)/\xs.length < sizeLine/\Q .aI (upd H l<|.lst<|xs++[y])
theorem wJ:vH X "list.append" K5:=by
 intro pins s σ H x vs v us Q I rx rv h;have(l,xs,y,rfl,rfl,hH,hz,q):=h;cases rx;have(u,rfl,ru):=rv.one;have(z,ah,n,r,hl,e):=I.lC hH;refine call_meets F.slot_list_append ⟨_,e,rfl⟩ F.entry_list_append (F.args_list_append_2 _ _) (PySem.list_append l ah.toArray n u (by rw[List.size_toArray]; omega)) ⟨e,?_⟩;refine⟨.aI,_,I.xD (its':=ah++[u]) hH e (by simp) (r.append<|.cons ru .nil) ?_,rfl,q⟩;rw[qr,List.length_singleton];omega
def VL:V->Qa V->Hp->VK->Prop:=λx vs H Q=>∃ l b xs zs,x=.ref l/\vs=[.ref b]/\H l=some (.lst xs)/\H b=some (.lst zs)/\xs.length+zs.length<=sizeLine/\Q .aI (upd H l<|.lst<|xs++zs)
theorem zAc:vH X "list.extend" VL:=by
 intro pins s σ H x vs v us Q I rx rv h;have(l,b,xs,zs,rfl,rfl,hH,hB,hz,q):=h;cases rx;have(u,rfl,ru):=rv.one;cases ru;have(z,ah,n,r,hl,e):=I.lC hH;have(z2,dz,n2,r2,hl2,e2):=I.lC hB;have hsz:ah.toArray.size+dz.toArray.size<=sizeLine:=by rw[List.size_toArray,List.size_toArray]; omega
 have xO:¬(!ah.toArray.isEmpty && Builtin.List.listTooLong (ah.toArray.size+dz.toArray.size))=true:=by
  rw[YA hsz,Bool.and_false];exact qf
 refine call_meets F.slot_list_extend ⟨_,e,rfl⟩ F.entry_list_extend (F.args_list_extend_2 _ _)
  (AutoSeq1.list_extend_list_list_0 l ah.toArray n b dz.toArray n2 xO (by rw[List.size_toArray]; omega) (by omega)) ⟨e,e2,?_⟩
 refine⟨.aI,_,I.xD (its':=ah++dz) hH e (by simp) (r.append r2) ?_,rfl,q⟩;rw[qr];omega
def OV:R2:=λx y H Q=>∃ l b xs zs,x=.ref l/\y=.ref b/\H l=some (.lst xs)/\H b=some (.lst zs)/\xs.length+zs.length<=sizeLine/\∀ p,H p=none->Q (.ref p) (upd H p<|.lst<|xs++zs)
theorem Ka:bH X (binaryOp .Add) OV:=by
 intro pins s σ H x y v u Q I rx ry h;have(l,b,xs,zs,rfl,rfl,hH,hB,hz,q):=h;cases rx;cases ry;have(z,ah,n,r,hl,e):=I.lC hH;have(z2,dz,n2,r2,hl2,e2):=I.lC hB;refine PySem.P.add_list e e2 ?_ (by rw[List.size_toArray,List.size_toArray]; omega);have ea:ah.toArray++dz.toArray=(ah++dz).toArray:=by simp
 rw[ea];exact⟨.ref _,_,I.G6 (t':=s.toks) (r.append r2) (by rw[qr]; omega),rfl,q _ I.fresh⟩
theorem K4(xs:Qa α)(k:Nat):(List.replicate k xs).flatten.length=k * xs.length:=by
 induction k with
 | zero=>simp
 | succ k ih=>rw[List.replicate_succ,List.flatten_cons,qr,ih,Nat.succ_mul,Nat.add_comm]
end
section
end
section
variable{X:Cx}
end
section
variable[DecidableEq κ]
def gR(kvs:Qa (κ×V))(k:κ):Qb V:=(kvs.find? λkv=>decide<|kv.1=k).map (·.2)
def dS(kvs:Qa (κ×V))(k:κ)(v:V):Qa (κ×V):=
 if(kvs.any λkv=>decide<|kv.1=k)=true then kvs.map (λkv=>if kv.1=k then(kv.1,v)else kv)else kvs++[(k,v)]
theorem FN{p:κ×V}{r:Qa (κ×V)}{k:κ}(e:p.1=k):gR (p::r) k=some p.2:=by simp[gR,List.find?_cons,e]
theorem FL{p:κ×V}{r:Qa (κ×V)}{k:κ}(e:¬p.1=k):gR (p::r) k=gR r k:=by simp[gR,List.find?_cons,e]
theorem L6(k:κ):∀ kvs:Qa (κ×V),(kvs.any λkv=>decide<|kv.1=k)=(gR kvs k).isSome
 | []=>rfl
 | p::r=>by
  rw[List.any_cons]
  by_cases e:p.1=k
  .simp only[FN e,decide_eq_true e,Bool.true_or,Option.isSome_some]
  .rw[FL e,decide_eq_false e,Bool.false_or]; exact L6 k r
theorem BC(kvs:Qa (κ×V))(k:κ)(v:V):(dS kvs k v).length<=kvs.length+1:=by
 unfold dS;split
 .rw[List.length_map]; omega
 .rw[qr,qt,List.length_nil]; omega
theorem iu.jM{o:Qb V}{u:Qb Qc}(r:iu o u):o.isSome=u.isSome:=by
 cases o with
 | none=>cases u with
  | none=>rfl
  | some _=>exact(show False from r).elim
 | some _=>cases u with
  | none=>exact(show False from r).elim
  | some _=>rfl
theorem iu.getD{o:Qb V}{u:Qb Qc}{d:V}{d':Qc}(r:iu o u)(rd:zO d d'):zO (o.getD d) (u.getD d'):=by
 cases o with
 | none=>cases u with
  | none=>exact rd
  | some _=>exact(show False from r).elim
 | some _=>cases u with
  | none=>exact(show False from r).elim
  | some _=>exact r
theorem KV.val{kvs:Qa (κ×V)}{vs:Qa (κ×Qc)}(r:KV kvs vs)(k:κ):iu (gR kvs k) (valueAt vs k):=by
 unfold KV at r
 induction r with
 | nil=>exact True.intro
 | @cons p q ps qs h t ih=>
  have(h1,h2):=h
  by_cases e:p.1=k
  .have e':q.1=k:=h1.symm.trans e
   have b:valueAt (q::qs) k=some q.2:=by simp[valueAt,List.find?_cons,e']
   rw[FN e,b]; exact h2
  .have e':¬q.1=k:=λz=>e<|h1.trans z
   have b:valueAt (q::qs) k=valueAt qs k:=by simp[valueAt,List.find?_cons,e']
   rw[FL e,b]; exact ih
theorem KV.any{kvs:Qa (κ×V)}{vs:Qa (κ×Qc)}(r:KV kvs vs)(k:κ):(kvs.any λkv=>decide<|kv.1=k)=vs.any λkv=>decide (kv.1=k):=by
 unfold KV at r
 induction r with
 | nil=>rfl
 | cons h t ih=>rw[List.any_cons,List.any_cons,ih,h.1]
theorem KV.lA{kvs:Qa (κ×V)}{vs:Qa (κ×Qc)}(r:KV kvs vs)(k:κ){y:V}(ry:zO y u):
  KV (kvs.map λkv=>if kv.1=k then(kv.1,y)else kv) (vs.map λkv=>if kv.1=k then(kv.1,u)else kv):=by
 unfold KV at r ⊢
 induction r with
 | nil=>exact .nil
 | @cons p q ps qs h t ih=>
  rw[List.map_cons,List.map_cons];refine .cons ?_ ih;have(h1,h2):=h
  by_cases e:p.1=k
  .rw[if_pos e,if_pos<|h1.symm.trans e]; exact⟨h1,ry⟩
  .rw[if_neg e,if_neg λz=>e<|h1.trans z]; exact⟨h1,h2⟩
theorem KV.put{kvs:Qa (κ×V)}{vs:Qa (κ×Qc)}(r:KV kvs vs)(k:κ){y:V}(ry:zO y u):KV (dS kvs k y) (stored vs k u):=by
 unfold dS stored;rw[r.any k]
 by_cases e:(vs.any λkv=>decide<|kv.1=k)=true
 .rw[if_pos e,if_pos e]; exact r.lA k ry
 .rw[if_neg e,if_neg e]; exact Paired.snoc r ⟨rfl,ry⟩
theorem KV.length{kvs:Qa (κ×V)}{vs:Qa (κ×Qc)}(r:KV kvs vs):kvs.length=vs.length:=Paired.length r
end
theorem vY{k:Key}(r:zO (kV k) u):(zW P w).is k u=true:=by
 cases k with
 | inl i=>have(t,e):=(show ∃ t,u=Value.int i t from r); subst e; exact zkR P w i t
 | inr x=>have(t,e):=(show ∃ t,u=Value.str x t from r); subst e; exact zkS P w x t
theorem FV:∀ {ks:Qa Key} {us:Qa Qc},zM (ks.map kV) us->ItemsAre (zW P w) ks us
 | [],_,r=>by rw[List.map_nil]at r; cases r; exact .nil
 | k::ks,_,r=>by
  rw[List.map_cons]at r;cases r with
  | cons h t=>exact .cons (vY h)<|FV t
abbrev KT(K:qc)(H:Hp):Qa (Qa Key×V)->Qa (Qa Key×Qg×Qc)->Prop:=Paired λp q=>p.1=q.1/\aV K H q.2.1 (p.1.map kV)/\zO p.2 q.2.2
theorem KT.val(r:KT K H kvs xs)(k:Qa Key):iu (gR kvs k) ((atKey xs k).map (·.2)):=by
 induction r with
 | nil=>exact True.intro
 | @cons p q ps qs h t ih=>
  have(h1,_,h2):=h
  by_cases e:p.1=k
  .have e':q.1=k:=h1.symm.trans e
   have b:atKey (q::qs) k=some q.2:=by simp[atKey,List.find?_cons,e']
   rw[FN e,b]; exact h2
  .have e':¬q.1=k:=λz=>e<|h1.trans z
   have b:atKey (q::qs) k=atKey qs k:=by simp[atKey,List.find?_cons,e']
   rw[FL e,b]; exact ih
theorem KT.lA(r:KT K H kvs xs)(k:Qa Key){y:V}(ry:zO y u):
  KT K H (kvs.map λkv=>if kv.1=k then(kv.1,y)else kv) (xs.map<|putAt k u):=by
 induction r with
 | nil=>exact .nil
 | @cons p q ps qs h t ih=>
  rw[List.map_cons,List.map_cons];refine .cons ?_ ih;have(h1,h2,h3):=h;unfold putAt
  by_cases e:p.1=k
  .rw[if_pos e,if_pos<|h1.symm.trans e]; exact⟨h1,h2,ry⟩
  .rw[if_neg e,if_neg λz=>e<|h1.trans z]; exact⟨h1,h2,h3⟩
theorem KT.put(r:KT K H kvs xs)(k:Qa Key){b:Qg}{y:V}(hb:aV K H b (k.map kV))(ry:zO y u):
  KT K H (dS kvs k y) (storedH xs k b u):=by
 have e:(kvs.any λkv=>decide<|kv.1=k)=(atKey xs k).isSome:=by
  rw[L6,(r.val k).jM,Option.isSome_map]
 unfold dS storedH;rw[e]
 by_cases q:(atKey xs k).isSome=true
 .rw[if_pos q,if_pos q]; exact r.lA k ry
 .rw[if_neg q,if_neg q]; exact Paired.snoc r ⟨rfl,hb,ry⟩
theorem KT.keeps(r:KT K H kvs xs)(ht:∀ b ys,H b=some (.tup ys)->H' b=some (.tup ys)):KT K H' kvs xs :=
 Paired.oE r λ_ _ z=>⟨z.1,z.2.1.keeps ht,z.2.2⟩
section
theorem D5{u:HO}(ok:cu P w K H h)(e:Rd H a u):bR P w K H h a u:=e.ok ok
theorem we{kvs:Qa (Key×V)}(ok:cu P w K H h)(e:Rd H a (.dK kvs)):kvs.length<=sizeLine/\(a==sysModules)=false/\∃ vs,KV kvs vs/\h.DictOf (zW P w) a vs :=
 show bR P w K H h a (.dK kvs) from D5 ok e
theorem Jd{kvs:Qa (Key×V)}(ok:cu P w K H h)(e:H a=some (.dK kvs)):kvs.length<=sizeLine/\(a==sysModules)=false/\∃ vs,KV kvs vs/\h.DictOf (zW P w) a vs:=we ok (.inl e)
theorem pN{ks:Qa Key}(jb:K.In h)(ok:cu P w K H h)(e:aV K H a (ks.map kV)):(tupleKind<|zW P w).is h ks a:=by
 rcases e with e|⟨o,ah,n,hk,hc,hs,_,r,_⟩
 case inr=>exact⟨o,ah,n,jb a o hk,hc,hs,by simpa using FV r⟩
 obtain⟨_,ah,r,o,h1,h2,⟨n,h3⟩,_⟩:=(show bR P w K H h a (.tup<|ks.map kV) from ok a _ e);exact⟨o,ah.toArray,n,h1,h2,h3,by simpa using FV r⟩
theorem pI(jb:K.In h)(ok:cu P w K H h)(e:Rd H a (.dT kvs)):kvs.length<=sizeLine/\(a==sysModules)=false/\
  ∃ xs,KT K H kvs xs/\h.DictOfH (tupleKind<|zW P w) a xs:=by
 have(z,y,xs,r,o,es,ep,h1,h2,h3,h4,h5):=(show bR P w K H h a (.dT kvs) from D5 ok e);refine⟨z,y,xs,r,o,es,ep,h1,h2,h3,h4,λx hx=>?_,h5⟩;have all:∀ {l:Qa (Qa Key×V)} {m:Qa (Qa Key×Qg×Qc)},KT K H l m->∀ x∈m,(tupleKind<|zW P w).is h x.1 x.2.1:=by
  intro l m q
  induction q with
  | nil=>intro x hx; exact nomatch hx
  | @cons p q ps qs hq t ih=>
   intro x hx;rcases qu.mp hx with e|hx
   .subst e
    exact pN jb ok (by rw[<-hq.1]; exact hq.2.1)
   .exact ih x hx
 exact all r x hx
theorem Eh(jb:K.In h)(ok:cu P w K H h)(e:H a=some (.dT kvs)):kvs.length<=sizeLine/\(a==sysModules)=false/\
  ∃ xs,KT K H kvs xs/\h.DictOfH (tupleKind<|zW P w) a xs:=pI jb ok (.inl e)
end
def rA(K:qc)(H:Hp)(a:Qg)(y:V)(r:Qb V):Prop :=
 (∃ kvs k,Rd H a (.dK kvs)/\y=kV k/\r=gR kvs k)\/∃ kvs k b,Rd H a (.dT kvs)/\y=.ref b/\aV K H b (k.map kV)/\r=gR kvs k
def pB(K:qc)(H:Hp)(a:Qg)(y v:V)(H':Hp):Prop :=
 (∃ kvs k,H a=some (.dK kvs)/\y=kV k/\kvs.length < sizeLine/\H'=upd H a (.dK<|dS kvs k v))\/
 ∃ kvs k b,H a=some (.dT kvs)/\y=.ref b/\aV K H b (k.map kV)/\kvs.length < sizeLine/\H'=upd H a (.dT<|dS kvs k v)
theorem pB.k{kvs:Qa (Key×V)}{k:Key}(e:H a=some (.dK kvs))(hl:kvs.length < sizeLine):pB K H a (kV k) v (upd H a<|.dK<|dS kvs k v):=.inl ⟨kvs,k,e,rfl,hl,rfl⟩
theorem pB.t{b:Qg}{k:Qa Key}(e:H a=some (.dT kvs))(eb:aV K H b (k.map kV))(hl:kvs.length < sizeLine):
  pB K H a (.ref b) v (upd H a<|.dT<|dS kvs k v):=.inr ⟨kvs,k,b,e,rfl,eb,hl,rfl⟩
section
variable{X:Cx}{y:V}{r:Qc}{o:Qb V}
theorem Inv.yn(I:Inv X pins σ H s):sysModules < s.heap.objs.size:=by
 have h:mainGlobals < s.heap.objs.size:=(I.mod.glob.keeps I.bk).lt;exact æ (by decide) h
theorem Zb(hu:A.units+1 < cLine)(I:Inv X pins σ H s)(g:rA X.K H a y (some v))(ry:zO y u)(h:∀ w' s',Inv X pins σ H s'->zO v w'->Q w' s'):
  wpAny (model X.prog X.w) A (getItem (.ref a) u) Q E s:=by
 rcases g with⟨kvs,k,e,ey,l⟩|⟨kvs,k,b,e,ey,eb,l⟩
 .subst ey
  have(z,hd,vs,rel,dd):=we I.aw e;have(w',hw,jH):=iu.some_of (v:=v) (o:=valueAt vs k) (by rw[l]; exact rel.val k);exact wpAny_getItem_of (vY ry) dd.mapOf hw<|h w' _ (I.tok _) jH
 .subst ey
  cases(show u=Value.ref b from ry);have(z,hd,xs,rel,dd):=pI I.bN I.aw e;have(w',hw,jH):=iu.some_of (v:=v) (o:=(atKey xs k).map (·.2)) (by rw[l]; exact rel.val k);have(p,hp,oN):=qq.mp hw;refine wpAny_getItem_heap (tupleKind_room_in1 hu) (pN I.bN I.aw eb) dd hp ?_;rw[oN];exact h w' _ (I.tok _) jH
theorem wB{t':Nat}{ob:HO}(I:Inv X pins σ H s)(mu:yo (H a))(hs:Heap.SameBut a s.heap h')(he:∃ q,h'.get? a=some q)(new:bR X.prog X.w X.K (upd H a ob) h' a ob):
  Inv X pins σ (upd H a ob) {s with heap:=h',toks:=t'}:=
 I.write (x:=a) (e:=a) mu (.inl rfl) (λb q hb z=>(hs.2 b hb).trans z) he new
theorem Kg{kvs:Qa (Key×V)}{vs:Qa (Key×Qc)}(z:kvs.length<=sizeLine)(hd:(a==sysModules)=false)(rel:KV kvs vs)(dd:h'.DictOf (zW P w) a vs):
  bR P w K H' h' a (.dK kvs):=⟨z,hd,vs,rel,dd⟩
theorem Za{Q:Unit->Qd->Prop}(hu:A.units+1 < cLine)(I:Inv X pins σ H s)(g:pB X.K H a y v H')(ry:zO y u)(rv:zO v r)(h:∀ s',Inv X pins σ H' s'->Q () s'):
  wpAny (model X.prog X.w) A (setItem (.ref a) u r) Q E s:=by
 rcases g with⟨kvs,k,e,ey,l,eH⟩|⟨kvs,k,b,e,ey,eb,l,eH⟩
 .subst ey eH
  have(z,hd,vs,rel,dd):=Jd I.aw e;have hz:vs.length<=sizeLine:=by rw[<-rel.length]; exact z
  have hl:(dS kvs k v).length<=sizeLine:=by have:=BC kvs k v; omega
  refine wpAny_setItem_pairs (hsz:=hz) (vY ry) dd λh' lP hs=>h _ ?_;have he:∃ q,h'.get? a=some q:=let ⟨q,_,_,hq,_⟩:=lP; ⟨q,hq⟩;exact wB I (by rw[e]; exact True.intro) hs he<|Kg hl hd (rel.put k rv) lP
 .subst ey eH
  cases(show u=Value.ref b from ry);have(z,hd,xs,rel,dd):=Eh I.bN I.aw e;have hz:xs.length<=sizeLine:=by rw[<-Paired.length rel]; exact z
  have hl:(dS kvs k v).length<=sizeLine:=by have:=BC kvs k v; omega
  refine wpAny_setItem_heap (hsz:=hz) (tupleKind_room_in1 hu) (pN I.bN I.aw eb) dd λh' lP hs=>h _ ?_;have(q,es,ep,hq,h2,h3,h4,_,h5):=lP;refine wB I (by rw[e]; exact True.intro) hs ⟨q,hq⟩ ⟨hl,hd,_,(rel.put k eb rv).keeps λc ys ec=>?_,q,es,ep,hq,h2,h3,h4,h5⟩;rw[zy<|nB ec e λz=>nomatch z];exact ec
end
section
variable{X:Cx}{kvs:Qa (Key×V)}{k:Key}
end
def Dz(i:Expr):Prop:=∀ ov iv,subscripted i false ov iv=operate [ov,iv] (getItem ov iv)
theorem VJ{value slice:Expr}{id:String}
  (hl:typeLookup (.type T) "__getitem__"=pure (some<|.builtin id)) (hs:Dz slice)
  (h:wpAny (model prog w) A (eval value env) (λo aF=>wpAny (model prog w) A (eval slice env) (λi jF=>jF.TypeIs o T/\wpAny (model prog w) A (getItem o i) Q E jF) E aF) E s):
  wpAny (model prog w) A (eval (.Subscript value slice pos) env) Q E s:=by
 refine Subscript_<|wpAny_mono h (λo aF Hh=>wpAny_mono Hh (λi jF tG=>?_) λ_ _ x=>x) λ_ _ x=>x;have(hT,tG):=tG;unfold subscriptTail;refine qa ?_;rw[getitemInPython_of_ne hT.not_modules];refine qa<|wpAny_specialOf hT hl ?_;have fin:wpAny (model prog w) A (subscripted slice false o i) (λr xl=>wpAny (model prog w) A (letTemporaryGo value o r >>= λ_=>pure r) Q E xl) E jF:=by
  rw[hs o i];exact wpAny_operating (wpAny_mono tG (λr xl Hg=>qa<|wpAny_letTemporaryGo<|qb Hg) λ_ _ x=>x)
 first
  | exact qb<|qa fin
  | exact qa<|qb<|qa fin
  | exact qa fin
theorem zk2{X:Cx}{y:V}{o:Qb V}(I:Inv X pins σ H s)(g:rA X.K H a y o):s.TypeIs (.ref a) "dict":=by
 rcases g with⟨kvs,k,e,_,_⟩|⟨kvs,k,b,e,_,_,_⟩
 .have(_,_,vs,_,dd):=we I.aw e
  exact dd.typeIs
 .have(_,_,xs,_,dd):=pI I.bN I.aw e
  exact dd.typeIs
def Eg(K:qc)(td ty:TE):TE:=λσ H Q=>td σ H λx H1=>ty σ H1 λy H2=>∃ a v,x=.ref a/\rA K H2 a y (some v)/\Q v H2
def Ef(K:qc)(td ty tv:TE):TS:=λD σ H=>tv σ H λv H1=>td σ H1 λx H2=>ty σ H2 λy H3=>∃ a H4,x=.ref a/\pB K H3 a y v H4/\D.nx σ H4
section
variable{X:Cx}{i value:Expr}
theorem VH(hu:X.A.units+1 < cLine)(ho:PE X o td)(hi:PE X i ty)(hs:Dz i):PE X (.Subscript o i pos) (Eg X.K td ty):=by
 intro pins s σ H Q I h;refine VJ PySem.F.slot_dict_getitem.lookup hs<|aD (ho pins s σ H _ I h) λu s1 ⟨x,H1,I1,rx,q1⟩=>aD (hi pins s1 σ H1 _ I1 q1) λiv s2 hZ=>?_;have(y,H2,I2,ry,a,v,ex,g,q2):=hZ;subst ex;obtain rfl:u=Value.ref a:=rx;exact⟨zk2 I2 g,Zb hu I2 g ry λw' s3 I3 jH=>⟨v,H2,I3,jH,q2⟩⟩
theorem VG(hu:X.A.units+1 < cLine)(ho:PE X o td)(hi:PE X i ty)(hv:PE X value tv)(hs:swapsWith value (some<|.Subscript o i pos') pos.line X.env=pure false):
  PS X (.Assign [.Subscript o i pos'] value pos) (Ef X.K td ty tv):=by
 intro pins s σ H D I h;refine wpAny_Assign_Subscript (aD (hv pins s σ H _ I h) λr s1 ⟨v,H1,I1,rv,q1⟩=>aD (ho pins s1 σ H1 _ I1 q1) λu s2 ⟨x,H2,I2,rx,q2⟩=>aD (hi pins s2 σ H2 _ I2 q2) λiv s3 hZ=>?_) hs;have(y,H3,I3,ry,a,H4,ex,g,q3):=hZ;subst ex;obtain rfl:u=Value.ref a:=rx;exact Za hu I3 g ry rv λs4 I4=>⟨σ,H4,I4,q3⟩
end
theorem YO(h:Heap)(hb:sysModules < h.objs.size):bR P w K H (h.push {cls:=.type "dict",data:=.dict #[]}) h.objs.size (.dK []):=
 ⟨É _,beq_eq_false_iff_ne.mpr<|Ne.symm<|qj hb,[],.nil,Heap.DictOf.new h⟩
theorem FK(h:Heap)(hb:sysModules < h.objs.size):bR P w K H (h.push {cls:=.type "dict",data:=.dict #[]}) h.objs.size (.dT []):=
 ⟨É _,beq_eq_false_iff_ne.mpr<|Ne.symm<|qj hb,[],.nil,_,#[],0,qg _ rfl,⟨rfl,rfl,rfl⟩,rfl,rfl,ã⟩
def EN:TE:=λ_ H Q=>∀ p,H p=none->Q (.ref p) (upd H p<|.dT [])
section
variable{X:Cx}
theorem YN:PE X (.Dict [] [] pos) EN:=λpins s σ H Q I h=>
 wpAny_Dict_empty ⟨.ref s.heap.objs.size,_,I.laid (a:=s.heap.objs.size) (o:=.dT []) (t':=s.toks) (λ_ _ q=>qd _ q) (qe _)<|FK s.heap I.yn,rfl,h _<|I.aw.fresh<|qe _⟩
end
def EM:Qa (TE×TE)->St->Hp->(Qa (V×V)->Hp->Prop)->Prop
 | [],_,H,Q=>Q [] H
 | (tk,tv)::r,σ,H,Q=>tk σ H λx H1=>tv σ H1 λy H2=>EM r σ H2 λps H3=>Q ((x,y)::ps) H3
abbrev VV:Qa (V×V)->Qa (Qc×Qc)->Prop:=Paired λp q=>zO p.1 q.1/\zO p.2 q.2
def CH(X:Cx)(pos:Pos)(keys:Qa (Qb Expr))(values:Qa Expr)(og:Qa (TE×TE)):Prop :=
 ∀ (pins:Qa (Qg×Obj)) (s:Qd) (σ:St) (H:Hp) (Q:Qa (V×V)->Hp->Prop),Inv X pins σ H s->EM og σ H Q->
  wpAny (model X.prog X.w) X.A (evalPairs<|pairTrees keys values X.env pos) (λvs s'=>∃ ps H',Inv X pins σ H' s'/\VV ps vs/\Q ps H') X.xe s
theorem VF{X:Cx}:CH X pos [] [] []:=λpins s σ H Q I h=>pairTrees_nil_walk ⟨[],H,I,.nil,h⟩
theorem YM{X:Cx}{k v:Expr}{ks:Qa (Qb Expr)}{vs:Qa Expr}{og:Qa (TE×TE)}(hk:PE X k tk)(hv:PE X v tv)(hr:CH X pos ks vs og):
  CH X pos (some k::ks) (v::vs) ((tk,tv)::og):=λpins s σ H Q I h=>
 pairTrees_cons_walk (aD (hk pins s σ H _ I h) λu s1 ⟨x,H1,I1,rx,q1⟩=>aD (hv pins s1 σ H1 _ I1 q1) λw2 s2 ⟨y,H2,I2,ry,q2⟩=>
  aD (hr pins s2 σ H2 _ I2 q2) λws s3 ⟨ps,H3,I3,rel,q3⟩=>⟨(x,y)::ps,H3,I3,.cons ⟨rx,ry⟩ rel,q3⟩)
def wm(kvs more:Qa (Key×V)):Qa (Key×V):=more.foldl (λacc kv=>dS acc kv.1 kv.2) kvs
theorem KV.merge:∀ {more:Qa (Key×V)} {rs:Qa (Key×Qc)} {kvs:Qa (Key×V)} {vs:Qa (Key×Qc)},KV more rs->KV kvs vs->KV (wm kvs more) (merged vs rs):=by
 intro more rs kvs vs r;unfold KV at r
 induction r generalizing kvs vs with
 | nil=>intro q; exact q
 | @cons p q ps qs h t ih=>
  intro r0;have e:KV (dS kvs p.1 p.2) (stored vs q.1 q.2):=by
   have:=r0.put p.1 h.2;rw[<-h.1]; exact this
  exact ih e
theorem NO:∀ (more kvs:Qa (Key×V)),(wm kvs more).length<=kvs.length+more.length
 | [],kvs=>by show kvs.length<=kvs.length+0; omega
 | p::r,kvs=>by
  have h1:=NO r (dS kvs p.1 p.2);have h2:=BC kvs p.1 p.2;show(wm (dS kvs p.1 p.2) r).length<=_;rw[qt]; omega
theorem MY:∀ {kvs:Qa (Key×V)} {ws:Qa (Qc×Qc)},VV (kvs.map λkv=>(kV kv.1,kv.2)) ws->∃ rs,Carries (zW P w) ws rs/\KV kvs rs
 | [],_,r=>by rw[List.map_nil]at r; cases r; exact⟨[],True.intro,.nil⟩
 | p::kvs,_,r=>by
  rw[List.map_cons]at r;cases r with
  | @cons a b as bs h t=>
   have(rs,c,q):=MY t;have(b1,b2):=b;exact⟨(p.1,b2)::rs,⟨vY h.1,rfl,c⟩,.cons ⟨rfl,h.2⟩ q⟩
def Ee(og:Qa (TE×TE)):TE:=λσ H Q=>∀ p,H p=none->EM og σ (upd H p<|.dK []) λps H2=>H2 p=some (.dK [])/\∃ kvs:Qa (Key×V),ps=kvs.map (λkv=>(kV kv.1,kv.2))/\kvs.length<=15/\Q (.ref p) (upd H2 p<|.dK<|wm [] kvs)
theorem VD{X:Cx}{keys:Qa (Qb Expr)}{values:Qa Expr}{og:Qa (TE×TE)}(h:CH X pos keys values og)(tS:keys.all (·.isSome)=true)(hl:keys.length=values.length)(h0:keys≠[])
  (h15:keys.length<=15):PE X (.Dict keys values pos) (Ee og):=by
 intro pins s σ H Q I q;have hn:=I.aw.fresh (qe s.heap.objs.size);have I1:=I.laid (a:=s.heap.objs.size) (o:=.dK []) (h':=s.heap.push {cls:=.type "dict",data:=.dict #[]}) (t':=s.toks) (λ_ _ q=>qd _ q) (qe _) (YO s.heap I.yn);refine wpAny_Dict_walk (knd:=zW X.prog X.w) tS hl h0 h15<|aD (h pins _ σ _ _ I1<|q _ hn) λws s2 hZ=>?_;have(ps,H2,I2,rel,e,kvs,ep,lk,q2):=hZ;subst ep;have(rs,c,rk):=MY (P:=X.prog) (w:=X.w) rel;have(z,hd,vs0,r0,dd):=Jd I2.aw e;cases r0;refine⟨rs,c,dd,λh' lP hs=>⟨.ref s.heap.objs.size,_,?_,rfl,q2⟩⟩;have hz:(wm [] kvs).length<=sizeLine:=by
  have h1:=NO kvs [];rw[List.length_nil]at h1;rw[sizeLine_eq]; omega
 have he:∃ q,h'.get? s.heap.objs.size=some q:=let ⟨q,_,_,hq,_⟩:=lP; ⟨q,hq⟩;exact wB I2 (by rw[e]; exact True.intro) hs he<|Kg hz hd (rk.merge .nil) lP
structure M2 (X:Cx) (o:Expr) (m:Str) (apos:Pos) (e f:Expr) (aX:Pos):Prop where
 base:attributeBase o m X.env (eval o X.env)=eval o X.env
 few:((backTo aX<|starEach [e,f] X.env).all (λx=>!x.1) && (backToKw aX<|keywordEach [] X.env).all (λx=>x.1.isSome)
  && decide (([e,f]:Qa Expr).length+([]:Qa Keyword).length+(if([]:Qa Keyword).isEmpty then 0 else 1) < 30))=true
 line:(apos.endLine==aX.line)=true
 trees:backTo aX (starEach [e,f] X.env)=[(false,eval e X.env),(false,eval f X.env)]
def Ig(H:Hp)(a:Qg):Prop:=(∃ kvs,Rd H a<|.dK kvs)\/∃ kvs,Rd H a<|.dT kvs
theorem Su{X:Cx}(I:Inv X pins σ H s)(d:Ig H a):
  s.TypeIs (.ref a) "dict"/\(∀ b,Value.ref a=.ref b->∃ ob,s.heap.get? b=some ob/\ob.dict=none)/\(a==sysModules)=false:=by
 rcases d with⟨kvs,e⟩|⟨kvs,e⟩
 .have(_,hd,vs,_,dd):=we I.aw e
  refine⟨dd.typeIs,λb q=>?_,hd⟩;cases q;have(ob,_,_,h1,h2,_):=dd;exact⟨ob,h1,h2.2.1⟩
 .have(_,hd,xs,_,dd):=pI I.bN I.aw e
  refine⟨dd.typeIs,λb q=>?_,hd⟩;cases q;have(ob,_,_,h1,h2,_):=dd;exact⟨ob,h1,h2.2.1⟩
section
variable{X:Cx}{y d:V}{r:Qc}{o:Qb V}
theorem Ss(hu:A.units+1 < cLine)(I:Inv X pins σ H s)(g:rA X.K H a y o)(ry:zO y u)(rd:zO d r)(h:∀ w' s',Inv X pins σ H s'->zO (o.getD d) w'->Q w' s'):
  wpAny (model X.prog X.w) A (call (.builtin "dict.get") [.ref a,u,r]) Q E s:=by
 rcases g with⟨kvs,k,e,ey,l⟩|⟨kvs,k,b,e,ey,eb,l⟩
 .subst ey
  have(z,hd,vs,rel,dd):=we I.aw e;refine call_meetsIn PySem.F.slot_dict_get dd.typeIs PySem.F.entry_dict_get (PySem.F.args_dict_get_3 _ _ _) (meets_dict_get_default (zW X.prog X.w) a (vY ry) hd r) ⟨_,dd.mapOf,h _ _ (I.tok _) ?_⟩;rw[l];exact(rel.val k).getD rd
 .subst ey
  cases(show u=Value.ref b from ry);have(z,hd,xs,rel,dd):=pI I.bN I.aw e;refine call_meetsIn PySem.F.slot_dict_get dd.typeIs PySem.F.entry_dict_get (PySem.F.args_dict_get_3 _ _ _) (meetsH_dict_get_default (tupleKind<|zW X.prog X.w) a b hd r) ⟨tupleKind_room_in1 hu,k,xs,pN I.bN I.aw eb,dd,h _ _ (I.tok _) ?_⟩;rw[l];exact(rel.val k).getD rd
end
def EL(K:qc)(td ty tx:TE):TE:=λσ H Q=>td σ H λx H1=>∃ a,x=.ref a/\Ig H1 a/\ty σ H1 λy H2=>tx σ H2 λz H3=>∃ o,rA K H3 a y o/\Q (o.getD z) H3
section
variable{X:Cx}{f:Expr}{tx:TE}
theorem YL(hu:X.A.units+1 < cLine)(ho:PE X o td)(he:PE X e ty)(hf:PE X f tx)(m:M2 X o "get" apos e f aX):PE X (.Call (.Attribute o "get" apos) [e,f] [] aX) (EL X.K td ty tx):=by
 intro pins s σ H Q I h;refine wpAny_Call_method m.base m.few m.line PySem.F.plainAttrs_dict PySem.F.slot_dict_get PySem.F.type_dict_get<|aD (ho pins s σ H _ I h) λu s1 hZ=>?_;have(x,H1,I1,rx,a,ex,d,q1):=hZ;subst ex;obtain rfl:u=Value.ref a:=rx;have(t1,t2,_):=Su I1 d;refine⟨t1,t2,?_⟩;rw[m.trees];refine å rfl<|Calls.evalArgs_plain<|Calls.spliced_cons (aD (he pins s1 σ H1 _ I1 q1) λiv s2 ⟨y,H2,I2,ry,q2⟩=>
  Calls.spliced_cons (aD (hf pins s2 σ H2 _ I2 q2) λfv s3 ⟨z,H3,I3,rz,ov,g,q3⟩=>Calls.spliced_nil ?_))
 exact Ss hu I3 g ry rz λw' s4 I4 jH=>⟨_,H3,I4,jH,q3⟩
end
section
variable{X:Cx}{kvs:Qa (Key×V)}
end
section
variable{X:Cx}{y:V}
end
end L2
namespace Q4
open PySem PySem.W PySem.Calls PyProof.Rows
theorem zhe{P:Params}{h:Heap}:∀ (ns:List Int) (vs:List Value),WellAll P h vs (ns.map WData.int)->IntsAre vs ns:=by
 intro ns
 induction ns with
 | nil=>
  intro vs w;rw[List.map_nil]at w;cases w;exact .nil
 | cons n ns ih=>
  intro vs w;rw[List.map_cons]at w;cases w with
  | cons a b=>
   cases a;exact .cons _ _<|ih _ b
theorem Y9{l:OpenLaw}{n:Nat}(hn:l.most=some n){P:Params}{h:Heap}{args:List WData}{vals:List Value}
  (oM:l.row.toRowW.claim.pre args=true) (Hm:WellAll P h vals args):
  ∃ a vs ns,vals=[Value.ref a]/\args=[WData.list<|ns.map WData.int]/\h.get? a=some {cls:=.type "list",data:=.seq vs.toArray}/\IntsAre vs ns/\ns.length<=n:=by
 have hsh:WShape.hasAll [] args [.list .int]=true:=(pre_splitW oM).1;have hc:l.pre.holds [] {args:=args}=true:=(pre_splitW oM).2;have(d,r,rfl,h1,h2):=hasAllW_cons hsh;obtain rfl:=hasAllW_nil h2;have(xs,rfl,h3):=hasW_list h1;have(ns,rfl):=items_int h3;have hlen:ns.length<=n:=by
  unfold OpenLaw.pre at hc;have h4:(WTm.not<|.lt (.lit<|.int (n:Int))<|.len<|.arg 0).holds [] {args:=[.list<|ns.map .int]}=true:=by
   have h4:=(holds_andW hc).1;rw[hn]at h4;exact h4
  have h5:=condW_of h4 (w_not<|w_lt w_lit<|w_len_list<|w_arg rfl);rw[List.length_map]at h5;refine Nat.le_of_not_lt λq=>?_;have q':(n:Int) < ((ns.length:Nat):Int):=by omega
  first
   | (rw[decide_eq_true q']at h5; exact absurd h5 (by decide))
   | (simp at h5; omega)
 cases Hm with
 | cons w1 w2=>
  cases w2;cases w1 with
  | list ho tS=>exact⟨_,_,ns,rfl,rfl,ho,zhe ns _ tS,hlen⟩
theorem Y8(l:OpenLaw)(args:List WData):l.row.toRowW.claim.post args (.bool true) args=true :=
 postW_of (r:=l.row.toRowW) (X:=(true==true))
  (show WShape.has [] (.bool true) .bool=true by first|rfl|decide|simp[WShape.has,WShape.arms,WShape.armsAll])
  (show(WTm.eq .res<|.lit<|.bool true).value [] {args:=args,res:=some (.bool true),after:=args}=some (.bool<|true==true) from w_eq_bool (w_res rfl) w_lit) rfl
theorem gN{l:OpenLaw}{n:Nat}{q:Program}{loose:List Str}{XP:(Str->Option Value)->Heap->Prop}{YP:World->Heap->Prop}{d:DefRec}
  (hn:l.most=some n) (xV:d.params.defaults=[])
  (call:∀ (w:World) (aY aF:Shared) (mg mb:Str->Option Value) (fa:Addr) (o:Obj) (pm cd doc:Value) (a:Addr) (vs:List Value) (ns:List Int),
   Ground q loose [] XP w aY mg mb aF.heap->YP w aF.heap->
   aF.heap.get? fa=some o->o.data=.func (docDef d.name d.params d.body d.scope pm cd doc)->aF.heap.CodeRec cd d.name->mg d.name=some (.ref fa)->
   aF.heap.get? a=some {cls:=.type "list",data:=.seq vs.toArray}->IntsAre vs ns->ns.length<=n->aF.gens=#[]->
   codeAny (model l.prog w) callerA (.call (.ref fa) ⟨[.ref a],[]⟩) (λr s'=>r=.ok (.ret<|.bool true)/\OldK aF.heap s'.heap/\s'.os=aF.os/\AllBare s'.gens) aF):
  WalkO q loose XP YP l.row.toRowW d [] (λf vs=>PySem.call f vs):=by
 intro w aY aF mg mb G Y fa o pm cd doc dV kV ho hd jO hD xM hg args vals as oM hlay hrd Hm hlo;obtain rfl:dV=.none:=Dflts.none hD xV;obtain rfl:kV=.none:=Dflts.noKw hD;have(a,vs,ns,rfl,rfl,tK,hints,hlen):=Y9 hn oM Hm;refine enter_call<|codeAny_mono (call w aY aF mg mb fa o pm cd doc a vs ns G Y ho (fd_plain hd) jO xM tK hints hlen hg) λr s' hq=>?_;have(rfl,h2,h3,h4):=hq;exact⟨.inl ⟨.bool true,.bool true,[],rfl,λ_=>rfl,.bool true,Y8 l _,λ_=>⟨List.Pairwise.nil,λ_ hm=>(nomatch hm)⟩⟩,h2,h3,h4⟩
section
variable{prog:Program} {w:World} {A:Around} {E:Value->Shared->Prop} {s:Shared} {K:Frag}
end
end Q4
namespace L2
open PySem PySem.Spec PyProof.Rows
theorem FU:∀ {vs:Qa Qc} {ns:Qa Int},IntsAre vs ns->zM (ns.map V.int) vs
 | _,_,.nil=>.nil
 | _,_,.cons n t h=>.cons ⟨t,rfl⟩<|FU h
def yN(H:Hp):Prop:=∀ b,H b=none\/∃ o xs,H b=some (.aQ o<|.lst xs)
theorem YK{mb:Str->Qb Qc}{CX:jo}{k:Nat}{fa:Qg}{aF:Qd}{vs:Qa Qc}
  (KX:K.In aF.heap) (PC:aF.heap.Ns mainGlobals mg) (hb:aF.heap.Ns builtinsNs mb) (hbb:∀ x:Str,x ≠ "__name__"->mb x=bootBuiltins x) (HA:aF.heap.NoLimit) (hg:aF.gens=#[])
  (ha:aF.heap.get? a=some {cls:=.type "list",data:=.seq vs.toArray}) (hi:IntsAre vs ns) (hl:ns.length<=sizeLine) (hr:aH k callerA)
  (F:∀ base:Heap,K.In base->base.Ns mainGlobals mg->cw P w K mg base CX k fa fd [x] sp) (xZ:∀ (s:Qd) (u:Qc),BindsTo s fd ⟨[u],[]⟩ [(x,u)])
  (mR:∀ H:Hp,yN H->bA K H a (ns.map V.int)->sp [.ref a] H (λv _=>v=.bl true) λ_ _ _=>False)
  (HL:∀ H e s',CX [] H aF (λ_ _ _=>False) e s'->False):
  codeAny (model P w) callerA (.call (.ref fa) ⟨[.ref a],[]⟩) (λr s'=>r=.ok (.ret<|.bool true)/\OldK aF.heap s'.heap/\s'.os=aF.os/\AllBare s'.gens) aF:=by
 have rv:=FU hi;have G7:=hi.length;have core:∀ H:Hp,yN H->bA K H a (ns.map V.int)->cu P w K H aF.heap->(∀ b,H b≠none->b=a)->(H a≠none->K.lookup a=none)->
   codeAny (model P w) callerA (.call (.ref fa) ⟨[.ref a],[]⟩) (λr s'=>r=.ok (.ret<|.bool true)/\OldK aF.heap s'.heap/\s'.os=aF.os/\AllBare s'.gens) aF:=by
  intro H hO hS aw hA hK;have jk:∀ {b:Qg} {o:Obj},aF.heap.get? b=some o->H b=none->(nu aF.heap H).get? b=some o:=λe n=>Yh e n;have xv:∀ {b:Qg} {o:Obj} {es:Array DictEntry} {ep:Nat},aF.heap.get? b=some o->o.data=.dict es ep->H b=none:=λ{b o es ep} e d=>by
   cases q:H b with
   | none=>rfl
   | some u=>
    have e':b=a:=hA b (by rw[q]; simp);subst e';rw[ha]at e; cases e;have d':Data.seq vs.toArray _=Data.dict es ep:=d;cases d'
  have B5:∀ {b:Qg} {m:Str->Qb Qc},aF.heap.Ns b m->(nu aF.heap H).Ns b m:=λ{b m} ⟨o,es,ep,e,d,r⟩=>⟨o,es,ep,jk e<|xv e d,d,r⟩;have PV:K.In (nu aF.heap H):=λb o e=>jk (KX b o e) (by
   cases q:H b with
   | none=>rfl
   | some u=>
    have e':b=a:=hA b (by rw[q]; simp);subst e';rw[hK (by rw[q]; simp)]at e; cases e)
  have hM:Mod K mg (nu aF.heap H):=⟨PV,B5 PC,⟨mb,B5 hb,hbb⟩,let ⟨mc,h1,h2⟩:=HA; ⟨mc,B5 h1,h2⟩⟩;have e0:iP P w K mg (nu aF.heap H) callerA [] aF H:=⟨rfl,hM,λb o e=>Vs e,þ<|YU _ _,trivial,λb hb=>absurd (show b∈([]:Qa Qg) from hb) (by simp),aw,.of_eq hg⟩;refine codeAny_mono ((F _ PV<|B5 PC).run callerA [] aF H ⟨[.ref a],[]⟩ [.ref a] [.ref a] _ _ hr e0 (xZ aF<|.ref a) (.cons rfl .nil)<|mR H hO hS) λr s' h=>?_;cases r with
  | error e=>exact(HL H e s' h).elim
  | ok fl=>
   cases fl with
   | next=>exact False.elim h
   | brk=>exact False.elim h
   | cont=>exact False.elim h
   | ret u=>
    have(v,H',os,bare,un,Hw,r',q):=h;have q':v=.bl true:=q;subst q';obtain rfl:u=Value.bool true:=r';refine⟨rfl,OldK.of_keep λb o e=>?_,os,bare⟩;cases q:H b with
    | none=>exact un.keep b o e q (by intro z; exact absurd (show b∈([]:Qa Qg) from z) (by simp)) (by simp)
    | some u=>
     rcases hO b with z|⟨ob,xs,z⟩
     .rw[q]at z; cases z
     .have z2:=un.dJ b ob _ z
      have(e1,_):=aw b _ z;have(e2,_):=Hw b _ z2;rw[e]at e1; cases e1;exact e2
 cases hk:K.lookup a with
 | some o=>
  have e:=KX a o hk;rw[ha]at e;cases e;refine core (λ_=>none) (λ_=>.inl rfl) (.inr ⟨_,vs.toArray,_,hk,rfl,rfl,rfl,by rw[List.size_toArray,G7]; exact hl,by simpa using rv⟩) (λb u z=>by have z':(none:Qb HO)=some u:=z; cases z') (λb z=>absurd rfl z) λz=>absurd rfl z
 | none=>
  refine core (λb=>if b=a then some (.aQ {cls:=.type "list",data:=.seq vs.toArray}<|.lst<|ns.map V.int)else none) (λb=>?_) (.inl<|.inr ⟨{cls:=.type "list",data:=.seq vs.toArray},if_pos rfl⟩) (λb u z=>?_) (λb z=>?_) λ_=>hk
  .by_cases hb:b=a
   .exact .inr ⟨_,_,if_pos hb⟩
   .exact .inl (if_neg hb)
  .by_cases hb:b=a
   .have z':=(if_pos hb).symm.trans z
    cases z';subst hb;exact⟨ha,by rw[List.length_map]; exact hl,vs,_,rv,ha⟩
   .have z':=(if_neg hb).symm.trans z
    cases z'
  .by_cases hb:b=a
   .exact hb
   .exact absurd (if_neg hb) z
theorem n9{l:PySem.W.OpenLaw}{k:Nat}{q:Qe}{loose:Qa Str}{XP:(Str->Qb Qc)->Heap->Prop}{YP:Qh->Heap->Prop}{d:DefRec}{K:Params->qc}{CX:Qh->jo}{sp:Qh->Sp}
  (hn:l.most=some n) (Cp:n<=sizeLine) (xV:d.params.defaults=[]) (hr:aH k callerA)
  (hY:∀ (w:Qh) (h:Heap),YP w h->(K w.params).In h)
  (F:∀ (w:Qh) (mg:Str->Qb Qc) (fa:Qg) (h:Heap),(K w.params).In h->h.Ns mainGlobals mg->mg d.name=some (.ref fa)->
   ∃ fd:FuncData,(∀ (s:Qd) (u:Qc),BindsTo s fd ⟨[u],[]⟩ [(x,u)])/\
    ∀ base:Heap,(K w.params).In base->base.Ns mainGlobals mg->cw l.prog w (K w.params) mg base (CX w) k fa fd [x] (sp w))
  (mR:∀ (w:Qh) (H:Hp) (a:Qg) (ns:Qa Int),ns.length<=n->yN H->bA (K w.params) H a (ns.map V.int)->sp w [.ref a] H (λv _=>v=.bl true) λ_ _ _=>False)
  (HL:∀ (w:Qh) (H:Hp) (s:Qd) (e:Qc) (s':Qd),CX w [] H s (λ_ _ _=>False) e s'->False):
  PySem.W.WalkO q loose XP YP l.row.toRowW d [] (λf vs=>PySem.call f vs):=by
 refine Q4.gN hn xV λw aY aF mg mb fa o pm cd doc a vs ns G Y ho hd jO xM tK hints hlen hg=>?_;have KX:=hY w _ Y;have(fd,hb,hF):=F w mg fa _ KX G.T.g xM;exact YK KX G.T.g G.T.b G.T.builtins G.T.nolimit hg tK hints (qx hlen Cp) hr hF hb (λH hO hS=>mR w H a ns hlen hO hS) λH e s'=>HL w H aF e s'
def sD(s:Stmt):Arguments:=match s with
 | .FunctionDef _ a _ _ _ _ _ _ _ _=>a
 | _=>{posonlyargs:=[],args:=[],vararg:=none,kwonlyargs:=[],kw_defaults:=[],kwarg:=none,defaults:=[]}
def kY(s:Stmt):Qa Stmt:=match s with
 | .FunctionDef _ _ b _ _ _ _ _ _ _=>b
 | _=>[]
def zX(s:Stmt):Scope:=match s with
 | .FunctionDef _ _ _ _ _ _ sc _ _ _=>sc
 | _=>{kind:=.function,names:=[],isGenerator:=false,isCoroutine:=false}
abbrev iR:jo:=λ_ _ _ _ _ _=>False
abbrev E0:XK:=λ_ _ _=>False
theorem Jc{X:Cx}:wo iR X E0:=λ_ _ _ _ _ _ _ h=>h.elim
structure jW (K:qc) (x qual:Str) (st:Stmt) (f:Qg) (fd:FuncData):Prop where
 ex:∃ (oc:Qc) (od:Qb Qg) (kV doc pm:Qc) (an:Qb Qg) (bG ct:Qc) (oz:Array (Qb Qc)),
  fd=PySem.W.fnOf x qual (sD st) (kY st) (zX st) .none kV doc pm an bG ct/\K.lookup f=some ⟨oc,od,.func fd,oz⟩/\PySem.W.codeIn K bG qual=true
 kp:PySem.W.keepIn K (.ref f)=true
section
variable{base:Heap}
theorem jW.ok{f:Qg}{k:Nat}(F:jW K x qual st f fd)(S:bJ N ps (zX st))(len:∀ vs H Q E,sp vs H Q E->vs.length=ps.length)
  (cn:∀ (bG:Qc) (A:Qf) (outer:Qa Env) (s:Qd) (H:Hp) (vs:Qa V) (Q:VK) (E:XK),aH k (A.deeper<|envOfC qual (zX st) s.heap.objs.size f bG)->sp vs H Q E->
   ∃ t,eI (nh iR P w K mg base N qual (zX st) f bG A outer s H E).sZ (kY st) t/\t {nx:=λ_ H'=>Q .aI H',rt:=Q} (gv N vs) H):cw P w K mg base iR (k+1) f fd ps sp:=by
 have(oc,od,kV,doc,pm,an,bG,ct,oz,rfl,lk,jO):=F.ex;refine zAl lk jO S len λA outer s H vs Q E hr mR=>?_;have(t,h,q):=cn bG A outer s H vs Q E hr mR;exact⟨t,h.sZ,q⟩
theorem jW.binds{f:Qg}(F:jW K x qual st f fd)
  (h:∀ (kV doc pm:Qc) (an:Qb Qg) (bG ct:Qc) (us:Qa Qc),us.length=ps.length->bindArgs (PySem.W.fnOf x qual (sD st) (kY st) (zX st) .none kV doc pm an bG ct) ⟨us,[]⟩=pure (ps.zip us)):mn K fd ps []:=by
 have(oc,od,kV,doc,pm,an,bG,ct,oz,rfl,lk,jO):=F.ex;exact .all<|h kV doc pm an bG ct
theorem J4{f:Qg}{oc:Qc}{od an:Qb Qg}{kV doc pm bG ct:Qc}(l:K.lookup f=some ⟨oc,od,.func<|PySem.W.fnOf x qual (sD st) (kY st) (zX st) .none kV doc pm an bG ct,oz⟩)
  (c:PySem.W.codeIn K bG qual=true) (k:PySem.W.keepIn K (.ref f)=true):jW K x qual st f (PySem.W.fnOf x qual (sD st) (kY st) (zX st) .none kV doc pm an bG ct):=⟨⟨oc,od,kV,doc,pm,an,bG,ct,oz,rfl,l,c⟩,k⟩
end
theorem uw{k:Nat}(hr:aH k A):A.units+1 < cLine:=Ä (Nat.add_le_add_left (by decide:1<=64) _) hr.units
section
variable{X:Cx}
theorem pv(i:Nat)(hN:X.N[i]?=some x:=by rfl)(hv:CB X.env.scope x:=by first|exact Or.inl rfl|exact Or.inr (Or.inl rfl) | exact Or.inr<|Or.inr rfl)(hd:(x==("__debug__":Str))=false:=by decide)
  (jO:(x==("__classdict__":Str))=false:=by decide):PE X (.Name x pos) (iV i):=Tb hN hv hd jO
end
def b8(H H':Hp):Prop:=∀ b o,H b=some o->H' b=some o
theorem b8.refl(H:Hp):b8 H H:=λ_ _ h=>h
theorem b8.trans{H1 H2:Hp}(a:b8 H H1)(b:b8 H1 H2):b8 H H2:=λc o h=>b c o<|a c o h
theorem b8.seq{xs:Qa V}(e:b8 H H')(h:bA K H a xs):bA K H' a xs:=by
 rcases h with (h|⟨o,h⟩) | h
 .exact .inl (.inl<|e _ _ h)
 .exact .inl (.inr ⟨o,e _ _ h⟩)
 .exact .inr h
section
variable{X:Cx}
end
section
variable[DecidableEq κ]
end
end L2
set_option maxHeartbeats 4000000
namespace L2
open PySem PySem.Spec PyProof.Rows
inductive aL (X:Cx):Qa (Str×Qg)->Qa Str->Qa Nat->Prop where
 | nil:aL X [] [] []
 | cons {x:Str} {c:Qg} {j:Nat} {cl:Qa (Str×Qg)} {xs:Qa Str} {js:Qa Nat} (hN:X.N[j]?=some x) (hk:X.env.scope.names.lookup x=some .cell\/X.env.scope.names.lookup x=some .free)
   (hc:X.env.cells.lookup x=some c) (t:aL X cl xs js):aL X ((x,c)::cl) (x::xs) (j::js)
def zG(X:Cx)(scope:Scope)(cl:Qa (Str×Qg))(Nc:Qa Str)(C:Qg)(s:Qd)(H:Hp)(ex:Qa Qg):Cx :=
 {X with aY:=s,av:=H,env:=compEnvC scope (cellsFrom (C+1) scope.names cl) C X.env,N:=Nc,outer:=X.stack,stack:=X.stack,ex:=ex,fn:=λx=>scope.names.lookup x==some .cell,pn:=[],xe:=λ_ _=>False}
def c0(nt:Nat)(js:Qa Nat)(σ:St):St:=List.replicate nt none++js.map λj=>σ.getD j none
def Wk(a b:St):Prop:=a.length=b.length/\∀ (i:Nat) (v:V),a[i]?=some (some v)->b[i]?=some (some v)
theorem Sr{a:St}{x:Qb V}(h:a[i]?=some none):Wk a (a.set i x):=by
 refine⟨by simp,λj v e=>?_⟩;have ne:i≠j:=by intro z; rw[z,e]at h; cases h
 rw[qB ne];exact e
theorem Fj(h:i < nt):(c0 nt js σ)[i]?=some none:=by
 unfold c0;rw[List.getElem?_append_left (by simpa using h),List.getElem?_replicate,if_pos h]
theorem pT{X:Cx}{xs:Qa Str}(f:aL X cl xs js):∀ x c,cl.lookup x=some c->X.env.cells.lookup x=some c:=by
 induction f with
 | nil=>intro x c e; cases e
 | @cons y d j cl xs js hN hk hc t ih=>
  intro x c e;rw[List.lookup_cons]at e
  by_cases q:x=y
  .subst q
   rw[beq_self_eq_true]at e;injection e with e1;rw[<-e1];exact hc
  .rw[beq_eq_false_iff_ne.mpr q]at e
   exact ih x c e
theorem Mp{X:Cx}{xs:Qa Str}(f:aL X cl xs js):∀ x,x∈xs->∃ c,cl.lookup x=some c:=by
 induction f with
 | nil=>intro x m; cases m
 | @cons y d j cl xs js hN hk hc t ih=>
  intro x m;rw[List.lookup_cons]
  by_cases q:x=y
  .subst q
   rw[beq_self_eq_true];exact⟨d,rfl⟩
  .rw[beq_eq_false_iff_ne.mpr q]
   rcases qu.mp m with z|z
   .exact absurd z q
   .exact ih x z
theorem XF{X:Cx}{xs:Qa Str}(f:aL X cl xs js):∀ (i:Nat) (x:Str) (σ:St) (v:V),xs[i]?=some x->(js.map λj=>σ.getD j none)[i]?=some (some v)->
  ∃ j:Nat,X.N[j]?=some x/\σ[j]?=some (some v)/\(X.env.scope.names.lookup x=some .cell\/X.env.scope.names.lookup x=some .free)/\(∃ c,X.env.cells.lookup x=some c):=by
 induction f with
 | nil=>intro i x σ v e; simp at e
 | @cons y d j cl xs js hN hk hc t ih=>
  intro i x σ v e1 e2;cases i with
  | zero=>
   simp only[List.getElem?_cons_zero,Option.some.injEq]at e1;subst e1;refine⟨j,hN,?_,hk,d,hc⟩;simp only[List.map_cons,List.getElem?_cons_zero,Option.some.injEq]at e2;rw[qA]at e2;cases q:σ[j]? with
   | none=>rw[q]at e2; cases e2
   | some o=>rw[q]at e2; simp at e2; rw[e2]
  | succ i=>
   exact ih i x σ v (by simpa using e1) (by simpa using e2)
theorem Gh:∀ {names:Qa (Str×NameKind)} {x:Str} {k:NameKind},
  (names.map λ(n,k)=>if(k==NameKind.free && env.scope.kind==.function && env.kindOf n==some .cell)then(n,NameKind.cell)else(n,k)).lookup x=some k->
  ∃ k0,names.lookup x=some k0/\(x,k0)∈names/\(k=k0\/(k0=.free/\k=.cell)):=by
 intro names
 induction names with
 | nil=>intro x k e; cases e
 | cons p r ih=>
  intro x k e;have(n,kn):=p
  by_cases q:x=n
  .subst q
   refine⟨kn,by rw[List.lookup_cons,beq_self_eq_true],qo,?_⟩;rw[List.map_cons]at e;change List.lookup x ((if(kn==NameKind.free && env.scope.kind==.function && env.kindOf x==some .cell)=true then(x,NameKind.cell)else(x,kn))::_)=_ at e
   by_cases hh:(kn==NameKind.free && env.scope.kind==.function && env.kindOf x==some .cell)=true
   .rw[if_pos hh,List.lookup_cons,beq_self_eq_true]at e
    injection e with e1;refine .inr ⟨?_,e1.symm⟩;simp only[Bool.and_eq_true]at hh;exact by simpa using hh.1.1
   .rw[if_neg hh,List.lookup_cons,beq_self_eq_true]at e
    injection e with e1;exact .inl e1.symm
  .rw[List.map_cons]at e
   change List.lookup x ((if(kn==NameKind.free && env.scope.kind==.function && env.kindOf n==some .cell)=true then(n,NameKind.cell)else(n,kn))::_)=_ at e;have e':(r.map λ(n,k)=>if(k==NameKind.free && env.scope.kind==.function && env.kindOf n==some .cell)then(n,NameKind.cell)else(n,k)).lookup x=some k:=by
    by_cases hh:(kn==NameKind.free && env.scope.kind==.function && env.kindOf n==some .cell)=true
    .rw[if_pos hh,List.lookup_cons,beq_eq_false_iff_ne.mpr q]at e
     exact e
    .rw[if_neg hh,List.lookup_cons,beq_eq_false_iff_ne.mpr q]at e
     exact e
   have(k0,h1,h2,h3):=ih e';refine⟨k0,by rw[List.lookup_cons,beq_eq_false_iff_ne.mpr q]; exact h1,qm _ h2,h3⟩
theorem Y7{X:Cx}{xs:Qa Str}(f:aL X cl xs js):js.length=xs.length:=by
 induction f with
 | nil=>rfl
 | cons _ _ _ _ ih=>simp[ih]
structure mY (scope:Scope) (xs:Qa Str):Prop where
 kind:scope.kind=.function
 cell:∀ y∈scope.names,y.2=.cell->scope.names.lookup y.1=some .cell
 names:∀ y∈scope.names,y.2=.local->scope.names.lookup y.1=some .local
 free:∀ y∈scope.names,y.2=.free->y.1∈xs
 fk:∀ x∈xs,scope.names.lookup x=some .free
theorem mD:∀ (ns:Qa (Str×NameKind)) (n:Nat) (acc:Qa (Str×Qg)),cellsFrom n ns acc=cellsFrom n ns []++acc
 | [],_,_=>rfl
 | (x,k)::r,n,acc=>by
  unfold cellsFrom;split
  .rw[mD r (n+1)<|(x,n)::acc,mD r (n+1) [(x,n)],List.append_assoc]
   rfl
  .exact mD r n acc
theorem EK:∀ (ns:Qa (Str×NameKind)) (n:Nat) {x:Str} {c:Qg},(x,c)∈cellsFrom n ns []->(x,NameKind.cell)∈ns
 | [],_,_,_,h=>by cases h
 | (y,k)::r,n,x,c,h=>by
  unfold cellsFrom at h;split at h
  .rename_i hk
   rw[mD,List.mem_append]at h;rcases h with h|h
   .exact qm _ (EK r _ h)
   .cases qp.mp h
    cases eq_of_beq hk;exact qo
  .exact qm _ (EK r _ h)
theorem Ay:∀ (ns:Qa (Str×NameKind)) (n:Nat) {x:Str},(x,NameKind.cell)∈ns->∃ c,(cellsFrom n ns []).lookup x=some c
 | [],_,_,h=>by cases h
 | (y,k)::r,n,x,h=>by
  unfold cellsFrom;rcases qu.mp h with e|h'
  .cases e
   rw[if_pos (by rfl:(NameKind.cell==NameKind.cell)=true),mD,List.lookup_append];cases(cellsFrom (n+1) r []).lookup y with
   | none=>exact⟨n,by rw[List.lookup_cons,beq_self_eq_true]; rfl⟩
   | some c=>exact⟨c,rfl⟩
  .split
   .have(c,e):=Ay r (n+1) h'
    rw[mD,List.lookup_append,e];exact⟨c,rfl⟩
   .exact Ay r n h'
theorem uR{ns:Qa (Str×NameKind)}{acc:Qa (Str×Qg)}{c:Qg}(h:(cellsFrom n ns acc).lookup x=some c):(cellsFrom n ns []).lookup x=some c\/(acc.lookup x=some c/\(cellsFrom n ns []).lookup x=none):=by
 rw[mD,List.lookup_append]at h;cases e:(cellsFrom n ns []).lookup x with
 | none=>rw[e]at h; exact .inr ⟨h,rfl⟩
 | some d=>rw[e]at h; exact .inl h
theorem Jb{ns:Qa (Str×NameKind)}{acc:Qa (Str×Qg)}{c:Qg}(h:(cellsFrom n ns []).lookup x=some c):(cellsFrom n ns acc).lookup x=some c:=by
 rw[mD,List.lookup_append,h];rfl
theorem Mf{M:Model}{globals:Qg}{bs:Qg}{Q:Env->Qd->Prop}
  (hQ:∀ h1,h1.Ns s.heap.objs.size (λ_=>none)->(∀ b o,s.heap.get? b=some o->h1.get? b=some o)->CellsOk h1 (s.heap.objs.size+1) (cellsFrom (s.heap.objs.size+1) scope.names [])->
   Q (newEnv scope s.heap.objs.size globals (cellsFrom (s.heap.objs.size+1) scope.names cl) qual none .none (some env) bs) {s with heap:=h1}):
  wpAny M A (newFunctionEnv scope globals cl [] qual none .none (some env) bs) Q E s:=by
 simp only[newFunctionEnv,Option.isSome_some,if_true];refine qa<|wpAny_alloc ?_;refine qa<|wpAny_layCells _ (λname kind cells=>by cases hkc:kind==NameKind.cell<;>simp[hkc]) _ _ _ _ ?_;have ok:=cellsFrom_ok scope.names (s.heap.push {cls:=.type "dict",data:=.dict #[]}) (s.heap.objs.size+1) [] ⟨λ_ _ hm=>(nomatch hm),List.Pairwise.nil⟩ (by rw[Heap.size_push]; exact qe _);rw[Heap.size_push]at ok;rw[show({s with heap:=s.heap.push {cls:=.type "dict",data:=.dict #[]}}:Qd).heap.objs.size=s.heap.objs.size+1 from Heap.size_push ..];rw[List.forIn_nil];exact qa<|qb<|qb<|hQ _ ((Heap.Ns.new s.heap<|.type "dict").keeps<|pushCells_keeps _ _) (λb o e=>pushCells_keeps _ _ b o<|qd _ e) ok
section
variable{X:Cx}{xs:Qa Str}{ts:Qa Str}{C:Qg}
theorem Fi{hx:Heap}(I:Inv X pins σ H s)(S:mY scope xs)(f:aL X cl xs js)(ck:CellsOk hx (C+1) (cellsFrom (C+1) scope.names []))(hC:s.heap.objs.size<=C)(hf:∀ b∈fp,fm X pins H b)(hl:∀ b∈fp,b < s.heap.objs.size):
  (zG X scope cl (ts++xs) C s H fp).Ok where
 mod:=I.ok.mod
 kind:=S.kind
 glob:=I.ok.glob
 blt:=I.ok.blt
 above:=hC
 inj:=λx y c e1 e2=>by
  have no:∀ {x y:Str},(cellsFrom (C+1) scope.names []).lookup x=some c->cl.lookup y=some c->False:=λz1 z2=>by
   have(v,o,q,_):=I.cell _ c (pT f _ c z2);have q1:=qh q;have q2:=(ck.empty _ _<|mem_of_lookup z1).2;exact Í _<|qi q1<|qx hC<|qx (ð C) q2
  rcases uR e1 with z1|⟨z1,_⟩<;>rcases uR e2 with z2|⟨z2,_⟩
  .exact name_of_addr ck.apart (mem_of_lookup z1) (mem_of_lookup z2)
  .exact(no z1 z2).elim
  .exact(no z2 z1).elim
  .exact I.ok.inj x y c (pT f x c z1) (pT f y c z2)
 has:=λx h=>by
  have z:∃ k0,scope.names.lookup x=some k0/\(x,k0)∈scope.names/\(k0=NameKind.free\/k0=NameKind.cell):=by
   rcases h with h|h
   .have(k0,h1,h2,h3):=Gh (env:=X.env) (names:=scope.names) h
    rcases h3 with h3|h3
    .exact⟨k0,h1,h2,.inr h3.symm⟩
    .exact⟨k0,h1,h2,.inl h3.1⟩
   .have(k0,h1,h2,h3):=Gh (env:=X.env) (names:=scope.names) h
    rcases h3 with h3|h3
    .exact⟨k0,h1,h2,.inl h3.symm⟩
    .cases h3.2
  have(k0,_,h2,h3):=z;show ∃ c,(cellsFrom (C+1) scope.names cl).lookup x=some c;rcases h3 with h3|h3
  .have(c,e):=Mp f x (S.free _ h2 h3)
   rw[mD,List.lookup_append,e];cases(cellsFrom (C+1) scope.names []).lookup x with
   | none=>exact⟨c,rfl⟩
   | some d=>exact⟨d,rfl⟩
  .subst h3
   have(c,e):=Ay scope.names (C+1) h2;exact⟨c,Jb e⟩
 vC:=λx c h e=>by
  have(d,q):=Ay scope.names (C+1) (mem_of_lookup<|eq_of_beq h);have e':(cellsFrom (C+1) scope.names cl).lookup x=some c:=e;rw[Jb q]at e';cases e';have:=(ck.empty _ _<|mem_of_lookup q).2;show s.heap.objs.size<=c;omega
 hd:=I.ok.hd
 frames:=I.ok.frames
 xm:=.inl rfl
 yf:=λb hb=>⟨qj<|qi (hl b hb) hC,λx c e=>by
  rcases uR e with z|⟨z,_⟩
  .have q1:=(ck.empty _ _<|mem_of_lookup z).2
   exact Nat.ne_of_gt<|qi (hl b hb)<|qx hC<|qx (ð C) q1
  .exact(hf b hb).2.2.2.2.1 x c (pT f x c z)⟩
 bs:=I.bs
 mX:=qx I.ok.mX I.sz
 jJ:=λb o e hb=>by
  rcases(hf b hb).2.2.2.1 with z|z
  .exact I.ok.jJ b o e z
  .exact absurd (qi (qh (I.ok.bs b o e).1) z) (Í _)
 lM:=λb hb z=>by
  rcases qu.mp (I.eV b z)with q|q
  .exact(hf b hb).2.1 q
  .exact(hf b hb).2.2.1 q
 dA:=I.stack
 qT:=I.i5
theorem Me{m:Str->Qb Qc}{h1:Heap}{tk:Nat}(I:Inv X pins σ H s)(S:mY scope xs)(f:aL X cl xs js)(eX:ts.length=nt)(hC:s.heap.objs.size<=C)(hf:∀ b∈fp,fm X pins H b)(hl:∀ b∈fp,b < s.heap.objs.size)
  (hk:∀ b o,s.heap.get? b=some o->h1.get? b=some o) (hn:h1.Ns C m) (ck:CellsOk h1 (C+1) (cellsFrom (C+1) scope.names [])):Inv (zG X scope cl (ts++xs) C s H fp) [] (c0 nt js σ) H {s with heap:=h1,toks:=tk} where
 ok:=Fi I S f ck hC hf hl
 os:=rfl
 bare:=I.bare
 base:=Un.kept hk
 loc:=by
  refine⟨m,hn,λi x v e1 e2 e3=>?_⟩;have hi:nt<=i:=by
   rcases Nat.lt_or_ge i nt with z|z
   .rw[Fj z]at e2; cases e2
   .exact z
  have Cy:xs[i - nt]?=some x:=by
   have z:(ts++xs)[i]?=some x:=e1;rw[List.getElem?_append_right (by omega),eX]at z;exact z
  have e2':(js.map λj=>σ.getD j none)[i - nt]?=some (some v):=by
   unfold c0 at e2;rw[List.getElem?_append_right (by simpa using hi),List.length_replicate]at e2;exact e2
  have(j,hN,hσ,PF,c,hc):=XF f (i - nt) x σ v Cy e2';have(m0,_,xP):=I.loc;have(u,r,lk):=xP j x v hN hσ (.inr PF);refine⟨u,r,.inr ⟨?_,?_⟩⟩
  .rcases e3 with z|z|z
   .have hx:x∈xs:=Æ Cy
    have(k0,h1,h2,h3):=Gh (env:=X.env) (names:=scope.names) z;have q:=S.fk x hx;rw[h1]at q;cases q;rcases h3 with h3|h3
    .cases h3
    .cases h3.2
   .exact .inl z
   .exact .inr z
  .have(c',jP):=Mp f x (Æ Cy)
   have no:(cellsFrom (C+1) scope.names []).lookup x=none:=by
    cases e:(cellsFrom (C+1) scope.names []).lookup x with
    | none=>rfl
    | some d=>
     have z:=S.cell _ (EK _ _<|mem_of_lookup e) rfl;rw[S.fk x<|List.mem_of_getElem? Cy]at z;cases z
   refine⟨c',?_,?_⟩
   .show(cellsFrom (C+1) scope.names cl).lookup x=some c'
    rw[mD,List.lookup_append,no,jP];rfl
   have q:=pT f x c' jP;rcases lk with⟨l1,_⟩|⟨_,c'',l2,l3⟩
   .exfalso
    have Pl:X.env.scope.names.lookup x=some .local:=l1;rcases PF with z|z<;>rw[z]at Pl<;>cases Pl
   .rw[q]at l2
    cases l2;exact l3.keeps hk
 cell:=λx c e=>by
  rcases uR e with z|⟨z,_⟩
  .exact⟨_,(ck.empty _ _<|mem_of_lookup z).1⟩
  .have(v,z):=I.cell x c (pT f x c z)
   exact⟨v,z.keeps hk⟩
 free:=I.aw.fresh hC
 bQ:=λx c e=>by
  rcases uR e with z|⟨z,_⟩
  .exact I.aw.fresh (by have:=(ck.empty _ _<|mem_of_lookup z).2; omega)
  .exact I.bQ x c (pT f x c z)
 pin:=λp hp=>by cases hp
 aw:=I.aw.kept hk
 len:=by
  show(c0 nt js σ).length=(ts++xs).length;unfold c0;rw[qr,qr,List.length_replicate,List.length_map,eX];rw[Y7 f]
theorem Mn{o:HO}(x:cu P w K H h)(hn:H a=none)(new:bR P w K (upd H a o) h a o):cu P w K (upd H a o) h:=λb u e=>by
 by_cases hb:b=a
 .subst hb; rw[zw]at e; cases e; exact new
 .rw[zy hb]at e
  exact(x b u e).cK (λ_ _ _ q=>q) (λc q=>(zy<|jD q hn).trans q) λc ys q=>(zy<|jD q hn).trans q
theorem Md{fs ex:Qa Qg}{H1:Hp}{h1:Heap}{o:HO}(u:Un fs ex H H1 h h1)(hn:H1 a=none)(ha:h.objs.size<=a):Un fs ex H (upd H1 a o) h h1 where
 keep:=u.keep
 slot:=u.slot
 free:=λb ob q n hx=>(zy<|qj<|qi (qh q) ha).trans (u.free b ob q n hx)
 there:=u.there
 eU:=λb ys q=>(zy<|jD (u.eU b ys q) hn).trans (u.eU b ys q)
 dJ:=λb ob ys q=>(zy<|jD (u.dJ b ob ys q) hn).trans (u.dJ b ob ys q)
 ft:=λb ps q=>by
  have(more,e):=u.ft b ps q;exact⟨more,(zy<|jD e hn).trans e⟩
def j7(X:Cx)(ifs:Qa Expr)(t:TT):Prop :=
 ∀ (pins:Qa (Qg×Obj)) (s:Qd) (σ:St) (H:Hp) (Q:Bool->Hp->Prop),Inv X pins σ H s->t σ H Q->
  wpAny (model X.prog X.w) X.A (forIn ifs true λc r=>if r=true then do let ok <-isTrue c X.env (eval c X.env); pure (ForInStep.yield ok)else pure (ForInStep.yield r)) (TP X pins σ Q) X.xe s
def Dy:TT:=λ_ H Q=>Q true H
theorem XE{X:Cx}:j7 X [] Dy:=λ_ _ _ H _ I h=>wpAny_tests_nil ⟨H,I,h⟩
theorem XD{X:Cx}{c:Expr}{t:TT}(h:PT X c t):j7 X [c] t:=λpins s σ H Q I q=>wpAny_tests_one<|h pins s σ H Q I q
theorem rq{t:Sem α}{Q Q':α->Qd->Prop}{M:Model}(h:wpAny M A t Q (λ_ _=>False) s)(hQ:∀ a s,Q a s->Q' a s):wpAny M A t Q' E s:=wpAny_mono h hQ λ_ _ x=>x.elim
theorem zmN{target:Expr}{it acc:Qc}(I:Nat->Qd->Prop)
  (turn:∀ n s,I n s->∀ E,wpAny (model prog w) A (pyNext it) (λr s1=>match r with
   | none=>R (.ok .next) s1
   | some v=>wpAny (model prog w) A (letOwnedTupleGo target it v) (λ_ s2=>wpAny (model prog w) A (assign target env v) (λ_ s3=>
     wpAny (model prog w) A (forIn ifs true λc r=>if r=true then do let ok <-isTrue c env (eval c env); pure (ForInStep.yield ok)else pure (ForInStep.yield r)) (λok s4=>
      (ok=true->wpAny (model prog w) A (eval elt env) (λx s5=>wpAny (model prog w) A (call (.builtin "list.append") [acc,x]) (λ_ s6=>∃ m,m < n/\I m s6) E s5) E s4)/\
      (ok=false->∃ m,m < n/\I m s4)) E s3) E s2) E s1) E s)
  (n:Nat) (h:I n s):codeAny (model prog w) A (.compLoop (.ListComp elt [⟨target,iter,ifs,0⟩] scope pos) 0 it acc env) R s:=by
 refine codeAny_loop rfl I (λn s hI=>?_) n h;show wpAny _ A ((compTurn _ 0 it acc env).onRaise (λx=>do noteFrame x env; theTreesLotGoes x)) _ _ s;refine wpAny_noted ?_;rw[compTurn_list];refine qa<|wpAny_standAt<|qa<|wpAny_mono (turn n s hI _) (λr s1 h1=>?_) λ_ _ z=>z;cases r with
 | none=>exact qb h1
 | some v=>
  refine qa<|wpAny_mono h1 (λ_ s2 h2=>?_) λ_ _ z=>z;refine qa<|wpAny_mono h2 (λ_ s3 h3=>?_) λ_ _ z=>z;refine qa<|wpAny_mono h3 (λok s4 h4=>?_) λ_ _ z=>z;cases ok with
  | false=>exact qb ⟨rfl,h4.2 rfl⟩
  | true=>
   refine qa<|qa<|wpAny_mono (h4.1 rfl) (λx s5 h5=>?_) λ_ _ z=>z;exact qa<|wpAny_mono h5 (λ_ s6 h6=>qb<|qb ⟨rfl,h6⟩) λ_ _ z=>z
def OU(J:It)(jq:St)(g:TG)(tt:TT)(te:TE)(Z:Qa V->Hp->Prop)(H1:Hp):Prop :=
 ∃ W:Nat->Nat->Qa V->Hp->Prop,(∃ m,W 0 m [] H1)/\∀ i m ys H,W i m ys H->
  (J.stop i H/\Z ys H)\/(J.go i H/\ys.length < sizeLine/\∃ N:Qa V->Hp->Prop,(∀ n8 H',N n8 H'->∃ m',m' < m/\W (i+1) m' n8 H')/\
   ∀ x H',J.u7 i H x H'->g x jq H' λeJ H2=>tt eJ H2 λb H3=>if b=true then te eJ H3 λy H4=>N (ys++[y]) H4 else N ys H3)
def GW(jq:St)(g:TG):Prop:=∀ x H (Q:St->Hp->Prop),g x jq H Q->g x jq H λeJ H2=>Wk jq eJ/\Q eJ H2
theorem MW{J:It}{Z:Qa V->Hp->Prop}
  (hc:X.calm=true) (I:Inv X pins σ H s) (S:mY scope xs) (f:aL X cl xs js) (eX:ts.length=nt) (T:Turn X.prog X.w X.K tg J fp it tn) (st:tn 0 s.heap) (hf:∀ b∈fp,fm X pins H b)
  (hg:∀ C s H ex,PG (zG X scope cl (ts++xs) C s H ex) tg g) (ht:∀ C s H ex,j7 (zG X scope cl (ts++xs) C s H ex) ifs tt) (he:∀ C s H ex,PE (zG X scope cl (ts++xs) C s H ex) elt te)
  (gw:GW (c0 nt js σ) g) (h:OU J (c0 nt js σ) g tt te Z H)
  (HI:∀ (D C:Qg) (m:Str->Qb Qc) (s':Qd) (ys:Qa V) (H':Hp),Z ys H'->H' D=none->Inv X pins σ (upd H' D<|.lst ys) s'->s'.heap.Ns C m->upd H' D (.lst ys) C=none->C≠X.env.locals->
   (∀ x c,X.env.cells.lookup x=some c->c≠C)->X.aY.heap.objs.size<=C->(∀ p∈X.pn++pins,p.1≠C)->RR (.ref D) C (.ok .next) s'):
  wpAny (model X.prog X.w) X.A (newList []) (λacc s3=>wpAny (model X.prog X.w) X.A (newFunctionEnv scope X.env.globals cl [] X.env.qual none .none<|some X.env) (λlQ s4=>
   codeAny (model X.prog X.w) X.A (.compStart (.ListComp elt [⟨tg,iter,ifs,0⟩] scope pos) 0 (.ref it) acc {lQ with scope:=relabel scope X.env}) (RR acc lQ.locals) s4) E s3) E s:=by
 refine qy<|Mf λh1 qN iG ck=>?_;dsimp only at qN iG ck ⊢;generalize HJ:s.heap.push {cls:=.type "list",dict:=none,data:=.seq ([]:Qa Qc).toArray}=G at qN iG ck ⊢;have kC:G.objs.size=s.heap.objs.size+1:=by rw[<-HJ,Heap.size_push]
 have hC:s.heap.objs.size<=G.objs.size:=by rw[kC]; exact ð _
 have PX:s.heap.objs.size≠G.objs.size:=by rw[kC]; exact qj<|Õ _
 have hl:∀ b∈fp,b < s.heap.objs.size:=λb hb=>by
  have(o,e,_):=T.obj _ _ st b hb;exact qh e
 have old:∀ b o,s.heap.get? b=some o->h1.get? b=some o:=λb o e=>
  iG b o (HJ▸qd _ e)
 have hD1:h1.get? s.heap.objs.size=some {cls:=.type "list",data:=.seq ([]:Qa Qc).toArray}:=iG _ _ (HJ▸qg _ rfl);have J0:Inv (zG X scope cl (ts++xs) G.objs.size s H fp) [] (c0 nt js σ) H {s with heap:=h1}:=Me (tk:=s.toks) I S f eX hC hf hl old qN ck;obtain⟨W,⟨m0,w0⟩,turn⟩:=h;have sN:tn 0 h1:=T.keep _ _ _ st λb hb o e=>old b o e;have HK:H s.heap.objs.size=none:=I.aw.fresh (qe _);have yw:∀ b∈fp,s.heap.objs.size≠b:=λb hb z=>absurd (hl b hb) (by rw[<-z]; exact Í _);have tU:∀ {H':Hp} {pl:Qa (Qg×Obj)},(∀ b∈fp,H' b=none)->(∀ p∈pl,p.1=s.heap.objs.size)->∀ b∈fp,fm (zG X scope cl (ts++xs) G.objs.size s H fp) pl H' b:=λ{H' pl} hn hp b hb=>by
  refine⟨hn b hb,qj<|qi (hl b hb) hC,λz=>?_,.inl hb,λx c e=>((Fi I S f ck hC hf hl (ts:=ts)).yf b hb).2 x c e,λp Ht z=>?_⟩
  .rcases qu.mp (I.eV b z)with q|q
   .exact(hf b hb).2.1 q
   .exact(hf b hb).2.2.1 q
  .rcases Ì.mp Ht with q|q
   .cases q
   .exact yw b hb ((hp p q).symm.trans z)
 have loop:codeAny (model X.prog X.w) X.A (.compLoop (.ListComp elt [⟨tg,iter,ifs,0⟩] scope pos) 0 (.ref it) (.ref s.heap.objs.size)<|compEnvC scope (cellsFrom (G.objs.size+1) scope.names cl) G.objs.size X.env) (RR (.ref s.heap.objs.size) G.objs.size)
   {s with heap:=h1}:=by
  refine zmN (λn s'=>∃ i ys ah nn H',Inv (zG X scope cl (ts++xs) G.objs.size s H fp) [] (c0 nt js σ) H' s'/\tn i s'.heap/\(∀ b∈fp,H' b=none)/\H' s.heap.objs.size=none/\
   s'.heap.get? s.heap.objs.size=some {cls:=.type "list",data:=.seq (List.toArray ah) nn}/\zM ys ah/\ys.length<=sizeLine/\W i n ys H') ?_ m0
   ⟨0,[],[],0,H,J0,sN,λb hb=>(hf b hb).1,HK,hD1,.nil,É _,w0⟩
  rintro n s3 ⟨i,ys,ah,nn,H3,I3,pZ,qU,d3,o3,r3,z3,w3⟩ E';have mW:s.heap.objs.size≠(zG X scope cl (ts++xs) G.objs.size s H fp).env.locals:=PX;have QW:Inv (zG X scope cl (ts++xs) G.objs.size s H fp) [(s.heap.objs.size,{cls:=.type "list",data:=.seq ah.toArray nn})] (c0 nt js σ) H3 s3:=I3.cU λp hp=>by
   have e:p=(s.heap.objs.size,{cls:=.type "list",data:=.seq ah.toArray nn}):=by simpa using hp
   subst e;refine⟨o3,d3,mW,λz=>?_,λv z=>by cases z⟩;have(_,ob,e,_):=I.stack.mem z;exact absurd (qh e)<|Í _
  have GS:∀ p∈[(s.heap.objs.size,({cls:=.type "list",data:=.seq ah.toArray nn}:Obj))],p.1=s.heap.objs.size:=λp hp=>by
   have e:p=(s.heap.objs.size,{cls:=.type "list",data:=.seq ah.toArray nn}):=by simpa using hp
   rw[e]
  rcases turn i n ys H3 w3 with⟨stop,qz⟩|⟨go,hsz,N,hN,step⟩
  .refine aD (T.done (zG X scope cl (ts++xs) G.objs.size s H fp) rfl rfl rfl hc i _ s3 _ H3 E' QW (tU qU GS) pZ stop) λr s4 hZ=>?_
   have(hr,I4):=hZ;subst hr;have o4:s4.heap.get? s.heap.objs.size=some {cls:=.type "list",data:=.seq ah.toArray nn}:=(I4.pin _<|qv _ qo).1;have(m4,n4,_):=I4.loc;have hk4:cu X.prog X.w X.K (upd H3 s.heap.objs.size<|.lst ys) s4.heap:=Mn I4.aw d3 ⟨z3,ah,nn,r3,o4⟩;have un4:Un (jR X.stack) fp H (upd H3 s.heap.objs.size<|.lst ys) s.heap s4.heap:=Md I4.base d3 (qe _);refine HI _ _ m4 s4 ys H3 qz d3 (I.qX I4.os un4 hk4 I4.bare λb hb=>⟨(hf b hb).2.2.2.1,(hf b hb).2.1,(hf b hb).2.2.2.2.1,λp hp=>(hf b hb).2.2.2.2.2 p hp⟩) n4 ?_ ?_ ?_ ?_ ?_
   .rw[zy<|Ne.symm PX]
    exact I4.free
   .exact λz=>absurd I.lt (by rw[<-z]; exact Nat.not_lt.mpr hC)
   .intro x c e z
    have(v,ob,q,_):=I.cell x c e;exact absurd (qh q) (by rw[z]; exact Nat.not_lt.mpr hC)
   .exact qx I.sz hC
   .intro p hp z
    have q:=(I.pin p hp).1;exact absurd (qh q) (by rw[z]; exact Nat.not_lt.mpr hC)
  .refine aD (T.item (zG X scope cl (ts++xs) G.objs.size s H fp) rfl rfl rfl hc i _ s3 _ H3 E' QW (tU qU GS) pZ go) λr s4 hZ=>?_
   have(u,hr,h4):=hZ;subst hr;refine aD h4 λ_ s5 hZ=>?_;have(x,H5,I5,r5,y5,lj,yc):=hZ;have yq:=I5.pinned (tU yc GS) (T.obj _ _ lj);refine rq (hg _ _ _ _ _ s5 _ H5 x u _ yq r5<|gw _ _ _<|step x H5 y5) λ_ s6 hZ=>?_;have(lV,H6,I6,w9,q6):=hZ;refine rq (ht _ _ _ _ _ s6 lV H6 _ I6 q6) λok s7 hZ=>?_;have(H7,I7,q7):=hZ;have after:∀ {H8:Hp} {s8:Qd},Inv (zG X scope cl (ts++xs) G.objs.size s H fp) ([(s.heap.objs.size,({cls:=.type "list",data:=.seq ah.toArray nn}:Obj))]++uH fp s5.heap) lV H8 s8->
     tn (i+1) s8.heap/\(∀ b∈fp,H8 b=none)/\H8 s.heap.objs.size=none/\s8.heap.get? s.heap.objs.size=some {cls:=.type "list",data:=.seq ah.toArray nn}/\
      Inv (zG X scope cl (ts++xs) G.objs.size s H fp) [] (c0 nt js σ) H8 s8:=λ{H8 s8} I8=>by
    have dd:=I8.pin (s.heap.objs.size,({cls:=.type "list",data:=.seq ah.toArray nn}:Obj)) (qv _<|Ü _ qo);refine⟨T.keep _ _ _ lj λb hb o e=>(I8.pin (b,o)<|qv _<|qv _<|uZ hb e).1,λb hb=>?_,dd.2.1,dd.1,?_⟩
    .have(o,e,d):=T.obj _ _ lj b hb
     exact(I8.pin (b,o)<|qv _<|qv _<|uZ hb e).2.1
    .exact(I8.weak w9.1 w9.2).cU λp hp=>by cases hp
   refine⟨λaw=>?_,λaw=>?_⟩
   .subst aw
    rw[if_pos rfl]at q7;refine rq (he _ _ _ _ _ s7 lV H7 _ I7 q7) λv s8 hZ=>?_;have(y,H8,I8,ry,q8):=hZ;have(st8,fr8,d8,o8,I8'):=after I8;have(m',hm,w8):=hN _ _ q8;refine call_meets F.slot_list_append ⟨_,o8,rfl⟩ F.entry_list_append (F.args_list_append_2 _ _) (PySem.list_append s.heap.objs.size ah.toArray nn v (by rw[List.size_toArray,<-r3.length]; omega)) ⟨o8,?_⟩;have(_,f1,_,f3,f4,_):=(⟨d8,mW,trivial,.inr<|qe _,λx c e=>by
     rcases uR e with z|⟨z,_⟩
     .exact Nat.ne_of_gt (qi (Ä hC<|Õ _) (ck.empty _ _<|mem_of_lookup z).2)
     .have(v0,ob,q,_):=I.cell x c (pT f x c z)
      exact Nat.ne_of_gt (qh q) |>.symm,trivial⟩:H8 s.heap.objs.size=none/\s.heap.objs.size≠(zG X scope cl (ts++xs) G.objs.size s H fp).env.locals/\True/\(s.heap.objs.size∈fp\/s.heap.objs.size<=s.heap.objs.size)/\
      (∀ x c,(cellsFrom (G.objs.size+1) scope.names cl).lookup x=some c->c≠s.heap.objs.size)/\True)
    have q:=PySem.IsL.update o8 (λx=>x.push v);have hp:ah.toArray.push v=(ah++[v]).toArray:=by simp
    rw[hp]at q;refine⟨m',hm,i+1,ys++[y],ah++[v],_,H8,I8'.turned (t':=s8.toks) (it:=s.heap.objs.size) (λb o hb e=>(ñ s8.heap _<|Ne.symm hb).trans e) d8 f1 f3 f4 (λp hp=>by cases hp),?_,fr8,d8,q,r3.append<|.cons ry .nil,?_,w8⟩
    .exact T.keep _ _ _ st8 λb hb o e=>(ñ s8.heap _<|yw b hb).trans e
    .rw[qr,List.length_singleton]
     omega
   .subst aw
    rw[if_neg qf]at q7;have(GL,HR,d7,o7,Ih):=after I7;have(m',hm,w7):=hN _ _ q7;exact⟨m',hm,i+1,ys,ah,nn,H7,Ih,GL,HR,d7,o7,r3,z3,w7⟩
 exact codeAny_compStart_list loop<|T.self _ _ _ _ _ sN loop
def xk(wi:TI)(nt:Nat)(js:Qa Nat)(g:TG)(tt:TT)(te:TE):TE:=λσ H Q=>wi σ H λJ H1=>
 OU J (c0 nt js σ) g tt te (λys H2=>∀ D,H2 D=none->Q (.ref D) (upd H2 D<|.lst ys)) H1
theorem zAr(nt:Nat)(ts:Qa Str)(eX:ts.length=nt)(hc:X.calm=true)(S:mY scope xs)(f:aL X cl xs js)(cV:closureFor scope X.env=pure cl)
  (hi:PI X tg iter wi) (hg:∀ C s H ex,PG (zG X scope cl (ts++xs) C s H ex) tg g) (gw:∀ σ:St,GW (c0 nt js σ) g) (ht:∀ C s H ex,j7 (zG X scope cl (ts++xs) C s H ex) ifs tt)
  (he:∀ C s H ex,PE (zG X scope cl (ts++xs) C s H ex) elt te) (hs:∀ x,foldedSetIterable iter X.env x=pure x:=by intro _; rfl):
  PE X (.ListComp elt [⟨tg,iter,ifs,0⟩] scope pos) (xk wi nt js g tt te):=by
 intro pins s σ H Q I h;rw[eval_ListComp];refine wpAny_comprehension_free (use:=none) rfl hs cV S.kind S.names<|aD (hi pins s σ H _ I h) λv s1 h1=>aD h1 λvm s2 h2=>?_;have(it,fp,tn,J,H2,e,I2,T,gE,f2,q):=h2;subst e;refine MW (RR:=λacc C=>compPost (model X.prog X.w) X.A X.xe none (EP X pins σ Q) acc C) hc I2 S f eX T gE f2 hg ht he (gw σ) q ?_;intro D C m s' ys H' z hD I' hn oR lI lH kC oQ;refine⟨m,hn,λh' mT=>⟨.ref D,_,I'.turned (it:=C) (λb o hb e=>mT.extBut b o hb e) oR lI (.inr kC) lH oQ,rfl,z D hD⟩⟩
end
section
variable{X:Cx}
def ur(_ j:Int):Prop:=0 < j/\j.natAbs.log2 < 9000
theorem Bj:bH X (binaryOp .FloorDiv) (rI ur λi j=>.int<|i / j):=qC λi j _ _ _ _ _ hc q=>by
 have h1:(0:Int) < j:=hc.1;exact floordiv_int (by omega) (by rw[Int.fdiv_eq_ediv_of_nonneg i (by omega)]; exact q)<|.inl<|PyProof.noPylong_of_log2 hc.2
def rP(_ j:Int):Prop:=j≠0/\j.natAbs.log2 < 9000
theorem uV:bH X (binaryOp .FloorDiv) (rI rP λi j=>.int<|i.fdiv j):=qC λi j _ _ _ _ _ hc q=>
 floordiv_int hc.1 q (.inl<|PyProof.noPylong_of_log2 hc.2)
theorem sH{k:Nat}(hk:0 < k)(h:n < 2^k):n.log2 < k:=by
 by_cases hn:n=0
 .subst hn; exact hk
 .exact(Nat.log2_lt hn).mpr h
theorem VB{i j:Int}(h:0 < j)(h2:j<=2^128):ur i j:=⟨h,æ (sH (k:=129) (by decide) (by omega)) (by decide)⟩
def Dx(K:qc):Qa V->Hp->VK->Prop:=λxs H Q=>∃ x t T b,xs=[x,.ty T]/\cY K H x t/\PySem.W.kitOne K t (.type T)=some b/\Q (.bl b) H
theorem XB:e8 X (.builtin "isinstance") (Dx X.K):=by
 intro pins s σ H xs us Q I r h;have(x,t,T,b,rfl,ty,e,q):=h;have(u,u',rfl,rx,rt):=Ac r;cases rt;exact Zf I rx ty e λtk=>⟨.bl b,H,I.tok tk,rfl,q⟩
end
theorem AU(h:i < nt):∀ σ:St,GW (c0 nt js σ) (jv i):=λσ x H Q q=>⟨Sr<|Fj h,q⟩
def SameBut(p:Qg)(H H':Hp):Prop:=∀ b o,b≠p->H b=some o->H' b=some o
theorem zL{p:Qg}(h:H p=none)(o:HO):b8 H (upd H p o):=λb u q=>by rw[zy<|jD q h]; exact q
def Bl(mg:Str->Qb Qc)(xs:Qa Str):Prop:=∀ x,x∈xs->mg x=none
theorem Bl.nil:Bl mg []:=λ_ h=>by cases h
theorem Bl.cons{xs:Qa Str}(h:mg x=none)(t:Bl mg xs):Bl mg (x::xs):=λy m=>by
 rcases qu.mp m with e|e
 .rw[e]; exact h
 .exact t y e
def zV:Expr->Bool
 | .Starred _ _=>false
 | _=>true
theorem i0{es:Qa Expr}(h:zV e=true):starEach (e::es) env=(false,eval e env)::starEach es env:=by
 cases e<;>first|rfl|cases h
theorem sE:∀ {es:Qa Expr},es.all zV=true->(backTo pos<|starEach es env).any (·.1)=false
 | [],_=>rfl
 | e::es,h=>by
  rw[List.all_cons,Bool.and_eq_true]at h;rw[i0 h.1];show(false || (backTo pos<|starEach es env).any (·.1))=false;rw[Bool.false_or];exact sE h.2
section
variable{X:Cx}{es:Qa Expr}{t:TA}{id:String}{p:Pos}
theorem zB0(ha:PE X e te)(hr:PA X es t)(hs:zV e=true:=by rfl):PA X (e::es) (nK te t):=VZ ha hr (i0 hs)
theorem zAs(hc:e8 X (.builtin id) r)(hg:Gl X x)(hm:X.mg x=none)(hv:bootBuiltins x=some (.builtin id))(ha:PA X (e::es) t)(hn:x ≠ "__name__":=by decide)(dg:(x==("__debug__":Str))=false:=by decide)
  (he:zV e=true:=by rfl) (eC:es.all zV=true:=by rfl):PE X (.Call (.Name x p) (e::es) [] pos) (mM r t):=YD hc hg hm hv ha hn dg (i0 he) (sE eC)
theorem zAt(hc:e8 X (.type T) r)(hg:Gl X x)(hm:X.mg x=none)(hv:bootBuiltins x=some (.type T))(ha:PA X (e::es) t)(hn:x ≠ "__name__":=by decide)(dg:(x==("__debug__":Str))=false:=by decide)
  (he:zV e=true:=by rfl) (eC:es.all zV=true:=by rfl):PE X (.Call (.Name x p) (e::es) [] pos) (mM r t):=Zd hc hg hm hv ha hn dg (i0 he) (sE eC)
end
structure Il (P:Qe) (w:Qh) (K:qc) (mg:Str->Qb Qc) (base:Heap) (x:Str) (k:Nat) (ps:Qa Str) (sp:Sp):Prop where
 ex:∃ (f:Qg) (fd:FuncData),cw P w K mg base iR k f fd ps sp/\mn K fd ps []/\PySem.W.keepIn K (.ref f)=true/\mg x=some (.ref f)
def Dw(sp:Sp)(t:TA):TE:=λσ H Q=>t σ H λvs H1=>sp vs H1 Q E0
section
variable{X:Cx}{k:Nat}{p:Pos}{es:Qa Expr}{t:TA}
theorem Sq(C:Il X.prog X.w X.K X.mg X.base x k ps sp)(hr:aH k X.A)(hg:Gl X x)(ha:PA X (e::es) t)(dg:(x==("__debug__":Str))=false:=by decide)
  (he:zV e=true:=by rfl) (eC:es.all zV=true:=by rfl):PE X (.Call (.Name x p) (e::es) [] pos) (Dw sp t):=by
 have(f,fd,F,hb,hk,hm):=C.ex;intro pins s σ H Q I h;refine VY (dvs:=[]) (E:=E0) F hr hg hm hk hb .nil Jc ha dg (i0 he) (sE eC) pins s σ H Q I ?_;show t σ H λvs H1=>sp (vs++[]) H1 Q E0;have z:(λ(vs:Qa V) (H1:Hp)=>sp (vs++[]) H1 Q E0)=λvs H1=>sp vs H1 Q E0:=by
  funext vs H1
  rw[List.append_nil]
 rw[z];exact h
end
def D0(t:TS):TS:=λD σ H=>∃ J:St->Hp->Prop,t {D with nx:=J} σ H/\∀ aG H',J aG H'->D.nx aG H'
theorem VA{X:Cx}{t:TS}(h:PS X st t):PS X st (D0 t):=by
 intro pins s σ H D I ⟨J,q,z⟩;refine aD (h pins s σ H _ I q) λf s' r=>?_;cases f with
 | next=>have(aG,H',I',j):=r; exact⟨aG,H',I',z _ _ j⟩
 | brk=>exact r
 | cont=>exact r
 | ret u=>exact r
theorem Mc(x y:Int)(hx:0<=x)(hy:0 < y):Int.gcd y (x % y)=Int.gcd x y:=by
 have(a,rfl):=Int.eq_ofNat_of_zero_le hx;have(b,rfl):=Int.eq_ofNat_of_zero_le (Ö hy);rw[<-Int.natCast_emod];show Nat.gcd b (a % b)=Nat.gcd a b;rw[Nat.gcd_comm a b,Nat.gcd_comm b<|a % b];exact(Nat.gcd_rec b a).symm
theorem Fh(x y:Int):Int.gcd (if x < 0 then -x else x) y=Int.gcd x y:=by
 split
 .exact Int.neg_gcd
 .rfl
structure Wr (p:Prop):Prop where
 run:p
theorem pH{xs:Qa Str}(h:Bl mg xs)(m:x∈xs):mg x=none:=h x m
theorem wA{X:Cx}{C:Qg}{ex:Qa Qg}(h:decide N.Nodup=true):(zG X scope cl N C s H ex).N.Nodup:=of_decide_eq_true h
def eK(X:Cx)(js:Qa Nat):Qa Str:=js.map λj=>X.N.getD j ""
def eZ(X:Cx)(js:Qa Nat):Qa (Str×Qg):=(eK X js).map λx=>(x,(X.env.cells.lookup x).getD 0)
def fO:Expr->Qa Str
 | .Name x _=>[x]
 | .Tuple es _ _=>es.flatMap λe=>match e with
  | .Name x _=>[x]
  | .Tuple fs _ _=>fs.filterMap λe=>match e with
   | .Name x _=>some x
   | _=>none
  | _=>[]
 | _=>[]
def CJ(nt:Nat)(g:TG):Prop:=∀ (js:Qa Nat) (σ dQ:St),Wk (c0 nt js σ) dQ->∀ x H (Q:St->Hp->Prop),g x dQ H Q->g x dQ H λeJ H2=>Wk (c0 nt js σ) eJ/\Q eJ H2
def ug(nt:Nat)(g:hW):Prop:=∀ (js:Qa Nat) (σ dQ:St),Wk (c0 nt js σ) dQ->∀ x H (Q:St->Hp->Prop),g x dQ H Q->g x dQ H λeJ H2=>Wk (c0 nt js σ) eJ/\Q eJ H2
theorem XA(h:i < nt):CJ nt (jv i):=by
 intro js σ dQ w x H Q q;refine⟨⟨by rw[List.length_set]; exact w.1,λj v e=>?_⟩,q⟩;have ne:i≠j:=by
  rintro rfl;rw[Fj h]at e;cases e
 rw[qB ne];exact w.2 j v e
theorem Bi:ug nt yK:=λjs σ dQ w x H Q q=>⟨q.1,w,q.2⟩
theorem Y6{gs:hW}(h1:CJ nt g)(h2:ug nt gs)(mono:∀ v σ H (Q Q':St->Hp->Prop),(∀ aG H',Q aG H'->Q' aG H')->g v σ H Q->g v σ H Q'):ug nt (wa g gs):=by
 intro js σ dQ w x H Q q;have(v,r,e,k):=q;refine⟨v,r,e,mono _ _ _ _ _ (λaG H' hZ=>?_)<|h1 js σ dQ w v H _ k⟩;have(w',q'):=hZ;exact h2 js σ aG w' r H' Q q'
theorem AS{gs:hW}(h:ug nt gs):CJ nt (yJ K n gs):=by
 intro js σ dQ w x H Q q;have(a,xs,e,s,l,k):=q;exact⟨a,xs,e,s,l,h js σ dQ w xs H Q k⟩
theorem Ag(h:CJ nt g):∀ σ:St,GW (c0 nt js σ) g:=λσ x H Q q=>h js σ _ ⟨rfl,λ_ _ e=>e⟩ x H Q q
theorem Y5:∀ v σ H (Q Q':St->Hp->Prop),(∀ aG H',Q aG H'->Q' aG H')->jv i v σ H Q->jv i v σ H Q':=λv σ H Q Q' h q=>h _ _ q
theorem Bv{gs:hW}(h:i < nt)(h2:ug nt gs):ug nt (wa (jv i) gs):=Y6 (XA h) h2 Y5
section
variable{X:Cx}{p:Pos}{a b c:Expr}{es du:Qa Expr}{t:TA}{rd:R2}{id:String}{tA mN:TT}{GK body:Qa Stmt}{ts us:TS}{gs:hW}
theorem aa(hN:X.N[i]?=some x:=by rfl)(hv:CB X.env.scope x:=by first|exact Or.inl rfl|exact Or.inr (Or.inl rfl) | exact Or.inr<|Or.inr rfl)(hd:(x==("__debug__":Str))=false:=by decide)
  (jO:(x==("__classdict__":Str))=false:=by decide):Wr (PE X (.Name x pos)<|iV i):=⟨pv i hN hv hd jO⟩
theorem zm{n:Int}:Wr (PE X (.Constant (.int n) j pos)<|tC<|.int n):=⟨Ta⟩
theorem ir{n:Bool}:Wr (PE X (.Constant (.bool n) j pos)<|tC<|.bl n):=⟨zAe⟩
theorem wd:Wr (PE X (.Constant .none j pos)<|tC .aI):=⟨S9⟩
theorem gu{n:Str}:Wr (PE X (.Constant (.str n) j pos)<|tC<|.str n):=⟨S8⟩
theorem nU(hv:bootBuiltins x=some u)(r:zO v u)(hg:Gl X x:=by exact rfl)(hm:X.mg x=none:=by exact pH ‹Bl _ _› (by decide))(hn:x ≠ "__name__":=by decide)(hd:(x==("__debug__":Str))=false:=by decide):Wr (PE X (.Name x pos)<|tC v):=⟨Vp hg hm hv r hn hd⟩
theorem zB{op:Operator}(ho:bH X (binaryOp op) rd)(ha:Wr (PE X a ta))(hb:Wr (PE X b tb)):Wr (PE X (.BinOp a op b pos)<|mL rd ta tb):=⟨zAh ho ha.run hb.run⟩
theorem rn{op:UnaryOp}{r:V->Hp->VK->Prop}(ho:CD X (unaryOp op) r)(ha:Wr (PE X a ta)):Wr (PE X (.UnaryOp op a pos)<|BY r ta):=⟨zAi ho ha.run⟩
theorem w_not(ha:Wr (PE X a ta)):Wr (PE X (.UnaryOp .Not a pos)<|D3 ta):=⟨To ha.run⟩
theorem wc(ho:bH X (compareOp op) rd)(ha:Wr (PE X a ta))(hb:Wr (PE X b tb))(hm:behindInMarks op b=false:=by first|exact Kd _|rfl):Wr (PE X (.Compare a [op] [b] pos)<|mL rd ta tb):=⟨Vi ho ha.run hb.run hm⟩
theorem zP(ho:bH X (compareOp op) rd)(ha:Wr (PE X a ta))(hb:Wr (PE X b tb))(hm:behindInMarks op b=false:=by first|exact Kd _|rfl):Wr (PT X (.Compare a [op] [b] pos)<|D8<|mL rd ta tb):=⟨Vh ho ha.run hb.run hm⟩
theorem Vz{sX:CmpOp}{O9:R2}{tc:TE}(ho:bH X (compareOp op) rd)(ff:bH X (compareOp sX) O9)(ha:Wr (PE X a ta))(hb:Wr (PE X b tb))(hc:Wr (PE X c tc))(hm:lastMarks [op,sX] [b,c]=false:=by rfl):
  Wr (PE X (.Compare a [op,sX] [b,c] pos)<|EF rd O9 ta tb tc):=⟨YH ho ff ha.run hb.run hc.run hm⟩
theorem Ja{op}(h:Wr (PE X a te)):Wr (PE X (.BoolOp op [a] pos) te):=⟨S3 h.run⟩
theorem DZ(ha:Wr (PE X a ta))(hb:Wr (PE X (.BoolOp .And (b::du) pos) tb)):Wr (PE X (.BoolOp .And (a::b::du) pos)<|D4 ta tb):=⟨Tp ha.run hb.run⟩
theorem AR(ha:Wr (PT X a tA)):Wr (PW X (.BoolOp .And [a] pos) tA):=⟨Vo ha.run⟩
theorem pM(ha:Wr (PT X a tA)):Wr (PW X (.BoolOp .Or [a] pos) tA):=⟨S6 ha.run⟩
theorem Ax(ha:Wr (PT X a tA))(hb:Wr (PW X (.BoolOp .And (b::du) pos) mN)):Wr (PW X (.BoolOp .And (a::b::du) pos)<|DC tA mN):=⟨S5 ha.run hb.run⟩
theorem kP(ha:Wr (PT X a tA))(hb:Wr (PW X (.BoolOp .Or (b::du) pos) mN)):Wr (PW X (.BoolOp .Or (a::b::du) pos)<|GG tA mN):=⟨zAf ha.run hb.run⟩
theorem j0(h:Wr (PW X e tA)):Wr (PT X e tA):=⟨h.run.pt⟩
theorem kR(ha:Wr (PT X a tA)):Wr (PT X (.UnaryOp .Not a pos)<|DB tA):=⟨S4 ha.run⟩
theorem km(h:Wr (PE X e te))(he:∀ whole,isTrue e X.env whole=(do let v <-whole; standAt e.pos; holding [v] (truthy v)):=by intro _; rfl):Wr (PT X e<|tB te):=⟨S7 h.run he⟩
def OT(K:qc)(ta:TE):TT:=λσ H Q=>ta σ H λx H'=>∃ k,Dm K x H' k/\Q k H'
theorem I0(hc:Wr (PT X c tA))(ha:Wr (PE X a ta))(hb:Wr (PE X b tb)):Wr (PE X (.IfExp c a b pos)<|GH tA ta tb):=⟨Yg hc.run ha.run hb.run⟩
theorem zj:Wr (PA X [] rB):=⟨R0⟩
theorem af(ha:Wr (PE X e te))(hr:Wr (PA X es t))(hs:zV e=true:=by rfl):Wr (PA X (e::es)<|nK te t):=⟨zB0 ha.run hr.run hs⟩
theorem bV{x1}(h:Wr (PA X es t)):Wr (PE X (.Tuple es x1 pos)<|Dl t):=⟨RZ h.run⟩
theorem l9(h:Wr (PA X es t)):Wr (PE X (.List es pos)<|Dk t):=⟨RY h.run⟩
theorem bw(hc:e8 X (.builtin id) r)(hv:bootBuiltins x=some (.builtin id))(ha:Wr (PA X (e::es) t))(hg:Gl X x:=by exact rfl)(hm:X.mg x=none:=by exact pH ‹Bl _ _› (by decide))(hn:x ≠ "__name__":=by decide)(dg:(x==("__debug__":Str))=false:=by decide)
  (he:zV e=true:=by rfl) (eC:es.all zV=true:=by rfl):Wr (PE X (.Call (.Name x p) (e::es) [] pos)<|mM r t):=⟨zAs hc hg hm hv ha.run hn dg he eC⟩
theorem gQ(hc:e8 X (.type T) r)(hv:bootBuiltins x=some (.type T))(ha:Wr (PA X (e::es) t))(hg:Gl X x:=by exact rfl)(hm:X.mg x=none:=by exact pH ‹Bl _ _› (by decide))(hn:x ≠ "__name__":=by decide)(dg:(x==("__debug__":Str))=false:=by decide)
  (he:zV e=true:=by rfl) (eC:es.all zV=true:=by rfl):Wr (PE X (.Call (.Name x p) (e::es) [] pos)<|mM r t):=⟨zAt hc hg hm hv ha.run hn dg he eC⟩
theorem zE{k:Nat}(ha:Wr (PA X (e::es) t))(C:Il X.prog X.w X.K X.mg X.base x k ps sp:=by assumption)(hr:aH k X.A:=by exact aH.mono ‹aH _ _› (by decide))(hg:Gl X x:=by exact rfl)(dg:(x==("__debug__":Str))=false:=by decide)
  (he:zV e=true:=by rfl) (eC:es.all zV=true:=by rfl):Wr (PE X (.Call (.Name x p) (e::es) [] pos)<|Dw sp t):=⟨Sq C hr hg ha.run dg he eC⟩
theorem aW(hr:t7 X rd)(ha:Wr (PE X a ta))(hb:Wr (PE X b tb))(hs:K6 b:=by exact λ_ _=>rfl):Wr (PE X (.Subscript a b pos)<|mL rd ta tb):=⟨zAm hr ha.run hb.run hs⟩
theorem AQ:Wr (PO X none Fn):=⟨VW⟩
theorem AN(h:Wr (PE X e te)):Wr (PO X (some e)<|D7 te):=⟨VR h.run⟩
theorem AM{r:V->Qb Int->Qb Int->Hp->VK->Prop}{lo hi:Qb Expr}{tl th:TO}{p2:Pos}(hr:vG X r)(he:Wr (PE X e te))(hl:Wr (PO X lo tl))(hu:Wr (PO X hi th)):Wr (PE X (.Subscript e (.Slice lo hi none p2) pos)<|GF r te tl th):=⟨YB hr he.run hl.run hu.run⟩
theorem pV{ta:TA}(ha:Wr (PA X [a] ta))(hg:Gl X "range":=by exact rfl)(hm:X.mg "range"=none:=by exact pH ‹Bl _ _› (by decide))(hs:zV a=true:=by rfl):Wr (PI X tg (.Call (.Name "range" p) [a] [] pos)<|Ea ta):=⟨YS hg hm ha.run<|i0 hs⟩
theorem Bh{ta:TA}(ha:Wr (PA X [a,b] ta))(hg:Gl X "range":=by exact rfl)(hm:X.mg "range"=none:=by exact pH ‹Bl _ _› (by decide))(hs:zV a=true:=by rfl)(mS:zV b=true:=by rfl):Wr (PI X tg (.Call (.Name "range" p) [a,b] [] pos)<|D9 ta):=
 ⟨YR hg hm ha.run ((i0 hs).trans (by rw[i0 mS]; rfl))<|i0 mS⟩
theorem zr(hN:X.N.Nodup:=by first|assumption|exact wA rfl)(hi:X.N[i]?=some x:=by rfl)(hx:Loc X.env.scope x:=by first|exact Or.inl rfl|exact Or.inr rfl)(hf:X.fn x=true\/X.env.scope.names.lookup x=some .local:=by first|exact .inl rfl|exact .inr rfl|assumption):Wr (PG X (.Name x pos)<|jv i):=⟨Vl hN hi hx hf⟩
theorem fF:Wr (qZ X [] yK):=⟨Vk⟩
theorem bE(h1:Wr (PG X e g))(h2:Wr (qZ X es gs))(hs:(assignEach (e::es) X.env).map (·.2)=assign e X.env::(assignEach es X.env).map (·.2):=by rfl):Wr (qZ X (e::es)<|wa g gs):=⟨YJ h1.run h2.run hs⟩
theorem Aw{ti:TE}{xh:yL}(ho:Wr (PE X o ta))(hi:Wr (PE X e ti))(hs:DE X xh)
  (hh:∀ v,assign (.Subscript o e pos) X.env v=(do
   let ov <-holding [v] (eval o X.env)
   let iv <-holding [v,ov] (eval e X.env)
   standAt pos
   holding [v,ov,iv] (setItem ov iv v)
   release [v,ov,iv] []):=by intro _; rfl):Wr (PG X (.Subscript o e pos)<|DD ta ti xh):=⟨Ti ho.run hi.run hs hh⟩
theorem kj:Wr (j7 X [] Dy):=⟨XE⟩
theorem EJ(h:Wr (PT X c tA)):Wr (j7 X [c] tA):=⟨XD h.run⟩
theorem m9(hi:Wr (PI X tg iter wi))(hg:∀ {C s H ex},Wr<|PG (zG X scope (eZ X js) (fO tg++eK X js) C s H ex) tg g)(ht:∀ {C s H ex},Wr<|j7 (zG X scope (eZ X js) (fO tg++eK X js) C s H ex) ifs tt)
  (he:∀ {C s H ex},Wr<|PE (zG X scope (eZ X js) (fO tg++eK X js) C s H ex) elt te)
  (f:aL X (eZ X js) (eK X js) js:=by repeat (first|exact aL.nil|refine aL.cons rfl (by first|exact Or.inl rfl|exact Or.inr rfl) rfl ?_)) (cV:closureFor scope X.env=pure (eZ X js):=by rfl) (S:mY scope (eK X js):=by exact⟨rfl,of_decide_eq_true rfl,of_decide_eq_true rfl,of_decide_eq_true rfl,of_decide_eq_true rfl⟩) (eX:(fO tg).length=nt:=by rfl) (hc:X.calm=true:=by rfl) (gw:∀ σ:St,GW (c0 nt js σ) g:=by first|exact AU (by decide) | exact Ag<|AS (by repeat (first|exact Bi|refine Bv (by decide) ?_))) (hs:∀ x,foldedSetIterable iter X.env x=pure x:=by intro _; rfl):
  Wr (PE X (.ListComp elt [⟨tg,iter,ifs,0⟩] scope pos)<|xk wi nt js g tt te):=⟨zAr nt (fO tg) eX hc S f cV hi.run (λC s H ex=>hg.run) gw (λC s H ex=>ht.run) (λC s H ex=>he.run) hs⟩
def OS(K:qc):Qa V->Hp->VK->Prop:=λxs H Q=>∃ p ys,xs=[.ref p]/\(bA K H p ys\/bz K H p ys)/\Q (.int ys.length) H
def Mb(K:qc):Qa V->Hp->VK->Prop:=λxs H Q=>∃ p ys,xs=[.ref p]/\((bA K H p ys/\∀ l,H l=none->Q (.ref l) (upd H l<|.tup ys))\/(bz K H p ys/\Q (.ref p) H))
theorem nJ(hK:X.K=K:=by rfl):e8 X (.builtin "isinstance") (Dx K):=hK▸XB
theorem dZ(hK:X.K=K:=by rfl):e8 X (.builtin "len") (OS K):=hK▸zjP
theorem mH(hK:X.K=K:=by rfl):e8 X (.type "tuple") (Mb K):=hK▸ziZ
theorem iW(hK:X.K=K:=by rfl):t7 X (Dj K):=hK▸VN
theorem zZ(hK:X.K=K:=by rfl):t7 X (Di K):=hK▸RT
theorem OR(hK:X.K=K:=by rfl):bH X (compareOp .In) (xp K false):=hK▸Zc
theorem Lk(hK:X.K=K:=by rfl):bH X (compareOp .NotIn) (xp K true):=hK▸zjO
theorem DY(hK:X.K=K:=by rfl):vG X (Dh K):=hK▸VM
theorem Vy{l:Expr}{tl:TE}(hl:Wr (PE X l tl))(hK:X.K=K:=by rfl):Wr (PI X tg l<|Eb K tl):=hK▸⟨Vj hl.run⟩
theorem si{l:Expr}{tl:TE}(hl:Wr (PE X l tl))(hK:X.K=K:=by rfl):Wr (PI X tg l<|Dt K tl):=hK▸⟨R7 hl.run⟩
theorem fE{k:Nat}(h:Wr (qZ X es gs))(hK:X.K=K:=by rfl)(hc:X.calm=true:=by rfl)(hn:(assignEach es X.env).length=n:=by rfl)(vq:(assignEach es X.env).findIdx? (·.1)=none:=by rfl):Wr (PG X (.Tuple es k pos)<|yJ K n gs):=hK▸⟨Tj hc h.run hn vq⟩
theorem IZ(ha:Wr (PE X a ta))(hK:X.K=K:=by rfl)(he:∀ whole,isTrue a X.env whole=(do let v <-whole; standAt a.pos; holding [v] (truthy v)):=by intro _; rfl):Wr (PT X a<|OT K ta):=hK▸⟨YG ha.run he⟩
theorem cT:Wr (eI X [] Ed):=⟨Vn⟩
theorem aC(h1:Wr (PS X st ts))(h2:Wr (eI X GK us)):Wr (eI X (st::GK)<|vN ts us):=⟨FP h1.run h2.run⟩
theorem zK(h1:Wr (PS X st ts)):Wr (eI X [st] ts):=⟨Ld h1.run⟩
theorem wk(he:Wr (PE X e te))(hs:swapsWith e none pos.line X.env=pure false:=by rfl):Wr (PS X (.Expr e pos)<|Ec te):=⟨Vm he.run hs⟩
theorem zR(he:Wr (PE X e te)):Wr (PS X (.Return (some e) pos)<|yM te):=⟨Tn he.run⟩
theorem cH{sa sb:Qa Stmt}(hc:Wr (PT X c tA))(ha:Wr (eI X sa ts))(hb:Wr (eI X sb us)):Wr (PS X (.If c sa sb pos)<|DG tA ts us):=⟨zAg hc.run ha.run hb.run⟩
theorem uF(h:Wr (PS X st ts)):Wr (PS X st<|D0 ts):=⟨VA h.run⟩
theorem Lj(hc:Wr (PT X c tA))(hb:Wr (eI X body ts))(hp:PassesOwn (model X.prog X.w) X.A X.env X.xe:=by first|exact PassesOwn.never|exact PassesOwn.leaving):Wr (PS X (.While c body [] pos)<|EH tA ts):=⟨YI hp hc.run hb.run⟩
theorem dY(hi:Wr (PI X tg iter wi))(hg:Wr (PG X tg g))(hb:Wr (eI X body ts))(hp:PassesOwn (model X.prog X.w) X.A X.env X.xe:=by first|exact PassesOwn.never|exact PassesOwn.leaving)(hc:X.calm=true:=by rfl)(hs:∀ x,foldedSetIterable iter X.env x=pure x:=by intro _; rfl):
  Wr (PS X (.For tg iter body [] pos)<|Ds wi g ts):=⟨R6 hp hc hi.run hg.run hb.run hs⟩
theorem zH(he:Wr (PE X e te))(hN:X.N.Nodup:=by first|assumption|exact wA rfl)(hi:X.N[i]?=some x:=by rfl)(hx:Loc X.env.scope x:=by first|exact Or.inl rfl|exact Or.inr rfl)(hs:swapsWith e (some<|.Name x pos') pos.line X.env=pure false:=by rfl)(hf:X.fn x=true\/X.env.scope.names.lookup x=some .local:=by first|exact .inl rfl|exact .inr rfl|assumption):
  Wr (PS X (.Assign [.Name x pos'] e pos)<|nj te<|jv i):=⟨Tg hN hi hx he.run hs hf⟩
theorem nI(he:Wr (PE X e te))(hg:Wr (PG X tg g))(hs:swapsWithSole [tg] e pos.line X.env=pure false:=by rfl)(hw:swappedStores [tg] e X.env=pure none:=by rfl)(h1:(assignEach [tg] X.env).map (·.2)=[assign tg X.env]:=by rfl):
  Wr (PS X (.Assign [tg] e pos)<|nj te g):=⟨Th he.run hg.run hs hw h1⟩
theorem DX{y:Str}{ta:TA}{px py pt:Pos}{kt k2 sS}(ha:Wr (PA X [a,b] ta))(hc:X.calm=true:=by rfl)(hN:X.N.Nodup:=by first|assumption|exact wA rfl)(hi:X.N[i]?=some x:=by rfl)(hj:X.N[j]?=some y:=by rfl)(fG:i≠j:=by decide)
  (hx:X.env.scope.names.lookup x=some .local:=by rfl) (hy:X.env.scope.names.lookup y=some .local:=by rfl)
  (hw:swappedStores [.Tuple [.Name x px,.Name y py] kt pt] (.Tuple [a,b] k2 sS) X.env=pure (some [x,y]):=by rfl)
  (hs:swapsWithSole [.Tuple [.Name x px,.Name y py] kt pt] (.Tuple [a,b] k2 sS) pos.line X.env=pure false:=by rfl):
  Wr (PS X (.Assign [.Tuple [.Name x px,.Name y py] kt pt] (.Tuple [a,b] k2 sS) pos)<|Du i j ta):=⟨R8 hc hN hi hj fG hx hy ha.run hw hs⟩
end
theorem jW.okW{base:Heap}{f:Qg}{k:Nat}(F:jW K x qual st f fd)(S:bJ N ps (zX st))(len:∀ vs H Q E,sp vs H Q E->vs.length=ps.length)
  (cn:∀ (bG:Qc) (A:Qf) (outer:Qa Env) (s:Qd) (H:Hp) (vs:Qa V) (Q:VK) (E:XK),aH k (A.deeper<|envOfC qual (zX st) s.heap.objs.size f bG)->sp vs H Q E->
   ∃ t,Wr (eI (nh iR P w K mg base N qual (zX st) f bG A outer s H E).sZ (kY st) t)/\t {nx:=λ_ H'=>Q .aI H',rt:=Q} (gv N vs) H):cw P w K mg base iR (k+1) f fd ps sp :=
 F.ok S len λbG A outer s H vs Q E hr h=>let ⟨t,w,q⟩:=cn bG A outer s H vs Q E hr h; ⟨t,w.run,q⟩
mutual
inductive DV (K:qc) (H:Hp):V->PyData->Prop
 | aI:DV K H .aI .none
 | bl (b:Bool):DV K H (.bl b) (.bool b)
 | int (i:Int):DV K H (.int i) (.int i)
 | str (x:Str):DV K H (.str x) (.str x)
 | lst {a:Qg} {xs:Qa V} {ds:Qa PyData} (h:bA K H a xs) (t:gy K H xs ds):DV K H (.ref a) (.list ds)
 | tup {a:Qg} {xs:Qa V} {ds:Qa PyData} (h:bz K H a xs) (t:gy K H xs ds):DV K H (.ref a) (.tuple ds)
inductive gy (K:qc) (H:Hp):Qa V->Qa PyData->Prop
 | nil:gy K H [] []
 | cons {v:V} {d:PyData} {vs:Qa V} {ds:Qa PyData} (h:DV K H v d) (t:gy K H vs ds):gy K H (v::vs) (d::ds)
end
theorem b8.GO{xs:Qa V}(e:b8 H H')(h:bz K H a xs):bz K H' a xs:=by
 rcases h with (h|⟨o,h⟩) | h
 .exact .inl (.inl<|e _ _ h)
 .exact .inl (.inr ⟨o,e _ _ h⟩)
 .exact .inr h
mutual
theorem DV.same(e:b8 H H'):∀ {v:V} {d:PyData},DV K H v d->DV K H' v d
 | _,_,.aI=>.aI
 | _,_,.bl b=>.bl b
 | _,_,.int i=>.int i
 | _,_,.str x=>.str x
 | _,_,.lst h t=>.lst (e.seq h)<|gy.same e t
 | _,_,.tup h t=>.tup (e.GO h)<|gy.same e t
theorem gy.same(e:b8 H H'):∀ {v:Qa V} {d:Qa PyData},gy K H v d->gy K H' v d
 | _,_,.nil=>.nil
 | _,_,.cons h t=>.cons (DV.same e h)<|gy.same e t
end
section
variable{X:Cx}
mutual
theorem DV.reads(I:Inv X pins σ H s):∀ {v:V} {d:PyData} {u:Qc},DV X.K H v d->zO v u->∃ as,Reads s.heap u d as
 | _,_,_,.aI,r=>by cases r; exact⟨_,.none⟩
 | _,_,_,.bl b,r=>by cases r; exact⟨_,.bool b⟩
 | _,_,_,.int i,r=>by have(t,rfl):=r; exact⟨_,.int i t⟩
 | _,_,_,.str x,r=>by have(t,rfl):=r; exact⟨_,.str x t⟩
 | _,_,_,.lst h t,r=>by
  cases r;obtain⟨ah,rv,⟨o,n,e1,e2,e3,e4⟩,hz⟩:=I.list h;have(as,q):=gy.reads I t rv;exact⟨_,.list e1 e2 e4 q⟩
 | _,_,_,.tup h t,r=>by
  cases r;obtain⟨ah,rv,⟨o,e1,e2,n,e4⟩,hz⟩:=I.tuple h;have(as,q):=gy.reads I t rv;exact⟨_,.tuple e1 e2 e4 q⟩
theorem gy.reads(I:Inv X pins σ H s):∀ {v:Qa V} {d:Qa PyData} {u:Qa Qc},gy X.K H v d->zM v u->∃ as,ReadsAll s.heap u d as
 | _,_,_,.nil,r=>by cases r; exact⟨_,.nil⟩
 | _,_,_,.cons h t,r=>by
  cases r with
  | cons r1 r2=>
   have(a1,q1):=DV.reads I h r1;have(a2,q2):=gy.reads I t r2;exact⟨_,.cons q1 q2⟩
end
end
section
variable{X:Cx}{p:Pos}{a b c:Expr}{es du:Qa Expr}{t:TA}{rd:R2}{id:String}{tA mN:TT}{GK body:Qa Stmt}{ts us:TS}{gs:hW}
theorem IY{y:Str}{py lx:Pos}(hi:Wr (PI X tg iter wi))(hg:∀ {C s H ex},Wr<|PG (zG X scope (eZ X js) (fO tg++eK X js) C s H ex) tg g)(ht:∀ {C s H ex},Wr<|j7 (zG X scope (eZ X js) (fO tg++eK X js) C s H ex) ifs tt)
  (he:∀ {C s H ex},Wr<|PE (zG X scope (eZ X js) (fO tg++eK X js) C s H ex) elt te)
  (hN:X.N.Nodup:=by first|assumption|exact wA rfl) (gK:X.N[i]?=some y:=by rfl) (hy:Loc X.env.scope y:=by first|exact Or.inl rfl|exact Or.inr rfl)
  (f:aL X (eZ X js) (eK X js) js:=by repeat (first|exact aL.nil|refine aL.cons rfl (by first|exact Or.inl rfl|exact Or.inr rfl) rfl ?_)) (cV:closureFor scope X.env=pure (eZ X js):=by rfl) (S:mY scope (eK X js):=by exact⟨rfl,of_decide_eq_true rfl,of_decide_eq_true rfl,of_decide_eq_true rfl,of_decide_eq_true rfl⟩) (eX:(fO tg).length=nt:=by rfl) (hc:X.calm=true:=by rfl) (gw:∀ σ:St,GW (c0 nt js σ) g:=by first|exact AU (by decide) | exact Ag<|AS (by repeat (first|exact Bi|refine Bv (by decide) ?_))) (hs:∀ x,foldedSetIterable iter X.env x=pure x:=by intro _; rfl)
  (Hq:swapsWith (.ListComp elt [⟨tg,iter,ifs,0⟩] scope pos) (some<|.Name y py) lx.line X.env=pure true:=by rfl)
  (hf:X.fn y=true\/X.env.scope.names.lookup y=some .local:=by first|exact .inl rfl|exact .inr rfl|assumption):
  Wr (PS X (.Assign [.Name y py] (.ListComp elt [⟨tg,iter,ifs,0⟩] scope pos) lx)<|nj (xk wi nt js g tt te)<|jv i):=by
 refine⟨?_⟩;intro pins s σ H D I h;rw[exec_Assign_Name_used _ _ _ _ Hq];refine qa<|wpAny_standAt<|qa ?_;show wpAny _ X.A (do let _ <-comprehension (.ListComp elt [⟨tg,iter,ifs,0⟩] scope pos) scope X.env _ (newList []) false (eval iter X.env) (some<|assign (.Name y py) X.env)) _ _ s;refine qa<|wpAny_mono (wpAny_comprehension_free (use:=some (assign (.Name y py) X.env)) (Q:=λ_ s'=>SP X pins D .next s') rfl hs cV S.kind S.names
  (aD (hi.run pins s σ H _ I h) λv s1 h1=>aD h1 λvm s2 h2=>?_)) (λ_ s' hq=>qb<|qb hq) λ_ _ e=>e
 have(it,fp,tn,J,H2,e,I2,T,gE,f2,q):=h2;subst e;refine MW (RR:=λacc C=>compPost (model X.prog X.w) X.A X.xe (some<|assign (.Name y py) X.env) (λ_ s'=>SP X pins D .next s') acc C) hc I2 S f eX T gE f2 (λC s H ex=>hg.run) (λC s H ex=>ht.run) (λC s H ex=>he.run) (gw σ) q ?_;intro D' C m s' ys H' z hD I' hn oR lI lH kC oQ;show wpAny _ _ (assign (.Name y py) X.env<|.ref D') _ _ _;refine wpAny_assign_Name<|F0 (v:=.ref D') I' hN gK hy rfl (λsP Ij hZ=>?_) hf;have(a,sb,ha):=hZ;have ne:C≠a:=by
  rcases ha with rfl|ha
  .exact lI
  .exact(lH _ _ ha).symm
 exact⟨m,hn.sameBut sb ne,λh' mT=>⟨_,_,Ij.turned (it:=C) (λb o hb e=>mT.extBut b o hb e) oR lI (.inr kC) lH oQ,z D' hD⟩⟩
theorem rm{name:Str}{r:V->Qa V->Hp->VK->Prop}(K:qc)(hK:X.K=K)(pa:PlainAttrs T)(slot:Slot T name id)(oI:typeOf (.builtin id)=pure (.type "method_descriptor"))(hm:vH X id r)(ho:Wr (PE X o te))(ha:Wr (PA X (e::es) t))
  (cp:attributeBase o name X.env (eval o X.env)=eval o X.env:=by rfl)
  (tN:((backTo aX<|starEach (e::es) X.env).all (λx=>!x.1) && (backToKw aX<|keywordEach [] X.env).all (λx=>x.1.isSome)
   && decide ((e::es).length+([]:Qa Keyword).length+(if([]:Qa Keyword).isEmpty then 0 else 1) < 30))=true:=by rfl)
  (cj:(apos.endLine==aX.line)=true:=by rfl) (hs:zV e=true:=by rfl) (eC:es.all zV=true:=by rfl):
  Wr (PE X (.Call (.Attribute o name apos) (e::es) [] aX)<|BZ K T r te t):=hK▸⟨zAo pa slot oI hm ho.run ha.run cp tN cj (i0 hs)<|sE eC⟩
theorem IX{name:Str}{r:V->Qa V->Hp->VK->Prop}(K:qc)(hK:X.K=K)(pa:PlainAttrs T)(slot:Slot T name id)(oI:typeOf (.builtin id)=pure (.type "method_descriptor"))(hm:vH X id r)(ho:Wr (PE X o te))
  (cp:attributeBase o name X.env (eval o X.env)=eval o X.env:=by rfl) (cj:(apos.endLine==aX.line)=true:=by rfl):
  Wr (PE X (.Call (.Attribute o name apos) [] [] aX)<|DA K T r te):=hK▸⟨Sv pa slot oI hm ho.run cp cj⟩
theorem sf(hg:Gl X x)(hm:X.mg x=some u)(r:zO v u)(hd:(x==("__debug__":Str))=false:=by decide):Wr (PE X (.Name x pos)<|tC v):=⟨Vq hg hm r hd⟩
theorem Li:∀ {ys:Qa Str} {us:Qa Qc},zM (ys.map V.str) us->StrsAre us ys
 | [],_,r=>by cases r; exact .nil
 | y::ys,_,r=>by
  cases r with
  | cons r1 r2=>
   have(t,rfl):=r1;exact .cons y t<|Li r2
def IW(K:qc):V->Qa V->Hp->VK->Prop:=λx vs H Q=>∃ sep a ys,x=.str sep/\vs=[.ref a]/\bA K H a (ys.map V.str)/\(ys.map (·.length)).sum+ys.length * sep.length<=16777216/\Q (.str<|Txt.join sep ys) H
theorem Lh(K:qc)(hK:X.K=K:=by rfl):vH X "str.join" (IW K):=by
 intro pins s σ H x vs v us Q I rx rv h;have(sep,a,ys,rfl,rfl,hS,hz,q):=h;have(t,rfl):=rx;have(u,rfl,ru):=rv.one;cases ru;subst hK;have(ah,r,pl,_):=I.list hS;exact join_list pl.isList (by simpa using Li r) hz λt' k=>⟨.str _,H,I.tok _,⟨_,rfl⟩,q⟩
def uf(x:Str)(n:Int):Str:=if n < 1 then Str.empty else if(n==1 || x.length==0)=true then x else⟨(List.replicate n.toNat x.cps).foldl (·++·) #[]⟩
theorem zmR:bH X (binaryOp .Mult) (λx y H Q=>∃ z n,x=.str z/\y=.int n/\0<=n/\n<=1/\Q (.str<|uf z n) H):=by
 intro pins s σ H x y v u Q I rx ry h;have(z,n,rfl,rfl,h0,h1,q):=h;have(t,rfl):=rx;have(t',rfl):=ry;rcases(by omega:n=0\/n=1)with rfl|rfl
 .exact PySem.P.mul_str_none (by decide) (by decide) ⟨.str _,H,I.tok _,⟨_,rfl⟩,q⟩
 .refine PySem.P.mul_str (by decide) (λ_ z=>by simp at z) (λ_ z=>by simp at z) ?_
  rw[if_neg (by decide),if_pos (by rfl)];exact⟨.str _,H,I,⟨_,rfl⟩,q⟩
end
structure Kp (H H':Hp):Prop where
 tup:∀ b xs,H b=some (.tup xs)->H' b=some (.tup xs)
 aQ:∀ b o u,H b=some (.aQ o u)->H' b=some (.aQ o u)
theorem Kp.refl(H:Hp):Kp H H:=⟨λ_ _ h=>h,λ_ _ _ h=>h⟩
theorem Kp.trans{H1 H2:Hp}(a:Kp H H1)(b:Kp H1 H2):Kp H H2:=⟨λx y h=>b.tup x y<|a.tup x y h,λx y z h=>b.aQ x y z<|a.aQ x y z h⟩
theorem b8.kp(s:b8 H H'):Kp H H':=⟨λ_ _ h=>s _ _ h,λ_ _ _ h=>s _ _ h⟩
end L2
namespace HT
open PySem PyProof.Rows
open PySem.SeqAt
open PySem.MeetsSeq PySem.MeetsSeq2 PySem.MeetsSeq3
section
variable{prog:Program} {w:World} {A:Around} {E:Value->Shared->Prop} {s:Shared}
theorem cX{t sl:Addr}{items:Array Value}{vl vu:Value}{lo hi:Option Int}{Q:Value->Shared->Prop}(ht:IsTup s.heap t items)(hs:s.heap.IsSliceOf sl vl vu .none)(pl:IsPart vl lo)(pu:IsPart vu hi)
  (hw:aN items.size 0 lo=0/\aN items.size items.size hi=items.size) (h:Q (.ref t) s):wpAny (model prog w) A (getItem (.ref t)<|.ref sl) Q E s:=by
 have(os,tJ,Cr,xU):=id hs;have HG:s.TypeIs (.ref sl) "slice":=⟨os,tJ,Cr⟩;unfold getItem
 try with_reducible refine wpAny_holding ?_
 first|refine wpAny_bind (wpAny_pure ?_) | skip
 refine wpAny_bind<|wpAny_sequenceKey ht.typeIs (by decide) ?_;refine wpAny_bind (wpAny_callSpecial?_slot (name:=Str.ofString "__getitem__") ht.typeIs PyProof.Rows.slot_tuple_getitem
  (wpAny_call_entry PyProof.Rows.slot_tuple_getitem ht.typeIs entry_tuple_getitem ?_<|args_tuple_getitem _ _))
 show wpAny _ _ (Builtin.Tuple.tupleItemsOf (.ref t) >>= _) _ _ s;refine wpAny_bind<|tupleItemsOf_ ht ?_;refine wpAny_bind<|wpAny_typeOf HG ?_;rw[if_pos (by decide)];refine wpAny_bind<|N1 hs pl pu ?_;have Hl:(((aN items.size 0 lo:Nat):Int)==0 && (1:Int)==1 && (aN items.size items.size hi - aN items.size 0 lo)==items.size)=true:=by
  rw[hw.1,hw.2];simp
 show wpAny _ _ (if(((aN items.size 0 lo:Nat):Int)==0 && (1:Int)==1 && (aN items.size items.size hi - aN items.size 0 lo)==items.size)=true then _ else _) _ _ s;rw[if_pos Hl];refine wpAny_bind (m:=Builtin.Tuple.tupleIsExact _)<|wpAny_bind<|wpAny_typeOf ht.typeIs<|wpAny_pure ?_;rw[if_pos (by decide)];exact wpAny_bind<|wpAny_rule<|wpAny_pure ⟨_,rfl,wpAny_pure h⟩
end
end HT
namespace L2
open PySem PySem.Spec PyProof.Rows
section
variable{X:Cx}
end
section
variable{X:Cx}
end
section
variable{X:Cx}
end
section
variable{X:Cx}
theorem zM.at:∀ {xs:Qa V} {us:Qa Qc} {i:Nat} {u:Qc},zM xs us->us[i]?=some u->∃ x,xs[i]?=some x/\zO x u
 | _,_,0,_,.cons r _,e=>by
  cases(show some _=some _ from e);exact⟨_,rfl,r⟩
 | _,_,i+1,_,.cons _ t,e=>zM.at (i:=i) t e
 | _,_,0,_,.nil,e=>by cases e
 | _,_,_+1,_,.nil,e=>by cases e
theorem Xz{p:Qg}{xs:Qa V}(I:Inv X pins σ H s)(hh:A.handled=none)(hq:bA X.K H p xs\/bz X.K H p xs)
  (h:∀ (it:Qg) (fp wr:Qa Qg) (n:Nat) (P:Nat->Qc->Prop) (St:Nat->Heap->Prop) (s2:Qd),Walks X.prog X.w A it fp wr n P St->St 0 s2.heap->(∀ b∈fp,b < s2.heap.objs.size)->n=xs.length->(∀ i v,P i v->∃ x,xs[i]?=some x/\zO x v)->
   (∀ h' tk,(∀ b o,b∉wr->s2.heap.get? b=some o->h'.get? b=some o)->Inv X pins σ H {s2 with heap:=h',toks:=tk})->Q (.ref it) s2):
  wpAny (model X.prog X.w) A (pyIter<|.ref p) Q E s:=by
 rcases hq with hq|hq
 .have(ah,r,pl,hz):=I.list hq
  have hp:p < s.heap.objs.size:=by
   have(o,n,e,_):=pl;exact qh e
  have ne:p≠s.heap.objs.size:=qj hp;refine wpAny_pyIter_list pl.isList<|h s.heap.objs.size [s.heap.objs.size,p] [s.heap.objs.size] ah.toArray.size _ _ _ (Walks.list hh _ p ne ah.toArray) ⟨⟨_,qg _ rfl,rfl,rfl⟩,?_⟩ (λb hb=>?_) (by rw[List.size_toArray]; exact r.length.symm) (λi v e=>zM.at r (by simpa using e)) λh' tk hk=>?_
  .have(o,n,e,c,d,f):=pl
   exact⟨o,qd _ e,c,n,f⟩
  .rw[Heap.size_push]
   rcases qu.mp hb with z|z
   .rw[z]; exact Õ _
   .rw[qp.mp z]; exact à hp
  .exact I.kept λb u e=>hk b u (λz=>absurd (qh e) (by rw[qp.mp z]; exact Í _))<|qd _ e
 .have(ah,r,pl,hz):=I.tuple hq
  have hp:p < s.heap.objs.size:=by
   have(o,e,_):=pl;exact qh e
  have ne:p≠s.heap.objs.size:=qj hp;refine wpAny_pyIter_tuple (show s.heap.IsTuple p ah.toArray from pl)<|h s.heap.objs.size [s.heap.objs.size,p] [s.heap.objs.size] ah.toArray.size _ _ _ (Walks.tuple hh _ p ne ah.toArray) ⟨⟨_,qg _ rfl,rfl,rfl⟩,?_⟩ (λb hb=>?_) (by rw[List.size_toArray]; exact r.length.symm) (λi v e=>zM.at r (by simpa using e)) λh' tk hk=>?_
  .have(o,e,c,n,f):=pl
   exact⟨o,qd _ e,c,n,f⟩
  .rw[Heap.size_push]
   rcases qu.mp hb with z|z
   .rw[z]; exact Õ _
   .rw[qp.mp z]; exact à hp
  .exact I.kept λb u e=>hk b u (λz=>absurd (qh e) (by rw[qp.mp z]; exact Í _))<|qd _ e
theorem Y4(bs:Qa Bool):(List.range bs.length).all (λi=>bs.getD i false)=bs.all id:=by
 rw[Bool.eq_iff_iff,List.all_eq_true,List.all_eq_true];constructor
 .intro h b hb
  have(i,hi,e):=List.getElem_of_mem hb;have:=h i (Á.mpr hi);rw[qA,ql hi,e]at this;exact this
 .intro h i hi
  have gK:=Á.mp hi;rw[qA,ql gK];exact h _<|List.getElem_mem gK
def OQ(K:qc):Qa V->Hp->VK->Prop:=λxs H Q=>∃ (p:Qg) (bs:Qa Bool),xs=[.ref p]/\(bA K H p (bs.map V.bl)\/bz K H p (bs.map V.bl))/\Q (.bl<|bs.all id) H
theorem zAy(K:qc)(hK:X.K=K)(hc:X.calm=true):e8 X (.builtin "all") (OQ K):=by
 subst hK;intro pins s σ H xs us Q I r h;have(p,bs,rfl,hq,q):=h;have(u,rfl,ru):=ju r;cases ru;refine call_all_walk<|Xz I (I.ok.hd hc) hq λit fp wr n P St s2 W st hfp hn hP hI=>⟨it,fp,wr,n,P,St,λi=>bs.getD i false,rfl,W,st,?_,λh' tk hk=>?_⟩
 .intro i v s' Q' E' hv hQ'
  have(x,ex,rx):=hP i v hv;rw[List.getElem?_map]at ex;cases eb:bs[i]? with
  | none=>rw[eb]at ex; cases ex
  | some b=>
   rw[eb]at ex;cases ex;cases rx;have ew:bs.getD i false=b:=by rw[qA,eb]; rfl
   have PN:Q' (bs.getD i false) s':=hQ';rw[ew]at PN;exact wpAny_truthy_bool PN
 .rw[hn,List.length_map,Y4]
  exact⟨.bl _,H,hI h' tk hk,rfl,q⟩
end
section
variable{wr:Qa Qg}{P:Nat->Qc->Prop}{St:Nat->Heap->Prop}
end
section
end
section
variable{X:Cx}
end
section
theorem Gf{t:Qg}{items:Array Qc}{x:Qc}(hi:s.heap.IsTupleIter it t i)(ht:s.heap.IsTuple t items)(hx:items[i]?=some x)
  (q:∀ h',h'.IsTupleIter it t (i+1)->Heap.SameBut it s.heap h'->Q x {s with heap:=h'}):wpAny (model prog w) A (Builtin.SmallTypes.nextOf<|.ref it) Q E s:=by
 have(oi,e1,e2,e3):=id hi;have(ot,f1,f2,nt,f3):=ht;unfold Builtin.SmallTypes.nextOf;refine qa (wpAny_callSpecial?_slot (name:=Str.ofString "__next__") hi.typeIs slot_tupleiter_next
  (wpAny_call_entry slot_tupleiter_next hi.typeIs entry_tupleiter_next ?_<|args_tupleiter_next _))
 show wpAny _ _ (field (.ref it) 0 >>= _) _ _ s;refine qa<|wpAny_field e1 e3 (x:=.ref t) rfl ?_;show wpAny _ _ (if(Value.ref t==Value.none)=true then _ else _) _ _ s;rw[if_neg (show ¬((Value.ref t==Value.none)=true) from qf)];show wpAny _ _ (field (.ref it) 1 >>= _) _ _ s;refine qa<|wpAny_field e1 e3 (x:=.int i 0) rfl ?_;show wpAny _ _ (seqItems? (.ref t) >>= _) _ _ s;refine qa<|wpAny_seqItems f1 f3 ?_;simp only[Int.toNat_natCast,hx];refine qa<|wpAny_setField e1 e3 (by simp)<|qb ⟨x,rfl,qb<|q _ ?_<|Ñ ..⟩;refine⟨_,é _ e1<|ô<|ÿ e3 _,(Obj.cls_mapFields ..).trans e2,?_⟩;rw[Obj.data_mapFields e3];simp[rawInt]
theorem Mm{t:Qg}{items:Array Qc}(hh:A.handled=none)(hi:s.heap.IsTupleIter it t i)(ht:s.heap.IsTuple t items)(hx:items[i]?=none)
  (q:∀ h' e,Heap.ExtBut it s.heap h'->(∃ o,h'.get? e=some o/\o.cls=.type "StopIteration")->E (.ref e) {s with heap:=h'}):wpAny (model prog w) A (Builtin.SmallTypes.nextOf<|.ref it) Q E s:=by
 have(oi,e1,e2,e3):=id hi;have(ot,f1,f2,nt,f3):=ht;unfold Builtin.SmallTypes.nextOf;refine qa (wpAny_callSpecial?_slot (name:=Str.ofString "__next__") hi.typeIs slot_tupleiter_next
  (wpAny_call_entry slot_tupleiter_next hi.typeIs entry_tupleiter_next ?_<|args_tupleiter_next _))
 show wpAny _ _ (field (.ref it) 0 >>= _) _ _ s;refine qa<|wpAny_field e1 e3 (x:=.ref t) rfl ?_;show wpAny _ _ (if(Value.ref t==Value.none)=true then _ else _) _ _ s;rw[if_neg (show ¬((Value.ref t==Value.none)=true) from qf)];show wpAny _ _ (field (.ref it) 1 >>= _) _ _ s;refine qa<|wpAny_field e1 e3 (x:=.int i 0) rfl ?_;show wpAny _ _ (seqItems? (.ref t) >>= _) _ _ s;refine qa<|wpAny_seqItems f1 f3 ?_;simp only[Int.toNat_natCast,hx];refine qa<|wpAny_rule<|qa<|wpAny_setField e1 e3 (by simp) ?_;show wpAny _ _ (newExc (.type "StopIteration") [] >>= _) _ _ _;refine qa ?_;simp only[newExc,newTuple];refine qa<|qy ?_ (by show(0:Nat)<=sizeLine; exact É _);refine qa (m:=firstArgMember _ _)<|wpAny_of_eq (a:=Value.none) (by first|rfl | (simp only[firstArgMember]; rfl)) ?_;refine qy ?_ (by first|trivial|size_fits);simp only[raiseNew];refine qa (wpAny_handled ?_)
 first|rw[show A.in1.handled=none from hh] | rw[hh]
 refine qa<|qb<|wpAny_throw ?_;exact q _ _ (((Ñ ..).extBut.push _).push _) ⟨_,qg _ rfl,rfl⟩
end
theorem Nh(hh:A.handled=none)(it t:Qg)(ne:t≠it)(items:Array Qc):
  Draws prog w A it [it,t] items.size (λi v=>items[i]?=some v) (λi h=>h.IsTupleIter it t i/\h.IsTuple t items) where
 live:=λ_ _ st=>let ⟨o,ho,_⟩:=st.1; ⟨o,ho⟩
 frame:=λ_ _ _ st hk=>by
  obtain⟨⟨o,a1,a2,a3⟩,⟨o2,b1,b2⟩⟩:=st;exact⟨⟨o,hk it (by simp) o a1,a2,a3⟩,⟨o2,hk t (by simp) o2 b1,b2⟩⟩
 item:=λi s Q E hi st q=>by
  refine Gf st.1 st.2 (x:=items[i]) (by simp[hi]) λh' HC mT=>?_;exact q _ h' s.toks (by simp[hi]) ⟨HC,st.2.extBut mT.extBut ne⟩ mT
 done:=λs Q E st q=>Mm hh st.1 st.2 (by simp) q
theorem Y3(t:Qg)(items:Array Qc)(n:Nat)(gx:Qb Qg)(sl:Array (Qb Qc)):
  Meets (Builtin.«enumerate.__new__» ⟨[.type "enumerate",.ref t],[]⟩) (λ_ R s=>s.heap.get? t=some {cls:=.type "tuple",dict:=gx,data:=.seq items n,slots:=sl}/\
   R (.ok<|.ret<|.ref (s.heap.push {cls:=.type "tuple_iterator",data:=.fields #[.ref t,.int 0 0]}).objs.size)
    {s with heap:=(s.heap.push {cls:=.type "tuple_iterator",data:=.fields #[.ref t,.int 0 0]}).push {cls:=.type "enumerate",data:=.fields #[.none,.bool false,.ref s.heap.objs.size,rawInt 0,.none,.none]}}):=
 .of_wp λprog w A R s h=>by
  have(hp,g,d,tk,os):=s;have(hl,h):=h;have xI:=sub_enumerate;have hT:Heap.IsTuple (Shared.heap ⟨hp,g,d,tk,os⟩) t items:=⟨_,hl,rfl,n,rfl⟩
  wp_walk using PySem.AutoSeq1.wpAny_loadPart' hl
  refine wpAny_stack_any λst=>qb ?_;split
  .rename_i c _ _ _ _ _
   cases(c==Value.type "enumerate")
   .wp_walk using PySem.AutoSeq1.wpAny_loadPart' hl,wpAny_pyIter_tuple hT
    exact⟨_,rfl,h⟩
   .wp_walk using PySem.AutoSeq1.wpAny_loadPart' hl,wpAny_pyIter_tuple hT
    exact⟨_,rfl,h⟩
  .wp_walk using PySem.AutoSeq1.wpAny_loadPart' hl,wpAny_pyIter_tuple hT
   exact⟨_,rfl,h⟩
section
theorem zmS{t:Qg}{items:Array Qc}(hT:s.heap.IsTuple t items)
  (h:∀ h',IsEnum h' (s.heap.objs.size+1) s.heap.objs.size 0 .none->h'.IsTupleIter s.heap.objs.size t 0->(∀ b o,s.heap.get? b=some o->h'.get? b=some o)->Q (.ref<|s.heap.objs.size+1) {s with heap:=h'}):
  wpAny (model prog w) A (call (.type "enumerate") [.ref t]) Q E s:=by
 obtain⟨⟨c,gx,dt,sl⟩,hl,hc,n,hd⟩:=hT;replace hc:c=.type "tuple":=hc;replace hd:dt=.seq items n:=hd;subst hc hd;refine callType_new F.called_enumerate (by decide) (F.typeCall_enumerate_1 _) (F.newCall_enumerate_1 _) (λobj=>F.args_object_init_2 obj _) F.entry_enumerate_new
  (Y3 t items n gx sl) ⟨hl,?_⟩
 have hz:(s.heap.push {cls:=.type "tuple_iterator",data:=.fields #[.ref t,.int 0 0]}).objs.size=s.heap.objs.size+1:=Heap.size_push ..;show _/\_;rw[hz];have he:IsEnum ((s.heap.push {cls:=.type "tuple_iterator",data:=.fields #[.ref t,.int 0 0]}).push
   {cls:=.type "enumerate",data:=.fields #[.none,.bool false,.ref s.heap.objs.size,rawInt 0,.none,.none]}) (s.heap.objs.size+1) s.heap.objs.size 0 .none:=by
  have z:=qg (s.heap.push {cls:=.type "tuple_iterator",data:=.fields #[.ref t,.int 0 0]})
   (o:={cls:=.type "enumerate",data:=.fields #[.none,.bool false,.ref s.heap.objs.size,rawInt 0,.none,.none]}) rfl
  rw[hz]at z;exact z
 exact⟨⟨_,he,rfl⟩,h _ he ⟨_,qd _<|qg _ rfl,rfl,rfl⟩ λb o x=>qd _<|qd _ x⟩
end
section
variable{X:Cx}
theorem Inv.bS{t':Nat}{wr:Qa Qg}(I:Inv X pins σ H s)(k:∀ b o,b∉wr->s.heap.get? b=some o->h'.get? b=some o)(hf:∀ b∈wr,fm X pins H b):Inv X pins σ H {s with heap:=h',toks:=t'}:=by
 have jK:∀ b u,H b=some u->b∉wr:=λb u e z=>by rw[(hf b z).1]at e; cases e
 refine I.step (g':=s.gens) (d':=s.drawn) (ch:=wr) (λb hb=>?_) (λb o _ _ hc e _=>k b o hc e) (λb o _ _ hc e _=>⟨o.slots,k b o hc e⟩) (λ_ _ _ _ n=>n)
  (λb o hc e=>⟨o,k b o hc e⟩) (λ_ _ e=>e) (λ_ _ _ e=>e) (λb ps e=>⟨#[],by rw[e]; simp⟩) (λm hm=>?_) (λb u e=>?_) I.bare
 .have(_,z1,_,z3,z4,z5):=hf b hb
  exact⟨z3,z1,z4,z5⟩
 .have(o,es,ep,ho,r):=hm
  exact⟨o,es,ep,k _ o (λz=>(hf _ z).2.1 rfl) ho,r⟩
 .refine(I.aw b u e).cK (λc v hc q=>k c v ?_ q) (λ_ q=>q) λ_ _ q=>q
  rcases hc with z|z
  .rw[z]; exact jK b u e
  .exact jK c _ z
theorem Inv.i4{o:HO}(I:Inv X pins σ H s)(f:fm X pins H a)(ha:X.aY.heap.objs.size<=a)(new:bR X.prog X.w X.K (upd H a o) s.heap a o):Inv X pins σ (upd H a o) s:=by
 have(f0,f1,f2,f3,f4,f5):=f;refine⟨I.ok,I.os,I.bare,Md I.base f0 ha,I.loc,I.cell,?_,λx c e=>?_,λp hp=>?_,Mn I.aw f0 new,I.len⟩
 .rw[zy<|Ne.symm f1]
  exact I.free
 .rw[zy<|f4 x c e]
  exact I.bQ x c e
 .have(p1,p2,p3):=I.pin p hp
  refine⟨p1,?_,p3⟩;rw[zy<|f5 p hp];exact p2
end
def QQ(K:qc)(a:Qg):It :=
 ⟨λi H=>∃ xs x,bz K H a xs/\xs[i]?=some x,λi H x H'=>∃ T,H T=none/\x=.ref T/\∀ xs v,bz K H a xs->xs[i]?=some v->H'=upd H T (.tup [.int i,v]),λi H=>∃ xs,bz K H a xs/\xs.length=i⟩
theorem Y2{k:Nat}(e it t:Qg)(tO:e≠it)(xH:t≠e)(xG:t≠it):
  Turn P w K (.Tuple elts k pos) (QQ K t) [e,it] e (λi h=>(∃ old,IsEnum h e it i old)/\h.IsTupleIter it t i) where
 mem:=by simp
 obj:=λi h st b hb=>by
  obtain⟨⟨old,he⟩,⟨o,ho,_,hd⟩⟩:=st;rcases qu.mp hb with z|z
  .subst z
   exact⟨_,he,λv q=>by
    have q':Data.fields _=Data.cell v:=q;cases q'⟩
  .rw[qp.mp z]
   exact⟨o,ho,λv q=>by rw[hd]at q; cases q⟩
 keep:=λi h h' st kk=>by
  obtain⟨⟨old,he⟩,⟨o,ho,hc,hd⟩⟩:=st;exact⟨⟨old,kk e (by simp) _ he⟩,⟨o,kk it (by simp) _ ho,hc,hd⟩⟩
 item:=by
  intro X hP hw hK hc i pins s σ H E I hf st hg;subst hP hw hK;have(xs,x,hq,hx):=hg;have(ah,rv,ht,hz):=I.tuple hq;have hi:i < ah.toArray.size:=by
   rw[List.size_toArray,<-rv.length];exact(qk.mp hx).1
  have W:=WalksT.enumerateD (Nh (prog:=X.prog) (w:=X.w) (A:=X.A.in1) (I.ok.hd hc) it t xG ah.toArray) e tO (by simp[tO,Ne.symm xH]) (by simp);refine W.item i s _ _ hi ⟨st.1,st.2,ht⟩ λT vals h1 tk hP hT gJ mid kk=>?_;refine⟨_,rfl,W.go elts k pos i T {s with heap:=h1,toks:=tk} _ _ mid λh2 gE oG=>?_⟩;have(tt,u,hu,rfl):=hP;have apart:=W.apart _ _ _ mid;have I2:Inv X pins σ H {s with heap:=h2,toks:=tk}:=I.bS (wr:=[e,it]) (λb o hb q=>oG b o hb<|kk b o hb q) hf;have fT:fm X pins H T:=I.cM hT (I.aw.fresh hT);have ru:zO x u:=by
   have(u',eu,r):=rv.get hx;have:u'=u:=by
    have z:ah[i]?=some u:=by simpa using hu
    rw[eu]at z;exact qw z
   rw[<-this];exact r
  have(oT,g1,g2,nT,g3):=gJ;have I3:Inv X pins σ (upd H T<|.tup [.int i,x]) {s with heap:=h2,toks:=tk}:=I2.i4 fT (qx I.sz hT) ⟨by show 2<=sizeLine; decide,[.int i tt,u],.cons ⟨tt,rfl⟩<|.cons ru .nil,oT,oG T oT apart g1,g2,⟨nT,g3⟩,.inr ⟨_,_,_,rfl⟩⟩;refine⟨.ref T,_,I3,rfl,⟨T,I.aw.fresh hT,rfl,λsJ v oK hv=>?_⟩,⟨?_,gE.2.1⟩,λb hb=>?_⟩
  .have:=I.cy hq oK
   subst this;rw[hx]at hv;cases hv;rfl
  .exact gE.1
  .have ne:b≠T:=λz=>apart (by rw[<-z]; exact hb)
   rw[zy ne];exact(hf b hb).1
 done:=by
  intro X hP hw hK hc i pins s σ H E I hf st hg;subst hP hw hK;have(xs,hq,hl):=hg;have(ah,rv,ht,hz):=I.tuple hq;have hi:i=ah.toArray.size:=by
   rw[List.size_toArray,<-rv.length];exact hl.symm
  have W:=WalksT.enumerateD (Nh (prog:=X.prog) (w:=X.w) (A:=X.A.in1) (I.ok.hd hc) it t xG ah.toArray) e tO (by simp[tO,Ne.symm xH]) (by simp);refine W.done s _ _ ?_ λh1 tk kk=>⟨rfl,I.bS (wr:=[e,it]) kk hf⟩;rw[<-hi];exact⟨st.1,st.2,ht⟩
 self:=λ_ _ _ _ _ st h=>by
  obtain⟨⟨old,he⟩,_⟩:=st;exact wpAny_pyIter_enum he h
section
variable{X:Cx}{k:Nat}
def IV(K:qc)(ta:TA):TI:=λσ H R=>ta σ H λvs H1=>∃ a,vs=[.ref a]/\(∃ xs,bz K H1 a xs)/\R (QQ K a) H1
theorem Vx{a:Expr}{ta:TA}{p:Pos}(ha:Wr (PA X [a] ta))(hK:X.K=K:=by rfl)(hg:Gl X "enumerate":=by exact rfl)(hm:X.mg "enumerate"=none:=by exact pH ‹Bl _ _› (by decide))(hs:zV a=true:=by rfl):
  Wr (PI X (.Tuple elts k k9) (.Call (.Name "enumerate" p) [a] [] pos)<|IV K ta):=by
 subst hK;refine⟨?_⟩;intro pins s σ H R I h;refine Call_<|pO I hg hm boot_enumerate<|Ó (aD (ha.run pos pins s σ H _ I h) λus s1 hZ=>?_) (i0 hs) rfl;have(vs,H1,I1,r1,q1):=hZ;obtain⟨t,e,⟨xs,hq⟩,q⟩:=q1;subst e;have(u,rfl,ru):=ju r1;cases ru;have(ah,rv,ht,hz):=I1.tuple hq;have tl:t < s1.heap.objs.size:=by
  have(o,e,_):=ht;exact qh e
 refine zmS (show s1.heap.IsTuple t ah.toArray from ht) λh' he hit kk=>?_;have I2:Inv X pins σ H1 {s1 with heap:=h'}:=I1.kept (t':=s1.toks) kk;refine wpAny_pyIter_enum he ?_;refine⟨s1.heap.objs.size+1,[s1.heap.objs.size+1,s1.heap.objs.size],_,_,H1,rfl,I2,Y2 (s1.heap.objs.size+1) s1.heap.objs.size t (Nat.succ_ne_self _) (qj<|à tl)<|qj tl,⟨⟨_,he⟩,hit⟩,λb hb=>?_,q⟩;rcases qu.mp hb with z|z
 .subst z
  exact I1.cM (ð _)<|I1.aw.fresh<|ð _
 .rw[qp.mp z]
  exact I1.cM (qe _)<|I1.aw.fresh<|qe _
end
section
variable{X:Cx}
end
section
variable{X:Cx}{i v:Expr}{k:Nat}
theorem nX:Wr (PE X (.Dict [] [] pos) EN):=⟨YN⟩
theorem kQ(hr:aH k X.A)(ho:Wr (PE X o td))(hi:Wr (PE X i ty))(hs:Dz i:=by intro _ _; rfl):Wr (PE X (.Subscript o i pos)<|Eg X.K td ty):=⟨VH (uw hr) ho.run hi.run hs⟩
theorem nS(hr:aH k X.A)(ho:Wr (PE X o td))(hi:Wr (PE X i ty))(hv:Wr (PE X v tv))(hs:swapsWith v (some<|.Subscript o i pos') pos.line X.env=pure false:=by rfl):
  Wr (PS X (.Assign [.Subscript o i pos'] v pos)<|Ef X.K td ty tv):=⟨VG (uw hr) ho.run hi.run hv.run hs⟩
end
end L2
namespace L2
open PySem PySem.W PyProof.Rows
section
def dR(lt:Nat->Nat->Bool)(n:Nat):KasT α->(α->Prop)->Prop
 | .ret a,Q=>Q a
 | .ask i j k,Q=>i < n/\j < n/\dR lt n (k<|lt i j) Q
theorem dR.bind{lt:Nat->Nat->Bool}{f:α->KasT β}{Q:β->Prop}:∀ {t:KasT α},dR lt n t (λa=>dR lt n (f a) Q)->dR lt n (t.bind f) Q
 | .ret _,h=>h
 | .ask _ _ _,⟨h1,h2,h3⟩=>⟨h1,h2,dR.bind h3⟩
theorem dR.wp{lt:Nat->Nat->Bool}{Q:α->Prop}{Q':α->Qd->Prop}(hc:∀ i j (C:Bool->Qd->Prop),i < n->j < n->C (lt i j) s->cmp i j C s)(hQ:∀ a,Q a->Q' a s):
  ∀ {t:KasT α},dR lt n t Q->t.kasWp cmp Q' s
 | .ret _,h=>hQ _ h
 | .ask i j k,⟨h1,h2,h3⟩=>hc i j _ h1 h2<|dR.wp hc hQ h3
end
section
variable{rk:Nat->Int}
def KR(rk:Nat->Int)(p:Array Nat)(i:Nat):Int:=rk (p.getD i 0)
def i9(rk:Nat->Int)(i j:Nat):Bool:=decide (rk i < rk j)
def Pm(n:Nat)(p:Array Nat):Prop:=p.Perm (List.range n).toArray
theorem Pm.size(h:Pm n p):p.size=n:=by
 have:=h.size_eq;simpa using this
theorem Pm.lt(h:Pm n p)(hi:i < n):p.getD i 0 < n:=by
 have hs:=h.size;have gK:i < p.size:=by omega
 have e:p.getD i 0=p[i]:=by simp[Array.getD,gK]
 rw[e];have m:p[i]∈(List.range n).toArray:=(h.mem_iff).mp (Array.getElem_mem gK);simpa using m
theorem wH{q:Array Nat}(h:p[i]?=q[j]?):KR rk p i=KR rk q j:=by
 have e:∀ (x:Array Nat) (k:Nat),x.getD k 0=(x[k]?).getD 0:=λx k=>by simp
 unfold KR;rw[e,e,h]
theorem Av(hj:j<=p.size)(k:Nat):KR rk (kas_rev p i j) k=if i<=k/\k < j then KR rk p (i+j - 1 - k)else KR rk p k:=by
 have e:=getElem?_mirror_all (xs:=p) (i:=i) hj k;unfold kas_rev
 by_cases h:i<=k/\k < j
 .rw[if_pos h]at e ⊢
  exact wH e
 .rw[if_neg h]at e ⊢
  exact wH e
theorem Ml{src d:Nat}(hs:src < p.size)(hd:d<=src)(k:Nat):KR rk (bubble p src d) k=if k=src - d then KR rk p src else if src - d < k/\k<=src then KR rk p (k - 1)else KR rk p k:=by
 have e:=getElem?_bubble hs d hd k
 by_cases h1:k=src - d
 .rw[if_pos h1]at e ⊢; exact wH e
 .rw[if_neg h1]at e ⊢
  by_cases h2:src - d < k/\k<=src
  .rw[if_pos h2]at e ⊢; exact wH e
  .rw[if_neg h2]at e ⊢; exact wH e
theorem Pm.rev(h:Pm n p)(i j:Nat):Pm n (kas_rev p i j):=(mirror_perm p i j _).trans h
theorem Pm.bubble(h:Pm n p)(i d:Nat):Pm n (PyProof.Rows.bubble p i d):=(bubble_perm p i d).trans h
def Up(rk:Nat->Int)(p:Array Nat)(m:Nat):Prop:=∀ i j,i<=j->j < m->KR rk p i<=KR rk p j
def Dn(rk:Nat->Int)(p:Array Nat)(m:Nat):Prop:=∀ i j,i<=j->j < m->KR rk p j<=KR rk p i
theorem Up.more(h:Up rk p m)(h1:1<=m)(hm:KR rk p (m - 1)<=KR rk p m):Up rk p (m+1):=λi j fG hj=>by
 by_cases e:j=m
 .subst e
  by_cases e2:i=j
  .subst e2; exact Ø _
  .exact õ (h i (j - 1) (by omega) (by omega)) hm
 .exact h i j fG (by omega)
theorem Dn.more(h:Dn rk p m)(h1:1<=m)(hm:KR rk p m<=KR rk p (m - 1)):Dn rk p (m+1):=λi j fG hj=>by
 by_cases e:j=m
 .subst e
  by_cases e2:i=j
  .subst e2; exact Ø _
  .exact õ hm (h i (j - 1) (by omega) (by omega))
 .exact h i j fG (by omega)
theorem xB(c:rk i < rk j):i9 rk i j=true:=decide_eq_true c
theorem xC(c:¬rk i < rk j):i9 rk i j=false:=decide_eq_false c
theorem LM(hp:Pm n p){Q:Nat->Prop}:∀ (f m:Nat),1<=m->m+f<=n->Up rk p m->(∀ m',m<=m'->m'<=m+f->Up rk p m'->(m' < m+f->KR rk p m' < KR rk p (m' - 1))->Q m')->dR (i9 rk) n (kas_asc p f m) Q:=by
 intro f
 induction f with
 | zero=>exact λm _ _ hu h=>h m (qe _) (qe _) hu λz=>absurd z<|Í _
 | succ f ih=>
  intro m h1 hf hu h;refine⟨hp.lt (by omega),hp.lt (by omega),?_⟩
  by_cases c:rk (p.getD m 0) < rk (p.getD (m - 1) 0)
  .rw[xB c]
   dsimp only;rw[if_pos rfl];exact h m (qe _) (by omega) hu λ_=>c
  .rw[xC c]
   dsimp only;rw[if_neg qf];exact ih (m+1) (by omega) (by omega) (hu.more h1<|Int.not_lt.mp c) λm' a b c2 d=>h m' (by omega) (by omega) c2 λz=>d (by omega)
def yu(rk:Nat->Int)(p:Array Nat)(m q:Nat):Prop:=q+1<=m/\∀ i,m - (q+1)<=i->i < m->KR rk p i=KR rk p (m - 1)
theorem OP(h:1<=m):yu rk p m 0:=⟨h,λi a b=>by
 have:i=m - 1:=by omega
 rw[this]⟩
theorem Lg{q:Nat}(hm:m<=p.size)(h:yu rk p m q)(k:Nat):KR rk (kas_rev p (m - (q+1)) m) k=KR rk p k:=by
 rw[Av hm];split
 .rw[h.2 _ (by omega) (by have:=h.1; omega),h.2 k (by omega) (by omega)]
 .rfl
theorem Dn.congr{p':Array Nat}(h:Dn rk p m)(e:∀ k,KR rk p' k=KR rk p k):Dn rk p' m:=λi j fG hj=>by
 rw[e,e];exact h i j fG hj
theorem Y1{Q:Array Nat×Nat×Nat->Prop}:∀ (f:Nat) (p:Array Nat) (m q:Nat),Pm n p->1<=m->m+f<=n->Dn rk p m->yu rk p m q->
  (∀ p' m' q',Pm n p'->1<=m'->m'<=m+f->Dn rk p' m'->yu rk p' m' q'->Q (p',m',q'))->dR (i9 rk) n (kas_desc f p m q) Q:=by
 intro f
 induction f with
 | zero=>exact λp m q hp h1 _ hd he h=>h p m q hp h1 (qe _) hd he
 | succ f ih=>
  intro p m q hp h1 hf hd he h;have hs:=hp.size;refine⟨hp.lt (by omega),hp.lt (by omega),?_⟩
  by_cases c:rk (p.getD m 0) < rk (p.getD (m - 1) 0)
  .rw[xB c]
   dsimp only;rw[if_pos rfl];have hd2:Dn rk p (m+1):=hd.more h1 (Ö c);have one:∀ x:Array Nat,yu rk x (m+1) 0:=λx=>OP (by omega)
   by_cases hq:q > 0
   .rw[if_pos hq]
    have e:=Lg (by omega) he;exact ih _ (m+1) 0 (hp.rev _ _) (by omega) (by omega) (hd2.congr e) (one _) λp' m' q' a b c d e=>h p' m' q' a b (by omega) d e
   .rw[if_neg hq]
    exact ih p (m+1) 0 hp (by omega) (by omega) hd2 (one _) λp' m' q' a b c d e=>h p' m' q' a b (by omega) d e
  .rw[xC c]
   dsimp only;rw[if_neg qf];refine⟨hp.lt (by omega),hp.lt (by omega),?_⟩
   by_cases c2:rk (p.getD (m - 1) 0) < rk (p.getD m 0)
   .rw[xB c2]
    dsimp only;rw[if_pos rfl];exact h p m q hp h1 (by omega) hd he
   .rw[xC c2]
    dsimp only;rw[if_neg qf];have eq:KR rk p m=KR rk p (m - 1):=Int.le_antisymm (Int.not_lt.mp c2) (Int.not_lt.mp c);refine ih p (m+1) (q+1) hp (by omega) (by omega) (hd.more h1<|Int.le_of_eq eq) ⟨by have:=he.1; omega,λi a b=>?_⟩ λp' m' q' a b c d e=>h p' m' q' a b (by omega) d e;rw[show m+1 - 1=m by omega,eq]
    by_cases im:i=m
    .rw[im,eq]
    .exact he.2 i (by omega) (by omega)
def Run(rk:Nat->Int)(n:Nat)(r:Nat×Array Nat):Prop:=Pm n r.2/\r.1<=n/\Up rk r.2 r.1
theorem M4(hp:Pm n p)(h1:1<=m)(hm:m<=n)(hd:Dn rk p m){Q:Nat×Array Nat->Prop}(h:∀ r,Run rk n r->Q r):dR (i9 rk) n (kas_tail3 m n p) Q:=by
 have hs:=hp.size;refine dR.bind<|LM (hp.rev 0 m) (n - m) m h1 (by omega) (λi j fG hj=>?_) λm' a b c _=>h (m',_) ⟨hp.rev 0 m,by show m'<=n; omega,c⟩;rw[Av (by omega),Av (by omega),if_pos ⟨by omega,by omega⟩,if_pos ⟨by omega,hj⟩];exact hd _ _ (by omega) (by omega)
theorem NN(hp:Pm n p)(h1:1<=m)(hm:m+1<=n)(hd:Dn rk p (m+1)){Q:Nat×Array Nat->Prop}(h:∀ r,Run rk n r->Q r):dR (i9 rk) n (kas_descPart m n p) Q:=by
 refine dR.bind<|Y1 (n - (m+1)) p (m+1) 0 hp (by omega) (by omega) hd (OP (by omega)) λp' m' q' xK a b d e=>?_;have hs:=xK.size;show dR (i9 rk) n (if q' > 0 then _ else _) Q;split
 .exact M4 (xK.rev _ _) a (by omega) (d.congr<|Lg (by omega) e) h
 .exact M4 xK a (by omega) d h
theorem zmT(hp:Pm n p)(h1:1<=n){Q:Nat×Array Nat->Prop}(h:∀ r,Run rk n r->Q r):dR (i9 rk) n (kas_count n p) Q:=by
 have hs:=hp.size;refine dR.bind<|LM hp (n - 1) 1 (qe _) (by omega) (λi j fG hj=>by
  have:i=j:=by omega
  subst this; exact Ø _) λm a b u l=>?_
 by_cases e:m=n
 .rw[if_pos (by simpa using e)]
  exact h _ ⟨hp,by show m<=n; omega,u⟩
 rw[if_neg (by simpa using e)];have l:=l (by omega)
 by_cases m1:m > 1
 .rw[if_pos m1]
  refine⟨hp.lt (by omega),hp.lt (by omega),?_⟩
  by_cases c:rk (p.getD 0 0) < rk (p.getD (m - 1) 0)
  .rw[xB c]
   dsimp only;rw[if_pos rfl];exact h _ ⟨hp,by show m<=n; omega,u⟩
  .rw[xC c]
   dsimp only;rw[if_neg qf];have all:∀ i,i < m->KR rk p i=KR rk p 0:=λi hi=>Int.le_antisymm (õ (u i (m - 1) (by omega) (by omega))<|Int.not_lt.mp c)<|u 0 i (by omega) hi;have ek:∀ k,KR rk (kas_rev p 0 m) k=KR rk p k:=λk=>by
    rw[Av (by omega)];split
    .rw[all _ (by omega),all k (by omega)]
    .rfl
   refine NN (hp.rev 0 m) (by omega) (by omega) (Dn.congr (p:=p) (λi j fG hj=>?_) ek) h
   by_cases jm:j=m
   .subst jm
    by_cases ij:i=j
    .subst ij; exact Ø _
    .rw[all i (by omega),<-all (j - 1) (by omega)]
     exact Ö l
   .rw[all i (by omega),all j (by omega)]
    exact Ø _
 .rw[if_neg m1]
  have:m=1:=by omega
  subst this;refine NN hp (by omega) (by omega) (λi j fG hj=>?_) h
  by_cases ij:i=j
  .subst ij; exact Ø _
  .have e1:i=0:=by omega
   have e2:j=1:=by omega
   subst e1; subst e2;exact Ö l
theorem zmU{k:Nat}(hp:Pm n p)(hk:k < n){Q:Nat->Prop}(h:∀ l,l<=k->(∀ i,i < l->KR rk p i<=KR rk p k)->(∀ i,l<=i->i < k->KR rk p k<=KR rk p i)->Q l)(hu:Up rk p k):
  ∀ (f l r:Nat),l<=r->r<=k->r - l<=f->(∀ i,i < l->KR rk p i<=KR rk p k)->(∀ i,r<=i->i < k->KR rk p k<=KR rk p i)->dR (i9 rk) n (kas_place p k f l r) Q:=by
 intro f
 induction f with
 | zero=>exact λl r a b c d e=>h l (by omega) d λi hi=>e i (by omega)
 | succ f ih=>
  intro l r a b c d e;unfold kas_place
  by_cases g:l>=r
  .rw[if_pos g]
   exact h l (by omega) d λi hi=>e i (by omega)
  .rw[if_neg g]
   refine⟨hp.lt hk,hp.lt (by omega),?_⟩
   by_cases x:rk (p.getD k 0) < rk (p.getD ((l+r) / 2) 0)
   .rw[xB x]
    dsimp only;rw[if_pos rfl];exact ih l ((l+r) / 2) (by omega) (by omega) (by omega) d λi hi hik=>õ (Ö x)<|hu _ i hi hik
   .rw[xC x]
    dsimp only;rw[if_neg qf];exact ih ((l+r) / 2+1) r (by omega) (by omega) (by omega) (λi hi=>õ (hu i ((l+r) / 2) (by omega) (by omega))<|Int.not_lt.mp x) e
theorem LL{Q:Array Nat->Prop}(h:∀ p,Pm n p->Up rk p n->Q p):∀ (f:Nat) (p:Array Nat) (k:Nat),Pm n p->1<=k->k+f=n->Up rk p k->dR (i9 rk) n (kas_bin f p k) Q:=by
 intro f
 induction f with
 | zero=>exact λp k hp _ e hu=>h p hp (by rw[<-e]; exact hu)
 | succ f ih=>
  intro p k hp h1 e hu;have hs:=hp.size;refine dR.bind (zmU hp (by omega) (λl hl a b=>?_) hu k 0 k (by omega) (qe _) (by omega) (λi hi=>absurd hi<|Nat.not_lt_zero _) λi a b=>by omega);refine ih _ (k+1) (hp.bubble _ _) (by omega) (by omega) λi j fG hj=>?_;rw[Ml (by omega) (by omega),Ml (by omega) (by omega),show k - (k - l)=l by omega]
  by_cases il:i=l
  .rw[if_pos il]
   by_cases jl:j=l
   .rw[if_pos jl]; exact Ø _
   .rw[if_neg jl]
    split
    .exact b _ (by omega) (by omega)
    .omega
  .rw[if_neg il]
   by_cases jl:j=l
   .rw[if_pos jl]
    split
    .omega
    .exact a i (by omega)
   .rw[if_neg jl]
    split<;>split
    .exact hu _ _ (by omega) (by omega)
    .omega
    .exact hu _ _ (by omega) (by omega)
    .exact hu _ _ (by omega) (by omega)
theorem Y0(h2:1<=n){Q:Array Nat->Prop}(h:∀ p,Pm n p->Up rk p n->Q p):dR (i9 rk) n (kas_sort n) Q:=by
 refine dR.bind<|zmT (Array.Perm.refl _) h2 λr hZ=>?_;have(hp,hr,hu):=hZ;split
 .rename_i c
  by_cases z:r.1=0
  .rw[z]
   exact LL h (n - max 0 1) r.2 (max 0 1) hp (by decide) (by have:max 0 1=1:=rfl; omega) λi j fG hj=>by
    have:max 0 1=1:=rfl;have:i=j:=by omega
    subst this; exact Ø _
  .have e:max r.1 1=r.1:=by omega
   rw[e];exact LL h (n - r.1) r.2 r.1 hp (by omega) (by omega) hu
 .have:r.1=n:=by omega
  exact h _ hp (by rw[<-this]; exact hu)
end
end L2
namespace L2
open PySem PySem.Spec PyProof.Rows
open PySem.AutoSeq1 (wpAny_loadPart')
open MeetsSeq MeetsSeq2 MeetsSeq3 SeqRoads2
def de:Qa Int->Qa Int->Bool
 | [],[]=>false
 | [],_::_=>true
 | _::_,[]=>false
 | a::as,b::bs=>if a=b then de as bs else decide (a < b)
theorem YZ{a:Int}{t u:Tok}(h:Q (.bool<|decide<|a < b) s):wpAny (model prog w) A (richCompare .Lt (.int a t)<|.int b u) Q E s:=wpAny_lt_int h
theorem zmV(l b:Qg)(items bu:Array Qc)(n n2:Nat)(dd vB:Qb Qg)(sl vf:Array (Qb Qc))(xs ys:Qa Int):
  Meets (Builtin.«tuple.__lt__» ⟨[.ref l,.ref b],[]⟩)
   (λA R s=>s.heap.get? l=some {cls:=.type "tuple",dict:=dd,data:=.seq items n,slots:=sl}/\s.heap.get? b=some {cls:=.type "tuple",dict:=vB,data:=.seq bu n2,slots:=vf}/\
    IntsAre items.toList xs/\IntsAre bu.toList ys/\R (.ok<|.ret<|.bool<|de xs ys) s):=
 .of_wp λprog w A R s h=>by
  have(hp,g,d,tk,os):=s;have(hl,hb,i1,i2,h):=h;have f2:=AutoSeq1.sub_tuple_tuple
  wp_walk using wpAny_loadPart' hl,wpAny_loadPart' hb,wpAny_forIn_list _ (λdu b s'=>b.1=none/\s'=⟨hp,g,d,tk,os⟩/\∃ (vs us:Qa Qc) (as bs:Qa Int),du=vs.zip us/\IntsAre vs as/\IntsAre us bs/\(items.size < bu.size↔as.length < bs.length)/\
   R (.ok<|.ret<|.bool<|de as bs) ⟨hp,g,d,tk,os⟩) _
  case turn=>
   rintro⟨y,x⟩ du b s' ⟨jQ,rfl,vs,us,as,bs,hz,j1,j2,hn,hR⟩;cases j1 with
   | nil=>cases hz
   | @cons a t vs as j1=>
    cases j2 with
    | nil=>cases hz
    | @cons c u us bs j2=>
     rw[List.zip_cons_cons]at hz;injection hz with hyx xJ;injection hyx with e1 e2;subst e1 e2;refine qa<|wpAny_eqBool_int ?_
     by_cases e:a=c
     .subst e
      rw[beq_self_eq_true]
      wp_walk
      refine⟨rfl,rfl,vs,us,as,bs,xJ,j1,j2,?_,?_⟩
      .rw[hn,qt,qt]
       omega
      .simpa [de] using hR
     .rw[beq_eq_false_iff_ne.mpr e]
      wp_walk using YZ
      exact⟨_,rfl,by simpa [de,e] using hR⟩
  case fin=>
   rintro⟨b1,b2⟩ s' ⟨jQ,rfl,vs,us,as,bs,hz,j1,j2,hn,hR⟩;simp only at jQ;subst jQ
   wp_walk
   refine⟨_,rfl,?_⟩;have e:decide (items.size < bu.size)=de as bs:=by
    cases j1 with
    | nil=>
     cases j2 with
     | nil=>exact decide_eq_false λz=>absurd (hn.mp z)<|Í _
     | cons c u j2=>exact decide_eq_true<|hn.mpr<|Nat.zero_lt_succ _
    | cons a t j1=>
     cases j2 with
     | nil=>exact decide_eq_false λz=>absurd (hn.mp z)<|Nat.not_lt_zero _
     | cons c u j2=>cases hz
   show R (Except.ok<|Flow.ret<|Value.bool<|decide<|items.size < bu.size) _;rw[e];exact hR
  case h=>
   refine⟨rfl,rfl,items.toList,bu.toList,xs,ys,rfl,i1,i2,?_,h⟩;rw[<-IntsAre.length i1,<-IntsAre.length i2,Array.length_toList,Array.length_toList]
theorem zmW{l b:Qg}{items bu:Array Qc}{xs ys:Qa Int}(hl:s.heap.IsTuple l items)(hb:s.heap.IsTuple b bu)(i1:IntsAre items.toList xs)(i2:IntsAre bu.toList ys)(hu:A.units < cLine)
  (h:Q (.bool<|de xs ys) s):wpAny (model prog w) A (compareOp .Lt (.ref l)<|.ref b) Q E s:=by
 obtain⟨⟨cls,dd,data,sl⟩,ho,hc,n,hd⟩:=id hl;obtain⟨⟨HZ,vB,data2,vf⟩,tM,xX,n2,hd2⟩:=id hb;simp only at hc hd xX hd2;subst hc hd xX hd2;exact richCompare_meets_room (op:=.Lt) ⟨_,ho,rfl⟩ ⟨_,tM,rfl⟩ F.slot_tuple_lt F.entry_tuple_lt (F.args_tuple_lt_2 _ _) (zmV l b items bu n n2 dd vB sl vf xs ys) ⟨ho,tM,i1,i2,⟨(λx=>nomatch x),h⟩⟩ hu
end L2
namespace L2
open PySem PySem.Spec PySem.W PyProof.Rows
section
def zB1(prog:Qe)(w:Qh)(A:Qf)(rk:Nat->Int)(vs:Qa Qc)(κ:SortKind)(s:Qd):Prop :=
 ∀ i j (C:Bool->Qd->Prop),i < vs.length->j < vs.length->C (i9 rk i j) s->wpAny (model prog w) A (keyLt' κ (vs.getD i Value.none)<|vs.getD j Value.none) C (λ_ _=>False) s
theorem zjY{rk:Nat->Int}{vs:Qa Qc}{P:PySem.Fin->Qd->Prop}(ho:s.heap.get? a=some (seqObj "list" vs.toArray n))(HM:vs.length < 64)
  (hk:2<=vs.length->∀ h':Heap,(∀ b o,b≠a->s.heap.get? b=some o->h'.get? b=some o)->∀ Q:SortKind->Qd->Prop,(∀ κ,zB1 prog w A rk vs κ {s with heap:=h'}->Q κ {s with heap:=h'})->wpAny (model prog w) A (keyKind' vs.toArray) Q (λ_ _=>False) {s with heap:=h'})
  (h:∀ p:Array Nat,Pm vs.length p->Up rk p vs.length->P (.done<|.ret .none) {s with heap:=sortedHeap s.heap a vs (List.toArray<|p.toList.map λi=>vs.getD i Value.none)}):
  wpAny (model prog w) A (Builtin.«list.sort» ⟨[.ref a],[]⟩) P E s:=by
 have line:(64:Nat)<=sizeLine:=by decide
 have ha:a < s.heap.objs.size:=qh ho;obtain⟨e1,Pz⟩:∃ e1,(s.heap.update a<|Obj.mapSeq λ_=>#[]).get? a=some (seqObj "list" #[] e1):=⟨_,get?_update_seq ho λ_=>#[]⟩;have old:∀ b o,(s.heap.update a<|Obj.mapSeq λ_=>#[]).get? b=some o->(((s.heap.update a<|Obj.mapSeq λ_=>#[]).push<|seqObj "tuple" vs.toArray 0).push<|seqObj "list" #[] 0).get? b=some o :=
  λb o e=>qd _<|qd _ e
 have Cm:=old _ _ Pz;have keep:∀ b o,b≠a->s.heap.get? b=some o->(((s.heap.update a<|Obj.mapSeq λ_=>#[]).push<|seqObj "tuple" vs.toArray 0).push<|seqObj "list" #[] 0).get? b=some o :=
  λb o ne e=>old b o (by rw[Heap.get?_update_ne _ _ _ _ ne]; exact e)
 rw[list_sort_plain];refine qa<|listItems_at ho rfl<|qa<|listUpdate_at ho rfl (qa<|seqEpoch_at Pz rfl<|qa<|wpAny_newTuple (qa<|wpAny_newList (wpAny_holding ?_) ?_) ?_) ?_ ?_
 case refine_2=>exact É _
 case refine_3=>show vs.length<=_; omega
 case refine_4=>show vs.toArray.size<=_; rw[List.size_toArray]; omega
 case refine_5=>exact É _
 show wpAny (model prog w) A _ P E {s with heap:=((s.heap.update a<|Obj.mapSeq λ_=>#[]).push<|seqObj "tuple" vs.toArray 0).push (seqObj "list" #[] 0)};dsimp only;generalize hH:((s.heap.update a<|Obj.mapSeq λ_=>#[]).push<|seqObj "tuple" vs.toArray 0).push (seqObj "list" #[] 0)=h6 at *;have hsz:vs.toArray.size=vs.length:=by simp
 have fin:∀ p:Array Nat,Pm vs.length p->Up rk p vs.length->P (.done<|.ret .none) {s with heap:=h6.update a (Obj.mapSeq λ_=>List.toArray<|p.toList.map λi=>vs.getD i Value.none)}:=λp a1 a2=>by
  have:=h p a1 a2;unfold sortedHeap at this;rw[hH]at this;exact this
 by_cases h2:vs.toArray.size < 2
 .rw[if_pos h2,if_pos h2]
  refine qa<|qb ?_;rw[StateT.run_pure];refine qa<|qb ?_;dsimp only;have hz:(vs.toArray.zip vs.toArray).size=vs.length:=by simp
  have HF:arrOf (SortSt.mk' general' (vs.toArray.zip vs.toArray) #[] 7 none)=(List.range vs.length).toArray.map (kas_item<|vs.toArray.zip vs.toArray):=by
   have:=kas_range (vs.toArray.zip vs.toArray);rw[hz]at this;exact this.symm
  have e:=kat_snds (ks:=vs) (vs:=vs) rfl HF;rw[e];refine qa<|seqEpoch_at Cm rfl<|qa<|listUpdate_at Cm rfl ?_ ?_ ?_
  .show wpAny _ _ (if(e1 != e1)=true then _ else _) _ _ _
   rw[bne_self_eq_false,if_neg qf];refine qb<|fin _ (Array.Perm.refl _) λi j fG hj=>?_;have:i=j:=by omega
   subst this;exact Ø _
  .exact É _
  .rw[List.size_toArray,List.length_map]
   simp;omega
 .rw[if_neg h2,if_neg h2]
  have iI:2<=vs.length:=by omega
  refine qa<|wpAny_mono (hk iI h6 keep _ λκ ask=>?_) (λ_ _ x=>x) λ_ _ x=>x.elim;refine qa<|wpAny_mono (kat_run (ks:=vs) (Q:=λfu s'=>s'={s with heap:=h6}/\∃ p:Array Nat,Pm vs.length p/\Up rk p vs.length/\arrOf fu=p.map (kas_item<|vs.toArray.zip vs.toArray)/\failedOf fu=none) (G:=λp s'=>s'={s with heap:=h6}/\Pm vs.length p/\Up rk p vs.length) rfl iI HM
   (λp fu s' _ a2 a3 a4=>⟨a4.1,p,a4.2.1,a4.2.2,a2,a3⟩) (dR.wp (lt:=i9 rk) (n:=vs.length) ask (λp hp=>⟨rfl,hp⟩)<|Y0 (by omega) λp a1 a2=>⟨a1,a2⟩)) ?_ λ_ _ x=>x
  rintro⟨⟨⟩,fu⟩ s' ⟨rfl,p,a1,a2,HF,hf⟩;dsimp only;have e:=kat_snds (ks:=vs) (vs:=vs) rfl HF;rw[e,hf];refine qa<|seqEpoch_at Cm rfl<|qa<|listUpdate_at Cm rfl ?_ ?_ ?_
  .show wpAny _ _ (if(e1 != e1)=true then _ else _) _ _ _
   rw[bne_self_eq_false,if_neg qf];exact qb<|fin p a1 a2
  .exact É _
  .rw[List.size_toArray,List.length_map,Array.length_toList,a1.size]
   omega
end
theorem sC:∀ a:Qa Int,de a a=false
 | []=>rfl
 | a::as=>by unfold de; rw[if_pos rfl]; exact sC as
theorem uX:∀ {a b c:Qa Int},de a b=true->de b c=true->de a c=true
 | [],[],_,h,_=>by cases h
 | [],_::_,[],_,h=>by cases h
 | [],_::_,_::_,_,_=>rfl
 | _::_,[],_,h,_=>by cases h
 | _::_,_::_,[],_,h=>by cases h
 | a::as,b::bs,c::cs,h1,h2=>by
  unfold de at h1 h2 ⊢
  by_cases e1:a=b
  .subst e1
   rw[if_pos rfl]at h1
   by_cases e2:a=c
   .rw[if_pos e2]at h2 ⊢
    exact uX h1 h2
   .rw[if_neg e2]at h2 ⊢
    exact h2
  .rw[if_neg e1]at h1
   have l1:=of_decide_eq_true h1
   by_cases e2:b=c
   .subst e2
    rw[if_neg e1];exact h1
   .rw[if_neg e2]at h2
    have l2:=of_decide_eq_true h2;rw[if_neg (by omega)];exact decide_eq_true (by omega)
theorem wI:∀ {a b:Qa Int},a≠b->de a b=true\/de b a=true
 | [],[],h=>absurd rfl h
 | [],_::_,_=>.inl rfl
 | _::_,[],_=>.inr rfl
 | a::as,b::bs,h=>by
  unfold de
  by_cases e:a=b
  .subst e
   rw[if_pos rfl,if_pos rfl];exact wI λz=>h (by rw[z])
  .rw[if_neg e,if_neg λz=>e z.symm]
   rcases(by omega:a < b\/b < a)with z|z
   .exact .inl (decide_eq_true z)
   .exact .inr (decide_eq_true z)
theorem LK{p q:α->Bool}:∀ {l:Qa α} {x:α},(∀ y∈l,p y=true->q y=true)->x∈l->q x=true->p x=false->l.countP p < l.countP q
 | y::l,x,h,m,hq,hp=>by
  rw[List.countP_cons,List.countP_cons];have le:l.countP p<=l.countP q:=List.countP_mono_left λz hz=>h z<|qm _ hz;rcases qu.mp m with e|m
  .subst e
   rw[hp,hq];simp;omega
  .have:=LK (λz hz=>h z<|qm _ hz) m hq hp
   by_cases c:p y=true
   .rw[c,h y qo c]
    simp;omega
   .rw[if_neg c]
    split<;>omega
def pw(ps:Qa (Qa Int))(i:Nat):Int:=((List.range ps.length).countP λk=>de (ps.getD k []) (ps.getD i []):Nat)
theorem FQ{ps:Qa (Qa Int)}(hi:i < ps.length)(h:de (ps.getD i []) (ps.getD j [])=true):pw ps i < pw ps j:=by
 unfold pw;have:=LK (p:=λk=>de (ps.getD k [])<|ps.getD i []) (q:=λk=>de (ps.getD k [])<|ps.getD j []) (l:=List.range ps.length) (x:=i) (λy _ hy=>uX hy h) (Á.mpr hi) h (sC _);omega
theorem Ge{ps:Qa (Qa Int)}(h:ps.Nodup)(hi:i < ps.length)(hj:j < ps.length)(ne:i≠j):ps.getD i []≠ps.getD j []:=by
 have e:∀ k (hk:k < ps.length),ps.getD k []=ps[k]:=λk hk=>by simp[hk]
 rw[e i hi,e j hj];intro z;rcases Nat.lt_or_gt_of_ne ne with l|l
 .exact ë.mp h i j hi hj l z
 .exact ë.mp h j i hj hi l z.symm
theorem Vw{ps:Qa (Qa Int)}(h:ps.Nodup)(hi:i < ps.length)(hj:j < ps.length):i9 (pw ps) i j=de (ps.getD i []) (ps.getD j []):=by
 cases c:de (ps.getD i []) (ps.getD j [])with
 | true=>exact decide_eq_true<|FQ hi c
 | false=>
  refine decide_eq_false λz=>?_
  by_cases e:i=j
  .subst e; omega
  .rcases wI (Ge h hi hj e)with y|y
   .rw[c]at y; cases y
   .have:=FQ hj y
    omega
theorem Pm.list(h:Pm n p):p.toList.Perm (List.range n):=by
 have:=h.toList;simpa using this
theorem So{ps:Qa (Qa Int)}(h:ps.Nodup)(hp:Pm ps.length p)(hu:Up (pw ps) p ps.length):(p.toList.map λi=>ps.getD i []).Pairwise λa b=>de a b=true:=by
 have hs:=hp.size;have hl:=hp.list;have nd:p.toList.Nodup:=hl.nodup_iff.mpr List.nodup_range;refine á.mpr<|ë.mpr λi j hi hj fG=>?_;have e:∀ k (hk:k < p.toList.length),KR (pw ps) p k=pw ps p.toList[k]:=λk hk=>by
  unfold KR;have iH:k < p.size:=by simpa using hk
  congr 1;simp[Array.getD,iH]
 have m:∀ k (hk:k < p.toList.length),p.toList[k] < ps.length:=λk hk=>Á.mp<|hl.mem_iff.mp<|List.getElem_mem hk;have le:=hu i j (by omega) (by rw[Array.length_toList]at hj; omega);rw[e i hi,e j hj]at le;have ne:p.toList[i]≠p.toList[j]:=ë.mp nd i j hi hj fG;rcases wI (Ge h (m i hi) (m j hj) ne)with z|z
 .exact z
 .have:=FQ (m j hj) z
  omega
def pj(h:Heap)(v:Qc)(ns:Qa Int):Prop:=∃ (a b:Qg) (u:Qc) (ah:Array Qc),v=.ref a/\IsTup h a #[.ref b,u]/\IsTup h b ah/\IntsAre ah.toList ns
theorem LJ{ah:Array Qc}(t:IsTup h a ah)(k:∀ o,h.get? a=some o->h'.get? a=some o):IsTup h' a ah:=by
 have(o,e,r):=t;exact⟨o,k o e,r⟩
theorem F9:∀ {vs:Qa Qc} {ns:Qa Int},IntsAre vs ns->ItemsAre (zW prog w) (ns.map λn=>(Sum.inl n:Key)) vs
 | _,_,.nil=>.nil
 | _,_,.cons n t h=>.cons (show Value.isInt n (.int n t)=true by simp[Value.isInt])<|F9 h
theorem Fg{ms:Qa Int}:(ns.map λn=>(Sum.inl n:Key))=(ms.map λn=>(Sum.inl n:Key))↔ns=ms:=by
 constructor
 .intro h
  have:=congrArg (List.map λk:Key=>match k with | .inl n=>n | .inr _=>0) h;rw[List.map_map,List.map_map]at this;simpa [Function.comp_def] using this
 .rintro rfl; rfl
section
theorem zAA{v v':Qc}{B6:Qa Int}{C:Bool->Qd->Prop}(hu:A.units < cLine)(p:pj s.heap v ns)(p':pj s.heap v' B6)(ne:v=v'\/ns≠B6)(h:C (de ns B6) s):wpAny (model prog w) A (keyLt' (tuples' false) v v') C (λ_ _=>False) s:=by
 obtain⟨a,b,u,ah,rfl,⟨oa,ea,ca,na,da⟩,tb,ib⟩:=p;obtain⟨a',b',u',its',rfl,⟨oa',gM,ca',G5,HY⟩,O4,Pr⟩:=p';refine kat_lt ea da gM HY ?_;show KatLex prog w A false _ C [(.ref b,.ref b'),(u,u')] 0 s;have(ob,eb,cb,nb,db):=id tb;have(ob',eb',cb',nb',db'):=id O4;refine kat_cons<|wpAny_eqBool_tuple (knd:=zW prog w) hu ⟨ob,ah,nb,eb,cb,db,F9 ib⟩ ⟨ob',its',nb',eb',cb',db',F9 Pr⟩ ?_
 by_cases e:ns=B6
 .rw[decide_eq_true<|Fg.mpr e]
  rcases ne with z|z
  .cases z
   rw[ea]at gM;cases gM;rw[da]at HY;injection HY with d1 d2;have d3:=congrArg Array.toList d1;have e1:Value.ref b=.ref b'/\u=u':=by simpa using d3
   have(_,rfl):=e1;refine kat_yes<|kat_cons<|SeqAt.EqAt.same u prog w _ _<|kat_yes<|kat_nil ?_;subst e;rw[sC]at h;exact h
  .exact absurd e z
 .rw[decide_eq_false λz=>e<|Fg.mp z]
  refine kat_no<|kat_one _ _<|zmW tb O4 ib Pr hu ?_;exact h
end
theorem pj.kept{v:Qc}(p:pj h v ns)(k:∀ b o,h.get? b=some o->h'.get? b=some o):pj h' v ns:=by
 have(a,b,u,ah,e,ta,tb,i):=p;exact⟨a,b,u,ah,e,LJ ta<|k a,LJ tb<|k b,i⟩
theorem Mj:∀ {vs:Qa Qc},(∀ v∈vs,∃ ns,pj h v ns)->∃ fs,KatTups h vs fs/\fs.length=vs.length/\∀ f∈fs,∃ (b:Qg) (ah:Array Qc),f=.ref b/\IsTup h b ah
 | [],_=>⟨[],.nil,rfl,λf hf=>by cases hf⟩
 | v::vs,hv=>by
  have(fs,k,l,q):=Mj (vs:=vs) λx hx=>hv x<|qm _ hx;obtain⟨ns,a,b,u,ah,rfl,⟨o,eo,co,n,dO⟩,tb,_⟩:=hv v qo;refine⟨.ref b::fs,.cons eo co dO rfl k,by rw[qt,qt,l],λf hf=>?_⟩;rcases qu.mp hf with e|hf
  .exact⟨b,ah,e,tb⟩
  .exact q f hf
def V6(K:qc)(H:Hp)(vs:Qa V)(ps:Qa (Qa Int)):Prop:=vs.length=ps.length/\∀ i v,vs[i]?=some v->∃ (a b:Qg) (y:V),v=.ref a/\bz K H a [.ref b,y]/\bz K H b ((ps.getD i []).map V.int)
def J3(K:qc):Qa V->Hp->VK->Prop:=λxs H Q=>∃ (l:Qg) (vs:Qa V) (ps:Qa (Qa Int)),xs=[.ref l]/\bA K H l vs/\vs.length < 64/\V6 K H vs ps/\ps.Nodup/\
 ∀ (is:Qa Nat) r,is.Perm (List.range vs.length)->(is.map λi=>ps.getD i []).Pairwise (λa b=>de a b=true)->H r=none->Q (.ref r) (upd H r<|.lst<|is.map λi=>vs.getD i .aI)
theorem Mi(r:zM vs us):∀ is:Qa Nat,(∀ i∈is,i < vs.length)->zM (is.map λi=>vs.getD i .aI) (is.map λi=>us.getD i Value.none)
 | [],_=>.nil
 | i::is,h=>by
  have hi:=h i qo;have(u,e,ru):=r.get (ql hi);refine .cons ?_<|Mi r is λj hj=>h j<|qm _ hj;show zO (vs.getD i .aI) (us.getD i Value.none);rw[qA,qA,ql hi,e];exact ru
section
variable{X:Cx}
theorem M3(K:qc)(hK:X.K=K){k:Nat}(hr:aH k X.A):e8 X (.builtin "sorted") (J3 K):=by
 subst hK;intro pins s σ H xs us Q I r h;obtain⟨l,vs,ps,rfl,hl,HM,⟨lp,hp⟩,nd,q⟩:=h;have(u,rfl,ru):=ju r;cases ru;obtain⟨ah,rv,⟨o,n,eo,co,_,dO⟩,_⟩:=I.list hl;have line:(64:Nat)<=sizeLine:=by decide
 have lv:ah.length=vs.length:=rv.length.symm;have pr:∀ i,i < ah.length->pj s.heap (ah.getD i Value.none) (ps.getD i []):=λi hi=>by
  have gK:i < vs.length:=by omega
  have(a,b,y,ev,ha,hb):=hp i _ (ql gK);have(u,eu,ru):=rv.get (ql gK);rw[ev]at ru;cases ru;have(ia,ra,ta,_):=I.tuple ha;have(u1,u2,rfl,r1,r2):=ra.two;cases r1;have(ib,rb,tb,_):=I.tuple hb;refine⟨a,b,u2,ib.toArray,?_,ta,tb,MZ rb⟩;rw[qA,eu];rfl
 refine Calls.call_function_entry kind_sorted plain_sorted entry_sorted (args_sorted1 _) ?_;unfold Builtin.«sorted»;refine qa (m:=checkCount "sorted" 1 1 _)<|qb ?_;refine qa<|collect_list (vs:=ah) ⟨o,eo,co,n,dO⟩ (qa<|wpAny_newList ?_ ?_) (by omega)
 case refine_2=>omega
 generalize hH:(s.heap.push<|seqObj "list" #[] 0).update s.heap.objs.size (Obj.mapSeq (·++ah.toArray))=h1 at *;have hsz:h1.objs.size=s.heap.objs.size+1:=by rw[<-hH,Heap.size_update,size_push']
 have qG:∀ b o,s.heap.get? b=some o->h1.get? b=some o:=λb o e=>by
  have fW:b < s.heap.objs.size:=qh e;rw[<-hH,Heap.get?_update_ne _ _ _ _<|qj fW,Heap.get?_push_ne _ _ _<|qj fW];exact e
 have I1:Inv X pins σ H {s with heap:=h1,toks:=s.toks}:=I.kept qG;have oO:(h1.push<|seqObj "list" ah.toArray 0).get? h1.objs.size=some (seqObj "list" ah.toArray 0):=qg _ rfl;have hu:X.A.units+64 < cLine:=hr.units;refine qa<|wpAny_holding<|wpAny_call_entry slot_list_sort ⟨_,oO,rfl⟩ entry_list_sort (zjY (rk:=pw ps) (s:={s with heap:=h1.push (seqObj "list" ah.toArray 0)}) oO (by omega) (λh2 h' kp Q' hQ=>?_) λp a1 a2=>⟨_,rfl,?_⟩)<|args_list_sort _
 .have kp':∀ b o,s.heap.get? b=some o->h'.get? b=some o:=λb o e=>by
   have fW:b < s.heap.objs.size:=qh e;exact kp b o (qj (by rw[hsz]; exact à fW))<|qd _<|qG b o e
  have GR:∀ i,i < ah.length->pj h' (ah.getD i Value.none) (ps.getD i []):=λi hi=>(pr i hi).kept kp';have(fs,kt,lf,tf):=Mj (h:=h') (vs:=ah) λv hv=>by
   have(i,hi,e):=List.getElem_of_mem hv;have:=GR i hi;rw[show ah.getD i Value.none=v by simp[hi,e]]at this;exact⟨_,this⟩
  refine kat_kind (fs:=fs) (T:=.type "tuple") kt (by omega) (λv hv=>?_) (by decide) ?_
  .have(b,ib,rfl,o,eo,co,_):=tf v hv
   rw[<-co];exact(Looks.ld eo).andThen .now
  .refine hQ _ λi j C hi hj hc=>?_
   rw[Vw nd (by omega) (by omega)]at hc;refine zAA (by show X.A.units+1+1 < cLine; omega) (GR i hi) (GR j hj) ?_ hc
   by_cases e:i=j
   .exact .inl (by rw[e])
   .exact .inr (Ge nd (by omega) (by omega) e)
 .refine qb ⟨_,rfl,?_⟩
  have(en,ho):=sortedHeap_at (vs:=ah) (out:=List.toArray (p.toList.map λi=>ah.getD i Value.none)) oO;have fresh:H h1.objs.size=none:=I1.aw.fresh (qe _);have perm:p.toList.Perm (List.range vs.length):=by
   have:=a1.list;rw[lv]at this;exact this
  have mem:∀ i∈p.toList,i < vs.length:=λi hi=>Á.mp<|perm.mem_iff.mp hi;have lm:p.toList.length=vs.length:=by
   have:=perm.length_eq;simpa using this
  rw[lv,lp]at a1 a2;refine⟨.ref h1.objs.size,_,I1.laid (t':=s.toks) (a:=h1.objs.size) (o:=.lst (p.toList.map λi=>vs.getD i .aI)) (λb o e=>?_) (qe _) ⟨by rw[List.length_map]; omega,p.toList.map λi=>ah.getD i Value.none,en,Mi rv p.toList mem,by simpa using ho⟩,rfl,q p.toList _ perm (So nd a1 a2) fresh⟩;have hb:b < h1.objs.size:=qh e;rw[sortedHeap_old (qj hb) (by rw[Heap.size_push]; exact à hb)];exact qd _ e
end
end L2
namespace L2
open PySem PySem.Spec PyProof.Rows
def gX(h:Heap)(d:Qg)(es:Array DictEntry)(ep:Nat):Prop:=∃ o,h.get? d=some o/\o.ExactDict/\o.data=.dict es ep
theorem gX.typeIs(r:gX s.heap d es ep):s.TypeIs (.ref d) "dict":=by
 have(o,e,x,_):=r;exact⟨o,e,x.1⟩
section
theorem Xy(hd:(d==sysModules)=false)(r:gX s.heap d es ep)
  (q:∀ h':Heap,h'.IsKeyIter s.heap.objs.size d 0 es.size ep->(∀ b o,s.heap.get? b=some o->h'.get? b=some o)->Q (.ref s.heap.objs.size) {s with heap:=h'}):wpAny (model prog w) A (pyIter<|.ref d) Q E s:=by
 have hT:=r.typeIs;have(o,e,_,dat):=r;refine wpAny_pyIter_slot hT F.slot_dict_iter<|wpAny_call_entry F.slot_dict_iter hT F.entry_dict_iter ?_<|F.args_dict_iter_1 _;unfold Builtin.«dict.__iter__»;refine qa ?_;unfold Builtin.Dict.dictSlotNone;refine qa<|wpAny_notOrdered_dict hT<|qb ?_;show wpAny _ _ (Builtin.Dict.showsAll d >>= _) _ _ s;unfold Builtin.Dict.showsAll;rw[hd,if_neg qf];refine qa<|qb<|qa<|wpAny_dictEntries e dat<|qa<|wpAny_dictEpoch e dat<|qa<|qy<|qb ⟨_,rfl, "dict_keyiterator",_,⟨_,qg _ rfl,rfl⟩,Ú.lookup,?_⟩;exact q _ ⟨_,qg _ rfl,rfl,by simp[rawInt]⟩ λb o z=>qd _ z
theorem Xx{Q:Qb Qc->Qd->Prop}(k:s.heap.IsKeyIter it d i es.size ep)(r:gX s.heap d es ep){x:DictEntry}(hx:es[i]?=some x)
  (q:∀ h':Heap,h'.IsKeyIter it d (i+1) es.size ep->Heap.SameBut it s.heap h'->Q (some x.key) {s with heap:=h'}):wpAny (model prog w) A (pyNext<|.ref it) Q E s:=by
 have kT:=k.typeIs;have(oi,ei,ci,fi):=id k;have(o,e,_,dat):=r;unfold pyNext;refine qa<|wpAny_attempt (wpAny_callSpecial?_slot (name:=Str.ofString "__next__") kT Ú
  (wpAny_call_entry Ú kT F.entry_dict_keyiterator_next ?_<|F.args_dict_keyiterator_next_1 _))
 refine qa<|qb<|qa<|qa ?_;refine qa<|wpAny_typeNameOfWhole_keyiter kT<|qb<|qa<|wpAny_fieldsOf ei fi ?_;simp only[show Builtin.Dict_items.ownsTuple "dict_keyiterator"=false by decide,Bool.false_eq_true,if_false];show wpAny _ _ (if(Value.ref d==Value.none)=true then _ else _) _ _ s;rw[if_neg (show ¬((Value.ref d==Value.none)=true) from qf)];refine qa<|qb<|qa<|wpAny_dictEntries e dat ?_;rw[if_neg (by simp)];refine qa<|qb<|qa<|wpAny_dictEpoch e dat ?_;rw[if_neg (by simp)];refine qb ?_;simp only[show ¬((i:Int) < 0) from by omega,if_false,Int.toNat_natCast,hx];refine qa<|qa<|wpAny_typeNameOfWhole_keyiter kT<|qb<|qa<|wpAny_isOneOf_keyiter kT ?_;show wpAny _ _ (setField (.ref it) 1 (rawInt<|(i:Int)+1) >>= _) _ _ s;refine qa<|wpAny_setField ei fi (by simp) ?_;have k':(s.heap.update it<|Obj.mapFields (·.setIfInBounds 1 (rawInt<|(i:Int)+1))).IsKeyIter it d (i+1) es.size ep :=
  ⟨_,é _ ei<|ô<|ÿ fi _,(Obj.cls_mapFields ..).trans ci,by rw[Obj.data_mapFields fi]; simp[rawInt]⟩
 refine qa<|wpAny_holding<|qa<|wpAny_isOneOf_keyiter (s:={s with heap:=s.heap.update it (Obj.mapFields (·.setIfInBounds 1 (rawInt<|(i:Int)+1)))}) k'.typeIs ?_;show wpAny _ _ (pure x.key) _ _ _;exact qb<|qb ⟨_,rfl,qb<|q _ k'<|Ñ ..⟩
theorem V5{Q:Qb Qc->Qd->Prop}(hh:A.handled=none)(k:s.heap.IsKeyIter it d i es.size ep)(r:gX s.heap d es ep)(hx:es.size<=i)
  (q:∀ h':Heap,Heap.ExtBut it s.heap h'->Q none {s with heap:=h'}):wpAny (model prog w) A (pyNext<|.ref it) Q E s:=by
 have kT:=k.typeIs;have(oi,ei,ci,fi):=id k;have(o,e,_,dat):=r;unfold pyNext;refine qa<|wpAny_attempt (wpAny_callSpecial?_slot (name:=Str.ofString "__next__") kT Ú
  (wpAny_call_entry Ú kT F.entry_dict_keyiterator_next ?_<|F.args_dict_keyiterator_next_1 _))
 refine qa<|qb<|qa<|qa ?_;refine qa<|wpAny_typeNameOfWhole_keyiter kT<|qb<|qa<|wpAny_fieldsOf ei fi ?_;simp only[show Builtin.Dict_items.ownsTuple "dict_keyiterator"=false by decide,Bool.false_eq_true,if_false];show wpAny _ _ (if(Value.ref d==Value.none)=true then _ else _) _ _ s;rw[if_neg (show ¬((Value.ref d==Value.none)=true) from qf)];refine qa<|qb<|qa<|wpAny_dictEntries e dat ?_;rw[if_neg (by simp)];refine qa<|qb<|qa<|wpAny_dictEpoch e dat ?_;rw[if_neg (by simp)];refine qb ?_;simp only[show ¬((i:Int) < 0) from by omega,if_false,Int.toNat_natCast,Array.getElem?_eq_none hx];refine qa<|qa<|wpAny_typeNameOfWhole_keyiter kT<|qb ?_;show wpAny _ _ (setField (.ref it) 0 .none >>= _) _ _ s;refine qa<|wpAny_setField ei fi (by simp) ?_;show wpAny _ _ (newExc (.type "StopIteration") [] >>= _) _ _ _;refine qa ?_;simp only[newExc,newTuple];refine qa<|qy ?_ (by show(0:Nat)<=sizeLine; exact É _);refine qa (m:=firstArgMember _ _)<|wpAny_of_eq (a:=Value.none) (by first|rfl | (simp only[firstArgMember]; rfl)) ?_;refine qy ?_ (by first|trivial|size_fits);simp only[raiseNew];refine qa<|wpAny_handled ?_;rw[show A.in1.handled=none from hh];refine qa<|qb<|wpAny_throw ?_;refine qa<|wpAny_isInstance (T := "StopIteration") (b:=true) ⟨_,qg _ rfl,rfl⟩ isSubtype_stop ?_;exact qb<|q _<|((Ñ ..).extBut.push _).push _
end
theorem F8{R:α->β->Prop}:∀ {xs:Qa α} {ys:Qa β},Paired R xs ys->∀ (i:Nat) (x:α),xs[i]?=some x->∃ y,ys[i]?=some y/\R x y
 | _,_,.nil,i,x,h=>by simp at h
 | _,_,.cons r _,0,x,h=>by
  cases(show some _=some x from h);exact⟨_,rfl,r⟩
 | _,_,.cons _ t,i+1,x,h=>F8 t i x h
theorem wQ{R:α->β->Prop}:∀ {xs:Qa α} {ys:Qa β},Paired R xs ys->xs.length=ys.length
 | _,_,.nil=>rfl
 | _,_,.cons _ t=>by rw[qt,qt,wQ t]
theorem Ft{X:Cx}{o:Obj}(I:Inv X pins σ H s)(e:H a=some (.aQ o<|.dT kvs)):
  (a==sysModules)=false/\∃ (es:Array DictEntry) (ep:Nat),s.heap.get? a=some o/\o.ExactDict/\o.data=.dict es ep/\es.size=kvs.length/\∀ (i:Nat) (k:Qa Key) (v:V),kvs[i]?=some (k,v)->∃ (b:Qg) (x:DictEntry),es[i]?=some x/\x.key=.ref b/\aV X.K H b (k.map kV):=by
 have(ea,z,y,xs,r,o',es,ep,h1,h2,h3,h4,h5):=(show bR X.prog X.w X.K H s.heap a (.aQ o<|.dT kvs) from I.aw a _ e);rw[ea]at h1;cases h1;refine⟨y,es,ep,ea,h2,h3,?_,λi k v hi=>?_⟩
 .have:=congrArg List.length h4
  rw[Array.length_toList,List.length_map,<-wQ r]at this;exact this
 .have(q,hq,r1,r2,_):=F8 r i (k,v) hi
  refine⟨q.2.1,entryOfKey (tupleKind<|zW X.prog X.w) q,?_,rfl,r2⟩;have:es.toList[i]?=some (entryOfKey (tupleKind<|zW X.prog X.w) q):=by rw[h4,List.getElem?_map,hq]; rfl
  simpa using this
def CI(K:qc)(a:Qg)(o:Obj)(kvs:Qa (Qa Key×V)):It :=
 ⟨λi H=>H a=some (.aQ o<|.dT kvs)/\i < kvs.length,λi H x H'=>H'=H/\∀ k v,kvs[i]?=some (k,v)->∃ b,x=.ref b/\aV K H b (k.map kV),λi H=>H a=some (.aQ o<|.dT kvs)/\kvs.length<=i⟩
theorem zmX(a it:Qg)(o:Obj)(kvs:Qa (Qa Key×V))(ep:Nat)(qP:∃ es,o.data=.dict es ep):Turn P w K tg (CI K a o kvs) [it] it (λi h=>h.IsKeyIter it a i kvs.length ep) where
 mem:=by simp
 obj:=λi h st b hb=>by
  have e:b=it:=by simpa using hb
  subst e;have(oi,e,c,d):=st;exact⟨oi,e,λv z=>by rw[d]at z; cases z⟩
 keep:=λi h h' st k=>st.at λoi e=>k it (by simp) oi e
 item:=by
  intro X hP hw hK hc i pins s σ H E I hf st hg;subst hP hw hK;have(e,hi):=hg;have(lG,es,dM,ea,xd,dat,hsz,ent):=Ft I e;have lO:dM=ep:=by
   have(lN,z):=qP;rw[dat]at z;injection z
  subst lO;have(f0,f1,f2,f3,f4,f5):=hf it (by simp);have(b,x,ex,kx,hb):=ent i kvs[i].1 kvs[i].2 (ql hi);refine Xx (es:=es) (by rw[hsz]; exact st) ⟨o,ea,xd,dat⟩ ex λh' fu sb=>?_;have I1:Inv X pins σ H {s with heap:=h'}:=I.turned (t':=s.toks) (λb o hb e=>(sb.2 b hb).trans e) f0 f1 f3 f4 f5;have(oi,e',c',d'):=id fu;rw[kx];refine⟨.ref b,rfl,vZ (s:={s with heap:=h'}) e' c' d' (by decide) ⟨.ref b,H,I1,rfl,⟨rfl,λk v jd=>⟨b,rfl,?_⟩⟩,by rw[hsz]at fu; exact fu,λb hb=>(hf b hb).1⟩⟩;rw[ql hi]at jd;rw[qw jd]at hb;exact hb
 done:=by
  intro X hP hw hK hc i pins s σ H E I hf st hg;subst hP hw hK;have(e,hi):=hg;have(lG,es,dM,ea,xd,dat,hsz,ent):=Ft I e;have lO:dM=ep:=by
   have(lN,z):=qP;rw[dat]at z;injection z
  subst lO;have(f0,f1,f2,f3,f4,f5):=hf it (by simp);exact V5 (es:=es) (I.ok.hd hc) (by rw[hsz]; exact st) ⟨o,ea,xd,dat⟩ (by omega) λh' eb=>⟨rfl,I.turned (t':=s.toks) (λb o hb e=>eb b o hb e) f0 f1 f3 f4 f5⟩
 self:=λ_ _ _ _ _ st h=>wpAny_pyIter_keyiter st h
section
variable{X:Cx}
theorem Inv.freeze(I:Inv X pins σ H s)(e:H a=some (.dT kvs)):∃ o,s.heap.get? a=some o/\Inv X pins σ (upd H a<|.aQ o<|.dT kvs) s:=by
 have ok:=(show bR X.prog X.w X.K H s.heap a (.dT kvs) from I.aw a _ e);have(z,y,xs,r,o,es,ep,h1,h2):=id ok;refine⟨o,h1,?_⟩;have xq:bR X.prog X.w X.K (upd H a<|.aQ o<|.dT kvs) s.heap a (.dT kvs):=ok.cK (λ_ _ _ q=>q) (λb q=>by rw[zy<|nB q e (by intro z; cases z)]; exact q) λb ys q=>by rw[zy<|nB q e (by intro z; cases z)]; exact q
 exact I.write (t':=s.toks) (h':=s.heap) (by rw[e]; trivial) (.inl rfl) (λ_ _ _ q=>q) ⟨o,h1⟩ ⟨h1,xq⟩
def J2(K:qc)(td:TE):TI:=λσ H R=>td σ H λx H1=>∃ a kvs,x=.ref a/\((H1 a=some (.dT kvs)/\∀ o,R (CI K a o kvs)<|upd H1 a<|.aQ o<|.dT kvs)\/∃ o,H1 a=some (.aQ o<|.dT kvs)/\R (CI K a o kvs) H1)
theorem uU{d:Expr}(hd:Wr (PE X d td)):Wr (PI X tg d<|J2 X.K td):=by
 refine⟨?_⟩;intro pins s σ H R I h;refine aD (hd.run pins s σ H _ I h) λv s1 hZ=>?_;have(x,H1,I1,r1,q1):=hZ;have(a,kvs,e,q):=q1;subst e;cases r1;have key:∀ (H2:Hp) (o:Obj),Inv X pins σ H2 s1->H2 a=some (.aQ o<|.dT kvs)->R (CI X.K a o kvs) H2->wpAny (model X.prog X.w) X.A (pyIter<|.ref a) (Ie X pins σ tg R) X.xe s1:=λH2 o I2 e2 q2=>by
  have(lG,es,ep,ea,xd,dat,hsz,_):=Ft I2 e2;refine Xy (es:=es) lG ⟨o,ea,xd,dat⟩ λh' hit kk=>?_;refine⟨s1.heap.objs.size,[s1.heap.objs.size],_,_,H2,rfl,I2.kept (t':=s1.toks) kk,zmX a s1.heap.objs.size o kvs ep ⟨es,dat⟩,by rw[<-hsz]; exact hit,λb hb=>?_,q2⟩;have e:b=s1.heap.objs.size:=by simpa using hb
  subst e;exact I2.cM (qe _)<|I2.aw.fresh<|qe _
 rcases q with⟨e1,q⟩|⟨o,e1,q⟩
 .have(o,_,I2):=I1.freeze e1
  exact key _ o I2 zw<|q o
 .exact key H1 o I1 e1 q
end
end L2
namespace L2
open PySem PySem.Spec PyProof.Rows
open PySem.W (Looks)
def zB2(C p:Qg):Obj:={cls:=.ref C,data:=.fields #[.ref p,.none,.none,.none,.bool false,.none]}
section
variable{g:Array GenState}{d:Drawn}{t:Nat}{os:OsState}
variable{nm q:Str}{C N:Qg}{bs bm bmB:Qa Qc}{tP:Bool}{sn:Qa Str}{sub:Qa Qc}{ab:Bool}{col:Qb Bool}{dd:Qb Qg}{k0 k1 k2 k3 k5:Qb Qc}{B newId He:String}
end
abbrev Gw:Qa Qc:=[.type "ValueError",.type "Exception",.type "BaseException",.type "object"]
structure XC (K:qc) (C:Qg):Prop where
 at_:∃ nm q N bs bm sn sub ab col dd k0 k1 k2 k3 k5,K.lookup C=some (excClassObj nm q C N bs bm true sn sub ab col dd k0 k1 k2 k3 k5 "ValueError.__new__")/\PySem.W.tailIn K Gw bm=true
 ga:PySem.W.findIn K (.ref C) "__getattribute__"=some (some<|.builtin "BaseException.__getattribute__")
 gh:PySem.W.findIn K (.ref C) "__getattr__"=some none
 sa:PySem.W.findIn K (.ref C) "__setattr__"=some (some<|.builtin "object.__setattr__")
section
variable{C x:Qg}
end
end L2
namespace L2
open PySem PySem.Spec PyProof.Rows
open PySem.W (Looks InstAt)
section
variable{C x:Qg}
end
end L2
namespace L2
open PySem PySem.Spec PyProof.Rows
open PySem.W (Looks InstAt)
structure XI (K:qc) (C:Qg):Prop where
 cl:XC K C
 ca:PySem.W.findIn K (.ref C) "__class__"=some (some<|.builtin "object.__class__")
 cg:PySem.W.specialIn K (.builtin "object.__class__") "__get__"=some (some<|.builtin "getset_descriptor.__get__")
 ct:PySem.W.takesIn K (.builtin "object.__class__")=some true
 cm:PySem.W.mroIn K C (.type "object")=some true
section
variable{C x:Qg}
end
end L2
namespace L2
open PySem PySem.Spec PyProof.Rows
open PySem.W (Looks InstAt)
def XV(H:Hp)(a C:Qg)(fs:Qa (Str×V)):Prop:=∃ ox,H a=some (.aQ ox<|.own 0)/\ox.cls=.ref C/\PySem.W.notCls ox=true/\
 ((fs=[]/\ox.dict=none)\/∃ od dx,ox.dict=some dx/\H dx=some (.aQ od<|.xd fs))
section
variable{X:Cx}{C:Qg}{fs:Qa (Str×V)}{value:Expr}
end
section
variable{X:Cx}{CX:jo}{k:Nat}{f C:Qg}{E:XK}{p:Pos}{es:Qa Expr}{t:TA}
end
end L2
namespace L2
open PySem PySem.Spec PyProof.Rows
open PySem.W (Looks InstAt)
section
variable{C x:Qg}
end
section
variable{X:Cx}{C:Qg}{p:Pos}
end
end L2
namespace L2
open PySem PySem.Spec PyProof.Rows
open PySem.W (Looks InstAt)
def zB3(a C:Qg)(d tb:Qb Qg)(h:Heap):Prop:=∃ oe vs,h.get? a=some oe/\oe.cls=.ref C/\oe.dict=d/\oe.data=.fields vs/\vs[1]?=some (tb.elim .none .ref)/\(tb=none->∃ p,oe={zB2 C p with dict:=d})
def pTb(T:Qg)(h:Heap):Prop:=∃ oT ts,h.get? T=some oT/\oT.data=.fields ts/\ts[3]?=some .none
def zB4(a C:Qg)(d tb:Qb Qg):HO:=.ext (zB3 a C d tb)
def xTb(T:Qg):HO:=.ext (pTb T)
def zB5(H:Hp)(a C:Qg)(fs:Qa (Str×V)):Prop:=∃ d tb,H a=some (zB4 a C d tb)/\(∀ T,tb=some T->H T=some (xTb T)/\T≠a)/\
 ((fs=[]/\d=none)\/∃ od dx,d=some dx/\H dx=some (.aQ od<|.xd fs))
section
variable{X:Cx}
end
end L2
namespace L2
open PySem PySem.Spec PyProof.Rows
open PySem.W (Looks InstAt)
abbrev iQ:=St->Qg->Hp->Prop
section
variable{X:Cx}{EX:iQ}
end
section
variable{X:Cx}{C:Qg}{p:Pos}
end
def CXv(P:Qe)(w:Qh)(K:qc):jo:=λouter H s E e s'=>∃ a H',e=.ref a/\s'.os=s.os/\AllBare s'.gens/\Un (jR outer) [] H H' s.heap s'.heap/\cu P w K H' s'.heap/\E e none H'
section
variable{X:Cx}{EX:iQ}{k:Nat}{f:Qg}{p:Pos}{es:Qa Expr}{t:TA}
end
end L2
namespace L2
open PySem PySem.Spec PyProof.Rows
open PySem.W (Looks InstAt)
abbrev Cx.body(X:Cx)(pn:Qa (Qg×Obj))(E:Qc->Qd->Prop):Cx:={X with pn:=pn,xe:=E}
section
variable{X:Cx}{pn:Qa (Qg×Obj)}
end
section
variable{C C':Qg}
end
section
variable{X:Cx}{n cls:Str}{C':Qg}{body O5:Qa Stmt}{b₀:Stmt}{tb:iQ->TS}{th:TS}{np hpos:Pos}
end
end L2
namespace L2
open PySem PySem.Spec PyProof.Rows
abbrev D:=PyData
def xE:Key->D
 | .inl i=>.int i
 | .inr x=>.str x
def jL(ks:Qa Key):D:=.tuple (ks.map xE)
def PL(K:qc)(H:Hp)(a:Qg)(xs:Qa V):Prop :=
 (∃ o,H a=some (.aQ o<|.lst xs))\/∃ (o:Obj) (ah:Array Qc) (n:Nat),K.lookup a=some o/\o.cls=.type "list"/\o.dict=none/\o.data=.seq ah n/\ah.size<=sizeLine/\zM xs ah.toList
def XN(K:qc)(n:Str)(C:Qg):Prop:=PySem.W.nsIn K mainGlobals n=some (some<|.ref C)
def hU:Qa (D×D)->Bool
 | (.none,_)::_=>false
 | (.bool _,_)::_=>false
 | _=>true
theorem aV.sq{xs:Qa V}(h:aV K H a xs):bz K H a xs:=h.imp .inl λ⟨o,i,n,a,b,c,d,e,_⟩=>⟨o,i,n,a,b,c,d,e⟩
theorem aV.kp{xs:Qa V}(e:Kp H H')(h:aV K H a xs):aV K H' a xs:=h.keeps e.tup
mutual
inductive DF (K:qc) (H:Hp):V->D->Prop
 | aI:DF K H .aI .none
 | bl (b:Bool):DF K H (.bl b) (.bool b)
 | int (i:Int):DF K H (.int i) (.int i)
 | str (x:Str):DF K H (.str x) (.str x)
 | tup {a:Qg} {xs:Qa V} {ds:Qa D} (h:aV K H a xs) (t:aK K H xs ds):DF K H (.ref a) (.tuple ds)
 | lst {a:Qg} {xs:Qa V} {ds:Qa D} (h:PL K H a xs) (t:aK K H xs ds):DF K H (.ref a) (.list ds)
 | gx {a:Qg} {o:Obj} {ws:Qa (Qa Key×V)} {kvs:Qa (D×D)} (h:H a=some (.aQ o<|.dT ws)) (t:gO K H ws kvs):DF K H (.ref a) (.dict kvs)
 | exc {a C:Qg} {n:Str} {fs:Qa (Str×V)} {ds:Qa (D×D)} (h:XV H a C fs) (e:XN K n C) (t:gP K H fs ds):DF K H (.ref a) (.dict<|(.none,.str n)::ds)
 | obj {a C dx:Qg} {o:Obj} {n:Str} {fs:Qa (Str×V)} {ds:Qa (D×D)} (h:H a=some (.aQ o<|.ins C dx fs)) (e:XN K n C) (t:gP K H fs ds):DF K H (.ref a) (.dict<|(.bool true,.str n)::ds)
inductive aK (K:qc) (H:Hp):Qa V->Qa D->Prop
 | nil:aK K H [] []
 | cons {v:V} {d:D} {vs:Qa V} {ds:Qa D} (h:DF K H v d) (t:aK K H vs ds):aK K H (v::vs) (d::ds)
inductive gO (K:qc) (H:Hp):Qa (Qa Key×V)->Qa (D×D)->Prop
 | nil:gO K H [] []
 | cons {k:Qa Key} {v:V} {d:D} {vs:Qa (Qa Key×V)} {ds:Qa (D×D)} (h:DF K H v d) (t:gO K H vs ds):gO K H ((k,v)::vs) ((jL k,d)::ds)
inductive gP (K:qc) (H:Hp):Qa (Str×V)->Qa (D×D)->Prop
 | nil:gP K H [] []
 | cons {k:Str} {v:V} {d:D} {vs:Qa (Str×V)} {ds:Qa (D×D)} (h:DF K H v d) (t:gP K H vs ds):gP K H ((k,v)::vs) ((.str k,d)::ds)
end
theorem XV.kp{C:Qg}{fs:Qa (Str×V)}(e:Kp H H')(h:XV H a C fs):XV H' a C fs:=by
 have(ox,h1,h2,h3,h4):=h;refine⟨ox,e.aQ _ _ _ h1,h2,h3,?_⟩;rcases h4 with h4|⟨od,dx,h5,h6⟩
 .exact .inl h4
 .exact .inr ⟨od,dx,h5,e.aQ _ _ _ h6⟩
theorem PL.kp{xs:Qa V}(e:Kp H H')(h:PL K H a xs):PL K H' a xs:=by
 rcases h with⟨o,h⟩|h
 .exact .inl ⟨o,e.aQ _ _ _ h⟩
 .exact .inr h
theorem PL.sq{xs:Qa V}(h:PL K H a xs):bA K H a xs:=by
 rcases h with⟨o,h⟩|h
 .exact .inl (.inr ⟨o,h⟩)
 .exact .inr h
mutual
theorem DF.kp(e:Kp H H'):∀ {v:V} {d:D},DF K H v d->DF K H' v d
 | _,_,.aI=>.aI
 | _,_,.bl b=>.bl b
 | _,_,.int i=>.int i
 | _,_,.str x=>.str x
 | _,_,.tup h t=>.tup (h.keeps e.tup)<|aK.kp e t
 | _,_,.lst h t=>.lst (h.kp e)<|aK.kp e t
 | _,_,.gx h t=>.gx (e.aQ _ _ _ h)<|gO.kp e t
 | _,_,.exc h n t=>.exc (h.kp e) n<|gP.kp e t
 | _,_,.obj h n t=>.obj (e.aQ _ _ _ h) n<|gP.kp e t
theorem aK.kp(e:Kp H H'):∀ {v:Qa V} {d:Qa D},aK K H v d->aK K H' v d
 | _,_,.nil=>.nil
 | _,_,.cons h t=>.cons (DF.kp e h)<|aK.kp e t
theorem gO.kp(e:Kp H H'):∀ {v:Qa (Qa Key×V)} {d:Qa (D×D)},gO K H v d->gO K H' v d
 | _,_,.nil=>.nil
 | _,_,.cons h t=>.cons (DF.kp e h)<|gO.kp e t
theorem gP.kp(e:Kp H H'):∀ {v:Qa (Str×V)} {d:Qa (D×D)},gP K H v d->gP K H' v d
 | _,_,.nil=>.nil
 | _,_,.cons h t=>.cons (DF.kp e h)<|gP.kp e t
end
section
theorem aK.snoc{d:D}(h:DF K H v d):∀ {vs:Qa V} {ds:Qa D},aK K H vs ds->aK K H (vs++[v]) (ds++[d])
 | _,_,.nil=>.cons h .nil
 | _,_,.cons a t=>.cons a<|aK.snoc h t
theorem aK.app:∀ {vs ws:Qa V} {ds es:Qa D},aK K H vs ds->aK K H ws es->aK K H (vs++ws) (ds++es)
 | _,_,_,_,.nil,q=>q
 | _,_,_,_,.cons a t,q=>.cons a<|aK.app t q
theorem aK.len:∀ {vs:Qa V} {ds:Qa D},aK K H vs ds->vs.length=ds.length
 | _,_,.nil=>rfl
 | _,_,.cons _ t=>congrArg (·+1)<|aK.len t
theorem aK.get:∀ {vs:Qa V} {ds:Qa D} {i:Nat} {d:D},aK K H vs ds->ds[i]?=some d->∃ v,vs[i]?=some v/\DF K H v d
 | _,_,0,_,.cons h _,e=>by
  cases(show some _=some _ from e);exact⟨_,rfl,h⟩
 | _,_,i+1,_,.cons _ t,e=>aK.get (i:=i) t e
 | _,_,0,_,.nil,e=>by cases e
 | _,_,_+1,_,.nil,e=>by cases e
theorem aK.get':∀ {vs:Qa V} {ds:Qa D} {i:Nat} {v:V},aK K H vs ds->vs[i]?=some v->∃ d,ds[i]?=some d/\DF K H v d
 | _,_,0,_,.cons h _,e=>by
  cases(show some _=some _ from e);exact⟨_,rfl,h⟩
 | _,_,i+1,_,.cons _ t,e=>aK.get' (i:=i) t e
 | _,_,0,_,.nil,e=>by cases e
 | _,_,_+1,_,.nil,e=>by cases e
theorem aK.take:∀ {vs:Qa V} {ds:Qa D} (n:Nat),aK K H vs ds->aK K H (vs.take n) (ds.take n)
 | _,_,0,_=>by simpa using aK.nil
 | _,_,n+1,.nil=>by simpa using aK.nil
 | _,_,n+1,.cons h t=>.cons h<|aK.take n t
theorem aK.drop:∀ {vs:Qa V} {ds:Qa D} (n:Nat),aK K H vs ds->aK K H (vs.drop n) (ds.drop n)
 | _,_,0,q=>q
 | _,_,n+1,.nil=>by simpa using aK.nil
 | _,_,n+1,.cons h t=>aK.drop n t
theorem aK.set{d:D}(h:DF K H v d):∀ {vs:Qa V} {ds:Qa D} (n:Nat),aK K H vs ds->aK K H (vs.set n v) (ds.set n d)
 | _,_,_,.nil=>.nil
 | _,_,0,.cons _ t=>.cons h t
 | _,_,n+1,.cons a t=>.cons a<|aK.set h n t
end
inductive U where
 | d (x:D)
 | l (xs:Qa D) | t (kvs:Qa (Qa Key×D)) | k (kvs:Qa (Key×D))
def U.own:U->Bool
 | .d _=>false
 | _=>true
def dP(K:qc)(H:Hp):Qa (κ×V)->Qa (κ×D)->Prop:=Paired λp q=>p.1=q.1/\DF K H p.2 q.2
def Rp(K:qc)(H:Hp)(v:V):U->Prop
 | .d x=>DF K H v x
 | .l xs=>∃ a us,v=.ref a/\H a=some (.lst us)/\aK K H us xs
 | .t kvs=>∃ a ws,v=.ref a/\H a=some (.dT ws)/\dP K H ws kvs
 | .k kvs=>∃ a ws,v=.ref a/\H a=some (.dK ws)/\dP K H ws kvs
def Mo:HO->Prop
 | .lst _=>True
 | .dT _=>True
 | .dK _=>True
 | _=>False
theorem Rp.own{u:U}(h:Rp K H v u)(o:u.own=true):∃ a c,v=.ref a/\H a=some c/\Mo c:=by
 cases u with
 | d x=>cases o
 | l xs=>have(a,us,e,q,_):=h; exact⟨a,_,e,q,trivial⟩
 | t xs=>have(a,us,e,q,_):=h; exact⟨a,_,e,q,trivial⟩
 | k xs=>have(a,us,e,q,_):=h; exact⟨a,_,e,q,trivial⟩
theorem dP.kp(e:Kp H H'){kvs:Qa (κ×D)}(h:dP K H ws kvs):dP K H' ws kvs:=Paired.oE h λ_ _ z=>⟨z.1,z.2.kp e⟩
theorem Rp.kp{u:U}(h:Rp K H v u)(e:Kp H H')(o:u.own=true->∀ a c,v=.ref a->H a=some c->H' a=some c):Rp K H' v u:=by
 cases u with
 | d x=>exact DF.kp e h
 | l xs=>have(a,us,ev,q,t):=h; exact⟨a,us,ev,o rfl a _ ev q,t.kp e⟩
 | t xs=>have(a,us,ev,q,t):=h; exact⟨a,us,ev,o rfl a _ ev q,t.kp e⟩
 | k xs=>have(a,us,ev,q,t):=h; exact⟨a,us,ev,o rfl a _ ev q,t.kp e⟩
abbrev En:=Qa (Qb U)
def Ow(ρ:En)(σ:St)(a:Qg):Prop:=∃ (i:Nat) (u:U),ρ[i]?=some (some u)/\u.own=true/\σ[i]?=some (some<|.ref a)
structure Rs (K:qc) (ρ:En) (σ:St) (H:Hp):Prop where
 len:ρ.length=σ.length
 rep:∀ (i:Nat) (u:U),ρ[i]?=some (some u)->∃ v,σ[i]?=some (some v)/\Rp K H v u
 apart:∀ (i j:Nat) (u w:U),ρ[i]?=some (some u)->ρ[j]?=some (some w)->u.own=true->w.own=true->σ[i]?=σ[j]?->i=j
def yt(A:Qg->Prop)(H H':Hp):Prop:=∀ a o,H a=some o->¬A a->H' a=some o
structure eG (ρ ao:En):Prop where
 len:ao.length=ρ.length
 own:∀ (i:Nat) (u:U),ao[i]?=some (some u)->u.own=true->∃ w,ρ[i]?=some (some w)/\w.own=true
 live:∀ (i:Nat) (u:U),ρ[i]?=some (some u)->∃ w,ao[i]?=some (some w)
def Nw(H:Hp)(v:V)(u:U):Prop:=u.own=true->∃ a,v=.ref a/\H a=none
structure Go (K:qc) (ρ:En) (σ:St) (H:Hp) (ao:En) (H':Hp):Prop where
 rs:Rs K ao σ H'
 fr:yt (Ow ρ σ) H H'
 shr:eG ρ ao
 dm:∀ a,H' a=none->H a=none
section
variable{ρ ao dn:En}{yr:Hp}
theorem Rs.ow(r:Rs K ρ σ H)(o:Ow ρ σ a):∃ c,H a=some c/\Mo c:=by
 have(i,u,e,ou,es):=o;have(v,ev,p):=r.rep i u e;rw[es]at ev;cases ev;have(b,c,eb,q,m):=p.own ou;cases eb;exact⟨c,q,m⟩
theorem yt.kp(r:Rs K ρ σ H)(f:yt (Ow ρ σ) H H'):Kp H H':=by
 refine⟨λb xs h=>f b _ h λo=>?_,λb ob u h=>f b _ h λo=>?_⟩
 .have(c,q,m):=r.ow o
  rw[h]at q;cases q;exact m
 .have(c,q,m):=r.ow o
  rw[h]at q;cases q;exact m
theorem eG.refl(ρ:En):eG ρ ρ:=⟨rfl,λi u e o=>⟨u,e,o⟩,λi u e=>⟨u,e⟩⟩
theorem eG.trans(a:eG ρ ao)(b:eG ao dn):eG ρ dn:=⟨b.1.trans a.1,λi u e o=>let ⟨w,e',o'⟩:=b.2 i u e o; a.2 i w e' o',λi u e=>let ⟨w,e'⟩:=a.3 i u e; b.3 i w e'⟩
theorem eG.ow(s:eG ρ ao)(o:Ow ao σ a):Ow ρ σ a:=by
 have(i,u,e,ou,es):=o;have(w,e',o'):=s.2 i u e ou;exact⟨i,w,e',o',es⟩
theorem Go.refl(r:Rs K ρ σ H):Go K ρ σ H ρ H:=⟨r,λ_ _ h _=>h,eG.refl _,λ_ h=>h⟩
theorem Go.trans(a:Go K ρ σ H ao H')(b:Go K ao σ H' dn yr):Go K ρ σ H dn yr :=
 ⟨b.rs,λc o h n=>b.fr c o (a.fr c o h n) λz=>n<|a.shr.ow z,a.shr.trans b.shr,λc h=>a.dm c<|b.dm c h⟩
theorem Go.kp(r:Rs K ρ σ H)(g:Go K ρ σ H ao H'):Kp H H':=g.fr.kp r
theorem Go.cK{u:U}(r:Rs K ρ σ H)(g:Go K ρ σ H ao H')(h:Rp K H v u)(n:u.own=true->∃ a,v=.ref a/\¬Ow ρ σ a):Rp K H' v u:=by
 refine h.kp (g.kp r) λo a c ev q=>?_;have(b,eb,nb):=n o;cases ev;cases eb;exact g.fr _ _ q nb
theorem Nw.out{u:U}(r:Rs K ρ σ H)(n:Nw H v u):u.own=true->∃ a,v=.ref a/\¬Ow ρ σ a:=λo=>by
 have(a,e,h):=n o;refine⟨a,e,λz=>?_⟩;have(c,q,_):=r.ow z;rw[h]at q;cases q
theorem b8.dm(s:b8 H H'):∀ a,H' a=none->H a=none:=λa h=>by
 cases e:H a with
 | none=>rfl
 | some o=>rw[s a o e]at h; cases h
theorem Go.grow(r:Rs K ρ σ H)(s:b8 H H'):Go K ρ σ H ρ H' :=
 ⟨⟨r.len,λi u e=>let ⟨v,ev,p⟩:=r.rep i u e; ⟨v,ev,p.kp s.kp λ_ a c _ q=>s a c q⟩,r.apart⟩,λa o h _=>s a o h,eG.refl _,s.dm⟩
end
inductive Ar where
 | s (i:Nat) | u (x:U)
def Ar.get(ρ:En):Ar->Qb U
 | .s i=>(ρ[i]?).join
 | .u x=>some x
def l6(K:qc)(ρ:En)(σ:St)(H H':Hp)(v:V):Ar->Prop
 | .s i=>σ[i]?=some (some v)/\∃ u,ρ[i]?=some (some u)
 | .u x=>Rp K H' v x/\Nw H v x
abbrev ME:=En->Qb (Ar×En)
abbrev MA:=En->Qb (Qa Ar×En)
abbrev MT:=En->Qb (Bool×En)
def VE(K:qc)(t:TE)(m:ME):Prop :=
 ∀ (ρ:En) (σ:St) (H:Hp) (a:Ar) (ao:En) (Q:VK),Rs K ρ σ H->m ρ=some (a,ao)->(∀ v H',Go K ρ σ H ao H'->l6 K ao σ H H' v a->Q v H')->t σ H Q
def VT(K:qc)(t:TT)(m:MT):Prop :=
 ∀ (ρ:En) (σ:St) (H:Hp) (b:Bool) (ao:En) (Q:Bool->Hp->Prop),Rs K ρ σ H->m ρ=some (b,ao)->(∀ H',Go K ρ σ H ao H'->Q b H')->t σ H Q
structure CL (K:qc) (ρ:En) (σ:St) (H H':Hp) (vs:Qa V) (as:Qa Ar):Prop where
 len:vs.length=as.length
 ar:∀ (i:Nat) (a:Ar),as[i]?=some a->∃ v,vs[i]?=some v/\l6 K ρ σ H H' v a
 ap:∀ (i j:Nat) (x y:U),as[i]?=some (.u x)->as[j]?=some (.u y)->x.own=true->y.own=true->vs[i]?=vs[j]?->i=j
def iN(K:qc)(t:TA)(m:MA):Prop :=
 ∀ (ρ:En) (σ:St) (H:Hp) (as:Qa Ar) (ao:En) (Q:Qa V->Hp->Prop),Rs K ρ σ H->m ρ=some (as,ao)->(∀ vs H',Go K ρ σ H ao H'->CL K ao σ H H' vs as->Q vs H')->t σ H Q
section
variable{ρ ao dn:En}{yr:Hp}{a:Ar}{u:U}
theorem Nw.mono(n:Nw H' v u)(h:∀ a,H' a=none->H a=none):Nw H v u:=λo=>let ⟨a,e,q⟩:=n o; ⟨a,e,h a q⟩
theorem Nw.oq(r:Rs K ρ σ H)(g:Go K ρ σ H ao H')(n:Nw H v u):u.own=true->∃ a,v=.ref a/\¬Ow ao σ a:=λo=>by
 have(b,e,q):=n.out r o;exact⟨b,e,λz=>q<|g.shr.ow z⟩
theorem l6.later(r:Rs K ρ σ H)(g1:Go K ρ σ H ao H')(g2:Go K ao σ H' dn yr)(h:l6 K ao σ H H' v a)(e:a.get dn=some u):Rp K yr v u:=by
 cases a with
 | s i=>
  have(es,_):=h;have e':dn[i]?=some (some u):=by
   cases q:dn[i]? with
   | none=>rw[show Ar.get dn (.s i)=(dn[i]?).join from rfl,q]at e; cases e
   | some o=>
    rw[show Ar.get dn (.s i)=(dn[i]?).join from rfl,q]at e;cases o with
    | none=>cases e
    | some x=>cases e; rfl
  have(w,ew,p):=g2.rs.rep i u e';rw[es]at ew;cases ew;exact p
 | u x=>
  cases(show some x=some u from e);exact g2.cK g1.rs h.1<|h.2.oq r g1
theorem l6.now(r:Rs K ρ σ H)(g1:Go K ρ σ H ao H')(h:l6 K ao σ H H' v a)(e:a.get ao=some u):Rp K H' v u:=h.later r g1 (Go.refl g1.rs) e
theorem Nw.data{x:D}:Nw H v (.d x):=λo=>by cases o
def zi(i:Nat):ME:=λρ=>match ρ[i]? with
 | some (some _)=>some (.s i,ρ)
 | _=>none
theorem ze:VE K (iV i) (zi i):=by
 intro ρ σ H a ao Q r e q;unfold zi at e;split at e
 .rename_i u eu
  cases e;have(v,ev,p):=r.rep i u eu;exact⟨v,ev,q v H (Go.refl r) ⟨ev,u,eu⟩⟩
 .cases e
def mC(x:D):ME:=λρ=>some (.u<|.d x,ρ)
theorem BV{c:V}{x:D}(h:∀ H,DF K H c x):VE K (tC c) (mC x):=by
 intro ρ σ H a ao Q r e q;cases e;exact q _ _ (Go.refl r) ⟨h H,Nw.data⟩
theorem zk{n:Int}:VE K (tC<|.int n) (mC<|.int n):=BV λ_=>.int n
theorem gr{n:Str}:VE K (tC<|.str n) (mC<|.str n):=BV λ_=>.str n
theorem iq{n:Bool}:VE K (tC<|.bl n) (mC<|.bool n):=BV λ_=>.bl n
theorem vT:VE K (tC .aI) (mC .none):=BV λ_=>.aI
def VO(K:qc)(r:R2)(f:U->U->Qb U):Prop :=
 ∀ (x y:V) (a b u:U) (H:Hp) (Q:VK),Rp K H x a->Rp K H y b->f a b=some u->(∀ v H',b8 H H'->Rp K H' v u->Nw H v u->Q v H')->r x y H Q
def aj(f:U->U->Qb U)(ma mb:ME):ME:=λρ=>(ma ρ).bind λp=>(mb p.2).bind λq=>(p.1.get q.2).bind λx=>(q.1.get q.2).bind λy=>(f x y).bind λu=>some (.u u,q.2)
theorem zb{o:Qb α}{f:α->Qb β}{b:β}(h:o.bind f=some b):∃ a,o=some a/\f a=some b:=Option.bind_eq_some_iff.mp h
theorem zo{r:R2}{f:U->U->Qb U}{ma mb:ME}(h:VO K r f)(ha:VE K ta ma)(hb:VE K tb mb):VE K (mL r ta tb) (aj f ma mb):=by
 intro ρ σ H a ao Q rs e q;obtain⟨⟨a1,aq⟩,e1,e⟩:=zb e;obtain⟨⟨b1,aB⟩,e2,e⟩:=zb e;have(x,ex,e):=zb e;have(y,ey,e):=zb e;have(u,eu,e):=zb e;cases e;refine ha ρ σ H a1 aq _ rs e1 λv1 H1 g1 k1=>hb aq σ H1 b1 aB _ g1.rs e2 λv2 H2 g2 k2=>?_;refine h _ _ x y u H2 _ (k1.later rs g1 g2 ex) (k2.now g1.rs g2 ey) eu λv H3 s p n=>?_;exact q v H3 ((g1.trans g2).trans<|Go.grow g2.rs s) ⟨p,n.mono (g1.trans g2).dm⟩
def VU(K:qc)(r:V->Hp->VK->Prop)(f:U->Qb U):Prop :=
 ∀ (x:V) (a u:U) (H:Hp) (Q:VK),Rp K H x a->f a=some u->(∀ v H',b8 H H'->Rp K H' v u->Nw H v u->Q v H')->r x H Q
def bM(f:U->Qb U)(ma:ME):ME:=λρ=>(ma ρ).bind λp=>(p.1.get p.2).bind λx=>(f x).bind λu=>some (.u u,p.2)
theorem eM{r:V->Hp->VK->Prop}{f:U->Qb U}{ma:ME}(h:VU K r f)(ha:VE K ta ma):VE K (BY r ta) (bM f ma):=by
 intro ρ σ H a ao Q rs e q;obtain⟨⟨a1,aq⟩,e1,e⟩:=zb e;have(x,ex,e):=zb e;have(u,eu,e):=zb e;cases e;refine ha ρ σ H a1 aq _ rs e1 λv1 H1 g1 k1=>?_;refine h _ x u H1 _ (k1.now rs g1 ex) eu λv H3 s p n=>?_;exact q v H3 (g1.trans<|Go.grow g1.rs s) ⟨p,n.mono g1.dm⟩
def zp:MA:=λρ=>some ([],ρ)
def zf(me:ME)(ma:MA):MA:=λρ=>(me ρ).bind λp=>(ma p.2).bind λq=>some (p.1::q.1,q.2)
theorem zn:iN K rB zp:=by
 intro ρ σ H as ao Q r e q;cases e;exact q [] H (Go.refl r) ⟨rfl,λi a e=>by simp at e,λi j x y e=>by simp at e⟩
theorem zd{t:TA}{me:ME}{ma:MA}(he:VE K te me)(ha:iN K t ma):iN K (nK te t) (zf me ma):=by
 intro ρ σ H as ao Q r e q;obtain⟨⟨a1,aq⟩,e1,e⟩:=zb e;obtain⟨⟨CA,aB⟩,e2,e⟩:=zb e;cases e;refine he ρ σ H a1 aq _ r e1 λv1 H1 g1 k1=>ha aq σ H1 CA _ _ g1.rs e2 λvs H2 g2 s2=>?_;have GX:∀ x,a1=.u x->x.own=true->∃ b c,v1=.ref b/\H1 b=some c:=λx ea o=>by
  subst ea;have(b,c,eb,hb,_):=k1.1.own o;exact⟨b,c,eb,hb⟩
 have sW:∀ (j:Nat) (y:U),CA[j]?=some (.u y)->y.own=true->∃ b,vs[j]?=some (.ref b)/\H1 b=none:=λj y ej o=>by
  have(v,ev,k):=s2.ar j _ ej;have(b,eb,hb):=k.2 o;subst eb;exact⟨b,ev,hb⟩
 have ne:∀ (x:U) (j:Nat) (y:U),a1=.u x->x.own=true->CA[j]?=some (.u y)->y.own=true->some v1≠vs[j]?:=λx j y ea ox ej oy z=>by
  have(b,c,e1,h1):=GX x ea ox;have(b',e2,h2):=sW j y ej oy;rw[e2,e1]at z;cases z;rw[h1]at h2;cases h2
 refine q (v1::vs) H2 (g1.trans g2) ⟨by simp[s2.len],λi a ei=>?_,λi j x y ei ej ox oy ev=>?_⟩
 .cases i with
  | zero=>
   cases(show some a1=some a from ei);refine⟨v1,rfl,?_⟩;cases a1 with
   | s k=>
    have(es,w,ew):=k1;exact⟨es,g2.shr.live k w ew⟩
   | u x=>exact⟨g2.cK g1.rs k1.1<|k1.2.oq r g1,k1.2⟩
  | succ i=>
   have(v,ev,k):=s2.ar i a ei;refine⟨v,ev,?_⟩;cases a with
   | s k'=>exact k
   | u x=>exact⟨k.1,k.2.mono g1.dm⟩
 .cases i with
  | zero=>
   cases j with
   | zero=>rfl
   | succ j=>exact absurd ev<|ne x j y (qw ei) ox ej oy
  | succ i=>
   cases j with
   | zero=>exact absurd ev.symm<|ne y i x (qw ej) oy ei ox
   | succ j=>exact congrArg (·+1)<|s2.ap i j x y ei ej ox oy ev
end
end L2
namespace L2
open PySem PySem.Spec PyProof.Rows
open Classical in
def jS(c:Int->Int->Prop)(g:Int->Int->D):U->U->Qb U
 | .d (.int i),.d (.int j)=>if c i j then some (.d<|g i j)else none
 | _,_=>none
def fI(g:Int->Int->D):U->U->Qb U
 | .d (.int i),.d (.int j)=>some<|.d<|g i j
 | _,_=>none
section
theorem DF.int_inv{i:Int}(h:DF K H v (.int i)):v=.int i:=by cases h; rfl
theorem DF.str_inv(h:DF K H v (.str x)):v=.str x:=by cases h; rfl
theorem DF.cq{b:Bool}(h:DF K H v (.bool b)):v=.bl b:=by cases h; rfl
theorem DF.aE{ds:Qa D}(h:DF K H v (.tuple ds)):∃ a xs,v=.ref a/\aV K H a xs/\aK K H xs ds:=by cases h with|tup h t=>exact⟨_,_,rfl,h,t⟩
theorem DF.lst_inv{ds:Qa D}(h:DF K H v (.list ds)):∃ a xs,v=.ref a/\PL K H a xs/\aK K H xs ds:=by cases h with|lst h t=>exact⟨_,_,rfl,h,t⟩
theorem DF.bT{ds:Qa (D×D)}(h:DF K H v (.dict ds))(nx:hU ds=true):∃ a o ws,v=.ref a/\H a=some (.aQ o<|.dT ws)/\gO K H ws ds:=by
 cases h with
 | gx h t=>exact⟨_,_,_,rfl,h,t⟩
 | exc h n t=>cases nx
 | obj h n t=>cases nx
theorem pG{c:Int->Int->Prop}{g:Int->Int->V}{gd:Int->Int->D}(h:∀ i j H,DF K H (g i j)<|gd i j):VO K (rI c g) (jS c gd):=by
 intro x y a b u H Q ha hb e q;unfold jS at e;split at e
 .rename_i i j
  split at e
  .rename_i hc
   cases e;exact⟨i,j,DF.int_inv ha,DF.int_inv hb,hc,q _ _ (λ_ _ z=>z) (h i j H) Nw.data⟩
  .cases e
 .cases e
theorem rl{g:Int->Int->V}{gd:Int->Int->D}(h:∀ i j H,DF K H (g i j)<|gd i j):VO K (gG g) (fI gd):=by
 intro x y a b u H Q ha hb e q;unfold fI at e;split at e
 .rename_i i j
  cases e;exact⟨i,j,DF.int_inv ha,DF.int_inv hb,q _ _ (λ_ _ z=>z) (h i j H) Nw.data⟩
 .cases e
def dF:=fI λi j=>.int<|i+j
def fL:=fI λi j=>.int<|i - j
def gW:=jS uh λi j=>.int<|i * j
def gU:=jS (λ_ j=>0 < j) λi j=>.int<|i % j
def rS:=jS ur λi j=>.int<|i / j
def pF:=jS rP λi j=>.int<|i.fdiv j
def yU:=jS lX λi j=>.int<|i^j.toNat
def oU:=fI λi j=>.bool<|decide<|i < j
def Ct:=fI λi j=>.bool<|decide<|i<=j
def vA:=fI λi j=>.bool<|decide<|j < i
def HU:=fI λi j=>.bool<|decide<|j<=i
theorem eP:VO K (gG λi j=>.int<|i+j) dF:=rl λi j H=>.int _
theorem gC:VO K (gG λi j=>.int<|i - j) fL:=rl λi j H=>.int _
theorem ki:VO K (rI uh λi j=>.int<|i * j) gW:=pG λi j H=>.int _
theorem jB:VO K (rI (λ_ j=>0 < j) λi j=>.int<|i % j) gU:=pG λi j H=>.int _
theorem AL:VO K (rI ur λi j=>.int<|i / j) rS:=pG λi j H=>.int _
theorem uQ:VO K (rI rP λi j=>.int<|i.fdiv j) pF:=pG λi j H=>.int _
theorem Sm:VO K (rI lX λi j=>.int<|i^j.toNat) yU:=pG λi j H=>.int _
theorem rR:VO K (gG λi j=>.bl<|decide<|i < j) oU:=rl λi j H=>.bl _
theorem IU:VO K (gG λi j=>.bl<|decide<|i<=j) Ct:=rl λi j H=>.bl _
theorem Af:VO K (gG λi j=>.bl<|decide<|j < i) vA:=rl λi j H=>.bl _
theorem zAB:VO K (gG λi j=>.bl<|decide<|j<=i) HU:=rl λi j H=>.bl _
def l5:U->Qb U
 | .d (.int i)=>some<|.d<|.int (-i)
 | _=>none
theorem r9:VU K (rU λi=>.int (-i)) l5:=by
 intro x a u H Q ha e q;unfold l5 at e;split at e
 .rename_i i
  cases e;exact⟨i,DF.int_inv ha,q _ _ (λ_ _ z=>z) (.int _) Nw.data⟩
 .cases e
def U.py:U->Qb D
 | .d x=>some x
 | .l xs=>some<|.list xs
 | _=>none
mutual
theorem DF.dv:∀ {v:V} {d:D},DF K H v d->d.hasDict=false->DV K H v d
 | _,_,.aI,_=>.aI
 | _,_,.bl b,_=>.bl b
 | _,_,.int i,_=>.int i
 | _,_,.str x,_=>.str x
 | _,_,.tup h t,q=>.tup ((aV.sq h))<|aK.dv t (by simpa [PyData.hasDict] using q)
 | _,_,.lst h t,q=>.lst h.sq<|aK.dv t (by simpa [PyData.hasDict] using q)
 | _,_,.gx h t,q=>by simp[PyData.hasDict]at q
 | _,_,.exc h n t,q=>by simp[PyData.hasDict]at q
 | _,_,.obj h n t,q=>by simp[PyData.hasDict]at q
theorem aK.dv:∀ {v:Qa V} {d:Qa D},aK K H v d->PyData.hasDictAll d=false->gy K H v d
 | _,_,.nil,_=>.nil
 | _,_,.cons h t,q=>by
  simp only[PyData.hasDictAll,Bool.or_eq_false_iff]at q;exact .cons (DF.dv h q.1)<|aK.dv t q.2
end
theorem Rp.dv{u:U}{x:D}(h:Rp K H v u)(e:u.py=some x)(q:x.hasDict=false):DV K H v x:=by
 cases u with
 | d y=>cases e; exact DF.dv h q
 | l xs=>
  cases e;have(a,us,rfl,h1,h2):=h;exact .lst (bA.of h1)<|aK.dv h2 (by simpa [PyData.hasDict] using q)
 | t=>cases e
 | k=>cases e
mutual
theorem By:∀ (x:D),x.canLay0=true->x.hasDict=false
 | .none,_=>rfl
 | .bool _,_=>rfl
 | .int _,_=>rfl
 | .str _,_=>rfl
 | .list xs,h=>by simp only[PyData.hasDict]; exact bK xs (by simpa [PyData.canLay0] using h)
 | .tuple xs,h=>by simp only[PyData.hasDict]; exact bK xs (by simpa [PyData.canLay0] using h)
 | .dict _,h=>by simp[PyData.canLay0]at h
theorem bK:∀ (xs:Qa D),PyData.canLayAll0 xs=true->PyData.hasDictAll xs=false
 | [],_=>rfl
 | x::xs,h=>by
  simp only[PyData.canLayAll0,Bool.and_eq_true]at h;simp only[PyData.hasDictAll,By x h.1,bK xs h.2];rfl
end
def yT(K:qc)(neg:Bool):R2:=λx y H Q=>∃ a b,DV K H x a/\DV K H y b/\SeqAt.shaped a=true/\SeqAt.shaped b=true/\Q (.bl (if neg=true then !PyData.eqv a b else PyData.eqv a b)) H
theorem Sl{X:Cx}(K:qc)(hK:X.K=K){k:Nat}(hr:aH k X.A):bH X (compareOp .Eq) (yT K false):=by
 subst hK;intro pins s σ H x y v u Q I rx ry h;have(a,b,da,db,sa,sb,q):=h;have(as,ra):=DV.reads I da rx;have(bs,rb):=DV.reads I db ry;exact SeqAt.compareEq_shaped ra rb sa sb hr.units ⟨.bl _,H,I,rfl,q⟩
theorem AE{X:Cx}(K:qc)(hK:X.K=K){k:Nat}(hr:aH k X.A):bH X (compareOp .NotEq) (yT K true):=by
 subst hK;intro pins s σ H x y v u Q I rx ry h;have(a,b,da,db,sa,sb,q):=h;have(as,ra):=DV.reads I da rx;have(bs,rb):=DV.reads I db ry;exact SeqAt.compareNe_shaped ra rb sa sb hr.units ⟨.bl _,H,I,rfl,q⟩
def jZ(neg:Bool)(a b:U):Qb U:=a.py.bind λx=>b.py.bind λy=>if SeqAt.shaped x=true/\SeqAt.shaped y=true then some (.d<|.bool (if neg=true then !PyData.eqv x y else PyData.eqv x y))else none
theorem AD(neg:Bool):VO K (yT K neg) (jZ neg):=by
 intro x y a b u H Q ha hb e q;have(dx,ex,e):=zb e;have(dy,ey,e):=zb e;split at e
 .rename_i hs
  cases e;exact⟨dx,dy,ha.dv ex<|By _<|SeqAt.canLay_of_shaped hs.1,hb.dv ey<|By _<|SeqAt.canLay_of_shaped hs.2,hs.1,hs.2,q _ _ (λ_ _ z=>z) (.bl _) Nw.data⟩
 .cases e
theorem aK.bY{xs:Qa V}{ds:Qa D}{i:Int}{d:D}(h:aK K H xs ds)(e:L2.bY ds i=some d):∃ v,L2.bY xs i=some v/\DF K H v d:=by
 unfold L2.bY at e ⊢;have(j,ej,e):=zb e;have(v,ev,k):=h.get e;refine⟨v,?_,k⟩;rw[h.len,ej];exact ev
def fK:U->U->Qb U
 | .l ds,.d (.int i)=>(bY ds i).map .d
 | .d (.list ds),.d (.int i)=>(bY ds i).map .d
 | _,_=>none
def bg:U->U->Qb U
 | .d (.tuple ds),.d (.int i)=>(bY ds i).map .d
 | _,_=>none
theorem iZ:VO K (Dj K) fK:=by
 intro x y a b u H Q ha hb e q;unfold fK at e;split at e
 .rename_i ds i
  have(d,ed,rfl):=qq.mp e;have(p,us,rfl,h1,h2):=ha;have(v,ev,k):=h2.bY ed;exact⟨p,us,i,v,rfl,DF.int_inv hb,bA.of h1,ev,q _ _ (λ_ _ z=>z) k Nw.data⟩
 .rename_i ds i
  have(d,ed,rfl):=qq.mp e;have(p,us,rfl,h1,h2):=DF.lst_inv ha;have(v,ev,k):=h2.bY ed;exact⟨p,us,i,v,rfl,DF.int_inv hb,h1.sq,ev,q _ _ (λ_ _ z=>z) k Nw.data⟩
 .cases e
theorem zN:VO K (Di K) bg:=by
 intro x y a b u H Q ha hb e q;unfold bg at e;split at e
 .rename_i ds i
  have(d,ed,rfl):=qq.mp e;have(p,us,rfl,h1,h2):=DF.aE ha;have(v,ev,k):=h2.bY ed;exact⟨p,us,i,v,rfl,DF.int_inv hb,(aV.sq h1),ev,q _ _ (λ_ _ z=>z) k Nw.data⟩
 .cases e
def ue:U->U->Qb U
 | .l xs,.l ys=>if xs.length+ys.length<=sizeLine then some (.l<|xs++ys)else none
 | _,_=>none
theorem J1:VO K OV ue:=by
 intro x y a b u H Q ha hb e q;unfold ue at e;split at e
 .split at e
  .rename_i xs ys hz
   cases e;have(p,us,rfl,h1,h2):=ha;have(p',mJ,rfl,je,iI):=hb;refine⟨p,p',us,mJ,rfl,rfl,h1,je,by rw[h2.len,iI.len]; exact hz,λr hr=>?_⟩;have s:=zL hr (.lst<|us++mJ);exact q _ _ s ⟨r,_,rfl,zw,(h2.app iI).kp s.kp⟩ λ_=>⟨r,rfl,hr⟩
  .cases e
 .cases e
end
end L2
namespace L2
open PySem PySem.Spec PyProof.Rows
section
variable{ρ ao:En}
theorem jA{c:HO}(h:H a=some c)(m:Mo c)(o:HO):Kp H (upd H a o):=by
 refine⟨λb xs e=>?_,λb ob u e=>?_⟩
 .rw[zy<|nB e h (by rintro rfl; exact m)]; exact e
 .rw[zy<|nB e h (by rintro rfl; exact m)]; exact e
theorem Go.own{u u':U}{o:HO}(r:Rs K ρ σ H)(e:ρ[i]?=some (some u))(ou:u.own=true)(es:σ[i]?=some (some<|.ref a))(p:Rp K (upd H a o) (.ref a) u'):Go K ρ σ H (ρ.set i<|some u') (upd H a o):=by
 have hi:i < ρ.length:=(qk.mp e).1;have(c,hc,mc):=r.ow ⟨i,u,e,ou,es⟩;have kp:=jA hc mc o;refine⟨⟨by rw[List.length_set]; exact r.len,λj w ej=>?_,λj k w w' ej ek oj ok lN=>?_⟩,λb ob hb n=>?_,⟨List.length_set,λj w ej oj=>?_,λj w ej=>?_⟩,λb hb=>?_⟩
 .by_cases hj:i=j
  .subst hj
   rw[List.getElem?_set_self hi]at ej;cases ej;exact⟨_,es,p⟩
  .rw[qB hj]at ej
   have(v,ev,q):=r.rep j w ej;refine⟨v,ev,q.kp kp λow b c' eb hb=>?_⟩;have ne:b≠a:=by
    rintro rfl;exact hj<|r.apart i j u w e ej ou ow (by rw[es,ev,eb])
   rw[zy ne];exact hb
 .have own:∀ (j:Nat) (w:U),(ρ.set i<|some u')[j]?=some (some w)->w.own=true->∃ w',ρ[j]?=some (some w')/\w'.own=true:=λj w ej oj=>by
   by_cases hj:i=j
   .subst hj; exact⟨u,e,ou⟩
   .rw[qB hj]at ej; exact⟨w,ej,oj⟩
  have(x,ex,ox):=own j w ej oj;have(y,ey,oy):=own k w' ek ok;exact r.apart j k x y ex ey ox oy lN
 .have ne:b≠a:=by
   rintro rfl;exact n ⟨i,u,e,ou,es⟩
  rw[zy ne];exact hb
 .by_cases hj:i=j
  .subst hj; exact⟨u,e,ou⟩
  .rw[qB hj]at ej; exact⟨w,ej,oj⟩
 .by_cases hj:i=j
  .subst hj; exact⟨u',ò hi⟩
  .exact⟨w,by rw[qB hj]; exact ej⟩
 .by_cases jQ:b=a
  .subst jQ; rw[zw]at hb; cases hb
  .rw[zy jQ]at hb; exact hb
theorem Rp.i7{u:U}(h:Rp K H v u)(o:u.own=true):∃ a,v=.ref a:=let ⟨a,_,e,_⟩:=h.own o; ⟨a,e⟩
def Fz(K:qc)(H:Hp)(v:V)(H':Hp):Prop :=
 (∃ a xs o,v=.ref a/\K.lookup a=none/\H a=some (.lst xs)/\H'=upd H a (.aQ o<|.lst xs))\/(∃ a xs o,v=.ref a/\K.lookup a=none/\H a=some (.dT xs)/\H'=upd H a (.aQ o<|.dT xs))\/
  ((∀ a,v=.ref a->(∀ xs,H a≠some (.lst xs))/\∀ xs,H a≠some (.dT xs))/\H'=H)
def GI(K:qc)(t:TE):TE:=λσ H Q=>t σ H λv H1=>∀ H2,Fz K H1 v H2->Q v H2
theorem Inv.oS{X:Cx}{xs:Qa V}(I:Inv X pins σ H s)(e:H a=some (.lst xs)):∃ o,s.heap.get? a=some o/\Inv X pins σ (upd H a<|.aQ o<|.lst xs) s:=by
 have ok:=(show bR X.prog X.w X.K H s.heap a (.lst xs) from I.aw a _ e);have(z,ah,n,r,h1):=id ok;refine⟨_,h1,?_⟩;have xq:bR X.prog X.w X.K (upd H a<|.aQ {cls:=.type "list",data:=.seq ah.toArray n}<|.lst xs) s.heap a (.lst xs):=⟨z,ah,n,r,h1⟩;exact I.write (t':=s.toks) (h':=s.heap) (by rw[e]; trivial) (.inl rfl) (λ_ _ _ q=>q) ⟨_,h1⟩ ⟨h1,xq⟩
theorem zAC{X:Cx}{t:TE}(h:PE X e t):PE X e (GI X.K t):=by
 intro pins s σ H Q I q;refine aD (h pins s σ H _ I q) λu s1 hZ=>?_;have(v,H1,I1,r,k):=hZ;have nk:∀ a c,H1 a=some c->X.K.lookup a=none:=λa c ea=>by
  cases q:X.K.lookup a with
  | none=>rfl
  | some o=>rw[(I1.bs a o<|I1.ok.mod.jb a o q).2]at ea; cases ea
 by_cases c1:∃ a xs,v=.ref a/\H1 a=some (.lst xs)
 .have(a,xs,ev,ea):=c1
  have(o,_,I2):=I1.oS ea;exact⟨v,_,I2,r,k _<|.inl ⟨a,xs,o,ev,nk a _ ea,ea,rfl⟩⟩
 .by_cases c2:∃ a xs,v=.ref a/\H1 a=some (.dT xs)
  .have(a,xs,ev,ea):=c2
   have(o,_,I2):=I1.freeze ea;exact⟨v,_,I2,r,k _<|.inr<|.inl ⟨a,xs,o,ev,nk a _ ea,ea,rfl⟩⟩
  .exact⟨v,H1,I1,r,k _<|.inr<|.inr ⟨λa ev=>⟨λxs z=>c1 ⟨a,xs,ev,z⟩,λxs z=>c2 ⟨a,xs,ev,z⟩⟩,rfl⟩⟩
theorem dE{X:Cx}{t:TE}(h:Wr (PE X e t))(hK:X.K=K:=by rfl):Wr (PE X e<|GI K t):=hK▸⟨zAC h.run⟩
def U.fz:U->Qb D
 | .d x=>some x
 | .l xs=>some<|.list xs
 | .t kvs=>some<|.dict<|kvs.map λp=>(jL p.1,p.2)
 | .k _=>none
def cD(me:ME):ME:=λρ=>(me ρ).bind λp=>(p.1.get p.2).bind λu=>u.fz.bind λx=>some (.u<|.d x,match p.1 with | .s i=>p.2.set i (some<|.d x) | .u _=>p.2)
theorem Sk{ws:Qa (Qa Key×V)}{kvs:Qa (Qa Key×D)}(h:dP K H ws kvs):gO K H ws (kvs.map λp=>(jL p.1,p.2)):=by
 induction h with
 | nil=>exact .nil
 | @cons p q ps qs hq t ih=>
  have(k,v):=p;have(k',d):=q;have(e,hd):=hq;cases(show k=k' from e);exact .cons hd ih
theorem Fz.rp{u:U}{x:D}(h:Fz K H v H')(p:Rp K H v u)(e:u.fz=some x):DF K H' v x/\(u.own=false->H'=H)/\(u.own=true->∃ a o,v=.ref a/\H'=upd H a o):=by
 cases u with
 | d y=>
  cases e;have k:H'=H:=by
   rcases h with⟨a,xs,o,rfl,nk,ea,_⟩|⟨a,xs,o,rfl,nk,ea,_⟩|⟨_,rfl⟩
   .exfalso
    cases(show DF K H _ _ from p)with
    | tup h _=>
     rcases h with h|⟨ob,ah,n,hk,_⟩
     .rw[ea]at h; cases h
     .rw[nk]at hk; cases hk
    | lst h _=>
     rcases h with⟨o,h⟩|⟨ob,ah,n,hk,_⟩
     .rw[ea]at h; cases h
     .rw[nk]at hk; cases hk
    | gx h _=>rw[ea]at h; cases h
    | exc h _ _=>have(_,h,_):=h; rw[ea]at h; cases h
    | obj h _ _=>rw[ea]at h; cases h
   .exfalso
    cases(show DF K H _ _ from p)with
    | tup h _=>
     rcases h with h|⟨ob,ah,n,hk,_⟩
     .rw[ea]at h; cases h
     .rw[nk]at hk; cases hk
    | lst h _=>
     rcases h with⟨o,h⟩|⟨ob,ah,n,hk,_⟩
     .rw[ea]at h; cases h
     .rw[nk]at hk; cases hk
    | gx h _=>rw[ea]at h; cases h
    | exc h _ _=>have(_,h,_):=h; rw[ea]at h; cases h
    | obj h _ _=>rw[ea]at h; cases h
   .rfl
  subst k;exact⟨p,λ_=>rfl,λz=>by cases z⟩
 | l xs=>
  cases e;have(a,us,rfl,ea,ds):=p;rcases h with⟨a',sJ,o,ev,_,gM,rfl⟩|⟨a',sJ,o,ev,_,gM,_⟩|⟨z,_⟩
  .cases ev
   rw[ea]at gM;cases gM;exact⟨.lst (.inl ⟨o,zw⟩)<|ds.kp<|jA ea trivial _,(λz=>by cases z),λ_=>⟨a,_,rfl,rfl⟩⟩
  .cases ev
   rw[ea]at gM;cases gM
  .exact absurd ea ((z a rfl).1 us)
 | t xs=>
  cases e;have(a,us,rfl,ea,ds):=p;rcases h with⟨a',sJ,o,ev,_,gM,_⟩|⟨a',sJ,o,ev,_,gM,rfl⟩|⟨z,_⟩
  .cases ev
   rw[ea]at gM;cases gM
  .cases ev
   rw[ea]at gM;cases gM;exact⟨.gx zw<|Sk<|ds.kp<|jA ea trivial _,(λz=>by cases z),λ_=>⟨a,_,rfl,rfl⟩⟩
  .exact absurd ea ((z a rfl).2 us)
 | k xs=>cases e
theorem dD{t:TE}{m:ME}(h:VE K t m):VE K (GI K t) (cD m):=by
 intro ρ σ H a ao Q r e q;obtain⟨⟨b,aq⟩,e1,e⟩:=zb e;have(u,eu,e):=zb e;have(x,ex,e):=zb e;cases e;refine h ρ σ H b aq _ r e1 λv H1 g1 k1=>λH2 fz=>?_;have p:=k1.now r g1 eu;have(d,f1,f2):=fz.rp p ex;cases b with
 | s i=>
  have ei:aq[i]?=some (some u):=by
   have z:(aq[i]?).join=some u:=eu;cases q:aq[i]? with
   | none=>rw[q]at z; cases z
   | some o=>rw[q]at z; cases o with
    | none=>cases z
    | some w=>cases z; rfl
  have hi:i < aq.length:=(qk.mp ei).1
  by_cases ou:u.own=true
  .have(a,o,rfl,rfl):=f2 ou
   exact q _ _ (g1.trans<|Go.own (u':=.d x) g1.rs ei ou k1.1 d) ⟨d,Nw.data⟩
  .have p9:u.own=false:=by simpa using ou
   cases f1 p9;cases u with
   | d y=>
    cases ex;have es:aq.set i (some<|.d x)=aq:=by
     apply List.ext_getElem?;intro j
     by_cases hj:i=j
     .subst hj; rw[List.getElem?_set_self hi,ei]
     .rw[qB hj]
    show Q v H1;refine q v H1 ?_ ⟨d,Nw.data⟩;show Go K ρ σ H (aq.set i<|some<|.d x) H1;rw[es];exact g1
   | l=>cases p9
   | t=>cases p9
   | k=>cases p9
 | u w=>
  cases(show some w=some u from eu)
  by_cases ou:u.own=true
  .have(a,o,rfl,rfl):=f2 ou
   have(a',gM,G5):=k1.2 ou;cases gM;obtain⟨c,hc,mc⟩:∃ c,H1 a=some c/\Mo c:=by
    have(b,c,eb,hb,m):=p.own ou;cases eb;exact⟨c,hb,m⟩
   have nw:¬Ow aq σ a:=by
    have(b,eb,nb):=k1.2.oq r g1 ou;cases eb;exact nb
   have kp:=jA hc mc o;refine q _ _ ⟨⟨g1.rs.len,λj y ej=>?_,g1.rs.apart⟩,λb ob hb n=>?_,g1.shr,λb hb=>?_⟩ ⟨d,Nw.data⟩
   .have(v,ev,p'):=g1.rs.rep j y ej
    refine⟨v,ev,p'.kp kp λoy b c' eb hb=>?_⟩;have ne:b≠a:=by
     rintro rfl;subst eb;exact nw ⟨j,y,ej,oy,ev⟩
    rw[zy ne];exact hb
   .have ne:b≠a:=by
     rintro rfl;rw[G5]at hb;cases hb
    rw[zy ne];exact g1.fr b ob hb n
   .by_cases jQ:b=a
    .subst jQ; exact G5
    .rw[zy jQ]at hb; exact g1.dm b hb
  .have p9:u.own=false:=by simpa using ou
   cases f1 p9;exact q v H1 g1 ⟨d,Nw.data⟩
end
section
variable{ρ ao:En}
def bt(ρ:En):Qa Ar->Qb (Qa U)
 | []=>some []
 | a::as=>(a.get ρ).bind λu=>(bt ρ as).bind λus=>some<|u::us
def iy:Qa U->Qb (Qa D)
 | []=>some []
 | .d x::us=>(iy us).bind λxs=>some<|x::xs
 | _::_=>none
def CG(K:qc)(H:Hp):Qa V->Qa U->Prop:=Paired λv u=>Rp K H v u
theorem Sj{as:Qa Ar}{us:Qa U}(len:vs.length=as.length)(h:∀ (i:Nat) (a:Ar),as[i]?=some a->∃ v,vs[i]?=some v/\∀ u,a.get ρ=some u->Rp K H v u)(e:bt ρ as=some us):CG K H vs us:=by
 induction as generalizing vs us with
 | nil=>
  cases e;cases vs with
  | nil=>exact .nil
  | cons=>simp at len
 | cons a as ih=>
  have(u,eu,e):=zb e;have(mJ,yg,e):=zb e;cases e;cases vs with
  | nil=>simp at len
  | cons v vs=>
   have(v',ev,k):=h 0 a rfl;cases(show some v=some v' from ev);exact .cons (k u eu)<|ih (by simpa using len) (λi b eb=>h (i+1) b eb) yg
theorem CL.ku{as:Qa Ar}{us:Qa U}(r:Rs K ρ σ H)(g:Go K ρ σ H ao H')(s:CL K ao σ H H' vs as)(e:bt ao as=some us):CG K H' vs us :=
 Sj s.len (λi a ea=>let ⟨v,ev,k⟩:=s.ar i a ea; ⟨v,ev,λu eu=>k.now r g eu⟩) e
theorem EI{us:Qa U}{ds:Qa D}(h:CG K H vs us)(e:iy us=some ds):aK K H vs ds:=by
 induction h generalizing ds with
 | nil=>cases e; exact .nil
 | @cons v u vs us hv t ih=>
  cases u with
  | d x=>
   have(xs,ex,e):=zb (show(iy us).bind (λxs=>some<|x::xs)=some ds from e);cases e;exact .cons hv<|ih ex
  | l=>cases e
  | t=>cases e
  | k=>cases e
def bB(ma:MA):ME:=λρ=>(ma ρ).bind λp=>(bt p.2 p.1).bind λus=>(iy us).bind λds=>if ds.length<=sizeLine then some (.u<|.d<|.tuple ds,p.2)else none
def iU(ma:MA):ME:=λρ=>(ma ρ).bind λp=>(bt p.2 p.1).bind λus=>(iy us).bind λds=>if ds.length<=sizeLine then some (.u<|.l ds,p.2)else none
theorem bU{t:TA}{m:MA}(h:iN K t m):VE K (Dl t) (bB m):=by
 intro ρ σ H a ao Q r e q;obtain⟨⟨as,aq⟩,e1,e⟩:=zb e;have(us,eu,e):=zb e;have(ds,ed,e):=zb e;split at e
 .rename_i hz
  cases e;refine h ρ σ H as _ _ r e1 λvs H1 g1 s1=>?_;have dd:=EI (s1.ku r g1 eu) ed;refine⟨by rw[dd.len]; exact hz,λp hp=>?_⟩;have sm:=zL hp (.tup vs);exact q _ _ (g1.trans<|Go.grow g1.rs sm) ⟨.tup (.inl zw)<|dd.kp sm.kp,Nw.data⟩
 .cases e
theorem l8{t:TA}{m:MA}(h:iN K t m):VE K (Dk t) (iU m):=by
 intro ρ σ H a ao Q r e q;obtain⟨⟨as,aq⟩,e1,e⟩:=zb e;have(us,eu,e):=zb e;have(ds,ed,e):=zb e;split at e
 .rename_i hz
  cases e;refine h ρ σ H as _ _ r e1 λvs H1 g1 s1=>?_;have dd:=EI (s1.ku r g1 eu) ed;refine⟨by rw[dd.len]; exact hz,λp hp=>?_⟩;have sm:=zL hp (.lst vs);exact q _ _ (g1.trans<|Go.grow g1.rs sm) ⟨⟨p,_,rfl,zw,dd.kp sm.kp⟩,λ_=>⟨p,rfl,g1.dm p hp⟩⟩
 .cases e
def VC(K:qc)(r:Qa V->Hp->VK->Prop)(f:Qa U->Qb U):Prop :=
 ∀ (vs:Qa V) (us:Qa U) (u:U) (H:Hp) (Q:VK),CG K H vs us->f us=some u->(∀ v H',b8 H H'->Rp K H' v u->Nw H v u->Q v H')->r vs H Q
def aZ(f:Qa U->Qb U)(ma:MA):ME:=λρ=>(ma ρ).bind λp=>(bt p.2 p.1).bind λus=>(f us).bind λu=>some (.u u,p.2)
theorem bh{f:Qa U->Qb U}{t:TA}{m:MA}(hc:VC K r f)(h:iN K t m):VE K (mM r t) (aZ f m):=by
 intro ρ σ H a ao Q rs e q;obtain⟨⟨as,aq⟩,e1,e⟩:=zb e;have(us,eu,e):=zb e;have(u,ef,e):=zb e;cases e;refine h ρ σ H as _ _ rs e1 λvs H1 g1 s1=>hc vs us u H1 _ (s1.ku rs g1 eu) ef λv H2 s p n=>?_;exact q v H2 (g1.trans<|Go.grow g1.rs s) ⟨p,n.mono g1.dm⟩
def f1(f:U->Qb U):Qa U->Qb U
 | [u]=>f u
 | _=>none
theorem ph{f:U->Qb U}(h:∀ (v:V) (a u:U) (H:Hp) (Q:VK),Rp K H v a->f a=some u->(∀ v H',b8 H H'->Rp K H' v u->Nw H v u->Q v H')->r [v] H Q):VC K r (f1 f):=by
 intro vs us u H Q hr e q;cases hr with
 | nil=>cases e
 | cons h1 t=>
  cases t with
  | nil=>exact h _ _ _ _ _ h1 e q
  | cons=>cases e
def U.items:U->Qb (Qa D)
 | .d (.tuple xs)=>some xs
 | .d (.list xs)=>some xs
 | .l xs=>some xs
 | _=>none
theorem Rp.items{u:U}{xs:Qa D}(h:Rp K H v u)(e:u.items=some xs):∃ p ys,v=.ref p/\(bA K H p ys\/bz K H p ys)/\aK K H ys xs:=by
 cases u with
 | d x=>
  cases x with
  | tuple ds=>cases e; have(a,ys,rfl,h1,h2):=DF.aE h; exact⟨a,ys,rfl,.inr<|(aV.sq h1),h2⟩
  | list ds=>cases e; have(a,ys,rfl,h1,h2):=DF.lst_inv h; exact⟨a,ys,rfl,.inl h1.sq,h2⟩
  | _=>cases e
 | l ds=>cases e; have(a,ys,rfl,h1,h2):=h; exact⟨a,ys,rfl,.inl<|bA.of h1,h2⟩
 | t=>cases e
 | k=>cases e
def cZ(u:U):Qb U:=u.items.map λxs=>.d<|.int xs.length
theorem dU:VC K (OS K) (f1 cZ):=ph λv a u H Q h e q=>by
 have(xs,ex,rfl):=qq.mp e;have(p,ys,rfl,s,d):=h.items ex;exact⟨p,ys,rfl,s,q _ _ (λ_ _ z=>z) (by rw[d.len]; exact .int _) Nw.data⟩
def iY(u:U):Qb U:=u.items.map λxs=>.d<|.tuple xs
theorem mF:VC K (Mb K) (f1 iY):=ph λv a u H Q h e q=>by
 have(xs,ex,rfl):=qq.mp e;cases a with
 | d x=>
  cases x with
  | tuple ds=>
   cases ex;have(a,ys,rfl,h1,h2):=DF.aE h;exact⟨a,ys,rfl,.inr ⟨(aV.sq h1),q _ _ (λ_ _ z=>z) (.tup h1 h2) Nw.data⟩⟩
  | list ds=>
   cases ex;have(a,ys,rfl,h1,h2):=DF.lst_inv h;refine⟨a,ys,rfl,.inl ⟨h1.sq,λl hl=>?_⟩⟩;have sm:=zL hl (.tup ys);exact q _ _ sm (.tup (.inl zw)<|h2.kp sm.kp) Nw.data
  | _=>cases ex
 | l ds=>
  cases ex;have(a,ys,rfl,h1,h2):=h;refine⟨a,ys,rfl,.inl ⟨bA.of h1,λl hl=>?_⟩⟩;have sm:=zL hl (.tup ys);exact q _ _ sm (.tup (.inl zw)<|h2.kp sm.kp) Nw.data
 | t=>cases ex
 | k=>cases ex
def rF:U->Qb U
 | .d (.int i)=>some<|.d<|.int (if i < 0 then -i else i)
 | _=>none
theorem AB:VC K (λxs H Q=>∃ i,xs=[.int i]/\Q (.int (if i < 0 then -i else i)) H) (f1 rF):=ph λv a u H Q h e q=>by
 unfold rF at e;split at e
 .rename_i i
  cases e;cases DF.int_inv h;exact⟨i,rfl,q _ _ (λ_ _ z=>z) (.int _) Nw.data⟩
 .cases e
def uq:U->Qb U
 | .d (.int i)=>some<|.d<|.int i
 | .d (.bool k)=>some<|.d<|.int (if k then 1 else 0)
 | _=>none
theorem Fs:VC K (λxs H Q=>(∃ i,xs=[.int i]/\Q (.int i) H)\/∃ k,xs=[.bl k]/\Q (.int (if k then 1 else 0)) H) (f1 uq):=ph λv a u H Q h e q=>by
 unfold uq at e;split at e
 .rename_i i
  cases e;cases DF.int_inv h;exact .inl ⟨i,rfl,q _ _ (λ_ _ z=>z) (.int _) Nw.data⟩
 .rename_i i
  cases e;cases DF.cq h;exact .inr ⟨i,rfl,q _ _ (λ_ _ z=>z) (.int _) Nw.data⟩
 .cases e
def rO:Qa U->Qb U
 | [.d<|.int i,.d<|.int j]=>some<|.d<|.int (if j > i then j else i)
 | _=>none
theorem AK:VC K (λxs H Q=>∃ i j,xs=[.int i,.int j]/\Q (.int (if j > i then j else i)) H) rO:=by
 intro vs us u H Q hr e q;unfold rO at e;split at e
 .rename_i i j
  cases e;cases hr with
  | cons h1 t=>
   cases t with
   | cons h2 t=>
    cases t;cases DF.int_inv h1;cases DF.int_inv h2;exact⟨i,j,rfl,q _ _ (λ_ _ z=>z) (.int _) Nw.data⟩
 .cases e
def nH:Qa D->Qb (Qa Int)
 | []=>some []
 | .int i::xs=>(nH xs).bind λis=>some<|i::is
 | _::_=>none
theorem LI{ys:Qa V}{xs:Qa D}(h:aK K H ys xs)(e:nH xs=some ns):ys=ns.map V.int:=by
 induction xs generalizing ys ns with
 | nil=>cases e; cases h; rfl
 | cons x xs ih=>
  cases h with
  | cons h1 t=>
   cases x with
   | int i=>
    have(is,ei,e):=zb (show(nH xs).bind (λis=>some<|i::is)=some ns from e);cases e;rw[ih t ei,DF.int_inv h1];rfl
   | _=>cases e
def mB(me:ME):MT:=λρ=>(me ρ).bind λp=>(p.1.get p.2).bind λu=>match u with | .d (.bool b)=>some (b,p.2) | _=>none
theorem ip{t:TE}{m:ME}(h:VE K t m):VT K (tB t) (mB m):=by
 intro ρ σ H b ao Q r e q;obtain⟨⟨a,aq⟩,e1,e⟩:=zb e;have(u,eu,e):=zb e;split at e
 .cases e
  refine h ρ σ H a _ _ r e1 λv H1 g1 k1=>?_;exact⟨_,DF.cq<|k1.now r g1 eu,q _ g1⟩
 .cases e
theorem zI{t:TE}{m:ME}(h:VE K t m):VT K (D8 t) (mB m):=ip h
def pf(ma mb:MT):MT:=λρ=>(ma ρ).bind λp=>if p.1=true then mb p.2 else some (false,p.2)
def i8(ma mb:MT):MT:=λρ=>(ma ρ).bind λp=>if p.1=true then some (true,p.2)else mb p.2
def ik(ma:MT):MT:=λρ=>(ma ρ).bind λp=>some (!p.1,p.2)
theorem AA{ta tb:TT}{ma mb:MT}(ha:VT K ta ma)(hb:VT K tb mb):VT K (DC ta tb) (pf ma mb):=by
 intro ρ σ H b ao Q r e q;obtain⟨⟨c,aq⟩,e1,e⟩:=zb e;refine ha ρ σ H c aq _ r e1 λH1 g1=>?_;dsimp only at e;split at e
 .rename_i hc
  rw[if_pos hc];exact hb aq σ H1 b ao _ g1.rs e λH2 g2=>q H2<|g1.trans g2
 .rename_i hc
  rw[if_neg hc];cases e;exact q H1 g1
theorem kN{ta tb:TT}{ma mb:MT}(ha:VT K ta ma)(hb:VT K tb mb):VT K (GG ta tb) (i8 ma mb):=by
 intro ρ σ H b ao Q r e q;obtain⟨⟨c,aq⟩,e1,e⟩:=zb e;refine ha ρ σ H c aq _ r e1 λH1 g1=>?_;dsimp only at e;split at e
 .rename_i hc
  rw[if_pos hc];cases e;exact q H1 g1
 .rename_i hc
  rw[if_neg hc];exact hb aq σ H1 b ao _ g1.rs e λH2 g2=>q H2<|g1.trans g2
theorem kX{ta:TT}{ma:MT}(ha:VT K ta ma):VT K (DB ta) (ik ma):=by
 intro ρ σ H b ao Q r e q;obtain⟨⟨c,aq⟩,e1,e⟩:=zb e;cases e;exact ha ρ σ H c _ _ r e1 λH1 g1=>q H1 g1
def uo(ma mb:ME):ME:=λρ=>(mB ma ρ).bind λp=>if p.1=true then mb p.2 else some (.u<|.d<|.bool false,p.2)
theorem Dv{a:Ar}{H1 H2:Hp}{aq aB:En}(g1:Go K ρ σ H aq H1)(h:l6 K aB σ H1 H2 v a):l6 K aB σ H H2 v a:=by
 cases a with
 | s i=>exact h
 | u x=>exact⟨h.1,h.2.mono g1.dm⟩
theorem EY{ma mb:ME}(ha:VE K ta ma)(hb:VE K tb mb):VE K (D4 ta tb) (uo ma mb):=by
 intro ρ σ H a ao Q r e q;obtain⟨⟨c,aq⟩,e1,e⟩:=zb e;refine ip ha ρ σ H c aq (λc H1=>if c=true then tb σ H1 Q else Q (.bl false) H1) r e1 λH1 g1=>?_;dsimp only at e;split at e
 .rename_i hc
  rw[if_pos hc];exact hb aq σ H1 a ao _ g1.rs e λv H2 g2 k=>q v H2 (g1.trans g2)<|Dv g1 k
 .rename_i hc
  rw[if_neg hc];cases e;exact q _ H1 g1 ⟨.bl _,Nw.data⟩
def Ae(ma:ME):ME:=λρ=>(mB ma ρ).bind λp=>some (.u<|.d<|.bool (!p.1),p.2)
theorem Si{ma:ME}(ha:VE K ta ma):VE K (D3 ta) (Ae ma):=by
 intro ρ σ H a ao Q r e q;obtain⟨⟨c,aq⟩,e1,e⟩:=zb e;cases e;exact ip ha ρ σ H c _ (λc H1=>Q (.bl (!c)) H1) r e1 λH1 g1=>q _ H1 g1 ⟨.bl _,Nw.data⟩
def xx(mt:MT)(ma mb:ME):ME:=λρ=>(mt ρ).bind λp=>if p.1=true then ma p.2 else mb p.2
theorem O0{mt:MT}{ma mb:ME}(ht:VT K tt mt)(ha:VE K ta ma)(hb:VE K tb mb):VE K (GH tt ta tb) (xx mt ma mb):=by
 intro ρ σ H a ao Q r e q;obtain⟨⟨c,aq⟩,e1,e⟩:=zb e;refine ht ρ σ H c aq _ r e1 λH1 g1=>?_;dsimp only at e;split at e
 .rename_i hc
  rw[if_pos hc];exact ha aq σ H1 a ao _ g1.rs e λv H2 g2 k=>q v H2 (g1.trans g2)<|Dv g1 k
 .rename_i hc
  rw[if_neg hc];exact hb aq σ H1 a ao _ g1.rs e λv H2 g2 k=>q v H2 (g1.trans g2)<|Dv g1 k
def U.xi:U->Qb Bool
 | .d .none=>some false
 | .d (.bool b)=>some b
 | .d (.int i)=>some<|i != 0
 | .d (.str x)=>if x.length<=sizeLine then some ((x.length:Int) != 0)else none
 | .d (.tuple xs)=>some (!xs.isEmpty)
 | .d (.list xs)=>some (!xs.isEmpty)
 | .l xs=>some (!xs.isEmpty)
 | _=>none
theorem Gd{ys:Qa V}{xs:Qa D}(h:aK K H ys xs):(!xs.isEmpty)=!ys.isEmpty:=by cases h<;>rfl
def vL(ma:ME):MT:=λρ=>(ma ρ).bind λp=>(p.1.get p.2).bind λu=>u.xi.bind λb=>some (b,p.2)
theorem JZ{ma:ME}(ha:VE K ta ma):VT K (OT K ta) (vL ma):=by
 intro ρ σ H b ao Q r e q;obtain⟨⟨a,aq⟩,e1,e⟩:=zb e;have(u,eu,e):=zb e;have(c,ec,e):=zb e;cases e;refine ha ρ σ H a _ _ r e1 λv H1 g1 k1=>⟨_,?_,q _ g1⟩;have p:=k1.now r g1 eu;cases u with
 | d x=>
  cases(show DF K H1 v x from p)with
  | aI=>cases ec; rfl
  | bl=>cases ec; rfl
  | int=>cases ec; rfl
  | str x=>
   unfold U.xi at ec;dsimp only at ec;split at ec
   .cases ec; exact⟨by assumption,rfl⟩
   .cases ec
  | tup h t=>cases ec; exact .inr<|.inl ⟨_,(aV.sq h),Gd t⟩
  | lst h t=>cases ec; exact .inl ⟨_,h.sq,Gd t⟩
  | gx=>cases ec
  | exc=>cases ec
  | obj=>cases ec
 | l xs=>cases ec; have(a,us,rfl,h1,h2):=p; exact .inl ⟨_,bA.of h1,Gd h2⟩
 | t=>cases ec
 | k=>cases ec
end
section
variable{ρ ao:En}
abbrev FD:=Qa U->Qb (U×Qa U)
def sm(xs:Qa U):En:=xs.map some
def dH(vs:Qa V):St:=vs.map some
def p7(K:qc)(n:Nat)(f:FD):Sp:=λvs H Q _=>∃ us r outs,us.length=n/\Rs K (sm us) (dH vs) H/\f us=some (r,outs)/\
 ∀ v H',Go K (sm us) (dH vs) H (sm outs) H'->Rp K H' v r->Nw H v r->Q v H'
def wb:En->Qa Ar->Qa U->En
 | ρ,.s j::as,o::os=>wb (ρ.set j<|some o) as os
 | ρ,.u _::as,_::os=>wb ρ as os
 | ρ,_,_=>ρ
def iT(ρ:En):Qa Ar->Bool
 | []=>true
 | .s j::as=>(match ρ[j]? with|some (some u)=>!u.own || !(as.any λa=>match a with | .s k=>decide (k=j) | _=>false) | _=>true) && iT ρ as
 | .u _::as=>iT ρ as
def zS(f:FD)(ma:MA):ME:=λρ=>(ma ρ).bind λp=>if iT p.2 p.1=true then(bt p.2 p.1).bind λus=>(f us).bind λo=>some (.u o.1,wb p.2 p.1 o.2)else none
theorem Bg:∀ {as:Qa Ar} {us:Qa U},bt ρ as=some us->us.length=as.length
 | [],us,e=>by cases e; rfl
 | a::as,us,e=>by
  have(u,eu,e):=zb e;have(mJ,yg,e):=zb e;cases e;simp[Bg yg]
theorem Lf:∀ {as:Qa Ar} {us:Qa U} {i:Nat} {a:Ar},bt ρ as=some us->as[i]?=some a->∃ u,us[i]?=some u/\a.get ρ=some u
 | [],us,i,a,e,ea=>by simp at ea
 | b::as,us,i,a,e,ea=>by
  have(u,eu,e):=zb e;have(mJ,yg,e):=zb e;cases e;cases i with
  | zero=>cases(show some b=some a from ea); exact⟨u,rfl,eu⟩
  | succ i=>exact Lf (i:=i) yg ea
theorem FC:∀ {as:Qa Ar} {us:Qa U} {i:Nat} {u:U},bt ρ as=some us->us[i]?=some u->∃ a,as[i]?=some a/\a.get ρ=some u:=λ{as us i u} e eu=>by
 have hi:i < as.length:=by rw[<-Bg e]; exact(qk.mp eu).1
 have(u',e1,e2):=Lf e (ql hi);rw[eu]at e1;cases e1;exact⟨_,ql hi,e2⟩
theorem IT{u:U}(e:Ar.get ρ (.s j)=some u):ρ[j]?=some (some u):=by
 have z:(ρ[j]?).join=some u:=e;cases q:ρ[j]? with
 | none=>rw[q]at z; cases z
 | some o=>
  rw[q]at z;cases o with
  | none=>cases z
  | some w=>cases z; rfl
theorem Le:∀ {as:Qa Ar} {p q j:Nat} {u:U},iT ρ as=true->as[p]?=some (.s j)->as[q]?=some (.s j)->ρ[j]?=some (some u)->u.own=true->p=q
 | [],p,q,j,u,_,e,_,_,_=>by simp at e
 | a::as,p,q,j,u,d,ep,eq,ej,ou=>by
  have dd:iT ρ as=true:=by
   cases a with
   | s k=>unfold iT at d; rw[Bool.and_eq_true]at d; exact d.2
   | u=>exact d
  have xu:∀ {q':Nat},a=.s j->as[q']?=some (.s j)->False:=λ{q'} ea Cv=>by
   subst ea;unfold iT at d;rw[Bool.and_eq_true,ej]at d;have d1:=d.1;dsimp only at d1;rw[ou]at d1;have m:(as.any λa=>match a with | .s k=>decide (k=j) | _=>false)=true:=ì.mpr ⟨.s j,Æ Cv,by simp⟩;rw[m]at d1;cases d1
  cases p with
  | zero=>
   cases q with
   | zero=>rfl
   | succ q=>exact(xu (qw ep) eq).elim
  | succ p=>
   cases q with
   | zero=>exact(xu (qw eq) ep).elim
   | succ q=>exact congrArg (·+1)<|Le dd ep eq ej ou
theorem fN{us:Qa U}{u:U}:(sm us)[i]?=some (some u)↔us[i]?=some u:=by
 unfold sm;rw[List.getElem?_map];cases us[i]?<;>simp
theorem uE:(dH vs)[i]?=some (some v)↔vs[i]?=some v:=by
 unfold dH;rw[List.getElem?_map];cases vs[i]?<;>simp
theorem y0:∀ {as:Qa Ar} {os:Qa U} {ρ:En} {j:Nat} {w:U},(wb ρ as os)[j]?=some (some w)->as.length=os.length->(∃ p:Nat,as[p]?=some (Ar.s j)/\os[p]?=some w)\/(ρ[j]?=some (some w)/\∀ p:Nat,as[p]?≠some (Ar.s j))
 | [],os,ρ,j,w,e,_=>.inr ⟨by cases os<;>exact e,λp z=>by simp at z⟩
 | a::as,[],ρ,j,w,e,l=>by simp at l
 | .u x::as,o::os,ρ,j,w,e,l=>by
  rcases y0 (as:=as) (os:=os) (ρ:=ρ) (show(wb ρ as os)[j]?=some (some w) from e) (by simpa using l)with⟨p,h1,h2⟩|⟨h1,h2⟩
  .exact .inl ⟨p+1,h1,h2⟩
  .refine .inr ⟨h1,λp z=>?_⟩
   cases p with
   | zero=>cases(show some (Ar.u x)=some (.s j) from z)
   | succ p=>exact h2 p z
 | .s k::as,o::os,ρ,j,w,e,l=>by
  rcases y0 (as:=as) (os:=os) (ρ:=ρ.set k (some o)) (show(wb (ρ.set k<|some o) as os)[j]?=some (some w) from e) (by simpa using l)with⟨p,h1,h2⟩|⟨h1,h2⟩
  .exact .inl ⟨p+1,h1,h2⟩
  .by_cases hk:k=j
   .subst hk
    have hl:k < (ρ.set k<|some o).length:=(qk.mp h1).1;rw[List.length_set]at hl;rw[List.getElem?_set_self hl]at h1;exact .inl ⟨0,rfl,by cases h1; rfl⟩
   .rw[qB hk]at h1
    refine .inr ⟨h1,λp z=>?_⟩;cases p with
    | zero=>cases(show some (Ar.s k)=some (.s j) from z); exact hk rfl
    | succ p=>exact h2 p z
theorem Az:∀ (ρ:En) (as:Qa Ar) (os:Qa U),(wb ρ as os).length=ρ.length
 | ρ,[],os=>by cases os<;>rfl
 | ρ,.s k::as,[]=>rfl
 | ρ,.u k::as,[]=>rfl
 | ρ,.s k::as,o::os=>by show(wb (ρ.set k<|some o) as os).length=_; rw[Az]; exact List.length_set
 | ρ,.u k::as,o::os=>Az ρ as os
theorem AJ:∀ {as:Qa Ar} {os:Qa U} {ρ:En} {j:Nat} {w:U},ρ[j]?=some (some w)->∃ w',(wb ρ as os)[j]?=some (some w')
 | [],os,ρ,j,w,e=>⟨w,by cases os<;>exact e⟩
 | .s k::as,[],ρ,j,w,e=>⟨w,e⟩
 | .u k::as,[],ρ,j,w,e=>⟨w,e⟩
 | .u k::as,o::os,ρ,j,w,e=>AJ (as:=as) (os:=os) e
 | .s k::as,o::os,ρ,j,w,e=>by
  by_cases hk:k=j
  .subst hk
   exact AJ (as:=as) (os:=os) (w:=o)<|ò (qk.mp e).1
  .exact AJ (as:=as) (os:=os) (w:=w) (by rw[qB hk]; exact e)
theorem Sh{as:Qa Ar}{us:Qa U}{aq:En}{H1:Hp}(rs:Rs K ρ σ H)(g1:Go K ρ σ H aq H1)(s1:CL K aq σ H H1 vs as)(dj:iT aq as=true)(eu:bt aq as=some us):
  Rs K (sm us) (dH vs) H1/\∀ (outs:Qa U) (H2:Hp),Go K (sm us) (dH vs) H1 (sm outs) H2->Go K ρ σ H (wb aq as outs) H2:=by
 have rp:=s1.ku rs g1 eu;have lus:=Bg eu;have Ca:=s1.len;have adr:∀ (i:Nat) (u:U),us[i]?=some u->u.own=true->∃ b,vs[i]?=some (.ref b)/\((∃ j,as[i]?=some (.s j)/\σ[j]?=some (some<|.ref b)/\aq[j]?=some (some u))\/(as[i]?=some (.u u)/\H b=none)):=λi u ei ou=>by
  have(a,ea,eg):=FC eu ei;have(v,ev,k):=s1.ar i a ea;have p:=k.now rs g1 eg;have(b,rfl):=p.i7 ou;refine⟨b,ev,?_⟩;cases a with
  | s j=>exact .inl ⟨j,ea,k.1,IT eg⟩
  | u x=>
   cases(show some x=some u from eg);have(b',eb,hb):=k.2 ou;cases eb;exact .inr ⟨ea,hb⟩
 have apart:∀ (i j:Nat) (u w:U),us[i]?=some u->us[j]?=some w->u.own=true->w.own=true->vs[i]?=vs[j]?->i=j:=λi j u w ei ej ou ow ev=>by
  have(b,vb,hb):=adr i u ei ou;have(c,vc,hc):=adr j w ej ow;have bc:b=c:=by rw[vb,vc]at ev; cases ev; rfl
  subst bc;rcases hb with⟨x,ax,sx,rx⟩|⟨ax,nx⟩
  .rcases hc with⟨y,ay,sy,ry⟩|⟨ay,ny⟩
   .have xy:x=y:=g1.rs.apart x y u w rx ry ou ow (by rw[sx,sy])
    subst xy;exact Le dj ax ay rx ou
   .exfalso
    have(w',eF,sT):=g1.shr.own x u rx ou;have(c',jP,_):=rs.ow ⟨x,w',eF,sT,sx⟩;rw[ny]at jP;cases jP
  .rcases hc with⟨y,ay,sy,ry⟩|⟨ay,ny⟩
   .exfalso
    have(w',eF,sT):=g1.shr.own y w ry ow;have(c',jP,_):=rs.ow ⟨y,w',eF,sT,sy⟩;rw[nx]at jP;cases jP
   .exact s1.ap i j u w ax ay ou ow ev
 have B3:Rs K (sm us) (dH vs) H1:=by
  refine⟨by unfold sm dH; rw[List.length_map,List.length_map]; omega,λi u ei=>?_,λi j u w ei ej ou ow ev=>?_⟩
  .have qW:=fN.mp ei
   have(a,ea,eg):=FC eu qW;have(v,ev,k):=s1.ar i a ea;exact⟨v,uE.mpr ev,k.now rs g1 eg⟩
  .have qW:=fN.mp ei
   have oW:=fN.mp ej;refine apart i j u w qW oW ou ow ?_;have(b,vb,_):=adr i u qW ou;have(c,vc,_):=adr j w oW ow;rw[uE.mpr vb,uE.mpr vc]at ev;rw[vb,vc];exact qw ev
 refine⟨B3,λouts H2 g2=>?_⟩;have lo:outs.length=us.length:=by have:=g2.shr.len; unfold sm at this; simpa using this
 have kp2:=g2.kp B3;have owA:∀ b,Ow (sm us) (dH vs) b->Ow aq σ b\/H b=none:=λb ⟨i,u,ei,ou,es⟩=>by
  have(c,vc,hc):=adr i u (fN.mp ei) ou;rw[uE.mp es]at vc;cases vc;rcases hc with⟨j,_,sj,rj⟩|⟨_,nb⟩
  .exact .inl ⟨j,u,rj,ou,sj⟩
  .exact .inr nb
 have sU:∀ (i:Nat) (w:U),outs[i]?=some w->∃ x,vs[i]?=some x/\Rp K H2 x w:=λi w ei=>by
  have(x,ex,px):=g2.rs.rep i w (fN.mpr ei);exact⟨x,uE.mp ex,px⟩
 have Pj:as.length=outs.length:=by omega
 have fP:∀ (j:Nat) (w:U),(wb aq as outs)[j]?=some (some w)->w.own=true->∃ w',aq[j]?=some (some w')/\w'.own=true:=λj w ej ow=>by
  rcases y0 ej Pj with⟨p,ap,op⟩|⟨h1,_⟩
  .have(w',eF,sT):=g2.shr.own p w (fN.mpr op) ow
   have(a,ea,eg):=FC eu (fN.mp eF);rw[ap]at ea;cases ea;exact⟨w',IT eg,sT⟩
  .exact⟨w,h1,ow⟩
 refine⟨⟨by rw[Az]; exact g1.rs.len,λj w ej=>?_,λi j u w ei ej ou ow es=>?_⟩,λb ob hb nb=>?_,?_,λb hb=>g1.dm b<|g2.dm b hb⟩
 .rcases y0 ej Pj with⟨p,ap,op⟩|⟨h1,h2⟩
  .have(x,vx,px):=sU p w op
   have(v',tX,k'):=s1.ar p _ ap;rw[vx]at tX;cases tX;exact⟨x,k'.1,px⟩
  .have(x,ex,px):=g1.rs.rep j w h1
   refine⟨x,ex,px.kp kp2 λow b c eb hb=>?_⟩;refine g2.fr b c hb λ⟨i,u,ei,ou,es⟩=>?_;have(c',O2,jP):=adr i u (fN.mp ei) ou;rw[uE.mp es]at O2;cases O2;subst eb;rcases jP with⟨k,ak,sk,rk⟩|⟨_,nb⟩
   .have:k=j:=g1.rs.apart k j u w rk h1 ou ow (by rw[sk,ex])
    subst this;exact h2 i ak
   .have(w',eF,sT):=g1.shr.own j w h1 ow
    have(c'',xY,_):=rs.ow ⟨j,w',eF,sT,ex⟩;rw[nb]at xY;cases xY
 .have(x,ex,ox):=fP i u ei ou
  have(y,ey,oy):=fP j w ej ow;exact g1.rs.apart i j x y ex ey ox oy es
 .refine g2.fr b ob (g1.fr b ob hb nb) λz=>?_
  rcases owA b z with z|z
  .exact nb (g1.shr.ow z)
  .rw[z]at hb; cases hb
 .refine⟨by rw[Az]; exact g1.shr.len,λj w ej ow=>?_,λj w ej=>?_⟩
  .have(x,ex,ox):=fP j w ej ow
   exact g1.shr.own j x ex ox
  .have(x,ex):=g1.shr.live j w ej
   exact AJ ex
theorem zAE:∀ ρ as ao,zp ρ=some (as,ao)->as.length=0:=λρ as ao e=>by cases e; rfl
theorem Sg{me:ME}{ma:MA}(h:∀ ρ as ao,ma ρ=some (as,ao)->as.length=n):∀ ρ as ao,zf me ma ρ=some (as,ao)->as.length=n+1:=λρ as ao e=>by
 obtain⟨⟨a1,aq⟩,e1,e⟩:=zb e;obtain⟨⟨CA,aB⟩,e2,e⟩:=zb e;cases e;simp[h _ _ _ e2]
theorem zF{f:FD}{t:TA}{m:MA}(n:Nat)(h:iN K t m)(hn:∀ ρ as ao,m ρ=some (as,ao)->as.length=n:=by repeat (first|exact zAE|refine Sg ?_)):VE K (Dw (p7 K n f) t) (zS f m):=by
 intro ρ σ H a ao Q rs e q;obtain⟨⟨as,aq⟩,e1,e⟩:=zb e;dsimp only at e;split at e
 .rename_i dj
  have(us,eu,e):=zb e;obtain⟨⟨r,outs⟩,ef,e⟩:=zb e;cases e;refine h ρ σ H as aq _ rs e1 λvs H1 g1 s1=>?_;have(B3,back):=Sh rs g1 s1 dj eu;exact⟨us,r,outs,by rw[Bg eu]; exact hn _ _ _ e1,B3,ef,λv H2 g2 p n2=>q v H2 (back outs H2 g2) ⟨p,n2.mono g1.dm⟩⟩
 .cases e
end
inductive Fl where
 | nx (ρ:En) | bk (ρ:En) | ct (ρ:En) | rt (u:U) (ρ:En) | ex (x:D) (ρ:En)
def OZ(K:qc)(H:Hp)(a:Qg)(x:D):Prop:=∃ n C fs ds,x=.dict ((.none,.str n)::ds)/\zB5 H a C fs/\XN K n C/\gP K H fs ds
structure Sn (K:qc) (pn:Qa Nat) (au:St) (A:Qg->Prop) (av aA:Hp) (ρ:En) (σ:St) (H:Hp):Prop where
 rs:Rs K ρ σ H
 fr:yt A av H
 ow:∀ (i:Nat) (u:U) (a:Qg),ρ[i]?=some (some u)->u.own=true->σ[i]?=some (some<|.ref a)->(i∈pn/\A a)\/av a=none
 pin:∀ i∈pn,σ[i]?=au[i]?
 dm:∀ a,H a=none->av a=none
 kp:Kp aA H
def QY:iQ:=λ_ _ _=>False
def zB6(K:qc)(pn:Qa Nat)(EX:iQ)(au:St)(A:Qg->Prop)(av aA:Hp)(D:Ends):Fl->Prop
 | .nx ρ=>∀ σ H,Sn K pn au A av aA ρ σ H->D.nx σ H
 | .bk ρ=>∀ σ H,Sn K pn au A av aA ρ σ H->D.bk σ H
 | .ct ρ=>∀ σ H,Sn K pn au A av aA ρ σ H->D.ct σ H
 | .rt u ρ=>∀ v σ H,Sn K pn au A av aA ρ σ H->Rp K H v u->Nw av v u->D.rt v H
 | .ex x ρ=>∀ a σ H,Sn K pn au A av aA ρ σ H->av a=none->OZ K H a x->EX σ a H
abbrev MS:=En->Qb Fl
def VS(K:qc)(pn:Qa Nat)(EX:iQ)(t:TS)(m:MS):Prop :=
 ∀ (au:St) (A:Qg->Prop) (av aA:Hp) (ρ:En) (σ:St) (H:Hp) (f:Fl) (D:Ends),Sn K pn au A av aA ρ σ H->m ρ=some f->zB6 K pn EX au A av aA D f->t D σ H
section
variable{EX:iQ}{A:Qg->Prop}{lS:Hp}{ρ ao:En}
theorem Sn.go(s:Sn K pn au A av aA ρ σ H)(g:Go K ρ σ H ao H'):Sn K pn au A av aA ao σ H':=by
 refine⟨g.rs,λa o h n=>g.fr a o (s.fr a o h n) λ⟨i,u,e,ou,es⟩=>?_,λi u a e o es=>?_,s.pin,λa h=>s.dm a<|g.dm a h,s.kp.trans<|g.kp s.rs⟩
 .rcases s.ow i u a e ou es with z|z
  .exact n z.2
  .rw[z]at h; cases h
 .have(w,e',o'):=g.shr.own i u e o
  exact s.ow i w a e' o' es
theorem Sn.re(s:Sn K pn au A av lS ρ σ H)(k:Kp aA lS):Sn K pn au A av aA ρ σ H:=⟨s.rs,s.fr,s.ow,s.pin,s.dm,k.trans s.kp⟩
theorem Sn.at(s:Sn K pn au A av aA ρ σ H):Sn K pn au A av H ρ σ H:=⟨s.rs,s.fr,s.ow,s.pin,s.dm,Kp.refl H⟩
theorem Sn.set{u:U}(s:Sn K pn au A av aA ρ σ H)(hi:i∉pn)(p:Rp K H v u)(n:u.own=true->∃ a,v=.ref a/\av a=none/\¬Ow ρ σ a):Sn K pn au A av aA (ρ.set i<|some u) (σ.set i<|some v) H:=by
 have ll:=s.rs.len;have inv:∀ (j:Nat) (w:U),(ρ.set i<|some u)[j]?=some (some w)->(j=i/\w=u/\i < ρ.length)\/(j≠i/\ρ[j]?=some (some w)):=λj w e=>by
  by_cases hj:i=j
  .subst hj
   have hl:=(qk.mp e).1;rw[List.length_set]at hl;rw[List.getElem?_set_self hl]at e;cases e;exact .inl ⟨rfl,rfl,hl⟩
  .rw[qB hj]at e
   exact .inr ⟨Ne.symm hj,e⟩
 have sat:∀ j,j≠i->(σ.set i<|some v)[j]?=σ[j]?:=λj h=>qB<|Ne.symm h;have i6:i < ρ.length->(σ.set i<|some v)[i]?=some (some v):=λh=>ò (by omega);refine⟨⟨by rw[List.length_set,List.length_set]; exact ll,λj w e=>?_,λj k x y ej ek ox oy es=>?_⟩,s.fr,λj w a e o es=>?_,λj hj=>?_,s.dm,s.kp⟩
 .rcases inv j w e with⟨rfl,rfl,hl⟩|⟨hj,e'⟩
  .exact⟨v,i6 hl,p⟩
  .rw[sat j hj]
   exact s.rs.rep j w e'
 .rcases inv j x ej with⟨rfl,rfl,hl⟩|⟨hj,oW⟩
  .rcases inv k y ek with⟨rfl,rfl,_⟩|⟨hk,HW⟩
   .rfl
   .exfalso
    have(a,rfl,_,na):=n ox;rw[i6 hl,sat k hk]at es;exact na ⟨k,y,HW,oy,es.symm⟩
  .rcases inv k y ek with⟨rfl,rfl,hl⟩|⟨hk,HW⟩
   .exfalso
    have(a,rfl,_,na):=n oy;rw[i6 hl,sat j hj]at es;exact na ⟨j,x,oW,ox,es⟩
   .rw[sat j hj,sat k hk]at es
    exact s.rs.apart j k x y oW HW ox oy es
 .rcases inv j w e with⟨rfl,rfl,hl⟩|⟨hj,e'⟩
  .rw[i6 hl]at es
   cases es;have(b,eb,hb,_):=n o;cases eb;exact .inr hb
  .rw[sat j hj]at es
   exact s.ow j w a e' o es
 .rw[sat j λz=>hi<|z▸hj]
  exact s.pin j hj
theorem l6.own{a:Ar}{u:U}(r:Rs K ρ σ H)(g:Go K ρ σ H ao H')(k:l6 K ao σ H H' v a)(e:a.get ao=some u)(nc:∀ j,a=.s j->u.own=false):Nw H v u/\(u.own=true->∃ b,v=.ref b/\¬Ow ao σ b):=by
 cases a with
 | s j=>exact⟨(λo=>by rw[nc j rfl]at o; cases o),λo=>by rw[nc j rfl]at o; cases o⟩
 | u x=>
  cases(show some x=some u from e);exact⟨k.2,k.2.oq r g⟩
def put(p:Ar×En):Qb (U×En):=match p.1 with
 | .s i=>match p.2[i]? with
  | some (some<|.d x)=>some (.d x,p.2)
  | _=>none
 | .u u=>some (u,p.2)
theorem JY{a:Ar}{u:U}{aq aB:En}(e:put (a,aq)=some (u,aB)):aB=aq/\a.get aq=some u/\∀ j,a=.s j->u.own=false:=by
 cases a with
 | s i=>
  unfold put at e;dsimp only at e;split at e
  .rename_i x ex
   cases e;refine⟨rfl,?_,λ_ _=>rfl⟩;show(aq[i]?).join=_;rw[ex];rfl
  .cases e
 | u x=>
  cases e;exact⟨rfl,rfl,λj z=>by cases z⟩
def zQ(i:Nat)(me:ME):MS:=λρ=>(me ρ).bind λp=>(put p).bind λq=>some<|.nx<|q.2.set i<|some q.1
theorem zD{me:ME}(h:VE K te me)(hi:i∉pn:=by decide):VS K pn EX (nj te<|jv i) (zQ i me):=by
 intro au A av aA ρ σ H f D s e k;obtain⟨⟨a,aq⟩,e1,e⟩:=zb e;obtain⟨⟨u,aB⟩,e2,e3⟩:=zb e;clear e;have(rfl,eg,nc):=JY e2;cases e3;refine h ρ σ H a aB _ s.rs e1 λv H1 g1 k1=>?_;have(n1,n2):=k1.own s.rs g1 eg nc;have s1:=s.go g1;refine k _ _<|s1.set hi (k1.now s.rs g1 eg) λo=>?_;have(b,rfl,hb):=n2 o;have(b',eb,jQ):=n1 o;cases eb;exact⟨b,rfl,s.dm b jQ,hb⟩
def zz(m1 m2:MS):MS:=λρ=>(m1 ρ).bind λf=>match f with
 | .nx ao=>m2 ao
 | f=>some f
theorem zu{t1 t2:TS}{m1 m2:MS}(h1:VS K pn EX t1 m1)(h2:VS K pn EX t2 m2):VS K pn EX (vN t1 t2) (zz m1 m2):=by
 intro au A av aA ρ σ H f D s e k;have(f1,e1,e):=zb e;refine h1 au A av aA ρ σ H f1 _ s e1 ?_;cases f1 with
 | nx aq=>exact λdQ H1 s1=>h2 au A av aA aq dQ H1 f D s1 e k
 | bk aq=>cases e; exact k
 | ct aq=>cases e; exact k
 | rt u aq=>cases e; exact k
 | ex x aq=>cases e; exact k
def bZ:MS:=λρ=>some<|.nx ρ
theorem cS:VS K pn EX Ed bZ:=λau A av aA ρ σ H f D s e k=>by cases e; exact k σ H s
def bW(mt:MT)(m1 m2:MS):MS:=λρ=>(mt ρ).bind λp=>if p.1=true then m1 p.2 else m2 p.2
theorem cI{t1 t2:TS}{mt:MT}{m1 m2:MS}(ht:VT K tt mt)(h1:VS K pn EX t1 m1)(h2:VS K pn EX t2 m2):VS K pn EX (DG tt t1 t2) (bW mt m1 m2):=by
 intro au A av aA ρ σ H f D s e k;obtain⟨⟨c,aq⟩,e1,e⟩:=zb e;refine ht ρ σ H c aq _ s.rs e1 λH1 g1=>?_;dsimp only at e;split at e
 .rename_i hc
  rw[if_pos hc];exact h1 au A av aA aq σ H1 f D (s.go g1) e k
 .rename_i hc
  rw[if_neg hc];exact h2 au A av aA aq σ H1 f D (s.go g1) e k
theorem uD{t:TS}{m:MS}(h:VS K pn EX t m):VS K pn EX (D0 t) m:=by
 intro au A av aA ρ σ H f D s e k;cases f with
 | nx aq=>exact⟨λaG H'=>Sn K pn au A av aA aq aG H',h au A av aA ρ σ H _ _ s e λaG H' s'=>s',λaG H' s'=>k aG H' s'⟩
 | bk aq=>exact⟨D.nx,h au A av aA ρ σ H _ _ s e k,λ_ _ z=>z⟩
 | ct aq=>exact⟨D.nx,h au A av aA ρ σ H _ _ s e k,λ_ _ z=>z⟩
 | rt u aq=>exact⟨D.nx,h au A av aA ρ σ H _ _ s e k,λ_ _ z=>z⟩
 | ex x aq=>exact⟨D.nx,h au A av aA ρ σ H _ _ s e k,λ_ _ z=>z⟩
def nG(me:ME):MS:=λρ=>(me ρ).bind λp=>some<|.nx p.2
theorem wj{me:ME}(h:VE K te me):VS K pn EX (Ec te) (nG me):=by
 intro au A av aA ρ σ H f D s e k;obtain⟨⟨a,aq⟩,e1,e⟩:=zb e;cases e;exact h ρ σ H a _ _ s.rs e1 λv H1 g1 k1=>k σ H1<|s.go g1
def ba(me:ME):MS:=λρ=>(me ρ).bind λp=>(put p).bind λq=>some<|.rt q.1 q.2
theorem zT{me:ME}(h:VE K te me):VS K pn EX (yM te) (ba me):=by
 intro au A av aA ρ σ H f D s e k;obtain⟨⟨a,aq⟩,e1,e⟩:=zb e;obtain⟨⟨u,aB⟩,e2,e3⟩:=zb e;clear e;have(rfl,eg,nc):=JY e2;cases e3;refine h ρ σ H a _ _ s.rs e1 λv H1 g1 k1=>?_;have(n1,n2):=k1.own s.rs g1 eg nc;exact k v σ H1 (s.go g1) (k1.now s.rs g1 eg)<|n1.mono s.dm
def rN(pn:Qa Nat)(i:Nat):MS:=λρ=>if i∈pn then none else(match ρ[i]? with
 | some (some u)=>some<|.rt u<|ρ.set i none
 | _=>none)
theorem JX:VS K pn EX (yM<|iV i) (rN pn i):=by
 intro au A av aA ρ σ H f D s e k;unfold rN at e;split at e
 .cases e
 rename_i hi;split at e
 .rename_i u eu
  cases e;have(v,ev,p):=s.rs.rep i u eu;have back:∀ (j:Nat) (w:U),(ρ.set i none)[j]?=some (some w)->ρ[j]?=some (some w):=λj w e=>by
   by_cases hj:i=j
   .subst hj
    have hl:=(qk.mp e).1;rw[List.length_set]at hl;rw[List.getElem?_set_self hl]at e;cases e
   .rw[qB hj]at e
    exact e
  refine⟨v,ev,k v σ H ⟨⟨by rw[List.length_set]; exact s.rs.len,λj w e=>s.rs.rep j w<|back j w e,λa b x y ea eb=>s.rs.apart a b x y (back a x ea)<|back b y eb⟩,s.fr,λj w a e=>s.ow j w a<|back j w e,s.pin,s.dm,s.kp⟩ p λo=>?_⟩;have(a,rfl):=p.i7 o;rcases s.ow i u a eu o ev with z|z
  .exact absurd z.1 hi
  .exact⟨a,rfl,z⟩
 .cases e
end
section
variable{EX:iQ}{A:Qg->Prop}{lS:Hp}{ρ ao:En}
def JW(K:qc)(J:It)(aA:Hp)(ds:Qa D):Prop:=∀ H,Kp aA H->∀ i:Nat,(∀ d,ds[i]?=some d->J.go i H/\∀ x H',J.u7 i H x H'->b8 H H'/\DF K H' x d)/\(i=ds.length->J.stop i H)
abbrev MI:=En->Qb (Qa D×En)
def VI(K:qc)(wi:TI)(mi:MI):Prop :=
 ∀ (ρ:En) (σ:St) (H:Hp) (ds:Qa D) (ao:En) (R:It->Hp->Prop),Rs K ρ σ H->mi ρ=some (ds,ao)->(∀ J H',Go K ρ σ H ao H'->JW K J H' ds->R J H')->wi σ H R
def yS:U->Qb (Qa D)
 | .d (.list xs)=>some xs
 | _=>none
def kI:U->Qb (Qa D)
 | .d (.tuple xs)=>some xs
 | _=>none
def cP(f:U->Qb (Qa D))(me:ME):MI:=λρ=>(me ρ).bind λp=>(p.1.get p.2).bind λu=>(f u).bind λds=>some (ds,p.2)
theorem V4{me:ME}(h:VE K te me):VI K (Eb K te) (cP yS me):=by
 intro ρ σ H ds ao R r e q;obtain⟨⟨a,aq⟩,e1,e⟩:=zb e;have(u,eu,e):=zb e;have(xs,ex,e):=zb e;cases e;refine h ρ σ H a _ _ r e1 λv H1 g1 k1=>?_;have p:=k1.now r g1 eu;unfold yS at ex;split at ex
 .cases ex
  have(b,ys,rfl,h1,h2):=DF.lst_inv p;refine⟨b,rfl,⟨ys,h1.sq⟩,q _ _ g1 λH2 k i=>⟨λd ed=>?_,λei=>?_⟩⟩
  .have(v,ev,dv):=(h2.kp k).get ed
   refine⟨⟨ys,v,(h1.kp k).sq,ev⟩,λx H' y=>?_⟩;have(rfl,y):=y;have:=y ys (h1.kp k).sq;rw[ev]at this;cases this;exact⟨λ_ _ z=>z,dv⟩
  .exact⟨ys,(h1.kp k).sq,by rw[h2.len]; omega⟩
 .cases ex
theorem r8{me:ME}(h:VE K te me):VI K (Dt K te) (cP kI me):=by
 intro ρ σ H ds ao R r e q;obtain⟨⟨a,aq⟩,e1,e⟩:=zb e;have(u,eu,e):=zb e;have(xs,ex,e):=zb e;cases e;refine h ρ σ H a _ _ r e1 λv H1 g1 k1=>?_;have p:=k1.now r g1 eu;unfold kI at ex;split at ex
 .cases ex
  have(b,ys,rfl,h1,h2):=DF.aE p;refine⟨b,rfl,⟨ys,(aV.sq h1)⟩,q _ _ g1 λH2 k i=>⟨λd ed=>?_,λei=>?_⟩⟩
  .have(v,ev,dv):=(h2.kp k).get ed
   refine⟨⟨ys,v,(aV.kp k h1).sq,ev⟩,λx H' y=>?_⟩;have(rfl,y):=y;have:=y ys ((aV.kp k h1).sq);rw[ev]at this;cases this;exact⟨λ_ _ z=>z,dv⟩
  .exact⟨ys,(aV.kp k h1).sq,by rw[h2.len]; omega⟩
 .cases ex
def eO(lo:Int)(n:Nat):Qa D:=(List.range n).map λi=>.int<|lo+(i:Nat)
theorem F7(lo:Int)(n:Nat):(eO lo n).length=n:=by simp[eO]
theorem FT{lo:Int}{d:D}(h:(eO lo n)[i]?=some d):i < n/\d=.int (lo+(i:Nat)):=by
 have hl:=(qk.mp h).1;rw[F7]at hl;refine⟨hl,?_⟩;unfold eO at h;rw[List.getElem?_map,List.getElem?_range hl]at h;cases h;rfl
theorem MB{lo:Int}:JW K (yp lo n) aA (eO lo n):=λH k i=>⟨λd ed=>by
  have(hi,rfl):=FT ed;refine⟨hi,λx H' y=>?_⟩;have(rfl,rfl):=y;exact⟨λ_ _ z=>z,.int _⟩,λei=>by rw[F7]at ei; exact þ ei.symm⟩
def kM(ma:MA):MI:=λρ=>(ma ρ).bind λp=>(bt p.2 p.1).bind λus=>match us with
 | [.d<|.int j]=>if -(2^62)<=j/\j < 2^62 then some (eO 0 j.toNat,p.2)else none
 | _=>none
def rM(ma:MA):MI:=λρ=>(ma ρ).bind λp=>(bt p.2 p.1).bind λus=>match us with
 | [.d<|.int i,.d<|.int j]=>if -(2^62)<=i/\i < 2^62/\-(2^62)<=j/\j < 2^62 then some (eO i (j - i).toNat,p.2)else none
 | _=>none
theorem pP{ta:TA}{ma:MA}(h:iN K ta ma):VI K (Ea ta) (kM ma):=by
 intro ρ σ H ds ao R r e q;obtain⟨⟨as,aq⟩,e1,e⟩:=zb e;have(us,eu,e):=zb e;refine h ρ σ H as aq _ r e1 λvs H1 g1 s1=>?_;have rp:=s1.ku r g1 eu;dsimp only at e;split at e
 .split at e
  .rename_i j hc
   cases e;cases rp with
   | cons h1 t=>
    cases t;cases DF.int_inv h1;exact⟨j,rfl,hc.1,hc.2,q _ _ g1 MB⟩
  .cases e
 .cases e
theorem AI{ta:TA}{ma:MA}(h:iN K ta ma):VI K (D9 ta) (rM ma):=by
 intro ρ σ H ds ao R r e q;obtain⟨⟨as,aq⟩,e1,e⟩:=zb e;have(us,eu,e):=zb e;refine h ρ σ H as aq _ r e1 λvs H1 g1 s1=>?_;have rp:=s1.ku r g1 eu;dsimp only at e;split at e
 .split at e
  .rename_i i j hc
   cases e;cases rp with
   | cons h1 t=>
    cases t with
    | cons h2 t=>
     cases t;cases DF.int_inv h1;cases DF.int_inv h2;exact⟨i,j,rfl,hc,q _ _ g1 MB⟩
  .cases e
 .cases e
def nZ:Nat->Qa D->Qa D
 | _,[]=>[]
 | i,d::ds=>.tuple [.int (i:Nat),d]::nZ (i+1) ds
theorem wW:∀ {ds:Qa D} {n i:Nat} {d:D},(nZ n ds)[i]?=some d->∃ x,ds[i]?=some x/\d=.tuple [.int ((n+i:Nat):Int),x]
 | [],n,i,d,h=>by simp[nZ]at h
 | x::ds,n,0,d,h=>by cases h; exact⟨x,rfl,rfl⟩
 | x::ds,n,i+1,d,h=>by
  have(y,ey,ed):=wW (ds:=ds) (n:=n+1) (i:=i) h;exact⟨y,ey,by rw[ed]; congr 3; omega⟩
theorem wU:∀ (ds:Qa D) (n:Nat),(nZ n ds).length=ds.length
 | [],_=>rfl
 | _::ds,n=>congrArg (·+1)<|wU ds<|n+1
def yZ(ma:MA):MI:=λρ=>(ma ρ).bind λp=>(bt p.2 p.1).bind λus=>match us with
 | [.d<|.tuple ds]=>some (nZ 0 ds,p.2)
 | _=>none
theorem V3{ta:TA}{ma:MA}(h:iN K ta ma):VI K (IV K ta) (yZ ma):=by
 intro ρ σ H ds ao R r e q;obtain⟨⟨as,aq⟩,e1,e⟩:=zb e;have(us,eu,e):=zb e;refine h ρ σ H as aq _ r e1 λvs H1 g1 s1=>?_;have rp:=s1.ku r g1 eu;dsimp only at e;split at e
 .rename_i xs
  cases e;cases rp with
  | cons h1 t=>
   cases t;have(b,ys,rfl,h1,h2):=DF.aE h1;refine⟨b,rfl,⟨ys,(aV.sq h1)⟩,q _ _ g1 λH2 k i=>⟨λd ed=>?_,λei=>?_⟩⟩
   .have(x,ex,rfl):=wW ed
    have(v,ev,dv):=(h2.kp k).get ex;refine⟨⟨ys,v,(aV.kp k h1).sq,ev⟩,λx H' y=>?_⟩;have(T,nT,rfl,y):=y;cases y ys v ((aV.kp k h1).sq) ev;have sm:=zL nT (.tup [.int i,v]);refine⟨sm,.tup (.inl zw)<|.cons ?_<|.cons (dv.kp sm.kp) .nil⟩;rw[Nat.zero_add];exact .int _
   .exact⟨ys,(aV.kp k h1).sq,by rw[wU]at ei; rw[h2.len]; exact ei.symm⟩
 .cases e
abbrev MG:=D->En->Qb En
def zB7(pn:Qa Nat)(mg:MG):Prop:=∀ d ρ ao,mg d ρ=some ao->ao.length=ρ.length/\∀ i∈pn,ao[i]?=ρ[i]?
def zAG(pn:Qa Nat)(mg:Qa D->En->Qb En):Prop:=∀ ds ρ ao,mg ds ρ=some ao->ao.length=ρ.length/\∀ i∈pn,ao[i]?=ρ[i]?
structure qY (K:qc) (pn:Qa Nat) (g:TG) (mg:MG):Prop where
 run:∀ (au:St) (A:Qg->Prop) (av aA:Hp) (ρ:En) (σ:St) (H:Hp) (v:V) (d:D) (ao:En) (Q:St->Hp->Prop),Sn K pn au A av aA ρ σ H->DF K H v d->mg d ρ=some ao->(∀ aG,Sn K pn au A av aA ao aG H->Q aG H)->g v σ H Q
 ok:zB7 pn mg
structure CC (K:qc) (pn:Qa Nat) (g:hW) (mg:Qa D->En->Qb En):Prop where
 run:∀ (au:St) (A:Qg->Prop) (av aA:Hp) (ρ:En) (σ:St) (H:Hp) (vs:Qa V) (ds:Qa D) (ao:En) (Q:St->Hp->Prop),Sn K pn au A av aA ρ σ H->aK K H vs ds->mg ds ρ=some ao->(∀ aG,Sn K pn au A av aA ao aG H->Q aG H)->g vs σ H Q
 ok:zAG pn mg
def zv(i:Nat):MG:=λd ρ=>some<|ρ.set i<|some<|.d d
theorem zt(hi:i∉pn:=by decide):qY K pn (jv i) (zv i) where
 run:=by
  intro au A av aA ρ σ H v d ao Q s h e q;cases e;exact q _ (s.set hi (u:=.d d) h λo=>by cases o)
 ok:=λd ρ ao e=>by
  cases e;exact⟨List.length_set,λj hj=>qB (by rintro rfl; exact hi hj)⟩
def eN:Qa D->En->Qb En:=λds ρ=>match ds with | []=>some ρ|_=>none
def zJ(g:MG)(gs:Qa D->En->Qb En):Qa D->En->Qb En:=λds ρ=>match ds with
 | d::ds=>(g d ρ).bind λaq=>gs ds aq
 | []=>none
theorem fD:CC K pn yK eN where
 run:=by
  intro au A av aA ρ σ H vs ds ao Q s h e q;cases h with
  | nil=>cases e; exact⟨rfl,q σ s⟩
  | cons=>cases e
 ok:=λds ρ ao e=>by
  cases ds with
  | nil=>cases e; exact⟨rfl,λ_ _=>rfl⟩
  | cons=>cases e
theorem zA{gs:hW}{mg:MG}{tu:Qa D->En->Qb En}(h1:qY K pn g mg)(h2:CC K pn gs tu):CC K pn (wa g gs) (zJ mg tu) where
 run:=by
  intro au A av aA ρ σ H vs ds ao Q s h e q;cases h with
  | nil=>cases e
  | @cons v d vs ds hv t=>
   have(aq,e1,e):=zb (show(mg d ρ).bind (λaq=>tu ds aq)=some ao from e);exact⟨v,vs,rfl,h1.run au A av aA ρ σ H v d aq _ s hv e1 λdQ s1=>h2.run au A av aA aq dQ H vs ds ao Q s1 t e q⟩
 ok:=λds ρ ao e=>by
  cases ds with
  | nil=>cases e
  | cons d ds=>
   have(aq,e1,e):=zb (show(mg d ρ).bind (λaq=>tu ds aq)=some ao from e);have(a1,a2):=h1.ok d ρ aq e1;have(b1,b2):=h2.ok ds aq ao e;exact⟨b1.trans a1,λi hi=>(b2 i hi).trans<|a2 i hi⟩
def dG(n:Nat)(gs:Qa D->En->Qb En):MG:=λd ρ=>match d with
 | .tuple ds=>if ds.length=n then gs ds ρ else none
 | _=>none
theorem fC{gs:hW}{tu:Qa D->En->Qb En}(h:CC K pn gs tu):qY K pn (yJ K n gs) (dG n tu) where
 run:=by
  intro au A av aA ρ σ H v d ao Q s hd e q;unfold dG at e;split at e
  .split at e
   .rename_i ds hl
    have(a,xs,rfl,h1,h2):=DF.aE hd;exact⟨a,xs,rfl,(aV.sq h1),by rw[h2.len]; exact hl,h.run au A av aA ρ σ H xs ds ao Q s h2 e q⟩
   .cases e
  .cases e
 ok:=λd ρ ao e=>by
  unfold dG at e;split at e
  .split at e
   .exact h.ok _ _ _ e
   .cases e
  .cases e
def nv(me:ME)(mg:MG):MS:=λρ=>(me ρ).bind λp=>(p.1.get p.2).bind λu=>match u with
 | .d d=>(mg d p.2).bind λao=>some<|.nx ao
 | _=>none
theorem vS{me:ME}{mg:MG}(h:VE K te me)(hg:qY K pn g mg):VS K pn EX (nj te g) (nv me mg):=by
 intro au A av aA ρ σ H f D s e k;obtain⟨⟨a,aq⟩,e1,e⟩:=zb e;have(u,eu,e):=zb e;refine h ρ σ H a aq _ s.rs e1 λv H1 g1 k1=>?_;have p:=k1.now s.rs g1 eu;dsimp only at e;split at e
 .have(aB,e2,e3):=zb e
  cases e3;exact hg.run au A av aA aq σ H1 v _ aB _ (s.go g1) p e2 λaG s'=>k aG H1 s'
 .cases e
def ud(i j:Nat)(ma:MA):MS:=λρ=>(ma ρ).bind λp=>(bt p.2 p.1).bind λus=>match us with
 | [.d x,.d y]=>some<|.nx<|(p.2.set i<|some<|.d x).set j<|some<|.d y
 | _=>none
theorem DW{ta:TA}{ma:MA}(h:iN K ta ma)(hi:i∉pn:=by decide)(hj:j∉pn:=by decide):VS K pn EX (Du i j ta) (ud i j ma):=by
 intro au A av aA ρ σ H f D s e k;obtain⟨⟨as,aq⟩,e1,e⟩:=zb e;have(us,eu,e):=zb e;refine h ρ σ H as aq _ s.rs e1 λvs H1 g1 s1=>?_;have rp:=s1.ku s.rs g1 eu;dsimp only at e;split at e
 .rename_i x y
  cases e;cases rp with
  | @cons v _ vs _ h1 t=>
   cases t with
   | @cons w _ _ _ h2 t=>
    cases t;have sn:=(s.go g1).set hi (u:=.d x) h1 λo=>by cases o
    exact⟨v,w,rfl,k _ _ (sn.set hj (u:=.d y) h2 λo=>by cases o)⟩
 .cases e
def gB(mg:MG)(mb:MS):Qa D->En->Qb Fl
 | [],ρ=>some<|.nx ρ
 | d::ds,ρ=>(mg d ρ).bind λaq=>(mb aq).bind λf=>match f with
  | .nx aB=>gB mg mb ds aB
  | .ct aB=>gB mg mb ds aB
  | .bk aB=>some<|.nx aB
  | .rt u aB=>some<|.rt u aB
  | .ex x aB=>some<|.ex x aB
def dq(mi:MI)(mg:MG)(mb:MS):MS:=λρ=>(mi ρ).bind λp=>gB mg mb p.1 p.2
theorem dX{tb:TS}{mi:MI}{mg:MG}{mb:MS}(hi:VI K wi mi)(hg:qY K pn g mg)(hb:VS K pn EX tb mb):VS K pn EX (Ds wi g tb) (dq mi mg mb):=by
 intro au A av aA ρ σ H f D s e k;obtain⟨⟨ds,aq⟩,e1,e⟩:=zb e;refine hi ρ σ H ds aq _ s.rs e1 λJ H1 g1 run=>?_;have s1:=(s.go g1).at;have oF:Kp aA H1:=(s.go g1).kp;refine⟨λi m aG H'=>m=ds.length - i/\i<=ds.length/\∃ ao,Sn K pn au A av H1 ao aG H'/\gB mg mb (ds.drop i) ao=some f,⟨ds.length,by simp,É _,aq,s1,e⟩,?_⟩;rintro i m aG H' ⟨rfl,gK,ao,s',el⟩
 by_cases fW:i < ds.length
 .rw[List.drop_eq_getElem_cons fW]at el
  have(aB,e2,el):=zb (show(mg ds[i] ao).bind _=some f from el);have(fb,eb,el):=zb el;have(go,yl):=(run H' s'.kp i).1 ds[i] (ql fW);refine .inr ⟨go,λdC H3=>∃ jr,Sn K pn au A av H1 jr dC H3/\gB mg mb (ds.drop<|i+1) jr=some f,λdC H3 ⟨jr,s3,e3⟩=>⟨ds.length - (i+1),by omega,rfl,fW,jr,s3,e3⟩,λx H2 y=>?_⟩;have(sm,dx):=yl x H2 y;have s2:=s'.go (Go.grow s'.rs sm);refine hg.run au A av H1 ao aG H2 x ds[i] aB _ s2 dx e2 λdC s3=>?_;refine hb au A av H1 aB dC H2 fb _ s3 eb ?_;cases fb with
  | nx cN=>exact λh9 H4 s4=>⟨cN,s4,el⟩
  | ct cN=>exact λh9 H4 s4=>⟨cN,s4,el⟩
  | bk cN=>cases el; exact λh9 H4 s4=>k h9 H4<|s4.re oF
  | rt u cN=>cases el; exact λv h9 H4 s4 p n=>k v h9 H4 (s4.re oF) p n
  | ex x cN=>cases el; exact λa h9 H4 s4 p n=>k a h9 H4 (s4.re oF) p n
 .have ei:i=ds.length:=by omega
  subst ei;rw[List.drop_length]at el;cases el;exact .inl ⟨(run H' s'.kp _).2 rfl,k aG H'<|s'.re oF⟩
def gA(mt:MT)(mb:MS):Nat->En->Qb Fl
 | 0,_=>none
 | n+1,ρ=>(mt ρ).bind λp=>if p.1=true then(mb p.2).bind λf=>match f with
  | .nx aB=>gA mt mb n aB
  | .ct aB=>gA mt mb n aB
  | .bk aB=>some<|.nx aB
  | .rt u aB=>some<|.rt u aB
  | .ex x aB=>some (.ex x aB)else some (.nx p.2)
open Classical in
def rZ(mt:MT)(mb:MS):MS:=λρ=>if h:∃ n,(gA mt mb n ρ).isSome=true then gA mt mb h.choose ρ else none
theorem KJ{tb:TS}{mt:MT}{mb:MS}(ht:VT K tt mt)(hb:VS K pn EX tb mb):VS K pn EX (EH tt tb) (rZ mt mb):=by
 intro au A av aA ρ σ H f D s e k;unfold rZ at e;split at e
 .rename_i hn
  generalize hn.choose=n at e;refine⟨λm aG H'=>∃ ao,Sn K pn au A av aA ao aG H'/\gA mt mb m ao=some f,⟨n,ρ,s,e⟩,?_⟩;rintro m aG H' ⟨ao,s',el⟩;cases m with
  | zero=>cases el
  | succ m=>
   obtain⟨⟨b,aq⟩,e1,el⟩:=zb (show(mt ao).bind _=some f from el);refine ht ao aG H' b aq _ s'.rs e1 λH1 g1=>?_;dsimp only at el;split at el
   .rename_i hc
    rw[if_pos hc];have(fb,eb,el):=zb el;refine⟨λeJ H2=>∃ aB,Sn K pn au A av aA aB eJ H2/\gA mt mb m aB=some f,λeJ H2 ⟨aB,s2,e2⟩=>⟨m,Õ m,aB,s2,e2⟩,?_⟩;refine hb au A av aA aq aG H1 fb _ (s'.go g1) eb ?_;cases fb with
    | nx cN=>exact λh9 H4 s4=>⟨cN,s4,el⟩
    | ct cN=>exact λh9 H4 s4=>⟨cN,s4,el⟩
    | bk cN=>cases el; exact λh9 H4 s4=>k h9 H4 s4
    | rt u cN=>cases el; exact λv h9 H4 s4 p n=>k v h9 H4 s4 p n
    | ex x cN=>cases el; exact λa h9 H4 s4 p n=>k a h9 H4 s4 p n
   .rename_i hc
    rw[if_neg hc];cases el;exact k aG H1<|s'.go g1
 .cases e
theorem BB{mt:MT}{mb:MS}:∀ {n:Nat} {ρ:En} {f:Fl},gA mt mb n ρ=some f->∀ k,gA mt mb (n+k) ρ=some f
 | 0,_,_,e,_=>by cases e
 | n+1,ρ,f,e,k=>by
  rw[show n+1+k=(n+k)+1 by omega];obtain⟨⟨b,aq⟩,e1,e⟩:=zb (show(mt ρ).bind _=some f from e);show(mt ρ).bind _=some f;rw[e1];show(if b=true then _ else _)=_;dsimp only at e;split at e
  .rename_i hc
   rw[if_pos hc];have(fb,eb,e):=zb e;rw[eb];cases fb with
   | nx aB=>exact BB (n:=n) e k
   | ct aB=>exact BB (n:=n) e k
   | bk aB=>exact e
   | rt u aB=>exact e
   | ex x aB=>exact e
  .rename_i hc
   rw[if_neg hc];exact e
theorem Xw{mt:MT}{mb:MS}{ρ:En}{f:Fl}(e:gA mt mb n ρ=some f):rZ mt mb ρ=some f:=by
 have h:∃ n,(gA mt mb n ρ).isSome=true:=⟨n,by rw[e]; rfl⟩;unfold rZ;rw[dif_pos h];have(f',P2):=Option.isSome_iff_exists.mp h.choose_spec;rw[P2];have a:=BB e h.choose;have b:=BB P2 n;rw[Nat.add_comm,b]at a;exact a
end
section
variable{A:Qg->Prop}{lS:Hp}{ρ ao:En}
def dN(nt:Nat)(js:Qa Nat)(ρ:En):En:=List.replicate nt none++js.map λj=>ρ.getD j none
def reset(nt:Nat)(ρ:En):En:=List.replicate nt none++ρ.drop nt
def back:Qa Nat->Qa (Qb U)->En->En
 | j::js,some u::us,ρ=>back js us<|ρ.set j<|some u
 | _::js,none::us,ρ=>back js us ρ
 | _,_,ρ=>ρ
def iB(nt:Nat)(mg:MG)(mt:MT)(me:ME):Qa D->En->Qa D->Qb (Qa D×En)
 | [],ρ,ys=>some (ys,ρ)
 | d::ds,ρ,ys=>if ys.length < sizeLine then(mg d ρ).bind λaq=>(mt aq).bind λb=>if b.1=true then(me b.2).bind λp=>(p.1.get p.2).bind λu=>(match u with
   | .d y=>iB nt mg mt me ds (reset nt p.2)<|ys++[y]
   | _=>none)else iB nt mg mt me ds (reset nt b.2) ys else none
def iA(mi:MI)(nt:Nat)(js:Qa Nat)(mg:MG)(mt:MT)(me:ME):ME:=λρ=>(mi ρ).bind λp=>(iB nt mg mt me p.1 (dN nt js p.2) []).bind λq=>some (.u<|.l q.1,back js (q.2.drop nt) p.2)
def gk(nt n:Nat):Qa Nat:=(List.range n).map (nt+·)
theorem pS:i∈gk nt n↔nt<=i/\i < nt+n:=by
 unfold gk;rw[List.mem_map];constructor
 .rintro⟨a,ha,rfl⟩
  have:=Á.mp ha;omega
 .intro h
  exact⟨i - nt,Á.mpr (by omega),by omega⟩
theorem uC{u:U}(h:(dN nt js ρ)[i]?=some (some u)):∃ p j,i=nt+p/\js[p]?=some j/\ρ[j]?=some (some u):=by
 unfold dN at h
 by_cases hi:i < nt
 .rw[List.getElem?_append_left (by simpa using hi),List.getElem?_replicate,if_pos hi]at h
  cases h
 .rw[List.getElem?_append_right (by simp; omega),List.length_replicate,List.getElem?_map]at h
  have(j,ej,e):=qq.mp h;refine⟨i - nt,j,by omega,ej,?_⟩;rw[qA]at e;cases q:ρ[j]? with
  | none=>rw[q]at e; cases e
  | some o=>rw[q]at e; exact congrArg some e
theorem DU{p:Nat}(h:js[p]?=some j):(c0 nt js σ)[nt+p]?=some (σ.getD j none):=by
 unfold c0;rw[List.getElem?_append_right (by simp),List.length_replicate,Nat.add_sub_cancel_left,List.getElem?_map,h];rfl
theorem EW:(c0 nt js σ).length=nt+js.length:=by unfold c0; simp
theorem Fq:(dN nt js ρ).length=nt+js.length:=by unfold dN; simp
def kH(ρ:En)(σ:St)(js:Qa Nat)(a:Qg):Prop:=∃ (p j:Nat) (u:U),js[p]?=some j/\ρ[j]?=some (some u)/\u.own=true/\σ[j]?=some (some<|.ref a)
theorem KH(r:Rs K ρ σ H)(nd:js.Nodup):Sn K (gk nt js.length) (c0 nt js σ) (kH ρ σ js) H H (dN nt js ρ) (c0 nt js σ) H:=by
 have sat:∀ {p j:Nat} {v:V},js[p]?=some j->σ[j]?=some (some v)->(c0 nt js σ)[nt+p]?=some (some v):=λ{p j v} hp hv=>by
  rw[DU hp,qA,hv];rfl
 refine⟨⟨by rw[Fq,EW],λi u e=>?_,λi k u w ei ek ou ow es=>?_⟩,λ_ _ h _=>h,λi u a e o es=>?_,λ_ _=>rfl,λ_ h=>h,Kp.refl H⟩
 .have(p,j,rfl,hj,hr):=uC e
  have(v,ev,q):=r.rep j u hr;exact⟨v,sat hj ev,q⟩
 .have(p,j,rfl,hj,hr):=uC ei
  have(p',j',rfl,xS,Ci):=uC ek;have(v,ev,_):=r.rep j u hr;have(v',tX,_):=r.rep j' w Ci;rw[sat hj ev,sat xS tX]at es;have:j=j':=r.apart j j' u w hr Ci ou ow (by rw[ev,tX]; exact es);subst this;have l1:=(qk.mp hj);have l2:=(qk.mp xS);have(h1,e1):=l1;have(h2,e2):=l2;have:=(List.getElem_inj nd).mp (e1.trans e2.symm);omega
 .have(p,j,rfl,hj,hr):=uC e
  have(v,ev,_):=r.rep j u hr;rw[sat hj ev]at es;cases es;exact .inl ⟨pS.mpr ⟨by omega,by have:=(qk.mp hj).1; omega⟩,p,j,u,hj,hr,o,ev⟩
theorem Sn.reset{jq:St}{aB:En}{eJ:St}(s:Sn K (gk nt n) jq A av aA aB eJ H)(l1:aB.length=nt+n)(l2:jq.length=nt+n):Sn K (gk nt n) jq A av aA (L2.reset nt aB) jq H:=by
 have bk:∀ (i:Nat) (u:U),(L2.reset nt aB)[i]?=some (some u)->nt<=i/\i < nt+n/\aB[i]?=some (some u):=λi u e=>by
  unfold L2.reset at e
  by_cases hi:i < nt
  .rw[List.getElem?_append_left (by simpa using hi),List.getElem?_replicate,if_pos hi]at e
   cases e
  .rw[List.getElem?_append_right (by simp; omega),List.length_replicate,List.getElem?_drop,show nt+(i - nt)=i by omega]at e
   have:=(qk.mp e).1;exact⟨by omega,by omega,e⟩
 have pin:∀ i,nt<=i->i < nt+n->jq[i]?=eJ[i]?:=λi h1 h2=>(s.pin i<|pS.mpr ⟨h1,h2⟩).symm;have ll:(L2.reset nt aB).length=nt+n:=by unfold L2.reset; simp; omega
 refine⟨⟨by omega,λi u e=>?_,λi j u w ei ej ou ow es=>?_⟩,s.fr,λi u a e o es=>?_,λ_ _=>rfl,s.dm,s.kp⟩
 .have(h1,h2,e'):=bk i u e
  rw[pin i h1 h2];exact s.rs.rep i u e'
 .have(h1,h2,qW):=bk i u ei
  have(h3,h4,oW):=bk j w ej;rw[pin i h1 h2,pin j h3 h4]at es;exact s.rs.apart i j u w qW oW ou ow es
 .have(h1,h2,e'):=bk i u e
  rw[pin i h1 h2]at es;exact s.ow i u a e' o es
theorem AH:∀ {js:Qa Nat} {us:Qa (Qb U)} {ρ:En} {j:Nat} {w:U},(back js us ρ)[j]?=some (some w)->(∃ p:Nat,js[p]?=some j/\us[p]?=some (some w))\/(ρ[j]?=some (some w)/\∀ p:Nat,js[p]?=some j->∀ x,us[p]?≠some (some x))
 | [],us,ρ,j,w,e=>.inr ⟨by cases us<;>exact e,λp z=>by simp at z⟩
 | k::js,[],ρ,j,w,e=>.inr ⟨e,λp z x=>by simp⟩
 | k::js,none::us,ρ,j,w,e=>by
  rcases AH (js:=js) (us:=us) (ρ:=ρ) (show(back js us ρ)[j]?=some (some w) from e)with⟨p,h1,h2⟩|⟨h1,h2⟩
  .exact .inl ⟨p+1,h1,h2⟩
  .refine .inr ⟨h1,λp z x=>?_⟩
   cases p with
   | zero=>intro q; cases q
   | succ p=>exact h2 p z x
 | k::js,some u::us,ρ,j,w,e=>by
  rcases AH (js:=js) (us:=us) (ρ:=ρ.set k (some u)) (show(back js us<|ρ.set k<|some u)[j]?=some (some w) from e)with⟨p,h1,h2⟩|⟨h1,h2⟩
  .exact .inl ⟨p+1,h1,h2⟩
  .by_cases hk:k=j
   .subst hk
    have hl:k < (ρ.set k<|some u).length:=(qk.mp h1).1;rw[List.length_set]at hl;rw[List.getElem?_set_self hl]at h1;exact .inl ⟨0,rfl,by cases h1; rfl⟩
   .rw[qB hk]at h1
    refine .inr ⟨h1,λp z x=>?_⟩;cases p with
    | zero=>cases(show some k=some j from z); exact absurd rfl hk
    | succ p=>exact h2 p z x
theorem Bf:∀ (js:Qa Nat) (us:Qa (Qb U)) (ρ:En),(back js us ρ).length=ρ.length
 | [],us,ρ=>by cases us<;>rfl
 | _::js,[],ρ=>rfl
 | _::js,none::us,ρ=>Bf js us ρ
 | j::js,some u::us,ρ=>by show(back js us<|ρ.set j<|some u).length=_; rw[Bf]; exact List.length_set
theorem Bu:∀ {js:Qa Nat} {us:Qa (Qb U)} {ρ:En} {j:Nat} {w:U},ρ[j]?=some (some w)->∃ w',(back js us ρ)[j]?=some (some w')
 | [],us,ρ,j,w,e=>⟨w,by cases us<;>exact e⟩
 | _::js,[],ρ,j,w,e=>⟨w,e⟩
 | _::js,none::us,ρ,j,w,e=>Bu (js:=js) (us:=us) e
 | k::js,some u::us,ρ,j,w,e=>by
  by_cases hk:k=j
  .subst hk
   exact Bu (js:=js) (us:=us) (w:=u)<|ò (qk.mp e).1
  .exact Bu (js:=js) (us:=us) (w:=w) (by rw[qB hk]; exact e)
theorem Sn.comp_back{aB:En}(r:Rs K ρ σ H)(s:Sn K (gk nt js.length) (c0 nt js σ) (kH ρ σ js) H aA aB (c0 nt js σ) H')(l:aB.length=nt+js.length)(sh:eG (dN nt js ρ) aB):
  Go K ρ σ H (back js (aB.drop nt) ρ) H':=by
 have xb:∀ (p:Nat) (w:U),(aB.drop nt)[p]?=some (some w)->aB[nt+p]?=some (some w):=λp w e=>by rw[List.getElem?_drop]at e; exact e
 have kp:Kp H H':=by
  refine⟨λb xs h=>s.fr b _ h λ⟨p,j,u,hj,hr,ou,es⟩=>?_,λb ob u h=>s.fr b _ h λ⟨p,j,u,hj,hr,ou,es⟩=>?_⟩
  .have(c,q,m):=r.ow ⟨j,u,hr,ou,es⟩
   rw[h]at q; cases q; exact m
  .have(c,q,m):=r.ow ⟨j,u,hr,ou,es⟩
   rw[h]at q; cases q; exact m
 have GY:∀ (p j:Nat) (w:U),js[p]?=some j->(aB.drop nt)[p]?=some (some w)->w.own=true->∃ x,ρ[j]?=some (some x)/\x.own=true:=λp j w hj e o=>by
  have(x,ex,ox):=sh.own (nt+p) w (xb p w e) o;have(p',j',ep,xS,hr):=uC ex;have:p'=p:=by omega
  subst this;rw[hj]at xS;cases xS;exact⟨x,hr,ox⟩
 have own:∀ (j:Nat) (w:U),(back js (aB.drop nt) ρ)[j]?=some (some w)->w.own=true->∃ x,ρ[j]?=some (some x)/\x.own=true:=λj w e o=>by
  rcases AH e with⟨p,hj,hu⟩|⟨h1,_⟩
  .exact GY p j w hj hu o
  .exact⟨w,h1,o⟩
 refine⟨⟨by rw[Bf]; exact r.len,λj w e=>?_,λi j u w ei ej ou ow es=>?_⟩,λa o h n=>s.fr a o h λ⟨p,j,u,hj,hr,ou,es⟩=>n ⟨j,u,hr,ou,es⟩,⟨Bf _ _ _,own,λj w e=>Bu e⟩,s.dm⟩
 .rcases AH e with⟨p,hj,hu⟩|⟨h1,h2⟩
  .have(v,ev,q):=s.rs.rep (nt+p) w (xb p w hu)
   rw[DU hj]at ev;refine⟨v,?_,q⟩;rw[qA]at ev;cases z:σ[j]? with
   | none=>rw[z]at ev; cases ev
   | some o=>rw[z]at ev; exact congrArg some<|qw ev
  .have(v,ev,q):=r.rep j w h1
   refine⟨v,ev,q.kp kp λow a c ea hc=>s.fr a c hc λ⟨p,j',u,hj,hr,ou,es⟩=>?_⟩;subst ea;have:j'=j:=r.apart j' j u w hr h1 ou ow (by rw[es,ev]);subst this;have e1:(dN nt js ρ)[nt+p]?=some (some u):=by
    unfold dN;rw[List.getElem?_append_right (by simp),List.length_replicate,Nat.add_sub_cancel_left,List.getElem?_map,hj];show some (ρ.getD j' none)=_;rw[qA,hr];rfl
   have(w',eF):=sh.live _ _ e1;exact h2 p hj w' (by rw[List.getElem?_drop]; exact eF)
 .have(x,ex,ox):=own i u ei ou
  have(y,ey,oy):=own j w ej ow;exact r.apart i j x y ex ey ox oy es
theorem eG.lz{fj aq:En}(l:fj.length=nt+n)(h0:∀ i,i < nt->fj[i]?=some none)(l1:aq.length=nt+n)(own:∀ (i:Nat) (u:U),nt<=i->aq[i]?=some (some u)->u.own=true->∃ w,fj[i]?=some (some w)/\w.own=true)(live:∀ (i:Nat) (u:U),nt<=i->fj[i]?=some (some u)->∃ w,aq[i]?=some (some w)):eG fj (L2.reset nt aq):=by
 have at':∀ i,nt<=i->(L2.reset nt aq)[i]?=aq[i]?:=λi hi=>by
  unfold L2.reset;rw[List.getElem?_append_right (by simp; omega),List.length_replicate,List.getElem?_drop,show nt+(i - nt)=i by omega]
 have lo:∀ i,i < nt->(L2.reset nt aq)[i]?=some none:=λi hi=>by
  unfold L2.reset;rw[List.getElem?_append_left (by simpa using hi),List.getElem?_replicate,if_pos hi]
 refine⟨by unfold L2.reset; simp; omega,λi u e o=>?_,λi u e=>?_⟩
 .by_cases hi:i < nt
  .rw[lo i hi]at e; cases e
  .rw[at' i (by omega)]at e
   exact own i u (by omega) e o
 .by_cases hi:i < nt
  .rw[h0 i hi]at e; cases e
  .rw[at' i (by omega)]
   exact live i u (by omega) e
theorem Be{aq:En}(h:i < nt):(L2.reset nt aq)[i]?=some none:=by
 unfold L2.reset;rw[List.getElem?_append_left (by simpa using h),List.getElem?_replicate,if_pos h]
theorem JV(h:i < nt):(dN nt js ρ)[i]?=some none:=by
 unfold dN;rw[List.getElem?_append_left (by simpa using h),List.getElem?_replicate,if_pos h]
def VIA(K:qc)(js:Qa Nat)(wi:TI)(mi:MI):Prop :=
 ∀ (ρ:En) (σ:St) (H:Hp) (ds:Qa D) (ao:En) (R:It->Hp->Prop),Rs K ρ σ H->mi ρ=some (ds,ao)->(∀ J H',Go K ρ σ H ao H'->(∀ H2,Kp H' H2->yt (kH ao σ js) H' H2->∀ i:Nat,(∀ d,ds[i]?=some d->J.go i H2/\∀ x H3,J.u7 i H2 x H3->b8 H2 H3/\DF K H3 x d)/\(i=ds.length->J.stop i H2))->R J H')->wi σ H R
theorem zAH{mi:MI}{mg:MG}{mt:MT}{me:ME}(hi:VIA K js wi mi)(hg:qY K (gk nt js.length) g mg)(ht:VT K tt mt)(he:VE K te me)(nd:js.Nodup:=by decide):
  VE K (xk wi nt js g tt te) (iA mi nt js mg mt me):=by
 intro ρ σ H a ao Q r e q;obtain⟨⟨ds,aq⟩,e1,e⟩:=zb e;obtain⟨⟨zs,rf⟩,e2,e⟩:=zb e;cases e;refine hi ρ σ H ds aq _ r e1 λJ H1 g1 run=>?_;have s1:=KH (nt:=nt) (js:=js) g1.rs nd;refine⟨λi m ys H'=>m=ds.length - i/\i<=ds.length/\∃ fj yd,Sn K (gk nt js.length) (c0 nt js σ) (kH aq σ js) H1 H1 fj (c0 nt js σ) H'/\eG (dN nt js aq) fj/\(∀ k,k < nt->fj[k]?=some none)/\aK K H' ys yd/\iB nt mg mt me (ds.drop i) fj yd=some (zs,rf),
  ⟨ds.length,by simp,É _,_,[],s1,eG.refl _,λk hk=>JV hk,.nil,e2⟩,?_⟩
 rintro i m ys H' ⟨rfl,gK,fj,yd,s',sh,lo,dy,el⟩;have lc:fj.length=nt+js.length:=by rw[sh.len,Fq]
 by_cases fW:i < ds.length
 .rw[List.drop_eq_getElem_cons fW]at el
  unfold iB at el;split at el
  .rename_i hz
   have(aB,e3,el):=zb el;obtain⟨⟨b,jr⟩,e4,el⟩:=zb el;have(l2,p2):=hg.ok _ _ _ e3;have(go,yl):=(run H' s'.kp s'.fr i).1 ds[i] (ql fW);refine .inr ⟨go,by rw[dy.len]; exact hz,λn8 H2=>∃ dh BU,Sn K (gk nt js.length) (c0 nt js σ) (kH aq σ js) H1 H1 dh (c0 nt js σ) H2/\eG (dN nt js aq) dh/\(∀ k,k < nt->dh[k]?=some none)/\aK K H2 n8 BU/\iB nt mg mt me (ds.drop<|i+1) dh BU=some (zs,rf),
    λn8 H2 ⟨dh,BU,z⟩=>⟨ds.length - (i+1),by omega,rfl,fW,dh,BU,z⟩,λx H2 y=>?_⟩
   have(sm,dx):=yl x H2 y;have s2:=s'.go (Go.grow s'.rs sm);refine hg.run _ _ _ _ fj _ H2 x ds[i] aB _ s2 dx e3 λdC s3=>?_;have toEnd:∀ {cN:En} {H4:Hp},Go K aB dC H2 cN H4->Sn K (gk nt js.length) (c0 nt js σ) (kH aq σ js) H1 H1 (L2.reset nt cN) (c0 nt js σ) H4/\eG (dN nt js aq) (L2.reset nt cN):=λ{cN H4} g4=>by
    have l4:cN.length=nt+js.length:=by rw[g4.shr.len,l2,lc]
    refine⟨(s3.go g4).reset l4 EW,sh.trans<|eG.lz lc lo l4 (λk u hk ek ou=>?_) λk u hk ek=>?_⟩
    .have(w,ew,ow):=g4.shr.own k u ek ou
     have lk:k < nt+js.length:=by rw[<-l2.trans lc]; exact(qk.mp ew).1
     rw[p2 k<|pS.mpr ⟨hk,lk⟩]at ew;exact⟨w,ew,ow⟩
    .have lk:k < nt+js.length:=by rw[<-lc]; exact(qk.mp ek).1
     rw[<-p2 k (pS.mpr ⟨hk,lk⟩)]at ek;exact g4.shr.live k u ek
   refine ht aB dC H2 b jr _ s3.rs e4 λH3 g3=>?_;dsimp only at el;split at el
   .rename_i hb
    rw[if_pos hb];obtain⟨⟨a4,cN⟩,e5,el⟩:=zb el;have(u,e6,el):=zb el;refine he jr dC H3 a4 cN _ g3.rs e5 λv H4 g4 k4=>?_;have pv:=k4.now g3.rs g4 e6;dsimp only at el;split at el
    .rename_i yv
     have(sn,sr):=toEnd (g3.trans g4);exact⟨_,_,sn,sr,λk hk=>Be hk,((dy.kp sm.kp).kp<|(g3.trans g4).kp s3.rs).snoc pv,el⟩
    .cases el
   .rename_i hb
    rw[if_neg hb];have(sn,sr):=toEnd g3;exact⟨_,_,sn,sr,λk hk=>Be hk,(dy.kp sm.kp).kp<|g3.kp s3.rs,el⟩
  .cases el
 .have ei:i=ds.length:=by omega
  subst ei;rw[List.drop_length]at el;cases el;refine .inl ⟨(run H' s'.kp s'.fr _).2 rfl,λDa hD=>?_⟩;have gb:=Sn.comp_back g1.rs s' lc sh;have sm:=zL hD (.lst ys);exact q _ _ ((g1.trans gb).trans<|Go.grow gb.rs sm) ⟨⟨Da,ys,rfl,zw,dy.kp sm.kp⟩,λ_=>⟨Da,rfl,(g1.trans gb).dm _ hD⟩⟩
theorem kG{mi:MI}{mg:MG}{mt:MT}{me:ME}(hi:VI K wi mi)(hg:qY K (gk nt js.length) g mg)(ht:VT K tt mt)(he:VE K te me)(nd:js.Nodup:=by decide):
  VE K (xk wi nt js g tt te) (iA mi nt js mg mt me):=zAH (λρ σ H ds ao R r e q=>hi ρ σ H ds ao R r e λJ H' g run=>q J H' g λH2 k _=>run H2 k) hg ht he nd
end
section
variable{EX:iQ}{A:Qg->Prop}{lS:Hp}{ρ ao:En}
def gz(pn:Qa Nat)(ρ:En):Nat->Qa U->Qb (Qa U)
 | _,[]=>some []
 | i,u::us=>(if i∈pn then(ρ[i]?).join.bind λo=>if o.own=true/\u.own=false then none else some o else if u.own=true then none else some u).bind λo=>(gz pn ρ (i+1) us).bind λos=>some<|o::os
def bX(n:Nat)(pn:Qa Nat)(m:MS):FD:=λus=>(m<|sm us++List.replicate (n - us.length) none).bind λf=>match f with
 | .rt u ρ=>(gz pn ρ 0 us).bind λos=>some (u,os)
 | .nx ρ=>(gz pn ρ 0 us).bind λos=>some (.d .none,os)
 | _=>none
theorem LH:∀ {us os:Qa U} {i:Nat},gz pn ρ i us=some os->os.length=us.length
 | [],os,i,e=>by cases e; rfl
 | u::us,os,i,e=>by
  have(o,e1,e):=zb e;have(B4,e2,e):=zb e;cases e;simp[LH e2]
theorem wz:∀ {us os:Qa U} {i p:Nat} {o:U},gz pn ρ i us=some os->os[p]?=some o->∃ u,us[p]?=some u/\((i+p∈pn/\ρ[i+p]?=some (some o)/\(o.own=true->u.own=true))\/(i+p∉pn/\o=u/\u.own=false))
 | [],os,i,p,o,e,ep=>by cases e; simp at ep
 | u::us,os,i,p,o,e,ep=>by
  have(o1,e1,e):=zb e;have(B4,e2,e):=zb e;cases e;cases p with
  | zero=>
   cases(show some o1=some o from ep);refine⟨u,rfl,?_⟩;rw[Nat.add_zero];split at e1
   .rename_i hi
    have(o2,e3,e1):=zb e1;split at e1
    .cases e1
    .rename_i hc
     cases e1;refine .inl ⟨hi,?_,λoo=>?_⟩
     .cases q:ρ[i]? with
      | none=>rw[q]at e3; cases e3
      | some x=>rw[q]at e3; cases x with
       | none=>cases e3
       | some y=>cases e3; rfl
     .cases hu:u.own with
      | true=>rfl
      | false=>exact absurd ⟨oo,hu⟩ hc
   .rename_i hi
    split at e1
    .cases e1
    .rename_i hc
     cases e1;exact .inr ⟨hi,rfl,by simpa using hc⟩
  | succ p=>
   have(u',eu,h):=wz (i:=i+1) (p:=p) e2 ep;refine⟨u',eu,?_⟩;rw[show i+(p+1)=i+1+p by omega];exact h
theorem LG:∀ {us os:Qa U} {i p:Nat} {u:U},gz pn ρ i us=some os->us[p]?=some u->u.own=true->i+p∈pn
 | [],os,i,p,u,e,ep,_=>by simp at ep
 | u::us,os,i,p,u',e,ep,o=>by
  have(o1,e1,e):=zb e;have(B4,e2,e):=zb e;cases p with
  | zero=>
   cases(show some u=some u' from ep);rw[Nat.add_zero];split at e1
   .assumption
   .first|cases e1 | (rw[if_pos o]at e1; cases e1)
  | succ p=>
   rw[show i+(p+1)=i+1+p by omega];exact LG (i:=i+1) (p:=p) e2 ep o
theorem wG(h:i < vs.length):(gv N vs)[i]?=(dH vs)[i]?:=by
 unfold gv dH;rw[List.getElem?_append_left (by simpa using h)]
theorem Xv{us os:Qa U}{vI:En}(r:Rs K (sm us) (dH vs) H)(hl:us.length<=N.length)(ho:gz pn vI 0 us=some os):
  Sn K pn (gv N vs) (Ow (sm us)<|dH vs) H H (sm us++List.replicate (N.length - us.length) none) (gv N vs) H:=by
 have lv:us.length=vs.length:=by have:=r.len; unfold sm dH at this; simpa using this
 have inv:∀ (i:Nat) (u:U),(sm us++List.replicate (N.length - us.length) none)[i]?=some (some u)->i < us.length/\(sm us)[i]?=some (some u):=λi u e=>by
  by_cases hi:i < us.length
  .rw[List.getElem?_append_left (by unfold sm; simpa using hi)]at e
   exact⟨hi,e⟩
  .rw[List.getElem?_append_right (by unfold sm; simp; omega),List.getElem?_replicate]at e
   split at e<;>cases e
 refine⟨⟨?_,λi u e=>?_,λi j u w ei ej ou ow es=>?_⟩,λ_ _ h _=>h,λi u a e o es=>?_,λ_ _=>rfl,λ_ h=>h,Kp.refl H⟩
 .unfold gv sm; simp; omega
 .have(hi,e'):=inv i u e
  rw[wG (by omega)];exact r.rep i u e'
 .have(hi,qW):=inv i u ei
  have(hj,oW):=inv j w ej;rw[wG (by omega),wG (by omega)]at es;exact r.apart i j u w qW oW ou ow es
 .have(hi,e'):=inv i u e
  rw[wG (by omega)]at es;have:=LG ho (fN.mp e') o;rw[Nat.zero_add]at this;exact .inl ⟨this,i,u,e',o,es⟩
theorem J9{us os:Qa U}{aG:St}(r:Rs K (sm us) (dH vs) H)(s:Sn K pn (gv N vs) (Ow (sm us)<|dH vs) H H ao aG H')(ho:gz pn ao 0 us=some os):Go K (sm us) (dH vs) H (sm os) H':=by
 have lv:us.length=vs.length:=by have:=r.len; unfold sm dH at this; simpa using this
 have lo:=LH ho;have vD:∀ {p:Nat} {o:U},os[p]?=some o->p < vs.length:=λ{p o} e=>by have:=(qk.mp e).1; omega
 have pin:∀ {p:Nat} {o:U},os[p]?=some o->p∈pn->aG[p]?=(dH vs)[p]?:=λ{p o} e hp=>by rw[s.pin p hp,wG<|vD e]
 refine⟨⟨by unfold sm dH; simp; omega,λp o e=>?_,λp q o o' ep eq oo GZ es=>?_⟩,s.fr,⟨by unfold sm; simp; omega,λp o e oo=>?_,λp u e=>?_⟩,s.dm⟩
 .have e':=fN.mp e
  have(u,eu,h):=wz ho e';rw[Nat.zero_add]at h;rcases h with⟨hp,hr,_⟩|⟨_,rfl,ou⟩
  .have(v,ev,q):=s.rs.rep p o hr
   rw[pin e' hp]at ev;exact⟨v,ev,q⟩
  .have(v,ev,q):=r.rep p o (fN.mpr eu)
   exact⟨v,ev,q.kp s.kp λoo=>by rw[ou]at oo; cases oo⟩
 .have dM:=fN.mp ep
  have Cv:=fN.mp eq;have(u,eu,h):=wz ho dM;have(u',P0,h'):=wz ho Cv;rw[Nat.zero_add]at h h';rcases h with⟨hp,hr,_⟩|⟨_,rfl,ou⟩
  .rcases h' with⟨hq,Ci,_⟩|⟨_,rfl,p9⟩
   .rw[<-pin dM hp,<-pin Cv hq]at es
    exact s.rs.apart p q o o' hr Ci oo GZ es
   .rw[p9]at GZ; cases GZ
  .rw[ou]at oo; cases oo
 .have e':=fN.mp e
  have(u,eu,h):=wz ho e';rcases h with⟨_,_,h⟩|⟨_,rfl,ou⟩
  .exact⟨u,fN.mpr eu,h oo⟩
  .rw[ou]at oo; cases oo
 .have e':=fN.mp e
  have hp:p < os.length:=by have:=(qk.mp e').1; omega
  exact⟨os[p],fN.mpr<|ql hp⟩
theorem jW.okV{base:Heap}{f:Qg}{k nn:Nat}{m:MS}(F:jW K x qual st f fd)(S:bJ N ps (zX st))(Ck:ps.length=n)(hN:N.length=nn)(Cn:n<=nn)
  (cn:∀ (bG:Qc) (A:Qf) (outer:Qa Env) (s:Qd) (H:Hp) (E:XK),aH k (A.deeper<|envOfC qual (zX st) s.heap.objs.size f bG)->
   ∃ t,Wr (eI (nh iR P w K mg base N qual (zX st) f bG A outer s H E).sZ (kY st) t)/\VS K pn QY t m):cw P w K mg base iR (k+1) f fd ps (p7 K n<|bX nn pn m):=by
 refine F.okW S (λvs H Q E h=>?_) λbG A outer s H vs Q E hr h=>?_
 .have(us,r,outs,hl,rs,_):=h
  have:=rs.len;unfold sm dH at this;simp at this;omega
 have(us,r,outs,hl,rs,ef,q):=h;have(t,wt,vt):=cn bG A outer s H E hr;refine⟨t,wt,?_⟩;have(fl,em,ef):=zb ef;have go:∀ (ao:En),gz pn ao 0 us=some outs->Sn K pn (gv N vs) (Ow (sm us)<|dH vs) H H (sm us++List.replicate (N.length - us.length) none) (gv N vs) H:=λao ho=>Xv rs (by omega) ho;subst hN;cases fl with
 | nx ao=>
  have(os,eo,ef):=zb (show(gz pn ao 0 us).bind _=_ from ef);cases ef;refine vt _ _ _ _ _ _ _ (.nx ao) _ (go ao eo) em λaG H' s'=>?_;exact q _ _ (J9 rs s' eo) .aI Nw.data
 | rt u ao=>
  have(os,eo,ef):=zb (show(gz pn ao 0 us).bind _=_ from ef);cases ef;refine vt _ _ _ _ _ _ _ (.rt r ao) _ (go ao eo) em λv aG H' s' p n'=>?_;exact q _ _ (J9 rs s' eo) p n'
 | bk=>cases ef
 | ct=>cases ef
 | ex=>cases ef
end
section
variable{EX:iQ}{ρ ao:En}
def l0(i:Nat)(me:ME):ME:=λρ=>match ρ[i]? with
 | some (some<|.l _)=>(me ρ).bind λp=>(p.1.get p.2).bind λu=>match u,p.2[i]? with
  | .d x,some (some<|.l xs)=>if xs.length < sizeLine then some (.u<|.d .none,p.2.set i<|some<|.l<|xs++[x])else none
  | _,_=>none
 | _=>none
theorem vR{me:ME}(h:VE K te me):VE K (BZ K "list" K5 (iV i)<|nK te rB) (l0 i me):=by
 intro ρ σ H a ao Q r e q;unfold l0 at e;split at e
 .rename_i xs0 e0
  obtain⟨⟨b,aq⟩,e1,e⟩:=zb e;have(u,eu,e):=zb e;have(v0,jT,p0):=r.rep i _ e0;have(l,us0,rfl,xP,_):=p0;refine⟨_,jT,.inl ⟨rfl,us0,bA.of xP⟩,?_⟩;refine h ρ σ H b aq _ r e1 λv H1 g1 k1=>?_;have pv:=k1.now r g1 eu;dsimp only at e;split at e
  .rename_i x xs ex
   split at e
   .rename_i hz
    cases e;have(w,ew,p1):=g1.rs.rep i _ ex;have(l',us,rfl,hl,ds):=p1;rw[jT]at ew;cases ew;refine⟨l,us,v,rfl,rfl,hl,by rw[ds.len]; exact hz,q _ _ (g1.trans<|Go.own (u':=.l (xs++[x])) g1.rs ex rfl jT ?_) ⟨.aI,Nw.data⟩⟩;have kp:=jA hl trivial (.lst<|us++[v]);exact⟨l,_,rfl,zw,(ds.kp kp).snoc<|DF.kp kp pv⟩
   .cases e
  .cases e
 .cases e
theorem Mh{o:Qb (Qb U)}{u:U}(e:o.join=some u):o=some (some u):=by
 cases o with
 | none=>cases e
 | some x=>cases x with
  | none=>cases e
  | some y=>cases e; rfl
def pL(i:Nat)(me mi:ME):MS:=λρ=>(ρ[i]?).join.bind λ_=>(me ρ).bind λp=>(mi p.2).bind λq=>(p.1.get q.2).bind λu=>(q.1.get q.2).bind λw=>match u,w,q.2[i]? with
 | .d x,.d<|.int k,some (some<|.l xs)=>(eB xs.length k).bind λj=>some<|.nx<|q.2.set i<|some<|.l<|xs.set j x
 | _,_,_=>none
theorem AG{ti:TE}{me mi:ME}(h:VE K te me)(hi:VE K ti mi):VS K pn EX (nj te<|DD (iV i) ti Je) (pL i me mi):=by
 intro au A av aA ρ σ H f D s e k;replace e:=zb e;have(w0,e0,e):=e;replace e:=zb e;obtain⟨⟨a,aq⟩,e1,e⟩:=e;replace e:=zb e;obtain⟨⟨b,aB⟩,e2,e⟩:=e;replace e:=zb e;have(u,eu,e):=e;replace e:=zb e;have(w,ew,e):=e;have(v0,jT,_):=s.rs.rep i w0 (Mh e0);refine h ρ σ H a aq _ s.rs e1 λv H1 g1 k1=>⟨v0,jT,?_⟩;refine hi aq σ H1 b aB _ g1.rs e2 λy H2 g2 k2=>?_;have pv:=k1.later s.rs g1 g2 eu;have py:=k2.now g1.rs g2 ew;dsimp only at e;split at e
 .rename_i x n xs ex
  replace e:=zb e;have(j,ej,e):=e;cases e;have(w',eF,p1):=g2.rs.rep i _ ex;have(l,us,rfl,hl,ds):=p1;rw[jT]at eF;cases eF;refine⟨l,us,n,j,rfl,DF.int_inv py,hl,by rw[ds.len]; exact ej,k _ _<|(s.go<|g1.trans g2).go<|Go.own (u':=.l (xs.set j x)) g2.rs ex rfl jT ?_⟩;have kp:=jA hl trivial (.lst<|us.set j v);exact⟨l,_,rfl,zw,(ds.kp kp).set (DF.kp kp pv) j⟩
 .cases e
def keys:Qa D->Qb (Qa Key)
 | []=>some []
 | .int i::ds=>(keys ds).bind λks=>some<|.inl i::ks
 | .str x::ds=>(keys ds).bind λks=>some<|.inr x::ks
 | _::_=>none
def cO:D->Qb (Qa Key)
 | .tuple ds=>keys ds
 | _=>none
def lZ:D->Qb Key
 | .int i=>some<|.inl i
 | .str x=>some<|.inr x
 | _=>none
theorem Fp:∀ ks:Qa Key,keys (ks.map xE)=some ks
 | []=>rfl
 | .inl i::ks=>by show(keys<|ks.map xE).bind _=_; rw[Fp ks]; rfl
 | .inr x::ks=>by show(keys<|ks.map xE).bind _=_; rw[Fp ks]; rfl
theorem Bc(ks:Qa Key):cO (jL ks)=some ks:=Fp ks
theorem EV:∀ {ds:Qa D} {ks:Qa Key} {xs:Qa V},aK K H xs ds->keys ds=some ks->xs=ks.map kV
 | [],ks,xs,h,e=>by cases e; cases h; rfl
 | d::ds,ks,xs,h,e=>by
  cases h with
  | cons h1 t=>
   cases d with
   | int i=>
    have(G8,e1,e):=zb (show(keys ds).bind (λks=>some<|Sum.inl i::ks)=some ks from e);cases e;rw[EV t e1,DF.int_inv h1];rfl
   | str x=>
    have(G8,e1,e):=zb (show(keys ds).bind (λks=>some<|Sum.inr x::ks)=some ks from e);cases e;rw[EV t e1,DF.str_inv h1];rfl
   | _=>cases e
theorem uP{d:D}{ks:Qa Key}(h:DF K H v d)(e:cO d=some ks):∃ b,v=.ref b/\aV K H b (ks.map kV):=by
 cases d with
 | tuple ds=>
  have(b,xs,rfl,h1,h2):=DF.aE h;exact⟨b,rfl,by rw[<-EV h2 e]; exact h1⟩
 | _=>cases e
theorem EU{d:D}{k:Key}(h:DF K H v d)(e:lZ d=some k):v=kV k:=by
 cases d with
 | int i=>cases e; exact DF.int_inv h
 | str x=>cases e; exact DF.str_inv h
 | _=>cases e
theorem AF:∀ {ks:Qa Key},aK K H (ks.map kV)<|ks.map xE
 | []=>.nil
 | .inl i::ks=>.cons (.int i) AF
 | .inr x::ks=>.cons (.str x) AF
section
variable[DecidableEq κ]
def m5(kvs:Qa (κ×D))(k:κ):Qb D:=(kvs.find? λkv=>decide<|kv.1=k).map (·.2)
def ig(kvs:Qa (κ×D))(k:κ)(d:D):Qa (κ×D):=if(kvs.any λkv=>decide<|kv.1=k)=true then kvs.map (λkv=>if kv.1=k then(kv.1,d)else kv)else kvs++[(k,d)]
theorem dP.val{kvs:Qa (κ×D)}(h:dP K H ws kvs)(k:κ):(∃ v d,gR ws k=some v/\m5 kvs k=some d/\DF K H v d)\/(gR ws k=none/\m5 kvs k=none):=by
 induction h with
 | nil=>exact .inr ⟨rfl,rfl⟩
 | @cons p q ps qs hq t ih=>
  unfold gR m5 at ih ⊢;rw[List.find?_cons,List.find?_cons]
  by_cases hk:p.1=k
  .have iH:q.1=k:=hq.1▸hk
   rw[decide_eq_true hk,decide_eq_true iH];exact .inl ⟨_,_,rfl,rfl,hq.2⟩
  .have iH:¬q.1=k:=λz=>hk<|hq.1.trans z
   rw[decide_eq_false hk,decide_eq_false iH];exact ih
theorem dP.any{kvs:Qa (κ×D)}(h:dP K H ws kvs)(k:κ):(ws.any λkv=>decide<|kv.1=k)=(kvs.any λkv=>decide<|kv.1=k):=by
 induction h with
 | nil=>rfl
 | @cons p q ps qs hq t ih=>rw[List.any_cons,List.any_cons,ih,hq.1]
theorem dP.lA{kvs:Qa (κ×D)}(h:dP K H ws kvs)(k:κ){d:D}(hd:DF K H v d):dP K H (ws.map λkv=>if kv.1=k then(kv.1,v)else kv) (kvs.map λkv=>if kv.1=k then(kv.1,d)else kv):=by
 induction h with
 | nil=>exact .nil
 | @cons p q ps qs hq t ih=>
  refine .cons ?_ ih;dsimp only
  by_cases hk:p.1=k
  .have iH:q.1=k:=hq.1▸hk
   rw[if_pos hk,if_pos iH];exact⟨hq.1,hd⟩
  .have iH:¬q.1=k:=λz=>hk<|hq.1.trans z
   rw[if_neg hk,if_neg iH];exact hq
theorem dP.put{kvs:Qa (κ×D)}(h:dP K H ws kvs)(k:κ){d:D}(hd:DF K H v d):dP K H (dS ws k v) (ig kvs k d):=by
 unfold dS ig;rw[h.any k];split
 .exact h.lA k hd
 .exact Paired.snoc h ⟨rfl,hd⟩
theorem dP.len{kvs:Qa (κ×D)}(h:dP K H ws kvs):ws.length=kvs.length:=Paired.length h
end
def um(kvs:Qa (D×D))(k:Qa Key):Qb D:=(kvs.find? λkv=>decide<|cO kv.1=some k).map (·.2)
theorem gO.val{ws:Qa (Qa Key×V)}{kvs:Qa (D×D)}(h:gO K H ws kvs)(k:Qa Key):(∃ v d,gR ws k=some v/\um kvs k=some d/\DF K H v d)\/(gR ws k=none/\um kvs k=none):=by
 induction ws generalizing kvs with
 | nil=>cases h; exact .inr ⟨rfl,rfl⟩
 | cons p ws ih=>
  cases h with
  | @cons k' v d _ ds hv t=>
   unfold gR um at ih ⊢;rw[List.find?_cons,List.find?_cons]
   by_cases hk:k'=k
   .have iH:cO (jL k')=some k:=by rw[Bc,hk]
    rw[decide_eq_true hk,decide_eq_true iH];exact .inl ⟨_,_,rfl,rfl,hv⟩
   .have iH:¬cO (jL k')=some k:=by rw[Bc]; exact λz=>hk<|qw z
    rw[decide_eq_false hk,decide_eq_false iH];exact ih t
def kF(u y:U):Qb (Qb D):=match u,y with
 | .t kvs,.d y=>(cO y).map λk=>m5 kvs k
 | .k kvs,.d y=>(lZ y).map λk=>m5 kvs k
 | .d (.dict kvs),.d y=>if hU kvs=true then(cO y).map λk=>um kvs k else none
 | _,_=>none
theorem KG{u y:U}{o:Qb D}{x:V}(hu:Rp K H x u)(hy:Rp K H v y)(e:kF u y=some o):∃ a,x=.ref a/\((∃ w d,o=some d/\rA K H a v (some w)/\DF K H w d)\/(o=none/\rA K H a v none)):=by
 unfold kF at e;split at e
 .rename_i kvs y
  have(k,ek,rfl):=qq.mp e;have(a,ws,rfl,h1,h2):=hu;have(b,rfl,hb):=uP hy ek;refine⟨a,rfl,?_⟩;rcases h2.val k with⟨w,d,e1,e2,p⟩|⟨e1,e2⟩
  .exact .inl ⟨w,d,e2,.inr ⟨ws,k,b,.inl h1,rfl,hb,e1.symm⟩,p⟩
  .exact .inr ⟨e2,.inr ⟨ws,k,b,.inl h1,rfl,hb,e1.symm⟩⟩
 .rename_i kvs y
  have(k,ek,rfl):=qq.mp e;have(a,ws,rfl,h1,h2):=hu;cases EU hy ek;refine⟨a,rfl,?_⟩;rcases h2.val k with⟨w,d,e1,e2,p⟩|⟨e1,e2⟩
  .exact .inl ⟨w,d,e2,.inl ⟨ws,k,.inl h1,rfl,e1.symm⟩,p⟩
  .exact .inr ⟨e2,.inl ⟨ws,k,.inl h1,rfl,e1.symm⟩⟩
 .rename_i kvs y
  split at e
  rotate_left
  .cases e
  rename_i nx;have(k,ek,rfl):=qq.mp e;have(a,ob,ws,rfl,h1,h2):=DF.bT hu nx;have(b,rfl,hb):=uP hy ek;refine⟨a,rfl,?_⟩;rcases h2.val k with⟨w,d,e1,e2,p⟩|⟨e1,e2⟩
  .exact .inl ⟨w,d,e2,.inr ⟨ws,k,b,.inr ⟨ob,h1⟩,rfl,hb,e1.symm⟩,p⟩
  .exact .inr ⟨e2,.inr ⟨ws,k,b,.inr ⟨ob,h1⟩,rfl,hb,e1.symm⟩⟩
 .cases e
def gY(md my:ME):ME:=λρ=>(md ρ).bind λp=>(my p.2).bind λq=>(p.1.get q.2).bind λu=>(q.1.get q.2).bind λy=>(kF u y).bind λo=>o.bind λd=>some (.u<|.d d,q.2)
theorem kW{md my:ME}(hd:VE K td md)(hy:VE K ty my):VE K (Eg K td ty) (gY md my):=by
 intro ρ σ H a ao Q r e q;obtain⟨⟨a1,aq⟩,e1,e⟩:=zb e;obtain⟨⟨b1,aB⟩,e2,e⟩:=zb e;have(u,eu,e):=zb e;have(y,ey,e):=zb e;have(o,eo,e):=zb e;have(d,ed,e):=zb e;cases e;refine hd ρ σ H a1 aq _ r e1 λv1 H1 g1 k1=>hy aq σ H1 b1 _ _ g1.rs e2 λv2 H2 g2 k2=>?_;have(b,rfl,h):=KG (k1.later r g1 g2 eu) (k2.now g1.rs g2 ey) eo;rcases h with⟨w,d',rfl,g,p⟩|⟨rfl,_⟩
 .cases ed
  exact⟨b,w,rfl,g,q w H2 (g1.trans g2) ⟨p,Nw.data⟩⟩
 .cases ed
def kf:ME:=λρ=>some (.u<|.t [],ρ)
theorem nW:VE K EN kf:=by
 intro ρ σ H a ao Q r e q;cases e;intro p hp;have sm:=zL hp (.dT []);exact q _ _ (Go.grow r sm) ⟨⟨p,[],rfl,zw,.nil⟩,λ_=>⟨p,rfl,hp⟩⟩
def iX(i:Nat)(my mv:ME):MS:=λρ=>(ρ[i]?).join.bind λ_=>(mv ρ).bind λp=>(my p.2).bind λq=>(p.1.get q.2).bind λx=>(q.1.get q.2).bind λy=>match x,y,q.2[i]? with
 | .d x,.d y,some (some<|.t kvs)=>(cO y).bind λk=>if kvs.length < sizeLine then some (.nx<|q.2.set i<|some<|.t<|ig kvs k x)else none
 | .d x,.d y,some (some<|.k kvs)=>(lZ y).bind λk=>if kvs.length < sizeLine then some (.nx<|q.2.set i<|some<|.k<|ig kvs k x)else none
 | _,_,_=>none
theorem nR{my mv:ME}(hy:VE K ty my)(hv:VE K tv mv):VS K pn EX (Ef K (iV i) ty tv) (iX i my mv):=by
 intro au A av aA ρ σ H f D s e k;replace e:=zb e;have(w0,e0,e):=e;replace e:=zb e;obtain⟨⟨a,aq⟩,e1,e⟩:=e;replace e:=zb e;obtain⟨⟨b,aB⟩,e2,e⟩:=e;replace e:=zb e;have(u,eu,e):=e;replace e:=zb e;have(w,ew,e):=e;have(v0,jT,_):=s.rs.rep i w0 (Mh e0);refine hv ρ σ H a aq _ s.rs e1 λv H1 g1 k1=>⟨v0,jT,?_⟩;refine hy aq σ H1 b aB _ g1.rs e2 λy H2 g2 k2=>?_;have pv:=k1.later s.rs g1 g2 eu;have py:=k2.now g1.rs g2 ew;dsimp only at e;split at e
 .rename_i x yd kvs ex
  replace e:=zb e;have(ks,ek,e):=e;split at e
  .rename_i hz
   cases e;have(w',eF,p1):=g2.rs.rep i _ ex;have(l,us,rfl,hl,ds):=p1;rw[jT]at eF;cases eF;have(kb,rfl,xR):=uP py ek;refine⟨l,_,rfl,pB.t hl xR (by rw[ds.len]; exact hz),k _ _<|(s.go<|g1.trans g2).go<|Go.own (u':=.t (ig kvs ks x)) g2.rs ex rfl jT ?_⟩;have kp:=jA hl trivial (.dT<|dS us ks v);exact⟨l,_,rfl,zw,(ds.kp kp).put ks<|DF.kp kp pv⟩
  .cases e
 .rename_i x yd kvs ex
  replace e:=zb e;have(ks,ek,e):=e;split at e
  .rename_i hz
   cases e;have(w',eF,p1):=g2.rs.rep i _ ex;have(l,us,rfl,hl,ds):=p1;rw[jT]at eF;cases eF;cases EU py ek;refine⟨l,_,rfl,pB.k hl (by rw[ds.len]; exact hz),k _ _<|(s.go<|g1.trans g2).go<|Go.own (u':=.k (ig kvs ks x)) g2.rs ex rfl jT ?_⟩;have kp:=jA hl trivial (.dK<|dS us ks v);exact⟨l,_,rfl,zw,(ds.kp kp).put ks<|DF.kp kp pv⟩
  .cases e
 .cases e
def nF:U->Qb (Qa D)
 | .d (.dict kvs)=>if hU kvs=true then some (kvs.map (·.1))else none
 | _=>none
theorem LF:∀ {ws:Qa (Qa Key×V)} {kvs:Qa (D×D)},gO K H ws kvs->kvs.map (·.1)=ws.map λp=>jL p.1
 | [],_,.nil=>rfl
 | _::_,_,.cons _ t=>by rw[List.map_cons,List.map_cons,LF t]
theorem uO{me:ME}(h:VE K te me):VI K (J2 K te) (cP nF me):=by
 intro ρ σ H ds ao R r e q;obtain⟨⟨a,aq⟩,e1,e⟩:=zb e;have(u,eu,e):=zb e;have(xs,ex,e):=zb e;cases e;refine h ρ σ H a _ _ r e1 λv H1 g1 k1=>?_;have p:=k1.now r g1 eu;unfold nF at ex;split at ex
 .split at ex
  rotate_left
  .cases ex
  rename_i nx;cases ex;have(b,o,ws,rfl,h1,h2):=DF.bT p nx;refine⟨b,ws,rfl,.inr ⟨o,h1,q _ _ g1 λH2 k i=>?_⟩⟩;rw[LF h2];have je:=k.aQ _ _ _ h1;refine⟨λd ed=>?_,λei=>?_⟩
  .rw[List.getElem?_map]at ed
   obtain⟨⟨ks,w⟩,ew,rfl⟩:=qq.mp ed;refine⟨⟨je,(qk.mp ew).1⟩,λx H' y=>?_⟩;have(rfl,y):=y;have(kb,rfl,xR):=y ks w ew;exact⟨λ_ _ z=>z,.tup xR AF⟩
  .rw[List.length_map]at ei
   exact⟨je,þ ei.symm⟩
 .cases ex
end
section
variable{ρ ao:En}
abbrev MO:=En->Qb (Qb Int×En)
def yR(K:qc)(t:TO)(m:MO):Prop :=
 ∀ (ρ:En) (σ:St) (H:Hp) (o:Qb Int) (ao:En) (Q:Qb Int->Hp->Prop),Rs K ρ σ H->m ρ=some (o,ao)->(∀ H',Go K ρ σ H ao H'->Q o H')->t σ H Q
def sA:MO:=λρ=>some (none,ρ)
def rL(me:ME):MO:=λρ=>(me ρ).bind λp=>(p.1.get p.2).bind λu=>match u with | .d (.int i)=>some (some i,p.2) | _=>none
theorem A8:yR K Fn sA:=λρ σ H o ao Q r e q=>by cases e; exact q H<|Go.refl r
theorem A7{me:ME}(h:VE K te me):yR K (D7 te) (rL me):=by
 intro ρ σ H o ao Q r e q;replace e:=zb e;obtain⟨⟨a,aq⟩,e1,e⟩:=e;replace e:=zb e;have(u,eu,e):=e;refine h ρ σ H a aq _ r e1 λv H1 g1 k1=>?_;have p:=k1.now r g1 eu;dsimp only at e;split at e
 .rename_i i
  cases e;exact⟨i,DF.int_inv p,q _ g1⟩
 .cases e
def ie(xs:Qa D)(lo hi:Qb Int):Qa D:=(xs.drop<|HT.aN xs.length 0 lo).take (HT.aN xs.length xs.length hi - HT.aN xs.length 0 lo)
theorem aK.cut{xs:Qa V}{ds:Qa D}(h:aK K H xs ds)(lo hi:Qb Int):aK K H (j8 xs lo hi) (ie ds lo hi):=by
 unfold j8 ie;rw[h.len];exact(h.drop _).take _
def Ib(K:qc)(r:V->Qb Int->Qb Int->Hp->VK->Prop)(f:U->Qb Int->Qb Int->Qb U):Prop :=
 ∀ (x:V) (a u:U) (lo hi:Qb Int) (H:Hp) (Q:VK),Rp K H x a->f a lo hi=some u->(∀ v H',b8 H H'->Rp K H' v u->Nw H v u->Q v H')->r x lo hi H Q
def tz(f:U->Qb Int->Qb Int->Qb U)(me:ME)(ml mh:MO):ME:=λρ=>(me ρ).bind λp=>(ml p.2).bind λl=>(mh l.2).bind λh=>(p.1.get h.2).bind λx=>(f x l.1 h.1).bind λu=>some (.u u,h.2)
theorem yQ{r:V->Qb Int->Qb Int->Hp->VK->Prop}{f:U->Qb Int->Qb Int->Qb U}{tl th:TO}{me:ME}{ml mh:MO}(hs:Ib K r f)(he:VE K te me)(hl:yR K tl ml)(hh:yR K th mh):VE K (GF r te tl th) (tz f me ml mh):=by
 intro ρ σ H a ao Q rs e q;obtain⟨⟨a1,aq⟩,e1,e⟩:=zb e;obtain⟨⟨lo,aB⟩,e2,e⟩:=zb e;obtain⟨⟨hi,jr⟩,e3,e⟩:=zb e;have(x,ex,e):=zb e;have(u,eu,e):=zb e;cases e;refine he ρ σ H a1 aq _ rs e1 λv1 H1 g1 k1=>hl aq σ H1 lo aB _ g1.rs e2 λH2 g2=>hh aB σ H2 hi _ _ g2.rs e3 λH3 g3=>?_;refine hs _ x u lo hi H3 _ (k1.later rs g1 (g2.trans g3) ex) eu λv H4 s p n=>?_;have g:=g1.trans (g2.trans g3);exact q v H4 (g.trans<|Go.grow g.rs s) ⟨p,n.mono g.dm⟩
def uc(u:U)(lo hi:Qb Int):Qb U:=match u with
 | .l xs=>some<|.l<|ie xs lo hi
 | .d (.list xs)=>some<|.l<|ie xs lo hi
 | _=>none
theorem Fc:Ib K (Dh K) uc:=by
 intro x a u lo hi H Q p e q;unfold uc at e;split at e
 .cases e
  have(b,us,rfl,h1,h2):=p;refine⟨b,us,rfl,bA.of h1,λl hl=>?_⟩;have sm:=zL hl (.lst<|j8 us lo hi);exact q _ _ sm ⟨l,_,rfl,zw,(h2.cut lo hi).kp sm.kp⟩ λ_=>⟨l,rfl,hl⟩
 .cases e
  have(b,us,rfl,h1,h2):=DF.lst_inv p;refine⟨b,us,rfl,h1.sq,λl hl=>?_⟩;have sm:=zL hl (.lst<|j8 us lo hi);exact q _ _ sm ⟨l,_,rfl,zw,(h2.cut lo hi).kp sm.kp⟩ λ_=>⟨l,rfl,hl⟩
 .cases e
def OY(K:qc):V->Qb Int->Qb Int->Hp->VK->Prop:=λx lo hi H Q=>∃ a xs,x=.ref a/\aV K H a xs/\∀ p H',b8 H H'->aV K H' p (j8 xs lo hi)->Q (.ref p) H'
theorem zB8{X:Cx}:vG X (OY X.K):=by
 intro pins s σ H x v vl vu lo hi sl Q I rx hs pl pu h;have(a,xs,rfl,vn,q):=h;have hx:bz X.K H a xs:=vn.sq
 by_cases hw:HT.aN xs.length 0 lo=0/\HT.aN xs.length xs.length hi=xs.length
 .cases rx
  have(ah,r,ht,hz):=I.tuple hx;have hlen:ah.toArray.size=xs.length:=by rw[List.size_toArray]; exact r.length.symm
  refine⟨"tuple",_,PyProof.Rows.slot_tuple_getitem.lookup,ht.typeIs,?_⟩;refine HT.cX ht hs pl pu (by rw[hlen]; exact hw) ⟨.ref a,H,I,rfl,q a H (b8.refl _) ?_⟩;unfold j8;rw[hw.1,hw.2];simpa using vn
 .exact RU pins s σ H _ v vl vu lo hi sl Q I rx hs pl pu ⟨a,xs,rfl,hx,hw,λp hp=>q p _ (zL hp _)<|.inl zw⟩
def yP(u:U)(lo hi:Qb Int):Qb U:=match u with
 | .d (.tuple xs)=>some<|.d<|.tuple<|ie xs lo hi
 | _=>none
theorem Sf:Ib K (OY K) yP:=by
 intro x a u lo hi H Q p e q;unfold yP at e;split at e
 .cases e
  have(b,us,rfl,h1,h2):=DF.aE p;exact⟨b,us,rfl,h1,λl H' sm hl=>q _ _ sm (.tup hl<|(h2.cut lo hi).kp sm.kp) Nw.data⟩
 .cases e
def vQ:U->U->Qb U
 | .d (.tuple xs),.d (.tuple ys)=>if xs≠[]/\xs.length+ys.length<=sizeLine then some (.d<|.tuple<|xs++ys)else none
 | _,_=>none
theorem UJ:VO K (D6 K) vQ:=by
 intro x y a b u H Q ha hb e q;unfold vQ at e;split at e
 .split at e
  .rename_i xs ys hc
   cases e;have(p,us,rfl,h1,h2):=DF.aE ha;have(p',mJ,rfl,je,iI):=DF.aE hb;refine⟨p,p',us,mJ,rfl,rfl,(aV.sq h1),(aV.sq je),?_,by rw[h2.len,iI.len]; exact hc.2,λz=>?_,λ_ r hr=>?_⟩
   .rintro rfl
    cases h2;exact hc.1 rfl
   .subst z
    cases iI;exact q _ _ (λ_ _ z=>z) (by rw[List.append_nil]; exact .tup h1 h2) Nw.data
   .have s:=zL hr (.tup<|us++mJ)
    exact q _ _ s (.tup (.inl zw)<|(h2.app iI).kp s.kp) Nw.data
  .cases e
 .cases e
def zAJ:Qa Int->Int->Int
 | [],d=>d
 | n::ns,_=>ns.foldl (λa b=>if a < b then b else a) n
def zCn:Qa U->Qa U->Qb U
 | [u],[.d<|.int d]=>u.items.bind λxs=>(nH xs).map λns=>.d<|.int<|zAJ ns d
 | _,_=>none
theorem Ng{r:α->α->Prop}(as:∀ a b,r a b->¬r b a):∀ {L M:Qa α},L.Perm M->L.Pairwise r->M.Pairwise r->L=M
 | [],M,p,_,_=>(List.nil_perm.mp p).symm▸rfl
 | a::L,[],p,_,_=>by have:=p.length_eq; simp at this
 | a::L,b::M,p,h1,h2=>by
  have(a1,a2):=Î.mp h1;have(b1,b2):=Î.mp h2;have e:a=b:=by
   rcases qu.mp (p.mem_iff.mp<|qo (a:=a) (l:=L))with z|z
   .exact z
   .rcases qu.mp (p.mem_iff.mpr<|qo (a:=b) (l:=M))with y|y
    .exact y.symm
    .exact absurd (b1 a z) (as a b<|a1 b y)
  subst e;rw[Ng as p.cons_inv a2 b2]
def pk:D->Qb (Qa Int)
 | .tuple [.tuple ks,_]=>nH ks
 | _=>none
def vg:Qa D->Qb (Qa<|Qa Int)
 | []=>some []
 | d::ds=>(pk d).bind λk=>(vg ds).bind λks=>some<|k::ks
def q5(a b:D):Prop:=∃ k m,pk a=some k/\pk b=some m/\de k m=true
theorem q5.Ia(a b:D)(h:q5 a b):¬q5 b a:=by
 rintro⟨k',m',e1,e2,h'⟩;have(k,m,e3,e4,h):=h;rw[e3]at e2;rw[e4]at e1;cases e1;cases e2;have:=uX h h';rw[sC]at this;cases this
open Classical in
def yY(xs:Qa D):Qa D:=if h:∃ L,L.Perm xs/\L.Pairwise q5 then h.choose else []
theorem LD{xs L:Qa D}(p:L.Perm xs)(s:L.Pairwise q5):yY xs=L:=by
 have h:∃ L:Qa D,L.Perm xs/\L.Pairwise q5:=⟨L,p,s⟩;unfold yY;rw[dif_pos h];exact Ng q5.Ia (h.choose_spec.1.trans p.symm) h.choose_spec.2 s
def U.lst:U->Qb (Qa D)
 | .l xs=>some xs
 | .d (.list xs)=>some xs
 | _=>none
theorem Rp.lst{u:U}{xs:Qa D}(h:Rp K H v u)(e:u.lst=some xs):∃ p ys,v=.ref p/\bA K H p ys/\aK K H ys xs:=by
 cases u with
 | d x=>
  cases x with
  | list ds=>cases e; have(a,ys,rfl,h1,h2):=DF.lst_inv h; exact⟨a,ys,rfl,h1.sq,h2⟩
  | _=>cases e
 | l ds=>cases e; have(a,ys,rfl,h1,h2):=h; exact⟨a,ys,rfl,bA.of h1,h2⟩
 | t=>cases e
 | k=>cases e
def Ao(u:U):Qb U:=u.lst.bind λxs=>(vg xs).bind λks=>if xs.length < 64/\ks.Nodup then some (.l<|yY xs)else none
theorem KE:∀ {xs:Qa D} {ks:Qa (Qa Int)},vg xs=some ks->ks.length=xs.length
 | [],ks,e=>by cases e; rfl
 | x::xs,ks,e=>by
  have(k,e1,e):=zb e;have(G8,e2,e):=zb e;cases e;simp[KE e2]
theorem An:∀ {xs:Qa D} {ks:Qa (Qa Int)} {i:Nat} {x:D},vg xs=some ks->xs[i]?=some x->pk x=some (ks.getD i [])
 | [],ks,i,x,e,ex=>by simp at ex
 | y::xs,ks,i,x,e,ex=>by
  have(k,e1,e):=zb e;have(G8,e2,e):=zb e;cases e;cases i with
  | zero=>cases(show some y=some x from ex); exact e1
  | succ i=>exact An (i:=i) e2 ex
theorem LC:VC K (J3 K) (f1 Ao):=ph λv a u H Q h e q=>by
 have(xs,ex,e):=zb e;have(ks,ek,e):=zb e;split at e
 .rename_i hc
  cases e;have(p,ys,rfl,sq,ds):=h.lst ex;have ly:=ds.len;have lk:=KE ek;refine⟨p,ys,ks,rfl,sq,by omega,⟨by omega,λi v ev=>?_⟩,hc.2,λis r hp hs hr=>?_⟩
  .have(d,ed,dv):=ds.get' ev
   have kd:=An ek ed;unfold pk at kd;split at kd
   .rename_i kk y
    have(a,zs,rfl,h1,h2):=DF.aE dv;cases h2 with
    | @cons z1 _ _ _ h3 t=>
     cases t with
     | @cons z2 _ _ _ h4 t=>
      cases t;have(b,ns,rfl,h5,h6):=DF.aE h3;exact⟨a,b,z2,rfl,(aV.sq h1),by rw[<-LI h6 kd]; exact(aV.sq h5)⟩
   .cases kd
  .have sm:=zL hr (.lst<|is.map λi=>ys.getD i .aI)
   have lt:∀ i∈is,i < xs.length:=λi hi=>by
    have:=Á.mp (hp.mem_iff.mp hi);omega
   have ext:(List.range xs.length).map (λi=>xs.getD i .none)=xs:=by
    apply List.ext_getElem?;intro j;rw[List.getElem?_map]
    by_cases hj:j < xs.length
    .rw[List.getElem?_range hj,Option.map_some,qA,ql hj]
     rfl
    .rw[List.getElem?_eq_none (by simpa using hj),List.getElem?_eq_none (by omega)]
     rfl
   have qK:(is.map λi=>xs.getD i .none).Perm xs:=by
    have:=hp.map λi=>xs.getD i .none;rw[ly,ext]at this;exact this
   have qI:(is.map λi=>xs.getD i .none).Pairwise q5:=by
    rw[List.pairwise_map]at hs ⊢;refine hs.imp_of_mem λ{i j} hi hj fG=>?_;have gi:=ql (lt i hi);have gj:=ql (lt j hj);refine⟨_,_,?_,?_,fG⟩
    .rw[qA,gi]
     exact An ek gi
    .rw[qA,gj]
     exact An ek gj
   rw[LD qK qI]at q;refine q _ _ sm ⟨r,_,rfl,zw,?_⟩ λ_=>⟨r,rfl,hr⟩;refine aK.kp sm.kp ?_;clear hs hp qK qI q sm
   induction is with
   | nil=>exact .nil
   | cons i is ih=>
    refine .cons ?_<|ih λj hj=>lt j<|qm _ hj;have gi:=ql (lt i qo);have(v,ev,dv):=ds.get gi;dsimp only;rw[qA,qA,gi,ev];exact dv
 .cases e
end
theorem Mz:∀ {xs:Qa V} {us:Qa Qc},xs.length=us.length->(∀ (j:Nat) x u,xs[j]?=some x->us[j]?=some u->zO x u)->zM xs us
 | [],[],_,_=>.nil
 | [],_::_,h,_=>by simp at h
 | _::_,[],h,_=>by simp at h
 | x::xs,u::us,h,a=>.cons (a 0 x u rfl rfl)<|Mz (by simpa using h) λj y v e1 e2=>a (j+1) y v e1 e2
def IS:Qa V->Hp->VK->Prop:=λxs H Q=>∃ n:Int,xs=[.int n]/\∀ p,H p=none->Q (.ref p) (upd H p<|.sQ 0 n)
theorem Zq{X:Cx}:e8 X (.type "range") IS:=by
 intro pins s σ H xs us Q I r h;have(n,rfl,q):=h;have(u,rfl,ru):=ju r;have(t,rfl):=ru;refine call_range_1 ⟨.ref s.heap.objs.size,_,I.laid (a:=s.heap.objs.size) (o:=.sQ 0 n) (λb o e=>qd _ e) (qe _) ?_,rfl,q _ I.fresh⟩;exact⟨_,_,_,qg _ rfl⟩
section
variable{ρ ao:En}
theorem Se:∀ {n:Nat} {lo:Int},aK K H ((List.range n).map λi=>.int<|lo+(i:Nat)) (eO lo n):=λ{n lo}=>by
 unfold eO;generalize List.range n=l
 induction l with
 | nil=>exact .nil
 | cons a l ih=>exact .cons (.int _) ih
def zAK(ma:MA):ME:=λρ=>(ma ρ).bind λp=>(bt p.2 p.1).bind λus=>match us with
 | [.d<|.int j]=>if(-(2^62)<=j/\j < 2^62)/\j.toNat<=sizeLine then some (.u<|.l<|eO 0 j.toNat,p.2)else none
 | _=>none
def ic:MT:=λρ=>some (true,ρ)
theorem j9:VT K Dy ic:=λρ σ H b ao Q r e q=>by cases e; exact q H<|Go.refl r
def sV:D->Qb V
 | .none=>some .aI
 | .bool b=>some<|.bl b
 | .int i=>some<|.int i
 | .str x=>some<|.str x
 | _=>none
theorem yD{x:D}{w:V}(h:DF K H v x)(e:sV x=some w):v=w:=by
 cases h<;>cases e<;>rfl
def cR(neg:Bool):U->U->Qb U
 | .d x,.d y=>(sV x).bind λv=>(sV y).bind λw=>if Dp v w=true then some (.d<|.bool (if neg=true then !decide (v=w)else decide (v=w)))else none
 | _,_=>none
theorem mw:VO K Pb (cR false):=by
 intro x y a b u H Q ha hb e q;unfold cR at e;split at e
 .have(v,ev,e):=zb e
  have(w,ew,e):=zb e;split at e
  .rename_i hs
   cases e;cases yD ha ev;cases yD hb ew;exact⟨hs,q _ _ (λ_ _ z=>z) (.bl _) Nw.data⟩
  .cases e
 .cases e
theorem nQ:VO K Pa (cR true):=by
 intro x y a b u H Q ha hb e q;unfold cR at e;split at e
 .have(v,ev,e):=zb e
  have(w,ew,e):=zb e;split at e
  .rename_i hs
   cases e;cases yD ha ev;cases yD hb ew;exact⟨hs,q _ _ (λ_ _ z=>z) (.bl _) Nw.data⟩
  .cases e
 .cases e
def rK:U->Bool
 | .d .none=>true
 | _=>false
def ui(neg:Bool):U->U->Qb U
 | a,.d .none=>some<|.d<|.bool (if neg=true then !rK a else rK a)
 | _,_=>none
theorem UI{a:U}(h:Rp K H v a):decide (v=.aI)=rK a:=by
 cases a with
 | d x=>cases(show DF K H v x from h)<;>simp[rK]
 | l=>have(_,_,rfl,_):=h; simp[rK]
 | t=>have(_,_,rfl,_):=h; simp[rK]
 | k=>have(_,_,rfl,_):=h; simp[rK]
theorem J8:VO K (λx y H Q=>y=.aI/\Q (.bl<|decide<|x=.aI) H) (ui false):=by
 intro x y a b u H Q ha hb e q;unfold ui at e;split at e
 .cases e
  refine⟨by cases hb; rfl,?_⟩;rw[UI ha];exact q _ _ (λ_ _ z=>z) (.bl _) Nw.data
 .cases e
theorem Sd{F:FD}{E:XK}(hO:yN H)(hS:bA K H a (ns.map V.int))(h:∃ outs,F [.d<|.list<|ns.map .int]=some (.d<|.bool true,outs)):p7 K 1 F [.ref a] H (λv _=>v=.bl true) E:=by
 have(outs,ho):=h;have pl:PL K H a (ns.map V.int):=by
  rcases hS with (h|⟨o,h⟩) | h
  .rcases hO a with z|⟨o,xs,z⟩
   .rw[z]at h; cases h
   .rw[z]at h; cases h
  .exact .inl ⟨o,h⟩
  .exact .inr h
 have dd:aK K H (ns.map V.int) (ns.map PyData.int):=by
  clear ho hS pl
  induction ns with
  | nil=>exact .nil
  | cons n ns ih=>exact .cons (.int n) ih
 refine⟨[.d<|.list<|ns.map .int],.d<|.bool true,outs,rfl,⟨rfl,λi u e=>?_,λi j u w ei ej ou ow es=>?_⟩,ho,λv H' g p n=>DF.cq p⟩
 .have e':=fN.mp e
  cases i with
  | zero=>cases e'; exact⟨.ref a,rfl,DF.lst pl dd⟩
  | succ i=>simp at e'
 .have e':=fN.mp ei
  cases i with
  | zero=>cases e'; cases ou
  | succ i=>simp at e'
end
section
variable{ρ:En}{me ma mb mk mi md my mv:ME}{mA mK:MA}{mt mu:MT}{m1 m2:MS}{u:U}{x:D}{f:U->U->Qb U}
theorem bd{a:α}{f:α->Qb β}:(some a).bind f=f a:=rfl
theorem Ub{u:U}:Ar.get ρ (.u u)=some u:=rfl
theorem X6:Ar.get ρ (.s i)=(ρ[i]?).join:=rfl
theorem ZF{u:U}:(some<|some u).join=some u:=rfl
theorem Sb:zi i ρ=(ρ[i]?).join.bind λ_=>some (.s i,ρ):=by
 unfold zi;cases ρ[i]? with
 | none=>rfl
 | some o=>cases o<;>rfl
theorem zB9:mC x ρ=some (.u<|.d x,ρ):=rfl
theorem zAL:aj f ma mb ρ=(ma ρ).bind λp=>(mb p.2).bind λq=>(p.1.get q.2).bind λx=>(q.1.get q.2).bind λy=>(f x y).bind λu=>some (.u u,q.2):=rfl
theorem zAM{f:U->Qb U}:bM f ma ρ=(ma ρ).bind λp=>(p.1.get p.2).bind λx=>(f x).bind λu=>some (.u u,p.2):=rfl
theorem Sa:zp ρ=some ([],ρ):=rfl
theorem UH:zf me mA ρ=(me ρ).bind λp=>(mA p.2).bind λq=>some (p.1::q.1,q.2):=rfl
theorem zls:bt ρ []=some []:=rfl
theorem M5{a:Ar}{as:Qa Ar}:bt ρ (a::as)=(a.get ρ).bind λu=>(bt ρ as).bind λus=>some (u::us):=rfl
theorem zju:iy []=some []:=rfl
theorem zin{us:Qa U}:iy (.d x::us)=(iy us).bind λxs=>some (x::xs):=rfl
theorem R9:bB mA ρ=(mA ρ).bind λp=>(bt p.2 p.1).bind λus=>(iy us).bind λds=>if ds.length<=sizeLine then some (.u<|.d<|.tuple ds,p.2)else none:=rfl
theorem SJ:iU mA ρ=(mA ρ).bind λp=>(bt p.2 p.1).bind λus=>(iy us).bind λds=>if ds.length<=sizeLine then some (.u<|.l ds,p.2)else none:=rfl
theorem zAN{f:Qa U->Qb U}:aZ f mA ρ=(mA ρ).bind λp=>(bt p.2 p.1).bind λus=>(f us).bind λu=>some (.u u,p.2):=rfl
theorem SI{f:FD}:zS f mA ρ=(mA ρ).bind λp=>if iT p.2 p.1=true then(bt p.2 p.1).bind λus=>(f us).bind λo=>some (.u o.1,wb p.2 p.1 o.2)else none:=rfl
theorem zCa{as:Qa Ar}:iT ρ (.s j::as)=((match ρ[j]? with|some (some u)=>!u.own || !(as.any λa=>match a with | .s k=>decide (k=j) | _=>false) | _=>true) && iT ρ as):=rfl
theorem zAO{as:Qa Ar}{o:U}{os:Qa U}:wb ρ (.s j::as) (o::os)=wb (ρ.set j<|some o) as os:=rfl
theorem zAP{as:Qa Ar}{o:U}{os:Qa U}:wb ρ (.u u::as) (o::os)=wb ρ as os:=rfl
theorem X5:wb ρ [] []=ρ:=rfl
def pe(m2:MS):Fl->Qb Fl
 | .nx ao=>m2 ao
 | f=>some f
theorem bind_fn{o:Qb α}{f g:α->Qb β}(h:∀ a,f a=g a):o.bind f=o.bind g:=by cases o with|none=>rfl|some a=>exact h a
theorem SH:zz m1 m2 ρ=(m1 ρ).bind (pe m2):=bind_fn λf=>by cases f<;>rfl
theorem ZE:pe m2 (.nx ρ)=m2 ρ:=rfl
theorem ZD:pe m2 (.rt u ρ)=some (.rt u ρ):=rfl
def U.dat:U->Qb U
 | .d x=>some<|.d x
 | _=>none
theorem Ua:U.dat (.d x)=some (.d x):=rfl
theorem T9:put (.s i,ρ)=(ρ[i]?).join.bind λu=>u.dat.bind λd=>some (d,ρ):=by
 unfold put;dsimp only;cases ρ[i]? with
 | none=>rfl
 | some o=>
  cases o with
  | none=>rfl
  | some u=>cases u<;>rfl
theorem T8:put (.u u,ρ)=some (u,ρ):=rfl
theorem SG:zQ i me ρ=(me ρ).bind λp=>(put p).bind λq=>some (.nx<|q.2.set i<|some q.1):=rfl
theorem SF:ba me ρ=(me ρ).bind λp=>(put p).bind λq=>some (.rt q.1 q.2):=rfl
theorem UG:rN pn i ρ=if i∈pn then none else(ρ[i]?).join.bind λu=>some (.rt u<|ρ.set i none):=by
 unfold rN;split
 .rfl
 .cases ρ[i]? with
  | none=>rfl
  | some o=>cases o<;>rfl
theorem UE:bZ ρ=some (.nx ρ):=rfl
theorem UD:nG me ρ=(me ρ).bind λp=>some (.nx p.2):=rfl
theorem SE:bW mt m1 m2 ρ=(mt ρ).bind λp=>if p.1=true then m1 p.2 else m2 p.2:=rfl
theorem zAQ:xx mt ma mb ρ=(mt ρ).bind λp=>if p.1=true then ma p.2 else mb p.2:=rfl
def U.tZ:U->Qb Bool
 | .d (.bool b)=>some b
 | _=>none
theorem T7{b:Bool}:U.tZ (.d<|.bool b)=some b:=rfl
theorem zCb:mB me ρ=(me ρ).bind λp=>(p.1.get p.2).bind λu=>u.tZ.bind λb=>some (b,p.2):=by
 unfold mB;congr 1
 funext p
 congr 1
 funext u
 cases u with
 | d x=>cases x<;>rfl
 | l=>rfl
 | t=>rfl
 | k=>rfl
theorem SD:pf mt mu ρ=(mt ρ).bind λp=>if p.1=true then mu p.2 else some (false,p.2):=rfl
theorem zAR:i8 mt mu ρ=(mt ρ).bind λp=>if p.1=true then some (true,p.2)else mu p.2:=rfl
theorem SA:ik mt ρ=(mt ρ).bind λp=>some (!p.1,p.2):=rfl
theorem UC:uo ma mb ρ=(mB ma ρ).bind λp=>if p.1=true then mb p.2 else some (.u<|.d<|.bool false,p.2):=rfl
theorem UB:Ae ma ρ=(mB ma ρ).bind λp=>some (.u<|.d<|.bool (!p.1),p.2):=rfl
theorem Sy:vL ma ρ=(ma ρ).bind λp=>(p.1.get p.2).bind λu=>u.xi.bind λb=>some (b,p.2):=rfl
theorem ZC{n:Int}:U.xi (.d<|.int n)=some (n != 0):=rfl
theorem Sx:ic ρ=some (true,ρ):=rfl
def U.lo:U->Qb (Qa D)
 | .l xs=>some xs
 | _=>none
theorem zAS{xs:Qa D}:U.lo (.l xs)=some xs:=rfl
def U.da:U->Qb D
 | .d x=>some x
 | _=>none
theorem zAT:U.da (.d x)=some x:=rfl
def U.num:U->Qb Int
 | .d (.int i)=>some i
 | _=>none
theorem T6{n:Int}:U.num (.d<|.int n)=some n:=rfl
theorem Rm:l0 i me ρ=(ρ[i]?).join.bind λw=>w.lo.bind λ_=>(me ρ).bind λp=>(p.1.get p.2).bind λu=>u.da.bind λx=>(p.2[i]?).join.bind λw=>w.lo.bind λxs=>if xs.length < sizeLine then some (.u<|.d .none,p.2.set i<|some<|.l<|xs++[x])else none:=by
 unfold l0;cases ρ[i]? with
 | none=>rfl
 | some o=>
  cases o with
  | none=>rfl
  | some w=>
   cases w with
   | l xs0=>
    show((me ρ).bind _)=((me ρ).bind _);congr 1
    funext p
    congr 1
    funext u
    cases u with
    | d x=>
     show(match U.d x,p.2[i]? with | .d x,some (some<|.l xs)=>_|_,_=>none)=((p.2[i]?).join.bind _);cases p.2[i]? with
     | none=>rfl
     | some o=>
      cases o with
      | none=>rfl
      | some w=>cases w<;>rfl
    | l=>rfl
    | t=>rfl
    | k=>rfl
   | d=>rfl
   | t=>rfl
   | k=>rfl
theorem X4:pL i me mi ρ=(ρ[i]?).join.bind λ_=>(me ρ).bind λp=>(mi p.2).bind λq=>(p.1.get q.2).bind λu=>(q.1.get q.2).bind λw=>u.da.bind λx=>w.num.bind λk=>(q.2[i]?).join.bind λz=>z.lo.bind λxs=>(eB xs.length k).bind λj=>some (.nx<|q.2.set i<|some<|.l<|xs.set j x):=by
 unfold pL;congr 1; funext _; congr 1; funext p; congr 1; funext q; congr 1; funext u; congr 1; funext w;cases u with
 | d x=>
  cases w with
  | d y=>
   cases y with
   | int k=>
    show(match U.d x,U.d<|.int k,q.2[i]? with | .d x,.d<|.int k,some (some<|.l xs)=>_|_,_,_=>none)=((q.2[i]?).join.bind _);cases q.2[i]? with
    | none=>rfl
    | some o=>
     cases o with
     | none=>rfl
     | some w=>cases w<;>rfl
   | _=>rfl
  | l=>rfl
  | t=>rfl
  | k=>rfl
 | l=>rfl
 | t=>rfl
 | k=>rfl
theorem UA:gY md my ρ=(md ρ).bind λp=>(my p.2).bind λq=>(p.1.get q.2).bind λu=>(q.1.get q.2).bind λy=>(kF u y).bind λo=>o.bind λd=>some (.u<|.d d,q.2):=rfl
theorem X3:kf ρ=some (.u<|.t [],ρ):=rfl
def Cd(x:D):Ar×En->En
 | (.s i,ρ)=>ρ.set i<|some<|.d x
 | (.u _,ρ)=>ρ
theorem zAU:cD me ρ=(me ρ).bind λp=>(p.1.get p.2).bind λu=>u.fz.bind λx=>some (.u<|.d x,Cd x p):=by
 unfold cD;congr 1; funext p; congr 1; funext u; congr 1; funext x;have(a,aq):=p;cases a<;>rfl
theorem T5:Cd x (.s i,ρ)=ρ.set i (some<|.d x):=rfl
theorem T4:Cd x (.u u,ρ)=ρ:=rfl
theorem zAV:U.fz (.d x)=some x:=rfl
theorem zAW{xs:Qa D}:U.fz (.l xs)=some (.list xs):=rfl
theorem zAX{kvs:Qa (Qa Key×D)}:U.fz (.t kvs)=some (.dict<|kvs.map λp=>(jL p.1,p.2)):=rfl
theorem zAY{g:U->Qb (Qa D)}:cP g me ρ=(me ρ).bind λp=>(p.1.get p.2).bind λu=>(g u).bind λds=>some (ds,p.2):=rfl
theorem X2{xs:Qa D}:yS (.d<|.list xs)=some xs:=rfl
theorem X0{xs:Qa D}:kI (.d<|.tuple xs)=some xs:=rfl
theorem ZA{kvs:Qa (D×D)}:nF (.d<|.dict kvs)=if hU kvs=true then some (kvs.map (·.1))else none:=rfl
def yC:Qa U->Qb (Qa D)
 | [.d<|.int j]=>if -(2^62)<=j/\j < 2^62 then some (eO 0 j.toNat)else none
 | _=>none
theorem Rl{n:Int}:yC [.d<|.int n]=if -(2^62)<=n/\n < 2^62 then some (eO 0 n.toNat)else none:=rfl
theorem Uz:kM mA ρ=(mA ρ).bind λp=>(bt p.2 p.1).bind λus=>(yC us).bind λds=>some (ds,p.2):=bind_fn λp=>bind_fn λus=>match us with
 | []=>rfl
 | [.d<|.int j]=>by
  show(if _ then _ else _)=(if _ then _ else _:Qb (Qa D)).bind _;split<;>rfl
 | [.d .none]=>rfl
 | [.d<|.bool _]=>rfl
 | [.d<|.str _]=>rfl
 | [.d<|.list _]=>rfl
 | [.d<|.tuple _]=>rfl
 | [.d<|.dict _]=>rfl
 | [.l _]=>rfl
 | [.t _]=>rfl
 | [.k _]=>rfl
 | .d x::b::us=>by cases x<;>rfl
 | .l x::b::us=>rfl
 | .t x::b::us=>rfl
 | .k x::b::us=>rfl
theorem Rk{mI:MI}{mg:MG}:dq mI mg m1 ρ=(mI ρ).bind λp=>gB mg m1 p.1 p.2:=rfl
theorem zAZ{mI:MI}{mg:MG}:iA mI nt js mg mt me ρ=(mI ρ).bind λp=>(iB nt mg mt me p.1 (dN nt js p.2) []).bind λq=>some (.u<|.l q.1,back js (q.2.drop nt) p.2):=rfl
theorem zA0{f:U->Qb Int->Qb Int->Qb U}{ml mh:MO}:tz f me ml mh ρ=(me ρ).bind λp=>(ml p.2).bind λl=>(mh l.2).bind λh=>(p.1.get h.2).bind λx=>(f x l.1 h.1).bind λu=>some (.u u,h.2):=rfl
theorem Zp:sA ρ=some (none,ρ):=rfl
theorem Uy:rL me ρ=(me ρ).bind λp=>(p.1.get p.2).bind λu=>u.num.bind λi=>some (some i,p.2):=bind_fn λp=>bind_fn λu=>by
 cases u with
 | d x=>cases x<;>rfl
 | l=>rfl
 | t=>rfl
 | k=>rfl
def CV:Qa U->Qb (D×D)
 | [.d x,.d y]=>some (x,y)
 | _=>none
theorem XZ{y:D}:CV [.d x,.d y]=some (x,y):=rfl
theorem Rj:ud i j mA ρ=(mA ρ).bind λp=>(bt p.2 p.1).bind λus=>(CV us).bind λz=>some (.nx<|(p.2.set i<|some<|.d z.1).set j<|some<|.d z.2):=by
 refine bind_fn λp=>bind_fn λus=>?_
 match us with
 | []=>rfl
 | [a]=>cases a<;>rfl
 | [.d x,.d y]=>rfl
 | [.d x,.l y]=>rfl
 | [.d x,.t y]=>rfl
 | [.d x,.k y]=>rfl
 | [.l x,b]=>rfl
 | [.t x,b]=>rfl
 | [.k x,b]=>rfl
 | a::b::c::us=>cases a<;>(try rfl)<;>(cases b<;>rfl)
theorem Ri{mg:MG}:nv me mg ρ=(me ρ).bind λp=>(p.1.get p.2).bind λu=>u.da.bind λd=>(mg d p.2).bind λao=>some (.nx ao):=by
 unfold nv;congr 1; funext p; congr 1; funext u;cases u<;>rfl
theorem XY:zv i x ρ=some (ρ.set i<|some<|.d x):=rfl
theorem Ux{gs:Qa D->En->Qb En}{ds:Qa D}:dG n gs (.tuple ds) ρ=if ds.length=n then gs ds ρ else none:=rfl
theorem XX{g:MG}{gs:Qa D->En->Qb En}{ds:Qa D}:zJ g gs (x::ds) ρ=(g x ρ).bind λaq=>gs ds aq:=rfl
theorem Uw:eN [] ρ=some ρ:=rfl
theorem pE{c:Int->Int->Prop}{g:Int->Int->D}{a:Int}(h:c a b):jS c g (.d<|.int a) (.d<|.int b)=some (.d<|g a b):=by
 unfold jS;dsimp only;rw[if_pos h]
theorem T3{a:Int}:dF (.d<|.int a) (.d<|.int b)=some (.d<|.int<|a+b):=rfl
theorem T2{a:Int}:fL (.d<|.int a) (.d<|.int b)=some (.d<|.int<|a - b):=rfl
theorem Jh{a:Int}(h:uh a b):gW (.d<|.int a) (.d<|.int b)=some (.d<|.int<|a * b):=pE h
theorem zA1{a:Int}(h:0 < b):gU (.d<|.int a) (.d<|.int b)=some (.d<|.int<|a % b):=pE (c:=λ_ j=>0 < j) h
theorem ET{a:Int}(h:ur a b):rS (.d<|.int a) (.d<|.int b)=some (.d<|.int<|a / b):=pE h
theorem uL{a:Int}(h:rP a b):pF (.d<|.int a) (.d<|.int b)=some (.d<|.int<|a.fdiv b):=pE h
theorem zA2{a:Int}(h:lX a b):yU (.d<|.int a) (.d<|.int b)=some (.d<|.int<|a^b.toNat):=pE h
theorem zA3{a:Int}:oU (.d<|.int a) (.d<|.int b)=some (.d<|.bool<|decide<|a < b):=rfl
theorem zA4{a:Int}:Ct (.d<|.int a) (.d<|.int b)=some (.d<|.bool<|decide<|a<=b):=rfl
theorem zA5{a:Int}:vA (.d<|.int a) (.d<|.int b)=some (.d<|.bool<|decide<|b < a):=rfl
theorem zA6{a:Int}:HU (.d<|.int a) (.d<|.int b)=some (.d<|.bool<|decide<|b<=a):=rfl
theorem T1{a:Int}:l5 (.d<|.int a)=some (.d<|.int (-a)):=rfl
theorem TZ{a:Int}:rF (.d<|.int a)=some (.d<|.int (if a < 0 then -a else a)):=rfl
theorem XW{b:Bool}:uq (.d<|.bool b)=some (.d<|.int (if b then 1 else 0)):=rfl
theorem XU{a:Int}:rO [.d<|.int a,.d<|.int b]=some (.d<|.int (if b > a then b else a)):=rfl
theorem zA7{f:U->Qb U}:f1 f [u]=f u:=rfl
theorem TY{xs:Qa D}:cZ (.l xs)=some (.d<|.int xs.length):=rfl
theorem TX{xs:Qa D}:cZ (.d<|.tuple xs)=some (.d<|.int xs.length):=rfl
theorem TV{xs:Qa D}:cZ (.d<|.list xs)=some (.d<|.int xs.length):=rfl
theorem Zz{xs:Qa D}:iY (.l xs)=some (.d<|.tuple xs):=rfl
theorem TU{xs:Qa D}{k:Int}:fK (.l xs) (.d<|.int k)=(bY xs k).map .d:=rfl
theorem TR{xs:Qa D}{k:Int}:fK (.d<|.list xs) (.d<|.int k)=(bY xs k).map .d:=rfl
theorem TQ{xs:Qa D}{k:Int}:bg (.d<|.tuple xs) (.d<|.int k)=(bY xs k).map .d:=rfl
theorem TN{xs:Qa D}{lo hi:Qb Int}:uc (.l xs) lo hi=some (.l<|ie xs lo hi):=rfl
theorem TM{a:Int}:cR false (.d<|.int a) (.d<|.int b)=some (.d<|.bool<|decide<|a=b):=by
 show some (U.d<|.bool<|decide<|V.int a=V.int b)=_;congr 3;exact decide_eq_decide.mpr ⟨λh=>by cases h; rfl,λh=>by rw[h]⟩
theorem TL{a:Int}:cR true (.d<|.int a) (.d<|.int b)=some (.d<|.bool (!decide (a=b))):=by
 show some (U.d<|.bool (!decide (V.int a=V.int b)))=_;congr 4;exact decide_eq_decide.mpr ⟨λh=>by cases h; rfl,λh=>by rw[h]⟩
def CU(pn:Qa Nat)(us:Qa U):Fl->Qb (U×Qa U)
 | .rt u ρ=>(gz pn ρ 0 us).bind λos=>some (u,os)
 | .nx ρ=>(gz pn ρ 0 us).bind λos=>some (.d .none,os)
 | _=>none
theorem Rh{us:Qa U}:bX n pn m1 us=(m1<|sm us++List.replicate (n - us.length) none).bind (CU pn us):=by
 exact bind_fn λf=>by cases f<;>rfl
theorem Zy{us:Qa U}:CU pn us (.rt u ρ)=(gz pn ρ 0 us).bind λos=>some (u,os):=rfl
theorem zlu:gz pn ρ n []=some []:=rfl
theorem zjv{us:Qa U}:gz pn ρ n (u::us)=(if n∈pn then(ρ[n]?).join.bind λo=>if o.own=true/\u.own=false then none else some o else if u.own=true then none else some u).bind λo=>(gz pn ρ (n+1) us).bind λos=>some (o::os):=rfl
theorem TJ:U.own (.d x)=false:=rfl
theorem TH{xs:Qa D}:U.own (.l xs)=true:=rfl
theorem XS:sm []=[]:=rfl
theorem Zx{us:Qa U}:sm (u::us)=some u::sm us:=rfl
theorem zA8{a:α}{xs:Qa α}:bY (a::xs) 0=some a:=by
 unfold bY eB;rw[if_pos (by decide),if_pos (by simp only[qt]; omega)];rfl
theorem zA9{a b:α}{xs:Qa α}:bY (a::b::xs) 1=some b:=by
 unfold bY eB;rw[if_pos (by decide),if_pos (by simp only[qt]; omega)];rfl
theorem zBa:eB (n+1) 0=some 0:=by
 unfold eB;rw[if_pos (by decide),if_pos (by omega)];rfl
theorem zBb:eB (n+1+1) 1=some 1:=by
 unfold eB;rw[if_pos (by decide),if_pos (by omega)];rfl
theorem zBc{a:Int}(h:b.natAbs < 18446744073709551616):gW (.d<|.int a) (.d<|.int b)=some (.d<|.int<|a * b):=Jh (.inr ⟨by omega,by omega⟩)
theorem zBd{a:Int}(h:a.natAbs < 18446744073709551616):gW (.d<|.int a) (.d<|.int b)=some (.d<|.int<|a * b):=Jh (.inl ⟨by omega,by omega⟩)
theorem zBe{a:Int}(h:0 < b):gU (.d<|.int a) (.d<|.int b)=some (.d<|.int<|a % b):=zA1 h
theorem zBf{a:Int}(h:0 < b)(h2:b<=340282366920938463463374607431768211456):rS (.d<|.int a) (.d<|.int b)=some (.d<|.int<|a / b):=ET (VB h (by omega))
theorem zBg{a:Int}(h:0<=b)(h2:b<=1000000)(h3:a.natAbs < 18446744073709551616):yU (.d<|.int a) (.d<|.int b)=some (.d<|.int<|a^b.toNat):=zA2 ⟨h,h2,by omega⟩
theorem zl:sizeLine=16777216:=rfl
theorem Zw:reset nt ρ=List.replicate nt none++ρ.drop nt:=rfl
theorem TF:dN nt js ρ=List.replicate nt none++js.map λj=>ρ.getD j none:=rfl
theorem XR{us:Qa (Qb U)}:back (j::js) (some u::us) ρ=back js us (ρ.set j<|some u):=rfl
theorem XQ{us:Qa (Qb U)}:back [] us ρ=ρ:=by cases us<;>rfl
theorem F3:∀ ks:Qa Int,nH (ks.map PyData.int)=some ks
 | []=>rfl
 | k::ks=>by show(nH<|ks.map PyData.int).bind _=_; rw[F3 ks]; rfl
theorem J7{xs ys:Qa D}(h:xs.length+ys.length<=16777216):ue (.l xs) (.l ys)=some (.l<|xs++ys):=by
 unfold ue;dsimp only;rw[zl,if_pos h]
end
structure XT (K:qc) (tab:Qa (Str×Qa Str)) (fl:Qa Str):Prop where
 cl:∀ n ups C,tab.lookup n=some ups->XN K n C->XI K C/\∀ f∈fl,g6 K C f
 is:∀ n ups C,tab.lookup n=some ups->XN K n C->∀ c C',(tab.lookup c).isSome=true->XN K c C'->PySem.W.kitOne K (.ref C) (.ref C')=some (decide (c=n) || ups.contains c)
 gJ:∀ n ups C,tab.lookup n=some ups->XN K n C->PySem.W.kitOne K (.ref C) (.type "ValueError")=some (ups.contains ("ValueError":Str))
def rE(f:Str):Qa (D×D)->Qb D
 | (.str g,d)::ds=>if f=g then some d else rE f ds
 | _=>none
section
variable{tab:Qa (Str×Qa Str)}{n:Str}
theorem gP.get:∀ {fs:Qa (Str×V)} {ds:Qa (D×D)} {d:D},gP K H fs ds->rE f ds=some d->∃ v,fs.lookup f=some v/\DF K H v d
 | _,_,_,.nil,e=>by cases e
 | _,_,d,.cons (k:=k) (v:=v) (vs:=vs) h t,e=>by
  unfold rE at e;rw[List.lookup_cons];split at e
  .rename_i q
   cases e;exact⟨v,by rw[show(f==k)=true from beq_iff_eq.mpr q],h⟩
  .rename_i q
   have(w,e1,e2):=gP.get t e;exact⟨w,by rw[show(f==k)=false from beq_eq_false_iff_ne.mpr q]; exact e1,e2⟩
end
section
variable{tab:Qa (Str×Qa Str)}{n:Str}
end
section
variable{X:Cx}{tab:Qa (Str×Qa Str)}{c n:Str}
end
section
def nD:U->U->Qb U
 | .d (.str i),.d (.str j)=>if i.length+j.length<=sizeLine then some (.d<|.str<|i++j)else none
 | _,_=>none
theorem A6:VO K (λx y H Q=>∃ i j,x=.str i/\y=.str j/\i.length+j.length<=sizeLine/\Q (.str<|i++j) H) nD:=by
 intro x y a b u H Q ha hb e q;unfold nD at e;split at e
 .split at e
  .rename_i i j hc
   cases e;exact⟨i,j,DF.str_inv ha,DF.str_inv hb,hc,q _ _ (b8.refl H) (DF.str _) Nw.data⟩
  .cases e
 .cases e
def rD:U->U->Qb U
 | .d (.str z),.d (.int i)=>if z.length<=sizeLine then(bY z.cps.toList i).map λc=>.d (.str ⟨#[c]⟩)else none
 | _,_=>none
theorem ES:VO K OW rD:=by
 intro x y a b u H Q ha hb e q;unfold rD at e;split at e
 .split at e
  .rename_i z i hc
   have(c,ec,rfl):=qq.mp e;exact⟨z,i,c,DF.str_inv ha,DF.int_inv hb,hc,ec,q _ _ (b8.refl H) (DF.str _) Nw.data⟩
  .cases e
 .cases e
def B9(ty:U->Bool)(f:U->U->Qb U)(mo ma:ME):ME:=λρ=>(mo ρ).bind λp=>(p.1.get p.2).bind λx0=>if ty x0=true then(ma p.2).bind λq=>(p.1.get q.2).bind λx=>(q.1.get q.2).bind λy=>(f x y).bind λu=>some (.u u,q.2)else none
theorem OI{r:V->Qa V->Hp->VK->Prop}{ty:U->Bool}{f:U->U->Qb U}{to:TE}{mo ma:ME}(ht:∀ (x:V) (a:U) (H:Hp),Rp K H x a->ty a=true->xf K T x H)(h:VO K (λx y H Q=>r x [y] H Q) f)
  (ho:VE K to mo) (ha:VE K ta ma):VE K (BZ K T r to<|nK ta rB) (B9 ty f mo ma):=by
 intro ρ σ H a ao Q rs e q;obtain⟨⟨a1,aq⟩,e1,e⟩:=zb e;have(x0,ex0,e):=zb e;split at e
 rotate_left
 .cases e
 rename_i oI;obtain⟨⟨b1,aB⟩,e2,e⟩:=zb e;have(x,ex,e):=zb e;have(y,ey,e):=zb e;have(u,eu,e):=zb e;cases e;refine ho ρ σ H a1 aq _ rs e1 λv1 H1 g1 k1=>⟨ht _ _ _ (k1.now rs g1 ex0) oI,ha aq σ H1 b1 aB _ g1.rs e2 λv2 H2 g2 k2=>?_⟩;refine h _ _ x y u H2 _ (k1.later rs g1 g2 ex) (k2.now g1.rs g2 ey) eu λv H3 s p n=>?_;exact q v H3 ((g1.trans g2).trans<|Go.grow g2.rs s) ⟨p,n.mono (g1.trans g2).dm⟩
def tyL:U->Bool
 | .l _=>true
 | .d (.list _)=>true
 | _=>false
def xg:U->Bool
 | .d (.str _)=>true
 | _=>false
theorem J6(x:V)(a:U)(H:Hp)(h:Rp K H x a)(e:xg a=true):xf K "str" x H:=by
 unfold xg at e;split at e
 .cases DF.str_inv h; rfl
 .cases e
def yB:D->Qb Str
 | .str x=>some x
 | _=>none
theorem FA:∀ {us:Qa V} {ds:Qa D} {ys:Qa Str},aK K H us ds->ds.mapM yB=some ys->us=ys.map V.str
 | _,_,ys,.nil,e=>by cases e; rfl
 | _,_,ys,.cons (d:=d) h t,e=>by
  rw[List.mapM_cons]at e;have(y,e1,e):=zb e;have(n8,e2,e):=zb e;cases e;cases d with
  | str x=>cases e1; cases DF.str_inv h; rw[FA t e2]; rfl
  | _=>cases e1
def uj:U->U->Qb U
 | .d (.str sep),.l ds=>(ds.mapM yB).bind λys=>if(ys.map (·.length)).sum+ys.length * sep.length<=16777216 then some (.d<|.str<|Txt.join sep ys)else none
 | .d (.str sep),.d (.list ds)=>(ds.mapM yB).bind λys=>if(ys.map (·.length)).sum+ys.length * sep.length<=16777216 then some (.d<|.str<|Txt.join sep ys)else none
 | _,_=>none
theorem KD:VO K (λx y H Q=>IW K x [y] H Q) uj:=by
 intro x y a b u H Q ha hb e q;unfold uj at e;split at e
 .have(ys,ey,e):=zb e
  split at e
  .rename_i hc
   cases e;have(l,us,rfl,h1,h2):=hb;cases FA h2 ey;exact⟨_,l,ys,DF.str_inv ha,rfl,bA.of h1,hc,q _ _ (b8.refl H) (DF.str _) Nw.data⟩
  .cases e
 .have(ys,ey,e):=zb e
  split at e
  .rename_i hc
   cases e;have(l,us,rfl,h1,h2):=DF.lst_inv hb;cases FA h2 ey;exact⟨_,l,ys,DF.str_inv ha,rfl,h1.sq,hc,q _ _ (b8.refl H) (DF.str _) Nw.data⟩
  .cases e
 .cases e
def tW:D->Qb V
 | .none=>some .aI
 | .bool b=>some<|.bl b
 | .int i=>some<|.int i
 | .str x=>some<|.str x
 | _=>none
theorem KC{w:V}{d:D}(h:DF K H v d)(e:tW d=some w):v=w/\mf w=true:=by
 cases d with
 | none=>cases e; cases h; exact⟨rfl,rfl⟩
 | bool b=>cases e; cases DF.cq h; exact⟨rfl,rfl⟩
 | int i=>cases e; cases DF.int_inv h; exact⟨rfl,rfl⟩
 | str x=>cases e; cases DF.str_inv h; exact⟨rfl,rfl⟩
 | _=>cases e
theorem KA:∀ {us:Qa V} {ds:Qa D} {ws:Qa V},aK K H us ds->ds.mapM tW=some ws->us=ws/\ws.all mf=true
 | _,_,ws,.nil,e=>by cases e; exact⟨rfl,rfl⟩
 | _,_,ws,.cons h t,e=>by
  rw[List.mapM_cons]at e;have(y,e1,e):=zb e;have(n8,e2,e):=zb e;cases e;have(rfl,f1):=KC h e1;have(rfl,f2):=KA t e2;exact⟨rfl,by rw[List.all_cons,f1,f2]; rfl⟩
end
def CT(K:qc)(C:Qg):Bool:=match K.lookup C with
 | some ⟨.type "type",_,.cls cd,sl⟩=>(match cd.mro,sl.toList with
  | .ref C'::bm,[_,_,_,_,some<|.builtin m,_]=>C'==C && m == "ValueError.__new__" && !cd.hasDel && cd.hasDict && PySem.W.tailIn K Gw bm
  | _,_=>false)
 | _=>false
def yA(K:qc)(C:Qg):Bool:=CT K C && PySem.W.findIn K (.ref C) "__getattribute__"==some (some<|.builtin "BaseException.__getattribute__") && PySem.W.findIn K (.ref C) "__getattr__"==some none &&
 PySem.W.findIn K (.ref C) "__setattr__"==some (some<|.builtin "object.__setattr__") && PySem.W.findIn K (.ref C) "__class__"==some (some<|.builtin "object.__class__") &&
 PySem.W.specialIn K (.builtin "object.__class__") "__get__"==some (some<|.builtin "getset_descriptor.__get__") && PySem.W.takesIn K (.builtin "object.__class__")==some true && PySem.W.mroIn K C (.type "object")==some true
theorem zBi{C:Qg}(q:CT K C=true):∃ nm qn N bs bm sn sub ab col dd k0 k1 k2 k3 k5,K.lookup C=some (excClassObj nm qn C N bs bm true sn sub ab col dd k0 k1 k2 k3 k5 "ValueError.__new__")/\PySem.W.tailIn K Gw bm=true:=by
 unfold CT at q;split at q
 .rename_i dd cd sl ho
  split at q
  .rename_i C' bm k0 k1 k2 k3 m k5 hm hs
   simp only[Bool.and_eq_true,beq_iff_eq,Bool.not_eq_true']at q;obtain⟨⟨⟨⟨rfl,rfl⟩,xW⟩,tP⟩,ht⟩:=q;have(nm,bs,mro,ns,qn,hd,sn,sub,ab,col,del):=cd;dsimp only at hm xW tP;subst hm xW tP;obtain⟨l⟩:=sl;dsimp only at hs;subst hs;exact⟨nm,qn,ns,bs,bm,sn,sub,ab,col,dd,k0,k1,k2,k3,k5,ho,ht⟩
  .cases q
 .cases q
theorem zBj{C:Qg}(q:yA K C=true):XI K C:=by
 unfold yA at q;simp only[Bool.and_eq_true,beq_iff_eq]at q;obtain⟨⟨⟨⟨⟨⟨⟨h1,h2⟩,h3⟩,h4⟩,h5⟩,h6⟩,h7⟩,h8⟩:=q;exact⟨⟨zBi h1,h2,h3,h4⟩,h5,h6,h7,h8⟩
def vM(K:qc)(n:Str):Qb Qg:=match PySem.W.nsIn K mainGlobals n with
 | some (some<|.ref C)=>some C
 | _=>none
theorem Kz{n:Str}{C:Qg}(h:XN K n C):vM K n=some C:=by
 unfold vM;rw[show PySem.W.nsIn K mainGlobals n=some (some<|.ref C) from h]
def CS(K:qc)(tab:Qa (Str×Qa Str))(fl:Qa Str):Bool:=tab.all λp=>match vM K p.1 with
 | some C=>yA K C && fl.all (λf=>PySem.W.findIn K (.ref C) f==some none) && PySem.W.kitOne K (.ref C) (.type "ValueError")==some (p.2.contains ("ValueError":Str)) &&
   tab.all λp'=>match vM K p'.1 with
    | some C'=>PySem.W.kitOne K (.ref C) (.ref C')==some (decide (p'.1=p.1) || p.2.contains p'.1)
    | none=>false
 | none=>false
theorem F6:∀ {l:Qa (Str×β)} {n:Str} {b:β},l.lookup n=some b->(n,b)∈l
 | [],_,_,e=>by cases e
 | (m,c)::l,n,b,e=>by
  rw[List.lookup_cons]at e;cases q:(n==m)with
  | true=>
   rw[q]at e;cases e;rw[beq_iff_eq.mp q];exact qo
  | false=>
   rw[q]at e;exact qm _<|F6 e
theorem zBk{tab:Qa (Str×Qa Str)}(h:CS K tab fl=true):XT K tab fl:=by
 unfold CS at h;have one:∀ n ups C,tab.lookup n=some ups->XN K n C->(yA K C && fl.all (λf=>PySem.W.findIn K (.ref C) f==some none) && PySem.W.kitOne K (.ref C) (.type "ValueError")==some (ups.contains ("ValueError":Str)) &&
   tab.all λp'=>match vM K p'.1 with
    | some C'=>PySem.W.kitOne K (.ref C) (.ref C')==some (decide (p'.1=n) || ups.contains p'.1)
    | none=>false)=true:=λn ups C hn xn=>by
  have z:=ä.mp h (n,ups) (F6 hn);dsimp only at z;rw[Kz xn]at z;exact z
 refine⟨λn ups C hn xn=>?_,λn ups C hn xn c C' hc xc=>?_,λn ups C hn xn=>?_⟩
 .have z:=one n ups C hn xn
  simp only[Bool.and_eq_true]at z;refine⟨zBj z.1.1.1,λf hf=>?_⟩;exact beq_iff_eq.mp<|ä.mp z.1.1.2 f hf
 .have z:=one n ups C hn xn
  simp only[Bool.and_eq_true]at z;have(GC,hu'):=Option.isSome_iff_exists.mp hc;have y:=ä.mp z.2 (c,GC) (F6 hu');dsimp only at y;rw[Kz xc]at y;exact beq_iff_eq.mp y
 .have z:=one n ups C hn xn
  simp only[Bool.and_eq_true]at z;exact beq_iff_eq.mp z.1.2
section
variable{X:Cx}{C:Qg}{p:Pos}{es:Qa Expr}{t:TA}
end
abbrev RX(α:Type):=(α×En) ⊕ (D×En)
abbrev MX:=En->Qb (RX Ar)
abbrev MXA:=En->Qb (RX<|Qa Ar)
section
variable{EX:iQ}{ρ ao:En}{A:Qg->Prop}
def mXR(n f:Str)(ma:MA):En->Qb (D×En):=λρ=>(ma ρ).bind λp=>(bt p.2 p.1).bind λus=>(iy us).bind λds=>match ds with
 | [x]=>some (.dict [(.none,.str n),(.str f,x)],p.2)
 | _=>none
def under(tab:Qa (Str×Qa Str))(c:Str):D->Bool
 | .dict ((.none,.str n)::_)=>match tab.lookup n with|some ups=>ups.contains c|none=>false
 | _=>false
end
abbrev FX:=Qa U->Qb ((U×Qa U) ⊕ (D×Qa U))
def spX(K:qc)(n:Nat)(f:FX):Sp:=λvs H Q E=>∃ us r,us.length=n/\Rs K (sm us) (dH vs) H/\f us=some r/\match r with
 | .inl o=>∀ v H',Go K (sm us) (dH vs) H (sm o.2) H'->Rp K H' v o.1->Nw H v o.1->Q v H'
 | .inr o=>∀ a H',Go K (sm us) (dH vs) H (sm o.2) H'->H a=none->OZ K H' a o.1->E (.ref a) none H'
structure Ik (P:Qe) (w:Qh) (K:qc) (mg:Str->Qb Qc) (base:Heap) (x:Str) (k:Nat) (ps:Qa Str) (sp:Sp):Prop where
 ex:∃ (f:Qg) (fd:FuncData),cw P w K mg base (CXv P w K) k f fd ps sp/\mn K fd ps []/\PySem.W.keepIn K (.ref f)=true/\mg x=some (.ref f)
section
variable{X:Cx}{EX:iQ}{k:Nat}{p:Pos}{es:Qa Expr}{t:TA}
end
section
variable{EX:iQ}{ρ ao:En}{A:Qg->Prop}
end
section
variable{X:Cx}{C:Qg}{p:Pos}{es:Qa Expr}{t:TA}{EX:iQ}
end
def tyD:D->Qb String
 | .none=>some "NoneType"
 | .bool _=>some "bool"
 | .int _=>some "int"
 | .str _=>some "str"
 | .tuple _=>some "tuple"
 | _=>none
def O3:U->Qb String
 | .d x=>tyD x
 | .l _=>some "list"
 | _=>none
def gJ(t T:String):Bool:=t==T || (t == "bool" && T == "int")
def D1:Qa String:=["NoneType", "bool", "int", "str", "tuple", "list"]
theorem Uv(K:qc):∀ t∈D1,∀ T∈["int", "bool", "str", "tuple", "list"],PySem.W.kitOne K (.type t) (.type T)=some (gJ t T):=by
 have hm:∀ T∈["int", "bool", "str", "tuple", "list"],PySem.W.kitMeta T=true:=by decide +kernel
 have hs:∀ t∈D1,∀ T∈["int", "bool", "str", "tuple", "list"],(PySem.fastBuiltinMro t).map (·.contains (Value.type T))=some (gJ t T):=by decide +kernel
 intro t ht T hT;unfold PySem.W.kitOne;split
 .rename_i q
  have e:t=T:=Value.type.inj (beq_iff_eq.mp q);subst e;unfold gJ;simp
 .unfold PySem.W.kitCls PySem.W.subIn
  simp only[hm T hT,if_true];exact hs t ht T hT
def iS(T:String)(u:U):Qb U:=(O3 u).bind λt=>if t∈D1/\T∈["int", "bool", "str", "tuple", "list"]then some (.d<|.bool<|gJ t T)else none
section
theorem Rg{u:U}{t:String}(h:Rp K H v u)(e:O3 u=some t):cY K H v (.type t):=by
 cases u with
 | d x=>
  cases x with
  | none=>cases e; cases h; exact .aI
  | bool b=>cases e; cases DF.cq h; exact .bl _
  | int i=>cases e; cases DF.int_inv h; exact .int _
  | str x=>cases e; cases DF.str_inv h; exact .str _
  | tuple ds=>cases e; have(a,ys,rfl,h1,_):=DF.aE h; exact .tup h1
  | list ds=>cases e
  | dict ds=>cases e
 | l xs=>cases e; have(a,us,rfl,h1,_):=h; exact .lst h1
 | t kvs=>cases e
 | k kvs=>cases e
theorem nC{me:ME}(h:VE K te me):VE K (mM (Dx K)<|nK te<|nK (tC<|.ty T) rB) (bM (iS T) me):=by
 intro ρ σ H a ao Q rs e q;obtain⟨⟨a1,aq⟩,e1,e⟩:=zb e;have(x,ex,e):=zb e;have(u,eu,e):=zb e;cases e;refine h ρ σ H a1 _ _ rs e1 λv1 H1 g1 k1=>?_;have p:=k1.now rs g1 ex;unfold iS at eu;have(t,et,eu):=zb eu;split at eu
 .rename_i hc
  cases eu;exact⟨v1,.type t,T,_,rfl,Rg p et,Uv K t hc.1 T hc.2,q _ _ g1 ⟨DF.bl _,Nw.data⟩⟩
 .cases eu
def rC(x:D)(ds:Qa D):Qb Bool:=(tW x).bind λw=>(ds.mapM tW).bind λws=>some<|xF w ws
def lL(neg:Bool)(a b:U):Qb U:=match a with
 | .d x=>b.items.bind λds=>(rC x ds).bind λr=>some<|.d<|.bool (if neg=true then !r else r)
 | _=>none
theorem yX(neg:Bool):VO K (xp K neg) (lL neg):=by
 intro x y a b u H Q ha hb e q;cases a with
 | d d=>
  have(ds,e1,e):=zb (show b.items.bind _=some u from e);have(r,e2,e):=zb e;have(w,e3,e2):=zb e2;have(ws,e4,e2):=zb e2;cases e2;cases e;have(p,ys,rfl,sq,df):=hb.items e1;have(rfl,f1):=KC ha e3;have(rfl,f2):=KA df e4;exact⟨p,_,rfl,sq,f1,f2,q _ _ (b8.refl H) (by cases neg<;>exact DF.bl _) Nw.data⟩
 | _=>cases e
def Cz:D->Qb Bool
 | .bool b=>some b
 | _=>none
theorem Ky:∀ {us:Qa V} {ds:Qa D} {bs:Qa Bool},aK K H us ds->ds.mapM Cz=some bs->us=bs.map V.bl
 | _,_,bs,.nil,e=>by cases e; rfl
 | _,_,bs,.cons (d:=d) h t,e=>by
  rw[List.mapM_cons]at e;have(y,e1,e):=zb e;have(n8,e2,e):=zb e;cases e;cases d with
  | bool x=>cases e1; cases DF.cq h; rw[Ky t e2]; rfl
  | _=>cases e1
def CQ(u:U):Qb U:=u.items.bind λds=>(ds.mapM Cz).bind λbs=>some<|.d<|.bool<|bs.all id
theorem Rf:VC K (OQ K) (f1 CQ):=ph λv a u H Q h e q=>by
 have(ds,ex,e):=zb e;have(bs,eb,e):=zb e;cases e;have(p,ys,rfl,s,d):=h.items ex;cases Ky d eb;exact⟨p,bs,rfl,s,q _ _ (λ_ _ z=>z) (.bl _) Nw.data⟩
def Am(f f':U->U->Qb U)(ma mb mc:ME):ME:=λρ=>(ma ρ).bind λp=>(mb p.2).bind λq=>(p.1.get q.2).bind λx=>(q.1.get q.2).bind λy=>(f x y).bind λr=>match r with
 | .d (.bool true)=>(mc q.2).bind λs=>(q.1.get s.2).bind λy'=>(s.1.get s.2).bind λz=>(f' y' z).bind λu=>some (.u u,s.2)
 | .d (.bool false)=>some (.u<|.d<|.bool false,q.2)
 | _=>none
theorem Uu{r r':R2}{f f':U->U->Qb U}{tc:TE}{ma mb mc:ME}(h:VO K r f)(h':VO K r' f')(ha:VE K ta ma)(hb:VE K tb mb)(hc:VE K tc mc):VE K (EF r r' ta tb tc) (Am f f' ma mb mc):=by
 intro ρ σ H a ao Q rs e q;obtain⟨⟨a1,aq⟩,e1,e⟩:=zb e;obtain⟨⟨b1,aB⟩,e2,e⟩:=zb e;have(x,ex,e):=zb e;have(y,ey,e):=zb e;have(rr,er,e):=zb e;refine ha ρ σ H a1 aq _ rs e1 λv1 H1 g1 k1=>hb aq σ H1 b1 aB _ g1.rs e2 λv2 H2 g2 k2=>?_;refine h _ _ x y rr H2 _ (k1.later rs g1 g2 ex) (k2.now g1.rs g2 ey) er λv H3 s p n=>?_;have g3:=Go.grow g2.rs s;split at e
 .cases DF.cq p
  refine⟨true,rfl,?_⟩;rw[if_pos rfl];obtain⟨⟨c1,jr⟩,e3,e⟩:=zb e;have(y',ey',e):=zb e;have(z,ez,e):=zb e;have(u,eu,e):=zb e;cases e;refine hc aB σ H3 c1 _ _ g3.rs e3 λv3 H4 g4 k4=>?_;refine h' _ _ y' z u H4 _ (k2.later g1.rs g2 (g3.trans g4) ey') (k4.now g3.rs g4 ez) eu λw H5 s5 p5 n5=>?_;exact q w H5 ((((g1.trans g2).trans g3).trans g4).trans<|Go.grow g4.rs s5) ⟨p5,n5.mono λb hb=>(g1.trans g2).dm b<|g3.dm b<|g4.dm b hb⟩
 .cases DF.cq p
  cases e;refine⟨false,rfl,?_⟩;rw[if_neg (by decide)];exact q _ H3 ((g1.trans g2).trans g3) ⟨DF.bl _,Nw.data⟩
 .cases e
def vP:U->U->Qb U
 | .d (.str z),.d (.int n)=>if 0<=n/\n<=1 then some (.d<|.str<|uf z n)else none
 | _,_=>none
theorem Ut:VO K (λx y H Q=>∃ z n,x=.str z/\y=.int n/\0<=n/\n<=1/\Q (.str<|uf z n) H) vP:=by
 intro x y a b u H Q ha hb e q;unfold vP at e;split at e
 .split at e
  .rename_i z n hc
   cases e;exact⟨z,n,DF.str_inv ha,DF.int_inv hb,hc.1,hc.2,q _ _ (b8.refl H) (DF.str _) Nw.data⟩
  .cases e
 .cases e
end
section
variable{X:Cx}
end
section
variable{I:Qg}{wr:Qa Qg}{ks:Qa Key}{P:Nat->Qc->Prop}{St:Nat->Qd->Prop}
end
section
end
section
variable{X:Cx}
def J5(K:qc):R2:=λx y H Q=>D6 K x y H Q\/∃ a b,x=.ref a/\y=.ref b/\bz K H a []/\(∃ ys,bz K H b ys)/\Q y H
end
section
variable{X:Cx}
theorem Us{t b:Qg}{ws:Qa Qc}(ht:IsTup s.heap t #[])(hb:IsTup s.heap b ws.toArray)(h:Q (.ref b) s):wpAny (model prog w) A (binaryOp .Add (.ref t)<|.ref b) Q E s:=by
 obtain⟨⟨c1,d1,o1,s1⟩,h1,z1,n1,y1⟩:=id ht;obtain⟨⟨c2,d2,o2,s2⟩,h2,z2,n2,y2⟩:=id hb;cases(show c1=_ from z1);cases(show c2=_ from z2);cases(show o1=_ from y1);cases(show o2=_ from y2);have mt:=tuple_addW0 t b #[] ws.toArray n1 n2 d1 d2 s1 s2 rfl;exact concat_meets ⟨_,h1,rfl⟩ ⟨_,h2,rfl⟩ noFill_tuple_add seq_tuple_add PySem.F.slot_tuple_add PySem.F.entry_tuple_add (PySem.F.args_tuple_add_2 _ _) mt ⟨h1,h2,h⟩
theorem Fy(hK:X.K=K:=by rfl):bH X (binaryOp .Add) (J5 K):=by
 subst hK;intro pins s σ H x y v u Q I rx ry h;rcases h with h|⟨a,b,rfl,rfl,ha,⟨ys,hb⟩,q⟩
 .exact VQ pins s σ H x y v u Q I rx ry h
 .cases rx
  cases ry;have(ah,r1,p1,_):=I.tuple ha;have(dz,r2,p2,_):=I.tuple hb;cases r1;exact Us p1 p2 ⟨.ref b,H,I,rfl,q⟩
def rY:U->U->Qb U
 | .d (.tuple []),.d (.tuple ys)=>some<|.d<|.tuple ys
 | a,b=>vQ a b
theorem Fx:VO K (J5 K) rY:=by
 intro x y a b u H Q ha hb e q;unfold rY at e;split at e
 .cases e
  have(p,us,rfl,h1,h2):=DF.aE ha;have(p',mJ,rfl,je,iI):=DF.aE hb;cases h2;exact .inr ⟨p,p',rfl,rfl,(aV.sq h1),⟨mJ,(aV.sq je)⟩,q _ _ (b8.refl H) hb Nw.data⟩
 .exact .inl (UJ x y _ _ u H Q ha hb e q)
end
def mZ(K:qc)(g:Qg)(ns:Qa Int):Prop:=∃ (o:Obj) (ah:Array Qc) (n:Nat),K.lookup g=some o/\o.cls=.type "tuple"/\o.data=.seq ah n/\ah.size<=sizeLine/\zM (ns.map V.int) ah.toList
section
variable{X:Cx}
theorem mZ.sq{g:Qg}(h:mZ K g ns):bz K H g (ns.map V.int):=.inr h
theorem LB:∀ (ns:Qa Int),gy K H (ns.map V.int)<|ns.map PyData.int
 | []=>.nil
 | n::ns=>.cons (.int n)<|LB ns
theorem mZ.dv{g:Qg}(h:mZ K g ns):DV K H (.ref g) (.tuple<|ns.map PyData.int):=.tup h.sq (LB ns)
def CP(neg:Bool)(ns:Qa Int)(a:U):Qb U:=jZ neg a (.d<|.tuple<|ns.map PyData.int)
theorem zBl{neg:Bool}{g:Qg}{me:ME}(gt:mZ K g ns)(h:VE K te me):VE K (mL (yT K neg) te<|tC<|.ref g) (bM (CP neg ns) me):=by
 intro ρ σ H a ao Q rs e q;obtain⟨⟨a1,aq⟩,e1,e⟩:=zb e;have(x,ex,e):=zb e;have(u,eu,e):=zb e;cases e;refine h ρ σ H a1 _ _ rs e1 λv1 H1 g1 k1=>?_;have p:=k1.now rs g1 ex;have(dx,e2,eu):=zb eu;have(dy,e3,eu):=zb eu;cases e3;split at eu
 .rename_i hs
  cases eu;exact⟨dx,_,p.dv e2<|By _<|SeqAt.canLay_of_shaped hs.1,gt.dv,hs.1,hs.2,q _ _ g1 ⟨DF.bl _,Nw.data⟩⟩
 .cases eu
end
theorem nr{α:Sort _}{a b:α}(h:a=b):a=b:=h
structure Ph {α:Type} (a:α):Type where
 n:Nat
def Wo(o:Qb α)(Q:α->Prop):Prop:=∃ a,o=some a/\Q a
def Co(f:α->Qb β)(t:Ph f)(Q:β->Prop)(a:α):Prop:=Wo (f a) Q
section
variable{a:α}{o:Qb α}{f:α->Qb β}{Q:α->Prop}{R:β->Prop}
theorem e9:Wo (some a) Q=Q a:=propext ⟨λ⟨_,e,h⟩=>(by cases e; exact h),λh=>⟨a,rfl,h⟩⟩
theorem zq:Wo (o.bind f) R=Wo o (Co f ⟨0⟩ R):=propext (by
 cases o with
 | none=>exact⟨λ⟨_,e,_⟩=>(by cases e),λ⟨_,e,_⟩=>(by cases e)⟩
 | some a=>rw[e9]; exact Iff.rfl)
theorem jw{t:Ph f}:Co f t R a=Wo (f a) R:=rfl
theorem nN{c:Prop}[Decidable c]{x y:Qb α}(h:c->Wo x Q)(h':¬c->Wo y Q):Wo (if c then x else y) Q:=by
 split
 .exact h ‹_›
 .exact h' ‹_›
end
section
variable{ρ:En}{me ma mb mc mk mi md my mv mo:ME}{mA mK:MA}{mt mu:MT}{mI:MI}{mg:MG}{m1 m2:MS}{u:U}{x:D}{mx:MX}{mXA:MXA}
variable{QE:Ar×En->Prop}{QA:Qa Ar×En->Prop}{QT:Bool×En->Prop}{QS:Fl->Prop}{QI:Qa D×En->Prop}{QO:Qb Int×En->Prop}{QG:En->Prop}{QX:RX Ar->Prop}{QXA:RX (Qa Ar)->Prop}{QR:D×En->Prop}{QF:U×Qa U->Prop}{QFX:(U×Qa U) ⊕ (D×Qa U)->Prop}
theorem K3:Wo (zi i ρ) QE=Wo (ρ[i]?).join (Co (λ_=>some (.s i,ρ)) ⟨0⟩ QE):=by rw[Sb,zq]
theorem Ip:Wo (mC x ρ) QE=QE (.u<|.d x,ρ):=by rw[zB9,e9]
def yz(f:U->U->Qb U)(a:Ar)(q:Ar×En):Qb (Ar×En):=(a.get q.2).bind λx=>(q.1.get q.2).bind λy=>(f x y).bind λu=>some (.u u,q.2)
def Ha(f:U->U->Qb U)(mb:ME)(p:Ar×En):Qb (Ar×En):=(mb p.2).bind (yz f p.1)
theorem TC{f:U->U->Qb U}:Wo (aj f ma mb ρ) QE=Wo (ma ρ) (Co (Ha f mb) ⟨0⟩ QE):=by rw[zAL,zq]; rfl
theorem XO{f:U->U->Qb U}{p:Ar×En}:Wo (Ha f mb p) QE=Wo (mb p.2) (Co (yz f p.1) ⟨0⟩ QE):=by unfold Ha; rw[zq]
theorem zBm{f:U->Qb U}:Wo (bM f ma ρ) QE=Wo (ma ρ) (Co (λp=>(p.1.get p.2).bind λx=>(f x).bind λu=>some (.u u,p.2)) ⟨0⟩ QE):=by rw[zAM,zq]
theorem K2:Wo (zp ρ) QA=QA ([],ρ):=by rw[Sa,e9]
theorem Ur:Wo (zf me mA ρ) QA=Wo (me ρ) (Co (λp=>(mA p.2).bind λq=>some (p.1::q.1,q.2)) ⟨0⟩ QA):=by rw[UH,zq]
theorem XM:Wo (bB mA ρ) QE=Wo (mA ρ) (Co (λp=>(bt p.2 p.1).bind λus=>(iy us).bind λds=>if ds.length<=sizeLine then some (.u<|.d<|.tuple ds,p.2)else none) ⟨0⟩ QE):=by rw[R9,zq]
theorem XJ:Wo (iU mA ρ) QE=Wo (mA ρ) (Co (λp=>(bt p.2 p.1).bind λus=>(iy us).bind λds=>if ds.length<=sizeLine then some (.u<|.l ds,p.2)else none) ⟨0⟩ QE):=by rw[SJ,zq]
theorem zBn{f:Qa U->Qb U}:Wo (aZ f mA ρ) QE=Wo (mA ρ) (Co (λp=>(bt p.2 p.1).bind λus=>(f us).bind λu=>some (.u u,p.2)) ⟨0⟩ QE):=by rw[zAN,zq]
theorem Rc{f:FD}:Wo (zS f mA ρ) QE=Wo (mA ρ) (Co (λp=>if iT p.2 p.1=true then(bt p.2 p.1).bind λus=>(f us).bind λo=>some (.u o.1,wb p.2 p.1 o.2)else none) ⟨0⟩ QE):=by rw[SI,zq]
theorem XH:Wo (zz m1 m2 ρ) QS=Wo (m1 ρ) (Co (pe m2) ⟨0⟩ QS):=by rw[SH,zq]
theorem Rb:Wo (zQ i me ρ) QS=Wo (me ρ) (Co (λp=>(put p).bind λq=>some<|.nx<|q.2.set i<|some q.1) ⟨0⟩ QS):=by rw[SG,zq]
theorem XG:Wo (ba me ρ) QS=Wo (me ρ) (Co (λp=>(put p).bind λq=>some<|.rt q.1 q.2) ⟨0⟩ QS):=by rw[SF,zq]
theorem Zv:Wo (rN pn i ρ) QS=Wo (if i∈pn then none else(ρ[i]?).join.bind λu=>some<|.rt u<|ρ.set i none) QS:=by rw[UG]
theorem L5:Wo (bZ ρ) QS=QS (.nx ρ):=by rw[UE,e9]
theorem Uq:Wo (nG me ρ) QS=Wo (me ρ) (Co (λp=>some<|.nx p.2) ⟨0⟩ QS):=by rw[UD,zq]
theorem Ra:Wo (bW mt m1 m2 ρ) QS=Wo (mt ρ) (Co (λp=>if p.1=true then m1 p.2 else m2 p.2) ⟨0⟩ QS):=by rw[SE,zq]
theorem Yf:Wo (xx mt ma mb ρ) QE=Wo (mt ρ) (Co (λp=>if p.1=true then ma p.2 else mb p.2) ⟨0⟩ QE):=by rw[zAQ,zq]
theorem zCc:Wo (mB me ρ) QT=Wo (me ρ) (Co (λp=>(p.1.get p.2).bind λu=>u.tZ.bind λb=>some (b,p.2)) ⟨0⟩ QT):=by rw[zCb,zq]
theorem Ye:Wo (pf mt mu ρ) QT=Wo (mt ρ) (Co (λp=>if p.1=true then mu p.2 else some (false,p.2)) ⟨0⟩ QT):=by rw[SD,zq]
theorem Ul:Wo (i8 mt mu ρ) QT=Wo (mt ρ) (Co (λp=>if p.1=true then some (true,p.2)else mu p.2) ⟨0⟩ QT):=by rw[zAR,zq]
theorem Yd:Wo (ik mt ρ) QT=Wo (mt ρ) (Co (λp=>some (!p.1,p.2)) ⟨0⟩ QT):=by rw[SA,zq]
theorem Zu:Wo (uo ma mb ρ) QE=Wo (mB ma ρ) (Co (λp=>if p.1=true then mb p.2 else some (.u<|.d<|.bool false,p.2)) ⟨0⟩ QE):=by rw[UC,zq]
theorem Zt:Wo (Ae ma ρ) QE=Wo (mB ma ρ) (Co (λp=>some (.u<|.d<|.bool (!p.1),p.2)) ⟨0⟩ QE):=by rw[UB,zq]
theorem Yc:Wo (vL ma ρ) QT=Wo (ma ρ) (Co (λp=>(p.1.get p.2).bind λu=>u.xi.bind λb=>some (b,p.2)) ⟨0⟩ QT):=by rw[Sy,zq]
theorem Yb:Wo (ic ρ) QT=QT (true,ρ):=by rw[Sx,e9]
theorem Ya:Wo (l0 i me ρ) QE=Wo (ρ[i]?).join (Co (λw=>w.lo.bind λ_=>(me ρ).bind λp=>(p.1.get p.2).bind λu=>u.da.bind λx=>(p.2[i]?).join.bind λw=>w.lo.bind λxs=>if xs.length < sizeLine then some (.u<|.d .none,p.2.set i<|some<|.l<|xs++[x])else none) ⟨0⟩ QE):=by rw[Rm,zq]
theorem zlx:Wo (pL i me mi ρ) QS=Wo (ρ[i]?).join (Co (λ_=>(me ρ).bind λp=>(mi p.2).bind λq=>(p.1.get q.2).bind λu=>(q.1.get q.2).bind λw=>u.da.bind λx=>w.num.bind λk=>(q.2[i]?).join.bind λz=>z.lo.bind λxs=>(eB xs.length k).bind λj=>some<|.nx<|q.2.set i<|some<|.l<|xs.set j x) ⟨0⟩ QS):=by rw[X4,zq]
def pD(w:U)(y x:D):Qb U:=match w with
 | .t kvs=>(cO y).bind λk=>if kvs.length < sizeLine then some (.t<|ig kvs k x)else none
 | .k kvs=>(lZ y).bind λk=>if kvs.length < sizeLine then some (.k<|ig kvs k x)else none
 | _=>none
theorem Uo:iX i my mv ρ=(ρ[i]?).join.bind λ_=>(mv ρ).bind λp=>(my p.2).bind λq=>(p.1.get q.2).bind λx=>(q.1.get q.2).bind λy=>x.da.bind λx=>y.da.bind λy=>(q.2[i]?).join.bind λw=>(pD w y x).bind λz=>some (.nx<|q.2.set i<|some z):=by
 unfold iX;refine bind_fn λ_=>bind_fn λp=>bind_fn λq=>bind_fn λx=>bind_fn λy=>?_;cases x with
 | l=>rfl
 | t=>rfl
 | k=>rfl
 | d x=>
  cases y with
  | l=>rfl
  | t=>rfl
  | k=>rfl
  | d y=>
   show _=((q.2[i]?).join.bind _);cases q.2[i]? with
   | none=>rfl
   | some o=>
    cases o with
    | none=>rfl
    | some w=>
     cases w with
     | l=>rfl
     | d=>rfl
     | t kvs=>
      show(cO y).bind _=((cO y).bind _).bind _;cases cO y with
      | none=>rfl
      | some k=>
       show(if _ then _ else _)=(if _ then _ else _:Qb U).bind _;split<;>rfl
     | k kvs=>
      show(lZ y).bind _=((lZ y).bind _).bind _;cases lZ y with
      | none=>rfl
      | some k=>
       show(if _ then _ else _)=(if _ then _ else _:Qb U).bind _;split<;>rfl
theorem Zr:Wo (iX i my mv ρ) QS=Wo (ρ[i]?).join (Co (λ_=>(mv ρ).bind λp=>(my p.2).bind λq=>(p.1.get q.2).bind λx=>(q.1.get q.2).bind λy=>x.da.bind λx=>y.da.bind λy=>(q.2[i]?).join.bind λw=>(pD w y x).bind λz=>some<|.nx<|q.2.set i<|some z) ⟨0⟩ QS):=by rw[Uo,zq]
theorem ZS:Wo (gY md my ρ) QE=Wo (md ρ) (Co (λp=>(my p.2).bind λq=>(p.1.get q.2).bind λu=>(q.1.get q.2).bind λy=>(kF u y).bind λo=>o.bind λd=>some (.u<|.d d,q.2)) ⟨0⟩ QE):=by rw[UA,zq]
theorem zly:Wo (kf ρ) QE=QE (.u<|.t [],ρ):=by rw[X3,e9]
theorem Uk:Wo (cD me ρ) QE=Wo (me ρ) (Co (λp=>(p.1.get p.2).bind λu=>u.fz.bind λx=>some (.u<|.d x,Cd x p)) ⟨0⟩ QE):=by rw[zAU,zq]
theorem Uj{g:U->Qb (Qa D)}:Wo (cP g me ρ) QI=Wo (me ρ) (Co (λp=>(p.1.get p.2).bind λu=>(g u).bind λds=>some (ds,p.2)) ⟨0⟩ QI):=by rw[zAY,zq]
theorem Ui{n:Int}(h:-4611686018427387904<=n)(h2:n < 4611686018427387904):yC [.d<|.int n]=some (eO 0 n.toNat):=by rw[Rl,if_pos ⟨by omega,by omega⟩]
theorem ZR:Wo (kM mA ρ) QI=Wo (mA ρ) (Co (λp=>(bt p.2 p.1).bind λus=>(yC us).bind λds=>some (ds,p.2)) ⟨0⟩ QI):=by rw[Uz,zq]
def CO:Qa U->Qb (Qa D)
 | [.d<|.int i,.d<|.int j]=>if -(2^62)<=i/\i < 2^62/\-(2^62)<=j/\j < 2^62 then some (eO i (j - i).toNat)else none
 | _=>none
theorem Uh{a:Int}(h:-4611686018427387904<=a)(h2:a < 4611686018427387904)(h3:-4611686018427387904<=b)(h4:b < 4611686018427387904):CO [.d<|.int a,.d<|.int b]=some (eO a (b - a).toNat):=by
 show(if _ then _ else _)=_;rw[if_pos ⟨by omega,by omega,by omega,by omega⟩]
theorem Um:rM mA ρ=(mA ρ).bind λp=>(bt p.2 p.1).bind λus=>(CO us).bind λds=>some (ds,p.2):=bind_fn λp=>bind_fn λus=>by
 match us with
 | []=>rfl
 | [.d<|.int i,.d<|.int j]=>
  show(if _ then _ else _)=(if _ then _ else _:Qb (Qa D)).bind _;split<;>rfl
 | [.d x]=>cases x<;>rfl
 | [.l _]=>rfl
 | [.t _]=>rfl
 | [.k _]=>rfl
 | [.d x,.d y]=>cases x<;>(try rfl)<;>(cases y<;>(try rfl)<;>(show(if _ then _ else _)=(if _ then _ else _:Qb (Qa D)).bind _; split<;>rfl))
 | [.d x,.l y]=>cases x<;>rfl
 | [.d x,.t y]=>cases x<;>rfl
 | [.d x,.k y]=>cases x<;>rfl
 | [.l _,_]=>rfl
 | [.t _,_]=>rfl
 | [.k _,_]=>rfl
 | a::b::c::us=>
  cases a with
  | d x=>cases x<;>(try rfl)<;>(cases b with
   | d y=>cases y<;>rfl
   | l=>rfl
   | t=>rfl
   | k=>rfl)
  | l=>rfl
  | t=>rfl
  | k=>rfl
theorem ZQ:Wo (rM mA ρ) QI=Wo (mA ρ) (Co (λp=>(bt p.2 p.1).bind λus=>(CO us).bind λds=>some (ds,p.2)) ⟨0⟩ QI):=by rw[Um,zq]
def D2:Qa U->Qb (Qa D)
 | [.d<|.tuple ds]=>some<|nZ 0 ds
 | _=>none
theorem ZP{ds:Qa D}:D2 [.d<|.tuple ds]=some (nZ 0 ds):=rfl
theorem U7:yZ mA ρ=(mA ρ).bind λp=>(bt p.2 p.1).bind λus=>(D2 us).bind λds=>some (ds,p.2):=bind_fn λp=>bind_fn λus=>by
 match us with
 | []=>rfl
 | [.d x]=>cases x<;>rfl
 | [.l _]=>rfl
 | [.t _]=>rfl
 | [.k _]=>rfl
 | .d x::b::us=>cases x<;>rfl
 | .l x::b::us=>rfl
 | .t x::b::us=>rfl
 | .k x::b::us=>rfl
theorem ZO:Wo (yZ mA ρ) QI=Wo (mA ρ) (Co (λp=>(bt p.2 p.1).bind λus=>(D2 us).bind λds=>some (ds,p.2)) ⟨0⟩ QI):=by rw[U7,zq]
theorem X9:Wo (dq mI mg m1 ρ) QS=Wo (mI ρ) (Co (λp=>gB mg m1 p.1 p.2) ⟨0⟩ QS):=by rw[Rk,zq]
theorem X8:Wo (iA mI nt js mg mt me ρ) QE=Wo (mI ρ) (Co (λp=>(iB nt mg mt me p.1 (dN nt js p.2) []).bind λq=>some (.u<|.l q.1,back js (q.2.drop nt) p.2)) ⟨0⟩ QE):=by rw[zAZ,zq]
theorem Ug{f:U->Qb Int->Qb Int->Qb U}{ml mh:MO}:Wo (tz f me ml mh ρ) QE=Wo (me ρ) (Co (λp=>(ml p.2).bind λl=>(mh l.2).bind λh=>(p.1.get h.2).bind λx=>(f x l.1 h.1).bind λu=>some (.u u,h.2)) ⟨0⟩ QE):=by rw[zA0,zq]
theorem zjx:Wo (sA ρ) QO=QO (none,ρ):=by rw[Zp,e9]
theorem ZN:Wo (rL me ρ) QO=Wo (me ρ) (Co (λp=>(p.1.get p.2).bind λu=>u.num.bind λi=>some (some i,p.2)) ⟨0⟩ QO):=by rw[Uy,zq]
theorem X7:Wo (ud i j mA ρ) QS=Wo (mA ρ) (Co (λp=>(bt p.2 p.1).bind λus=>(CV us).bind λz=>some<|.nx<|(p.2.set i<|some<|.d z.1).set j<|some<|.d z.2) ⟨0⟩ QS):=by rw[Rj,zq]
theorem W8:Wo (nv me mg ρ) QS=Wo (me ρ) (Co (λp=>(p.1.get p.2).bind λu=>u.da.bind λd=>(mg d p.2).bind λao=>some<|.nx ao) ⟨0⟩ QS):=by rw[Ri,zq]
theorem zlz:Wo (zv i x ρ) QG=QG (ρ.set i<|some<|.d x):=by rw[XY,e9]
theorem ZM{gs:Qa D->En->Qb En}{ds:Qa D}:Wo (dG n gs (.tuple ds) ρ) QG=Wo (if ds.length=n then gs ds ρ else none) QG:=by rw[Ux]
theorem zlA{g:MG}{gs:Qa D->En->Qb En}{ds:Qa D}:Wo (zJ g gs (x::ds) ρ) QG=Wo (g x ρ) (Co (λaq=>gs ds aq) ⟨0⟩ QG):=by rw[XX,zq]
theorem ZL:Wo (eN [] ρ) QG=QG ρ:=by rw[Uw,e9]
theorem Ue{ty:U->Bool}{f:U->U->Qb U}:Wo (B9 ty f mo ma ρ) QE=Wo (mo ρ) (Co (λp=>(p.1.get p.2).bind λx0=>if ty x0=true then(ma p.2).bind λq=>(p.1.get q.2).bind λx=>(q.1.get q.2).bind λy=>(f x y).bind λu=>some (.u u,q.2)else none) ⟨0⟩ QE):=by
 show Wo (Option.bind _ _) QE=_;rw[zq]
theorem Ud{z:Str}:xg (.d<|.str z)=true:=rfl
theorem W7{f f':U->U->Qb U}:Am f f' ma mb mc ρ=(ma ρ).bind λp=>(mb p.2).bind λq=>(p.1.get q.2).bind λx=>(q.1.get q.2).bind λy=>(f x y).bind λr=>r.tZ.bind λb=>if b=true then(mc q.2).bind λs=>(q.1.get s.2).bind λy'=>(s.1.get s.2).bind λz=>(f' y' z).bind λu=>some (.u u,s.2)else some (.u<|.d<|.bool false,q.2):=by
 refine bind_fn λp=>bind_fn λq=>bind_fn λx=>bind_fn λy=>bind_fn λr=>?_;cases r with
 | d x=>cases x with
  | bool b=>cases b<;>rfl
  | _=>rfl
 | l=>rfl
 | t=>rfl
 | k=>rfl
theorem zlB{f f':U->U->Qb U}:Wo (Am f f' ma mb mc ρ) QE=Wo (ma ρ) (Co (λp=>(mb p.2).bind λq=>(p.1.get q.2).bind λx=>(q.1.get q.2).bind λy=>(f x y).bind λr=>r.tZ.bind λb=>if b=true then(mc q.2).bind λs=>(q.1.get s.2).bind λy'=>(s.1.get s.2).bind λz=>(f' y' z).bind λu=>some (.u u,s.2)else some (.u<|.d<|.bool false,q.2)) ⟨0⟩ QE):=by rw[W7,zq]
def x1:Qa D->Qb D
 | [x]=>some x
 | _=>none
theorem W6{us:Qa U}:Wo (bX n pn m1 us) QF=Wo (m1<|sm us++List.replicate (n - us.length) none) (Co (CU pn us) ⟨0⟩ QF):=by rw[Rh,zq]
def rJ(Q:Fl->Prop)(P:En->Prop):Fl->Prop
 | .nx ρ=>P ρ
 | .ct ρ=>P ρ
 | .bk ρ=>Q<|.nx ρ
 | .rt u ρ=>Q<|.rt u ρ
 | .ex x ρ=>Q<|.ex x ρ
theorem zlC{Q:Fl->Prop}{P:En->Prop}:rJ Q P (.nx ρ)=P ρ:=rfl
theorem mG{Q:Fl->Prop}(P:Nat->En->Prop){ds:Qa D}(h0:P 0 ρ)(st:∀ i d ρ,ds[i]?=some d->P i ρ->Wo (mg d ρ) (Co m1 ⟨0⟩<|rJ Q<|P<|i+1))(hQ:∀ ρ,P ds.length ρ->Q (.nx ρ)):Wo (gB mg m1 ds ρ) Q:=by
 have main:∀ (es:Qa D) (n:Nat) (ρ:En),n+es.length=ds.length->(∀ i,es[i]?=ds[n+i]?)->P n ρ->Wo (gB mg m1 es ρ) Q:=by
  intro es
  induction es with
  | nil=>
   intro n ρ hn _ hp;show Wo (some _) Q;rw[e9];rw[List.length_nil,Nat.add_zero]at hn;exact hQ ρ<|hn▸hp
  | cons d es ih=>
   intro n ρ hn he hp;have e0:=he 0;rw[List.getElem?_cons_zero,Nat.add_zero]at e0;have(aq,e1,f,e2,k):=st n d ρ e0.symm hp;have lB:∀ aB,P (n+1) aB->Wo (gB mg m1 es aB) Q:=λaB z=>ih (n+1) aB (by rw[qt]at hn; omega) (λi=>by
    have:=he (i+1);rw[List.getElem?_cons_succ]at this;rw[this,show n+(i+1)=n+1+i by omega]) z
   unfold gB;rw[zq];refine⟨aq,e1,?_⟩;rw[jw,zq];refine⟨f,e2,?_⟩;rw[jw];cases f with
   | nx aB=>exact lB aB k
   | ct aB=>exact lB aB k
   | bk aB=>exact⟨_,rfl,k⟩
   | rt u aB=>exact⟨_,rfl,k⟩
   | ex x aB=>exact⟨_,rfl,k⟩
 exact main ds 0 ρ (by omega) (λi=>by rw[Nat.zero_add]) h0
theorem kr{g:α->D}{Q:Fl->Prop}(P:Qa α->Qa α->En->Prop)(h0:P [] as ρ)(st:∀ bs a cs ρ,as=bs++a::cs->P bs (a::cs) ρ->Wo (mg (g a) ρ) (Co m1 ⟨0⟩<|rJ Q<|P (bs++[a]) cs))(hQ:∀ ρ,P as [] ρ->Q (.nx ρ)):Wo (gB mg m1 (as.map g) ρ) Q:=by
 have main:∀ (cs bs:Qa α) (ρ:En),as=bs++cs->P bs cs ρ->Wo (gB mg m1 (cs.map g) ρ) Q:=by
  intro cs
  induction cs with
  | nil=>
   intro bs ρ e hp;rw[List.append_nil]at e;subst e;exact⟨_,rfl,hQ ρ hp⟩
  | cons a cs ih=>
   intro bs ρ e hp;have(aq,e1,f,e2,k):=st bs a cs ρ e hp;have lB:∀ aB,P (bs++[a]) cs aB->Wo (gB mg m1 (cs.map g) aB) Q:=λaB z=>ih (bs++[a]) aB (by rw[e,List.append_assoc]; rfl) z;rw[List.map_cons];unfold gB;rw[zq];refine⟨aq,e1,?_⟩;rw[jw,zq];refine⟨f,e2,?_⟩;rw[jw];cases f with
   | nx aB=>exact lB aB k
   | ct aB=>exact lB aB k
   | bk aB=>exact⟨_,rfl,k⟩
   | rt u aB=>exact⟨_,rfl,k⟩
   | ex x aB=>exact⟨_,rfl,k⟩
 exact main as [] ρ rfl h0
def vk(nt:Nat)(me:ME)(ys:Qa D)(P:En->Qa D->Prop)(p:Bool×En):Prop:=if p.1=true then Wo (me p.2) (Co (λq=>(q.1.get q.2).bind λu=>u.da.bind λy=>some (reset nt q.2,ys++[y])) ⟨0⟩ λz=>P z.1 z.2)else P (reset nt p.2) ys
theorem JL{ys:Qa D}{P:En->Qa D->Prop}:vk nt me ys P (true,ρ)=Wo (me ρ) (Co (λq=>(q.1.get q.2).bind λu=>u.da.bind λy=>some (reset nt q.2,ys++[y])) ⟨0⟩ λz=>P z.1 z.2):=rfl
theorem Uc{ys:Qa D}{P:En->Qa D->Prop}:vk nt me ys P (false,ρ)=P (reset nt ρ) ys:=rfl
theorem Ji{Q:Qa D×En->Prop}(P:Nat->En->Qa D->Prop){ds:Qa D}(hz:ds.length<=sizeLine)(hP:∀ i ρ ys,P i ρ ys->ys.length<=i)(h0:P 0 ρ [])(st:∀ i d ρ ys,ds[i]?=some d->P i ρ ys->Wo (mg d ρ) (Co mt ⟨0⟩<|vk nt me ys<|P<|i+1))(hQ:∀ ρ ys,P ds.length ρ ys->Q (ys,ρ)):Wo (iB nt mg mt me ds ρ []) Q:=by
 have main:∀ (es:Qa D) (n:Nat) (ρ:En) (ys:Qa D),n+es.length=ds.length->(∀ i,es[i]?=ds[n+i]?)->P n ρ ys->Wo (iB nt mg mt me es ρ ys) Q:=by
  intro es
  induction es with
  | nil=>
   intro n ρ ys hn _ hp;rw[List.length_nil,Nat.add_zero]at hn;exact⟨_,rfl,hQ ρ ys<|hn▸hp⟩
  | cons d es ih=>
   intro n ρ ys hn he hp;have e0:=he 0;rw[List.getElem?_cons_zero,Nat.add_zero]at e0;obtain⟨aq,e1,⟨b,aB⟩,e2,k⟩:=st n d ρ ys e0.symm hp;have hl:=hP _ _ _ hp;rw[qt]at hn;have lB:∀ aB BS,P (n+1) aB BS->Wo (iB nt mg mt me es aB BS) Q:=λaB BS z=>ih (n+1) aB BS (by omega) (λi=>by
    have:=he (i+1);rw[List.getElem?_cons_succ]at this;rw[this,show n+(i+1)=n+1+i by omega]) z
   unfold iB;rw[if_pos (by omega),zq];refine⟨aq,e1,?_⟩;rw[jw,zq];refine⟨_,e2,?_⟩;rw[jw];cases b with
   | false=>rw[if_neg qf]; exact lB _ _ k
   | true=>
    rw[if_pos rfl,zq];have(q,e3,k):=k;refine⟨q,e3,?_⟩;rw[jw,zq]at k ⊢;have(u,e4,k):=k;refine⟨u,e4,?_⟩;rw[jw,zq]at k;have(y,e5,z,e6,k):=k;cases u with
    | d y'=>cases e5; cases e6; exact lB _ _ k
    | l=>cases e5
    | t=>cases e5
    | k=>cases e5
 exact main ds 0 ρ [] (by omega) (λi=>by rw[Nat.zero_add]) h0
theorem LX{Q:Fl->Prop}(P:Nat->En->Prop)(k:Nat)(h0:P k ρ)(st:∀ k ρ,P k ρ->Wo (mt ρ) λp=>if p.1=true then Wo (m1 p.2) (rJ Q λao=>∃ k',k' < k/\P k' ao)else Q (.nx p.2)):Wo (rZ mt m1 ρ) Q:=by
 have main:∀ (k:Nat) (ρ:En),P k ρ->∃ n f,gA mt m1 n ρ=some f/\Q f:=by
  intro k
  induction k using Nat.strongRecOn with
  | ind k ih=>
   intro ρ hp;obtain⟨⟨b,aq⟩,e1,z⟩:=st k ρ hp;cases b with
   | false=>
    rw[if_neg qf]at z;exact⟨1,_,by unfold gA; rw[e1]; rfl,z⟩
   | true=>
    rw[if_pos rfl]at z;have(f,e2,z):=z;have lB:∀ aB,(∃ k',k' < k/\P k' aB)->f=.nx aB\/f=.ct aB->∃ n f,gA mt m1 n ρ=some f/\Q f:=by
     rintro aB ⟨k',hk,xK⟩ hf;have(n,f',e3,q):=ih k' hk aB xK;refine⟨n+1,f',?_,q⟩;unfold gA;rw[e1,bd,if_pos rfl,e2,bd];rcases hf with rfl|rfl<;>exact e3
    cases f with
    | nx aB=>exact lB aB z<|.inl rfl
    | ct aB=>exact lB aB z<|.inr rfl
    | bk aB=>exact⟨1,_,by unfold gA; rw[e1,bd,if_pos rfl,e2]; rfl,z⟩
    | rt u aB=>exact⟨1,_,by unfold gA; rw[e1,bd,if_pos rfl,e2]; rfl,z⟩
    | ex u aB=>exact⟨1,_,by unfold gA; rw[e1,bd,if_pos rfl,e2]; rfl,z⟩
 have(n,f,e,q):=main k ρ h0;exact⟨f,Xw e,q⟩
end
theorem zU{o:Qb α}{b:α}(h:Wo o (λa=>a=b)):o=some b:=by
 have(a,e,rfl):=h;exact e
theorem vO:sizeLine=16777216:=Eq.trans zl (Eq.symm<|Eq.symm<|Nat.add_zero _)
theorem W5{dc:Decidable (n < 16777216)}{a b:Qb α}(h:n < 16777216):(if n < 16777216 then a else b)=a:=if_pos h
theorem E9{xs:Qa α}{r:Int}(h0:0<=r)(h1:r < (xs.length:Int)):∃ a,bY xs r=some a/\a∈xs/\xs[r.toNat]?=some a:=by
 have hk:r.toNat < xs.length:=by omega
 have ek:r=((r.toNat:Nat):Int):=by omega
 have q:bY xs ((r.toNat:Nat):Int)=some xs[r.toNat]:=VP (ql hk);rw[<-ek]at q;exact⟨_,q,List.getElem_mem hk,ql hk⟩
theorem Eu{xs:Qa D}{r:Int}{Q:U->Prop}(h0:0<=r)(h1:r < (xs.length:Int))(k:∀ a∈xs,Q<|.d a):Wo ((bY xs r).map U.d) Q:=by
 have(a,e,m,_):=E9 h0 h1;rw[e];exact⟨_,rfl,k a m⟩
theorem Q9{f:α->D}{xs:Qa α}{r:Int}{Q:U->Prop}(h0:0<=r)(h1:r < (xs.length:Int))(k:∀ a∈xs,xs[r.toNat]?=some a->Q (.d<|f a)):Wo ((bY (xs.map f) r).map U.d) Q:=by
 have(a,e,m,z):=E9 (xs:=xs.map f) h0 (by rw[List.length_map]; exact h1);rw[List.getElem?_map]at z;have(b,hb,rfl):=qq.mp z;rw[e];exact⟨_,rfl,k b (Æ hb) hb⟩
theorem vX{lo:Int}{d:D}(h:(eO lo n)[i]?=some d):i < n/\d=.int (lo+(i:Nat)):=FT h
theorem uK{lo:Int}:(eO lo n).length=n:=by
 unfold eO;rw[List.length_map,List.length_range]
theorem DO{ρ:En}{mg:MG}{m1:MS}{Q:Fl->Prop}(P:Nat->En->Prop)(h0:P 0 ρ)(st:∀ i ρ,i < n->P i ρ->Wo (mg (.int<|0+(i:Nat)) ρ) (Co m1 ⟨0⟩<|rJ Q<|P<|i+1))(hQ:∀ ρ,P n ρ->Q (.nx ρ)):Wo (gB mg m1 (eO 0 n) ρ) Q :=
 mG P h0 (λi d ρ hd hp=>by
  have(hi,rfl):=vX hd;exact st i ρ hi hp) λρ hp=>hQ ρ (by rw[uK]at hp; exact hp)
theorem U6{ρ:En}{mg:MG}{mt:MT}{me:ME}{Q:Qa D×En->Prop}(P:Nat->En->Qa D->Prop)(hz:n<=sizeLine)(h0:P 0 ρ [])(hP:∀ i ρ ys,P i ρ ys->ys.length<=i)(st:∀ i ρ ys,i < n->P i ρ ys->Wo (mg (.int<|0+(i:Nat)) ρ) (Co mt ⟨0⟩<|vk nt me ys<|P<|i+1))(hQ:∀ ρ ys,P n ρ ys->Q (ys,ρ)):Wo (iB nt mg mt me (eO 0 n) ρ []) Q :=
 Ji P (by rw[uK]; exact hz) hP h0 (λi d ρ ys hd hp=>by
  have(hi,rfl):=vX hd;exact st i ρ ys hi hp) λρ ys hp=>hQ ρ ys (by rw[uK]at hp; exact hp)
def br(n:Nat)(z:Str):Prop:=z.length<=n/\∀ c∈z.cps.toList,c < 128
theorem br.mono{z:Str}(h:br n z)(hm:n<=m):br m z:=⟨qx h.1 hm,h.2⟩
theorem br.app{y:Str}(hx:br n x)(hy:br m y):br (n+m) (x++y):=⟨by rw[PySem.Str.length_append]; have:=hx.1; have:=hy.1; omega,λc hc=>by
 rw[PySem.Str.cps_append,Array.toList_append,List.mem_append]at hc;exact hc.elim (hx.2 c)<|hy.2 c⟩
theorem br.one(h:c < 128):br 1 ⟨#[c]⟩:=⟨qe _,λd hd=>by
 cases qp.mp hd;exact h⟩
theorem br.join:∀ {ys:Qa Str},(∀ z∈ys,br n z)->br (ys.length * n) (PySem.Str.join "" ys)
 | [],_=>⟨É _,λc hc=>by cases hc⟩
 | [x],h=>(h x qo).mono (by simp)
 | x::y::r,h=>by
  have:=((h x qo).app (show br 0 "" from⟨qe _,λc hc=>by cases hc⟩)).app (br.join λz hz=>h z<|qm _ hz);exact this.mono (by simp only[qt,Nat.add_mul]; omega)
theorem Zo{ys:Qa Str}(h:∀ z∈ys,br n z):br (ys.length * n) (Txt.join "" ys):=by
 show br _ (PySem.Builtin.Str.glued "" ys);rw[PySem.StrLaws.glued_eq_join];exact br.join h
theorem Q8{y:Str}(h:x.length+y.length<=16777216):nD (.d<|.str x) (.d<|.str y)=some (.d<|.str<|x++y):=by
 unfold nD;dsimp only;rw[if_pos (by rw[zl]; exact h)]
theorem wg{y:Str}{Q:U->Prop}(hx:br n x)(hy:br m y)(hn:n+m<=1000)(k:br (n+m) (x++y)->Q (.d<|.str<|x++y)):Wo (nD (.d<|.str x)<|.d<|.str y) Q:=by
 rw[Q8 (by have:=hx.1; have:=hy.1; omega)];exact⟨_,rfl,k<|hx.app hy⟩
theorem A5{z:Str}{r:Int}{Q:U->Prop}(h0:0<=r)(h1:r < (z.length:Int))(hz:z.length<=1000)(k:∀ c∈z.cps.toList,Q<|.d<|.str ⟨#[c]⟩):Wo (rD (.d<|.str z)<|.d<|.int r) Q:=by
 have hl:z.length=z.cps.toList.length:=by rw[Array.length_toList]; rfl
 have(c,e,m,_):=E9 (xs:=z.cps.toList) h0 (by rw[<-hl]; exact h1);unfold rD;dsimp only;rw[if_pos (by rw[zl]; omega),e];exact⟨_,rfl,k c m⟩
theorem Mg:∀ (zs:Qa Str),(zs.map PyData.str).mapM yB=some zs
 | []=>rfl
 | z::zs=>by
  rw[List.map_cons,List.mapM_cons,Mg zs];rfl
theorem LW:∀ {ys:Qa Str},(∀ z∈ys,z.length<=n)->(ys.map (·.length)).sum<=ys.length * n
 | [],_=>by simp
 | y::ys,h=>by
  have:=LW (ys:=ys) λz hz=>h z<|qm _ hz;have:=h y qo;simp only[List.map_cons,List.sum_cons,qt,Nat.add_mul];omega
theorem KZ{zs:Qa Str}{Q:U->Prop}(h:∀ z∈zs,br n z)(hl:zs.length<=m)(hm:m * n<=1000)(k:br (m * n) (Txt.join "" zs)->Q (.d<|.str<|Txt.join "" zs)):Wo (uj (.d<|.str "")<|.l<|zs.map PyData.str) Q:=by
 have h1:=LW (n:=n) λz hz=>(h z hz).1;have h2:zs.length * n<=m * n:=È _ hl;unfold uj;dsimp only;rw[Mg,bd,if_pos (by rw[show(("":Str)).length=0 by decide,Nat.mul_zero]; omega)];exact⟨_,rfl,k<|(Zo h).mono h2⟩
theorem Fw:∀ (zs:Qa Str),(zs.map PyData.str).mapM tW=some (zs.map V.str)
 | []=>rfl
 | z::zs=>by
  rw[List.map_cons,List.mapM_cons,Fw zs];rfl
theorem W4{xs:Qa D}{lo hi:Qb Int}:yP (.d<|.tuple xs) lo hi=some (.d<|.tuple<|ie xs lo hi):=rfl
theorem L4{xs ys:Qa D}(h:xs.length+ys.length<=16777216):rY (.d<|.tuple xs) (.d<|.tuple ys)=some (.d<|.tuple<|xs++ys):=by
 cases xs with
 | nil=>rfl
 | cons x xs=>
  show vQ (.d<|.tuple<|x::xs) (.d<|.tuple ys)=_;unfold vQ;dsimp only;rw[if_pos ⟨by simp,by rw[zl]; exact h⟩]
theorem S2{i:Int}:iS "int" (.d<|.int i)=some (.d<|.bool true):=rfl
theorem S1{i:Int}:iS "bool" (.d<|.int i)=some (.d<|.bool false):=rfl
theorem S0{xs:Qa D}:iS "tuple" (.d<|.tuple xs)=some (.d<|.bool true):=rfl
theorem U5{xs:Qa D}{lo hi:Qb Int}{x:D}(h:x∈ie xs lo hi):x∈xs:=by
 unfold ie at h;exact List.mem_of_mem_drop<|List.mem_of_mem_take h
theorem U4(xs:Qa D)(lo hi:Qb Int):(ie xs lo hi).length<=xs.length:=by
 unfold ie;rw[List.length_take,List.length_drop];omega
structure fJ (k M:Nat) (d:D):Prop where
 lay:d.canLay0=true
 P6:d.depth<=k
 shw:d.showable=true
 len:d.shown.length<=M
theorem fJ.mono{k k' M':Nat}{d:D}(h:fJ k M d)(h1:k<=k')(h2:M<=M'):fJ k' M' d:=⟨h.lay,qx h.P6 h1,h.shw,qx h.len h2⟩
theorem E8{i:Int}(h:i.natAbs < 10^n)(h0:0 < n:=by decide)(h1:n<=470:=by decide):fJ 0 (n+1) (.int i):=by
 refine⟨rfl,by simp[PyData.depth],?_,?_⟩
 .show decide (i.natAbs.log2 < 1920)=true
  refine decide_eq_true ?_
  by_cases z:i.natAbs=0
  .rw[z]; decide
  .have e1:10^n<=16^n:=Nat.pow_le_pow_left (by decide) n
   have e2:16^n=2^(4 * n):=by rw[Nat.pow_mul]
   have e3:i.natAbs < 2^(4 * n):=by rw[<-e2]; exact qi h e1
   exact qi ((Nat.log2_lt z).mpr e3) (by omega)
 .show(PySem.Str.ofString<|toString i).length<=n+1
  rw[PySem.ofString_length];exact PySem.int_text_length_le10 h0 h
theorem U3{z:Str}(h:br n z):fJ 0 (10 * n+2) (.str z):=by
 refine⟨?_,by simp[PyData.depth],rfl,?_⟩
 .show z.cps.all (· < 0x110000)=true
  rw[Array.all_eq_true'];intro c hc;have:=h.2 c (Array.mem_toList_iff.mpr hc);exact decide_eq_true (by omega)
 .have:=PySem.StrLaws.reprText_len z λc hc=>æ (h.2 c hc) (by decide)
  have:=h.1;show(reprText z).length<=_;omega
theorem W3:fJ 0 4 .none:=⟨rfl,by simp[PyData.depth],rfl,by decide⟩
theorem KY{k:Nat}:∀ {ds:Qa D},(∀ d∈ds,fJ k M d)->PyData.canLayAll0 ds=true/\PyData.depthAll ds<=k/\PyData.showableAll ds=true/\((PyData.shownAll ds).map (·.length)).sum+2 * ds.length<=ds.length * (M+2)
 | [],_=>⟨rfl,by simp[PyData.depthAll],rfl,by simp[PyData.shownAll]⟩
 | d::ds,h=>by
  have(a0,a1,a2,a3):=KY (ds:=ds) λx hx=>h x<|qm _ hx;have(b0,b1,b2,b3):=h d qo;refine⟨?_,?_,?_,?_⟩
  .show(d.canLay0 && PyData.canLayAll0 ds)=true
   rw[a0,b0];rfl
  .simp only[PyData.depthAll]
   omega
  .show(d.showable && PyData.showableAll ds)=true
   rw[a2,b2];rfl
  .show((d.shown::PyData.shownAll ds).map (·.length)).sum+_<=_
   rw[List.map_cons,List.sum_cons,qt,Nat.add_mul,Nat.one_mul];omega
theorem uN{k:Nat}{ds:Qa D}(h:∀ d∈ds,fJ k M d)(hn:ds.length<=n):fJ (k+1) (n * (M+2)+3) (.tuple ds):=by
 have(a0,a1,a2,a3):=KY h;refine⟨a0,?_,a2,?_⟩
 .simp only[PyData.depth]
  omega
 .have:=tupleText_len_le (PyData.shownAll ds)
  have e:=PyData.shownAll_length ds;have m:ds.length * (M+2)<=n * (M+2):=È _ hn;show(tupleText<|PyData.shownAll ds).length<=_;omega
theorem fJ.shaped{k:Nat}{d:D}(h:fJ k M d)(hk:k<=64):SeqAt.shaped d=true:=by
 unfold SeqAt.shaped;rw[h.lay,Bool.true_and];exact decide_eq_true<|qx h.P6 hk
theorem fJ.eqD{k k' M':Nat}{a b:D}{neg:Bool}(ha:fJ k M a)(hb:fJ k' M' b)(hk:k<=64)(iH:k'<=64):jZ neg (.d a) (.d b)=some (.d<|.bool (if neg=true then !PyData.eqv a b else PyData.eqv a b)):=by
 have ea:U.py (.d a)=some a:=rfl;have eb:U.py (.d b)=some b:=rfl;unfold jZ;rw[ea,bd,eb,bd,if_pos ⟨ha.shaped hk,hb.shaped iH⟩]
section
variable{X:Cx}
end
section
variable{X:Cx}
end
section
def zCo:U->Qb U
 | .d (.int i)=>if i.natAbs.log2 < 1920 then some (.d<|.str<|toString i)else none
 | .d (.str z)=>if z.length<=sizeLine then some (.d<|.str z)else none
 | _=>none
abbrev MJ:=En->Str->Qb (Str×En)
def U.sr:U->Qb Str
 | .d (.str z)=>some z
 | _=>none
end
section
variable{ρ:En}{me:ME}{mj:MJ}{QE:Ar×En->Prop}{QJ:Str×En->Prop}{acc z y:Str}{i:Int}
end
end L2
namespace L2
open PySem PySem.Spec PyProof.Rows PySem.NumText
abbrev ts(n:Int):Str:=PySem.Str.ofString (toString n)
end L2
namespace L2
open PySem PySem.Spec PyProof.Rows
section
variable{X:Cx}{f:Expr}{tx:TE}{k:Nat}
theorem sv(hr:aH k X.A)(ho:Wr (PE X o td))(he:Wr (PE X e ty))(hf:Wr (PE X f tx))(m:M2 X o "get" apos e f aX):Wr (PE X (.Call (.Attribute o "get" apos) [e,f] [] aX)<|EL X.K td ty tx):=⟨YL (uw hr) ho.run he.run hf.run m⟩
end
section
def rH:U->Bool
 | .t _=>true
 | .k _=>true
 | .d (.dict kvs)=>hU kvs
 | _=>false
theorem W2{x:V}{u:U}(h:Rp K H x u)(e:rH u=true):∃ a,x=.ref a/\Ig H a:=by
 unfold rH at e;split at e
 .have(a,ws,rfl,h1,_):=h
  exact⟨a,rfl,.inr ⟨_,.inl h1⟩⟩
 .have(a,ws,rfl,h1,_):=h
  exact⟨a,rfl,.inl ⟨_,.inl h1⟩⟩
 .have(a,ob,ws,rfl,h1,_):=DF.bT h e
  exact⟨a,rfl,.inr ⟨_,.inr ⟨ob,h1⟩⟩⟩
 .cases e
def kU(md my mx:ME):ME:=λρ=>(md ρ).bind λp=>(p.1.get p.2).bind λu0=>if rH u0=true then(my p.2).bind λq=>(mx q.2).bind λz=>(p.1.get z.2).bind λu=>(q.1.get z.2).bind λy=>(z.1.get z.2).bind λx=>(kF u y).bind λo=>match x with
 | .d x=>some (.u<|.d<|o.getD x,z.2)
 | _=>none else none
theorem su{tx:TE}{md my mx:ME}(hd:VE K td md)(hy:VE K ty my)(hx:VE K tx mx):VE K (EL K td ty tx) (kU md my mx):=by
 intro ρ σ H a ao Q r e q;obtain⟨⟨a1,aq⟩,e1,e⟩:=zb e;have(u0,e0,e):=zb e;split at e
 rotate_left
 .cases e
 rename_i hu0;obtain⟨⟨b1,aB⟩,e2,e⟩:=zb e;obtain⟨⟨c1,jr⟩,e3,e⟩:=zb e;have(u,eu,e):=zb e;have(y,ey,e):=zb e;have(x,ex,e):=zb e;have(o,eo,e):=zb e;split at e
 rotate_left
 .cases e
 cases e;refine hd ρ σ H a1 aq _ r e1 λv1 H1 g1 k1=>?_;have(b,rfl,hb):=W2 (k1.now r g1 e0) hu0;refine⟨b,rfl,hb,hy aq σ H1 b1 _ _ g1.rs e2 λv2 H2 g2 k2=>hx aB σ H2 c1 _ _ g2.rs e3 λv3 H3 g3 k3=>?_⟩;have(b',eb,h):=KG (k1.later r g1 (g2.trans g3) eu) (k2.later g1.rs g2 g3 ey) eo;cases eb;have p3:=k3.now g2.rs g3 ex;rcases h with⟨w,d',rfl,g,p⟩|⟨rfl,g⟩
 .exact⟨_,g,q w H3 ((g1.trans g2).trans g3) ⟨p,Nw.data⟩⟩
 .exact⟨_,g,q v3 H3 ((g1.trans g2).trans g3) ⟨p3,Nw.data⟩⟩
def CN:=jS (λ_ j=>0<=j) λi j=>.int<|i / 2^j.toNat
def CM:=fI λi j=>.int<|Builtin.bitAnd i j
theorem Q7:VO K (rI (λ_ j=>0<=j) λi j=>.int<|i / 2^j.toNat) CN:=pG λi j H=>.int _
theorem Q6:VO K (gG λi j=>.int<|Builtin.bitAnd i j) CM:=rl λi j H=>.int _
end
theorem W1:Manifest.canonical (String.map (λc=>if(c.isAlphanum || c=='_' || c=='.')=true then c else '_') "dict_itemiterator.__iter__") ++ "" = "dict_keyiterator.__iter__":=by decide +kernel
theorem W0:entryFor table "dict_itemiterator.__iter__"=some Builtin.«dict_keyiterator.__iter__»:=entryFor_alias (by kernel_rfl) (by kernel_rfl) W1 (by kernel_rfl)
section
variable{ok ov:Qc}
theorem l7{T:Qc}{vs:Array Qc}{x:Qc}{Q:Unit->Qd->Prop}(e:s.heap.get? it=some {cls:=T,data:=.fields vs})(hj:j < vs.size)
  (q:∀ h':Heap,h'.get? it=some {cls:=T,data:=.fields (vs.setIfInBounds j x)}->h'.objs.size=s.heap.objs.size->(∀ b o,b≠it->s.heap.get? b=some o->h'.get? b=some o)->Q () {s with heap:=h'}):wpAny (model prog w) A (setField (.ref it) j x) Q E s:=by
 refine wpAny_setField e rfl hj<|q _ ?_ ?_ λb o hb z=>?_
 .exact é _ e (ô<|ÿ rfl _)
 .exact Heap.size_update ..
 .exact((Ñ ..).2 b hb).trans z
theorem Zn{Q:Qb Qc->Qd->Prop}(k:IsItemIter s.heap it d i es.size ep ok ov)(r:gX s.heap d es ep){x:DictEntry}(hx:es[i]?=some x)
  (q:∀ h':Heap,IsItemIterOut h' it d (i+1) es.size ep x.key x.val s.heap.objs.size->h'.get? s.heap.objs.size=some {cls:=.type "tuple",data:=.seq #[x.key,x.val]}->(∀ b o,b≠it->s.heap.get? b=some o->h'.get? b=some o)->Q (some<|.ref s.heap.objs.size) {s with heap:=h'}):wpAny (model prog w) A (pyNext<|.ref it) Q E s:=by
 have kT:s.TypeIs (.ref it) "dict_itemiterator":=⟨_,k,rfl⟩;have(o,e,_,dat):=r;have jK:s.heap.objs.size≠it:=Ne.symm (qj<|qh k);unfold pyNext;refine qa<|wpAny_attempt (wpAny_callSpecial?_slot (name:=Str.ofString "__next__") kT Ð
  (wpAny_call_entry Ð kT F.entry_dict_itemiterator_next ?_<|F.args_dict_itemiterator_next_1 _))
 refine qa<|qb<|qa<|qa ?_;refine qa<|wpAny_typeNameOfWhole_itemiter kT<|qb<|qa<|wpAny_fieldsOf k rfl ?_;simp only[show Builtin.Dict_items.ownsTuple "dict_itemiterator"=true by decide,if_true];show wpAny _ _ (if(Value.ref d==Value.none)=true then _ else _) _ _ s;rw[if_neg (show ¬((Value.ref d==Value.none)=true) from qf)];refine qa<|qb<|qa<|wpAny_dictEntries e dat ?_;rw[if_neg (by simp)];refine qa<|qb<|qa<|wpAny_dictEpoch e dat ?_;rw[if_neg (by simp)];refine qb ?_;simp only[show ¬((i:Int) < 0) from by omega,if_false,Int.toNat_natCast,hx];refine qa<|qa<|wpAny_typeNameOfWhole_itemiter kT<|qb<|qa<|wpAny_isOneOf_itemiter kT ?_;show wpAny _ _ (setField (.ref it) 3 (rawInt<|(i:Int)+1) >>= _) _ _ s;refine qa<|l7 k (by simp) λh1 k1 z1 f1=>?_;refine qa<|wpAny_holding ?_;have Po:Shared.TypeIs {s with heap:=h1} (.ref it) "dict_itemiterator":=⟨_,k1,rfl⟩;refine qa<|wpAny_isOneOf_itemiter Po ?_;show wpAny _ _ (Builtin.Dict_items.isOneOf (.ref it) _ >>= _) _ _ _;refine qa<|wpAny_isOneOf_itemiter Po ?_;show wpAny _ _ (Builtin.Dict_items.pairFromOwner (.ref it) 6 x.key x.val) _ _ _;unfold Builtin.Dict_items.pairFromOwner;simp only[newTuple];refine qa<|qy ?_ (by show(2:Nat)<=sizeLine; decide);have k2:(h1.push {cls:=.type "tuple",data:=.seq #[x.key,x.val]}).get? it=_:=qd _ k1;have t2:(h1.push {cls:=.type "tuple",data:=.seq #[x.key,x.val]}).get? h1.objs.size=_:=qg _ rfl;have f2:∀ b o,b≠it->s.heap.get? b=some o->(h1.push {cls:=.type "tuple",data:=.seq #[x.key,x.val]}).get? b=some o:=λb o hb z=>qd _<|f1 b o hb z;rw[z1]at t2;show wpAny _ _ _ _ _ {s with heap:=h1.push {cls:=.type "tuple",data:=.seq #[x.key,x.val]}};generalize h1.push {cls:=.type "tuple",data:=.seq #[x.key,x.val]}=h2 at k2 t2 f2 ⊢;rw[z1];unfold Builtin.Dict_items.ownedTupleIsFree;refine qa<|qa<|wpAny_field k2 rfl (x:=.none) rfl<|qb ?_;show wpAny _ _ (if true=true then _ else _) _ _ _;rw[if_pos rfl];show wpAny _ _ (field (.ref it) 6 >>= _) _ _ _;refine qa<|wpAny_field k2 rfl (x:=ok) rfl ?_;refine qa<|wpAny_field k2 rfl (x:=ov) rfl ?_;refine qa<|l7 k2 (by simp) λh3 k3 z3 f3=>?_;refine qa<|l7 k3 (by simp) λh4 k4 z4 f4=>?_;refine qa<|l7 k4 (by simp) λh5 k5 z5 f5=>?_;refine qa<|l7 k5 (by simp) λh6 k6 z6 f6=>?_;refine qa<|wpAny_letGo<|qb<|qb ⟨_,rfl,qb<|q _ ?_ ?_ λb o hb z=>?_⟩
 .show h6.get? it=_
  rw[k6];rfl
 .exact f6 _ _ jK (f5 _ _ jK<|f4 _ _ jK<|f3 _ _ jK t2)
 .exact f6 b o hb (f5 b o hb<|f4 b o hb<|f3 b o hb<|f2 b o hb z)
theorem WZ{Q:Qb Qc->Qd->Prop}(hh:A.handled=none)(k:IsItemIter s.heap it d i es.size ep ok ov)(r:gX s.heap d es ep)(hx:es.size<=i)
  (q:∀ h':Heap,Heap.ExtBut it s.heap h'->Q none {s with heap:=h'}):wpAny (model prog w) A (pyNext<|.ref it) Q E s:=by
 have kT:s.TypeIs (.ref it) "dict_itemiterator":=⟨_,k,rfl⟩;have(o,e,_,dat):=r;unfold pyNext;refine qa<|wpAny_attempt (wpAny_callSpecial?_slot (name:=Str.ofString "__next__") kT Ð
  (wpAny_call_entry Ð kT F.entry_dict_itemiterator_next ?_<|F.args_dict_itemiterator_next_1 _))
 refine qa<|qb<|qa<|qa ?_;refine qa<|wpAny_typeNameOfWhole_itemiter kT<|qb<|qa<|wpAny_fieldsOf k rfl ?_;simp only[show Builtin.Dict_items.ownsTuple "dict_itemiterator"=true by decide,if_true];show wpAny _ _ (if(Value.ref d==Value.none)=true then _ else _) _ _ s;rw[if_neg (show ¬((Value.ref d==Value.none)=true) from qf)];refine qa<|qb<|qa<|wpAny_dictEntries e dat ?_;rw[if_neg (by simp)];refine qa<|qb<|qa<|wpAny_dictEpoch e dat ?_;rw[if_neg (by simp)];refine qb ?_;simp only[show ¬((i:Int) < 0) from by omega,if_false,Int.toNat_natCast,Array.getElem?_eq_none hx];refine qa<|qa<|wpAny_typeNameOfWhole_itemiter kT<|qb ?_;show wpAny _ _ (setField (.ref it) 2 .none >>= _) _ _ s;refine qa<|wpAny_setField k rfl (by simp) ?_;show wpAny _ _ (newExc (.type "StopIteration") [] >>= _) _ _ _;refine qa ?_;simp only[newExc,newTuple];refine qa<|qy ?_ (by show(0:Nat)<=sizeLine; exact É _);refine qa (m:=firstArgMember _ _)<|wpAny_of_eq (a:=Value.none) (by first|rfl | (simp only[firstArgMember]; rfl)) ?_;refine qy ?_ (by first|trivial|size_fits);simp only[raiseNew];refine qa<|wpAny_handled ?_;rw[show A.in1.handled=none from hh];refine qa<|qb<|wpAny_throw ?_;refine qa<|wpAny_isInstance (T := "StopIteration") (b:=true) ⟨_,qg _ rfl,rfl⟩ isSubtype_stop ?_;exact qb<|q _<|((Ñ ..).extBut.push _).push _
theorem Zm(hd:(d==sysModules)=false)(r:gX s.heap d es ep)
  (q:Q (.ref s.heap.objs.size) {s with heap:=s.heap.push {cls:=.type "dict_items",data:=.fields #[.ref d]}}):wpAny (model prog w) A (call (.builtin "dict.items") [.ref d]) Q E s:=by
 have hT:=r.typeIs;have(o,e,_,dat):=r;refine wpAny_call_entry F.slot_dict_items hT F.entry_dict_items ?_<|F.args_dict_items_1 _;unfold Builtin.«dict.items» Builtin.Dict.noArgs;refine qa<|qa<|wpAny_notOrdered_dict hT ?_;refine qa<|qb ?_;refine qa<|qb<|qb ?_;unfold Builtin.Dict.showsAll;rw[hd,if_neg qf];refine qa<|qb ?_;unfold newFields;exact qa<|qy<|qb ⟨_,rfl,q⟩
theorem Zl{v:Qg}(hv:s.heap.IsItemsView v d)(r:gX s.heap d es ep)
  (q:∀ h':Heap,IsItemIter h' s.heap.objs.size d 0 es.size ep .none .none->(∀ b o,s.heap.get? b=some o->h'.get? b=some o)->Q (.ref s.heap.objs.size) {s with heap:=h'}):wpAny (model prog w) A (pyIter<|.ref v) Q E s:=by
 have(o,e,_,dat):=r;have(o2,e2,c2,d2):=id hv;have hT:=hv.typeIs (s:=s);refine wpAny_pyIter_slot hT F.slot_dict_items_iter<|wpAny_call_entry F.slot_dict_items_iter hT F.entry_dict_items_iter ?_<|F.args_dict_items_iter_1 _;unfold Builtin.«dict_items.__iter__»;refine qa<|qb ?_;unfold Builtin.Dict_items.dictOf;refine qa<|qa<|wpAny_field e2 d2 (x:=.ref d) rfl<|qb ?_;unfold Builtin.Dict_items.newIterator;refine qa<|qa<|wpAny_dictEntries e dat<|qa<|wpAny_dictEpoch e dat ?_;unfold newFields;refine qy (qb ⟨_,rfl, "dict_itemiterator",_,⟨_,qg _ rfl,rfl⟩,Ð.lookup,?_⟩) (by rw[show Builtin.Dict_items.ownsTuple "dict_itemiterator"=true by decide,if_pos rfl]; show(8:Nat)<=sizeLine+2; decide);exact q _ (qg _ rfl) λb o z=>qd _ z
end
theorem uT{X:Cx}{o:Obj}(I:Inv X pins σ H s)(e:H a=some (.aQ o<|.dT kvs)):
  (a==sysModules)=false/\∃ (es:Array DictEntry) (ep:Nat),s.heap.get? a=some o/\o.ExactDict/\o.data=.dict es ep/\es.size=kvs.length/\∀ (i:Nat) (k:Qa Key) (v:V),kvs[i]?=some (k,v)->∃ (b:Qg) (x:DictEntry),es[i]?=some x/\x.key=.ref b/\aV X.K H b (k.map kV)/\zO v x.val:=by
 have(ea,z,y,xs,r,o',es,ep,h1,h2,h3,h4,h5):=(show bR X.prog X.w X.K H s.heap a (.aQ o<|.dT kvs) from I.aw a _ e);rw[ea]at h1;cases h1;refine⟨y,es,ep,ea,h2,h3,?_,λi k v hi=>?_⟩
 .have:=congrArg List.length h4
  rw[Array.length_toList,List.length_map,<-wQ r]at this;exact this
 .have(q,hq,r1,r2,r3):=F8 r i (k,v) hi
  refine⟨q.2.1,entryOfKey (tupleKind<|zW X.prog X.w) q,?_,rfl,r2,r3⟩;have:es.toList[i]?=some (entryOfKey (tupleKind<|zW X.prog X.w) q):=by rw[h4,List.getElem?_map,hq]; rfl
  simpa using this
def QV(K:qc)(a:Qg)(o:Obj)(kvs:Qa (Qa Key×V)):It :=
 ⟨λi H=>H a=some (.aQ o<|.dT kvs)/\i < kvs.length,λi H x H'=>∃ T,H T=none/\x=.ref T/\∀ k v,kvs[i]?=some (k,v)->∃ b,aV K H b (k.map kV)/\H'=upd H T (.tup [.ref b,v]),λi H=>H a=some (.aQ o<|.dT kvs)/\kvs.length<=i⟩
theorem znd{k:Nat}(a it:Qg)(o:Obj)(kvs:Qa (Qa Key×V))(ep:Nat)(qP:∃ es,o.data=.dict es ep):Turn P w K (.Tuple elts k pos) (QV K a o kvs) [it] it (λi h=>∃ ok ov,IsItemIter h it a i kvs.length ep ok ov) where
 mem:=by simp
 obj:=λi h st b hb=>by
  have e:b=it:=by simpa using hb
  subst e;have(ok,ov,e):=st;exact⟨_,e,λv z=>by
   have z':Data.fields _=Data.cell v:=z;cases z'⟩
 keep:=λi h h' st k=>by
  have(ok,ov,e):=st;exact⟨ok,ov,k it (by simp) _ e⟩
 item:=by
  intro X hP hw hK hc i pins s σ H E I hf st hg;subst hP hw hK;have(e,hi):=hg;have(ok,ov,st):=st;have(lG,es,dM,ea,xd,dat,hsz,ent):=uT I e;have lO:dM=ep:=by
   have(lN,z):=qP;rw[dat]at z;injection z
  subst lO;have(b,x,ex,kx,hb,rv):=ent i kvs[i].1 kvs[i].2 (ql hi);refine Zn (es:=es) (by rw[hsz]; exact st) ⟨o,ea,xd,dat⟩ ex λh1 sN gJ kk=>?_;refine⟨_,rfl,wpAny_letOwnedTupleGo_items (s:={s with heap:=h1}) sN λh2 gE sb=>?_⟩;have jK:s.heap.objs.size≠it:=Ne.symm (qj<|qh st);have I2:Inv X pins σ H {s with heap:=h2}:=I.bS (t':=s.toks) (wr:=[it]) (λb o hb q=>(sb.2 b (by simpa using hb)).trans<|kk b o (by simpa using hb) q) hf;have fT:fm X pins H s.heap.objs.size:=I.cM (qe _) (I.aw.fresh<|qe _);rw[kx]at gJ;have I3:Inv X pins σ (upd H s.heap.objs.size<|.tup [.ref b,kvs[i].2]) {s with heap:=h2}:=I2.i4 fT I.sz ⟨by show 2<=sizeLine; decide,[.ref b,x.val],.cons rfl<|.cons rv .nil,_,(sb.2 _ jK).trans gJ,rfl,⟨_,rfl⟩,.inl rfl⟩;refine⟨.ref s.heap.objs.size,_,I3,rfl,⟨_,I.aw.fresh<|qe _,rfl,λk v jd=>⟨b,?_,?_⟩⟩,⟨_,_,by rw[<-hsz]; exact gE⟩,λc hc=>?_⟩
  .rw[ql hi]at jd
   rw[qw jd]at hb;exact hb
  .rw[ql hi]at jd
   rw[qw jd]
  .have e:c=it:=by simpa using hc
   subst e;rw[zy<|Ne.symm jK];exact(hf c hc).1
 done:=by
  intro X hP hw hK hc i pins s σ H E I hf st hg;subst hP hw hK;have(e,hi):=hg;have(ok,ov,st):=st;have(lG,es,dM,ea,xd,dat,hsz,ent):=uT I e;have lO:dM=ep:=by
   have(lN,z):=qP;rw[dat]at z;injection z
  subst lO;have(f0,f1,f2,f3,f4,f5):=hf it (by simp);exact WZ (es:=es) (I.ok.hd hc) (by rw[hsz]; exact st) ⟨o,ea,xd,dat⟩ (by omega) λh' eb=>⟨rfl,I.turned (t':=s.toks) (λb o hb e=>eb b o hb e) f0 f1 f3 f4 f5⟩
 self:=λ_ _ _ _ _ st h=>by
  have(ok,ov,st):=st;exact wpAny_pyIter_slot ⟨_,st,rfl⟩ F.slot_dict_itemiterator_iter<|wpAny_call_entry F.slot_dict_itemiterator_iter ⟨_,st,rfl⟩ W0 (qb ⟨_,rfl, "dict_itemiterator",_,⟨_,st,rfl⟩,Ð.lookup,h⟩)<|F.args_dict_itemiterator_iter_1 _
section
variable{X:Cx}{kk:Nat}
def JK(K:qc)(td:TE):TI:=λσ H R=>td σ H λx H1=>∃ a o kvs,x=.ref a/\H1 a=some (.aQ o<|.dT kvs)/\R (QV K a o kvs) H1
theorem pR{d:Expr}(hd:Wr (PE X d td))(cp:attributeBase d "items" X.env (eval d X.env)=eval d X.env:=by rfl)(cj:(apos.endLine==aX.line)=true:=by rfl):Wr (PI X (.Tuple elts kk k9) (.Call (.Attribute d "items" apos) [] [] aX)<|JK X.K td):=by
 refine⟨?_⟩;intro pins s σ H R I h;refine wpAny_Call_method0_late cp cj<|aD (hd.run pins s σ H _ I h) λv s1 hZ=>?_;have(x,H1,I1,r1,q1):=hZ;have(a,o,kvs,rfl,e,q):=q1;cases r1;have(lG,es,ep,ea,xd,dat,hsz,_):=uT I1 e;have xo:gX s1.heap a es ep:=⟨o,ea,xd,dat⟩;refine⟨"dict", "dict.items",F.plainAttrs_dict,F.slot_dict_items,F.type_dict_items,xo.typeIs,λb hb=>?_,å rfl<|PySem.evalArgs_none<|Zm lG xo ?_⟩
 .cases hb
  exact⟨o,ea,xd.2.1⟩
 have I2:Inv X pins σ H1 {s1 with heap:=s1.heap.push {cls:=.type "dict_items",data:=.fields #[.ref a]}}:=I1.kept (t':=s1.toks) λb o z=>qd _ z;refine Zl (v:=s1.heap.objs.size) (s:={s1 with heap:=s1.heap.push {cls:=.type "dict_items",data:=.fields #[.ref a]}}) ⟨_,qg _ rfl,rfl,rfl⟩ ⟨o,qd _ ea,xd,dat⟩ λh' hit oG=>?_;refine⟨_,_,_,_,H1,rfl,I2.kept (t':=s1.toks) oG,znd a _ o kvs ep ⟨es,dat⟩,⟨_,_,by rw[<-hsz]; exact hit⟩,λb hb=>?_,q⟩;rw[qp.mp hb];exact I2.cM (qe _)<|I2.aw.fresh<|qe _
end
def kS:U->Qb (Qa D)
 | .d (.dict kvs)=>if hU kvs=true then some (kvs.map λp=>.tuple [p.1,p.2])else none
 | _=>none
theorem E7:∀ {ws:Qa (Qa Key×V)} {kvs:Qa (D×D)},gO K H ws kvs->∀ {i:Nat} {p:D×D},kvs[i]?=some p->∃ k v,ws[i]?=some (k,v)/\p.1=jL k/\DF K H v p.2
 | _,_,.nil,i,p,h=>by simp at h
 | _,_,.cons hv t,0,p,h=>by cases h; exact⟨_,_,rfl,rfl,hv⟩
 | _,_,.cons hv t,i+1,p,h=>E7 t (i:=i) h
theorem E6:∀ {ws:Qa (Qa Key×V)} {kvs:Qa (D×D)},gO K H ws kvs->ws.length=kvs.length
 | _,_,.nil=>rfl
 | _,_,.cons hv t=>congrArg (·+1)<|E6 t
theorem pU{me:ME}(h:VE K te me):VI K (JK K te) (cP kS me):=by
 intro ρ σ H ds ao R r e q;obtain⟨⟨a,aq⟩,e1,e⟩:=zb e;have(u,eu,e):=zb e;have(xs,ex,e):=zb e;cases e;refine h ρ σ H a _ _ r e1 λv H1 g1 k1=>?_;have p:=k1.now r g1 eu;unfold kS at ex;split at ex
 .split at ex
  rotate_left
  .cases ex
  rename_i nx;cases ex;have(b,o,ws,rfl,h1,h2):=DF.bT p nx;refine⟨b,o,ws,rfl,h1,q _ _ g1 λH2 k i=>?_⟩;have je:=k.aQ _ _ _ h1;refine⟨λd ed=>?_,λei=>?_⟩
  .rw[List.getElem?_map]at ed
   obtain⟨⟨kd,vd⟩,ew,rfl⟩:=qq.mp ed;have(ks,w,eF,rfl,dv):=E7 h2 ew;refine⟨⟨je,(qk.mp eF).1⟩,λx H' y=>?_⟩;have(T,nT,rfl,y):=y;have(kb,xR,rfl):=y ks w eF;have sm:=zL nT (.tup [.ref kb,w]);exact⟨sm,.tup (.inl zw)<|.cons (DF.kp sm.kp<|.tup xR AF)<|.cons ((dv.kp k).kp sm.kp) .nil⟩
  .rw[List.length_map,<-E6 h2]at ei
   exact⟨je,þ ei.symm⟩
 .cases ex
abbrev uB(h:Heap)(t1:Qg):Heap:=h.push {cls:=.type "tuple_iterator",data:=.fields #[.ref t1,.int 0 0]}
abbrev wq(h:Heap)(t1 t2:Qg):Heap:=(uB h t1).push {cls:=.type "tuple_iterator",data:=.fields #[.ref t2,.int 0 0]}
abbrev uA(h:Heap)(t1 t2:Qg):Heap:=(wq h t1 t2).push {cls:=.type "tuple",data:=.seq #[.ref h.objs.size,.ref (uB h t1).objs.size]}
abbrev A9(h:Heap)(t1 t2:Qg):Heap:=(uA h t1 t2).push {cls:=.type "tuple",data:=.seq #[.none,.none]}
abbrev FR(h:Heap)(t1 t2:Qg):Heap:=(A9 h t1 t2).push {cls:=.type "zip",data:=.fields #[.none,.bool false,.bool false,.ref (wq h t1 t2).objs.size,.ref (uA h t1 t2).objs.size]}
theorem WY(t1 t2:Qg)(xs ys:Array Qc):
  Meets (Builtin.«zip.__new__» ⟨[.type "zip",.ref t1,.ref t2],[]⟩) (λ_ R s=>s.heap.IsTuple t1 xs/\s.heap.IsTuple t2 ys/\
   R (.ok<|.ret<|.ref (A9 s.heap t1 t2).objs.size) {s with heap:=FR s.heap t1 t2}):=
 .of_wp λprog w A R s h=>by
  have(hp,g,d,tk,os):=s;have(h1,h2,h):=h;have iI:Heap.IsTuple (uB hp t1) t2 ys:=by
   have(o,e,r):=h2;exact⟨o,qd _ e,r⟩
  have xI:=sub_zip
  wp_walk using wpAny_pyIter_tuple h1,wpAny_pyIter_tuple iI
  exact⟨_,rfl,h⟩
section
variable{z TI TO i1 i2 t1 t2:Qg}{k:Nat}{xs ys:Array Qc}{x y a b:Qc}
theorem Zk{Q:Qb Qc->Qd->Prop}(ap:ZipApart z TI TO i1 i2 t1 t2)(hz:IsZip s.heap z TI TO .none)(hI:IsPair s.heap TI (.ref i1) (.ref i2))(hO:IsPair s.heap TO a b)
  (h1:s.heap.IsTupleIter i1 t1 k) (h2:s.heap.IsTupleIter i2 t2 k) (g1:s.heap.IsTuple t1 xs) (g2:s.heap.IsTuple t2 ys) (ex:xs[k]?=some x) (ey:ys[k]?=some y)
  (q:∀ h':Heap,IsZip h' z TI TO (rawInt s.heap.objs.size)->IsPair h' TO x y->h'.IsTupleIter i1 t1 (k+1)->h'.IsTupleIter i2 t2 (k+1)->IsPair h' s.heap.objs.size x y->
   (∀ c o,c≠z->c≠TO->c≠i1->c≠i2->s.heap.get? c=some o->h'.get? c=some o)->Q (some<|.ref s.heap.objs.size) {s with heap:=h'}):wpAny (model prog w) A (pyNext<|.ref z) Q E s:=by
 have kT:s.TypeIs (.ref z) "zip":=⟨_,hz,rfl⟩;unfold pyNext;refine qa<|wpAny_attempt<|wpAny_callSpecial?_slot (name:=Str.ofString "__next__") kT F.slot_zip_next<|wpAny_call_entry F.slot_zip_next kT F.entry_zip_next ?_<|F.args_zip_next_1 _;unfold Builtin.«zip.__next__»;refine qa<|qb ?_;refine qa<|wpAny_field hz rfl (x:=.bool false) rfl ?_;refine qa<|wpAny_field hz rfl (x:=.ref TI) rfl ?_;refine qa<|wpAny_seqItems hI rfl ?_;show wpAny _ _ (Builtin.SmallTypes.ownedTupleIsFree (.ref z) >>= _) _ _ s;unfold Builtin.SmallTypes.ownedTupleIsFree;refine qa<|qa<|wpAny_field hz rfl (x:=.none) rfl<|qb ?_;show wpAny _ _ (if true=true then _ else _) _ _ _;rw[if_pos rfl];refine qa<|wpAny_rule<|qa<|wpAny_field hz rfl (x:=.ref TO) rfl ?_;refine qa<|l7 hz (by simp) λha ka za fa=>?_;have PU:IsPair ha TO a b:=fa _ _ ap.TOz hO;have x8:ha.IsTupleIter i1 t1 k:=by
  have(o,e,r):=h1;exact⟨o,fa _ _ ap.i1z e,r⟩
 have HP:ha.IsTuple t1 xs:=by
  have(o,e,r):=g1;exact⟨o,fa _ _ ap.l1z e,r⟩
 refine qa ?_;show wpAny _ _ (forIn [(Value.ref i1,0),(Value.ref i2,1)] (none,()) _) _ _ _;rw[List.forIn_cons];refine qa<|qa<|wpAny_onRaise ?_;show wpAny _ _ (Builtin.SmallTypes.nextOf (.ref i1) >>= _) _ _ _;refine qa<|Gf (s:={s with heap:=ha}) x8 HP ex λhb kb sb=>qb ?_;refine qa<|wpAny_seqItems (s:={s with heap:=hb}) (o:=_) ((sb.2 _ ap.TOi1).trans PU) rfl ?_;refine qa<|wpAny_updateSeq_pair (s:={s with heap:=hb}) ((sb.2 _ ap.TOi1).trans PU) λhc kc sc=>?_;refine qa<|wpAny_letGo<|qb ?_;show wpAny _ _ (forIn [(Value.ref i2,1)] (none,()) _) _ _ _;rw[List.forIn_cons];have lF:∀ c o,c≠z->c≠TO->c≠i1->s.heap.get? c=some o->hc.get? c=some o:=λc o n1 n2 n3 e=>(sc.2 c n2).trans<|(sb.2 c n3).trans<|fa c o n1 e;have h22:hc.IsTupleIter i2 t2 k:=by
  have(o,e,r):=h2;exact⟨o,lF _ _ ap.i2z (Ne.symm ap.TOi2) (Ne.symm ap.i12) e,r⟩
 have g22:hc.IsTuple t2 ys:=by
  have(o,e,r):=g2;exact⟨o,lF _ _ ap.l2z ap.l2TO ap.l2i1 e,r⟩
 refine qa<|qa<|wpAny_onRaise ?_;show wpAny _ _ (Builtin.SmallTypes.nextOf (.ref i2) >>= _) _ _ _;refine qa<|Gf (s:={s with heap:=hc}) h22 g22 ey λhd kd sd=>qb ?_;have PR:IsPair hd TO x b:=(sd.2 _ ap.TOi2).trans kc;refine qa<|wpAny_seqItems (s:={s with heap:=hd}) PR rfl ?_;refine qa<|wpAny_updateSeq_pair (s:={s with heap:=hd}) PR λhe ke se=>?_;refine qa<|wpAny_letGo<|qb ?_;show wpAny _ _ (forIn ([]:Qa (Qc×Nat)) (none,()) _) _ _ _;rw[List.forIn_nil];refine qb ?_;have PQ:IsPair he TO x y:=ke;show wpAny _ _ (seqItems? (.ref TO) >>= _) _ _ _;refine qa<|wpAny_seqItems (s:={s with heap:=he}) PQ rfl ?_;simp only[newTuple];refine qa<|qy ?_ (by show(2:Nat)<=sizeLine; decide);have sz:he.objs.size=s.heap.objs.size:=by rw[se.1,sd.1,sc.1,sb.1]; exact za
 show wpAny _ _ (Builtin.SmallTypes.ownedTupleHandOut (.ref z) (.ref he.objs.size) >>= _) _ _ {s with heap:=he.push {cls:=.type "tuple",data:=.seq #[x,y]}};have kz:(he.push {cls:=.type "tuple",data:=.seq #[x,y]}).get? z=some {cls:=.type "zip",data:=.fields #[.ellipsis,.bool false,.bool false,.ref TI,.ref TO]}:=
  qd _ ((se.2 _<|Ne.symm ap.TOz).trans<|(sd.2 _<|Ne.symm ap.i2z).trans<|(sc.2 _<|Ne.symm ap.TOz).trans<|(sb.2 _<|Ne.symm ap.i1z).trans ka)
 have kt:(he.push {cls:=.type "tuple",data:=.seq #[x,y]}).get? he.objs.size=some {cls:=.type "tuple",data:=.seq #[x,y]}:=qg _ rfl;have kO:(he.push {cls:=.type "tuple",data:=.seq #[x,y]}).get? TO=_:=qd _ PQ;have k1:Heap.IsTupleIter (he.push {cls:=.type "tuple",data:=.seq #[x,y]}) i1 t1 (k+1):=by
  have(o,e,r):=kb;exact⟨o,qd _<|(se.2 _<|Ne.symm ap.TOi1).trans<|(sd.2 _ ap.i12).trans<|(sc.2 _<|Ne.symm ap.TOi1).trans e,r⟩
 have k2:Heap.IsTupleIter (he.push {cls:=.type "tuple",data:=.seq #[x,y]}) i2 t2 (k+1):=by
  have(o,e,r):=kd;exact⟨o,qd _<|(se.2 _<|Ne.symm ap.TOi2).trans e,r⟩
 have kk:∀ c o,c≠z->c≠TO->c≠i1->c≠i2->s.heap.get? c=some o->(he.push {cls:=.type "tuple",data:=.seq #[x,y]}).get? c=some o:=λc o n1 n2 n3 n4 e=>
  qd _ ((se.2 c n2).trans<|(sd.2 c n4).trans<|lF c o n1 n2 n3 e)
 have nz:he.objs.size≠z:=by
  rw[sz];exact Ne.symm<|qj<|qh hz
 generalize he.push {cls:=.type "tuple",data:=.seq #[x,y]}=hf at kz kt kO k1 k2 kk ⊢;unfold Builtin.SmallTypes.ownedTupleHandOut;refine qa<|qa<|l7 (s:={s with heap:=hf}) kz (by simp) λhg kg zg fg=>?_;refine l7 (s:={s with heap:=hg}) kg (by simp) λhh kh zh fh=>?_;have up:∀ c o,c≠z->hf.get? c=some o->hh.get? c=some o:=λc o n e=>fh c o n<|fg c o n e;refine qb ⟨_,rfl,qb ?_⟩;rw[sz]at kt kh nz ⊢;refine q hh kh (up _ _ ap.TOz kO) ?_ ?_ (up _ _ nz kt) λc o n1 n2 n3 n4 e=>up _ _ n1<|kk c o n1 n2 n3 n4 e
 .have(o,e,r):=k1
  exact⟨o,up _ _ ap.i1z e,r⟩
 .have(o,e,r):=k2
  exact⟨o,up _ _ ap.i2z e,r⟩
theorem WX{Q:Qb Qc->Qd->Prop}(hh:A.handled=none)(ap:ZipApart z TI TO i1 i2 t1 t2)(hz:IsZip s.heap z TI TO .none)(hI:IsPair s.heap TI (.ref i1) (.ref i2))(hO:IsPair s.heap TO a b)
  (h1:s.heap.IsTupleIter i1 t1 k) (h2:s.heap.IsTupleIter i2 t2 k) (g1:s.heap.IsTuple t1 xs) (g2:s.heap.IsTuple t2 ys) (en:xs[k]?=none)
  (q:∀ h':Heap,(∀ c o,c≠z->c≠TO->c≠i1->c≠i2->s.heap.get? c=some o->h'.get? c=some o)->Q none {s with heap:=h'}):wpAny (model prog w) A (pyNext<|.ref z) Q E s:=by
 have kT:s.TypeIs (.ref z) "zip":=⟨_,hz,rfl⟩;unfold pyNext;refine qa<|wpAny_attempt<|wpAny_callSpecial?_slot (name:=Str.ofString "__next__") kT F.slot_zip_next<|wpAny_call_entry F.slot_zip_next kT F.entry_zip_next ?_<|F.args_zip_next_1 _;unfold Builtin.«zip.__next__»;refine qa<|qb ?_;refine qa<|wpAny_field hz rfl (x:=.bool false) rfl ?_;refine qa<|wpAny_field hz rfl (x:=.ref TI) rfl ?_;refine qa<|wpAny_seqItems hI rfl ?_;show wpAny _ _ (Builtin.SmallTypes.ownedTupleIsFree (.ref z) >>= _) _ _ s;unfold Builtin.SmallTypes.ownedTupleIsFree;refine qa<|qa<|wpAny_field hz rfl (x:=.none) rfl<|qb ?_;show wpAny _ _ (if true=true then _ else _) _ _ _;rw[if_pos rfl];refine qa<|wpAny_rule<|qa<|wpAny_field hz rfl (x:=.ref TO) rfl ?_;refine qa<|l7 hz (by simp) λha ka za fa=>?_;have x8:ha.IsTupleIter i1 t1 k:=by
  have(o,e,r):=h1;exact⟨o,fa _ _ ap.i1z e,r⟩
 have HP:ha.IsTuple t1 xs:=by
  have(o,e,r):=g1;exact⟨o,fa _ _ ap.l1z e,r⟩
 refine qa ?_;show wpAny _ _ (forIn [(Value.ref i1,0),(Value.ref i2,1)] (none,()) _) _ _ _;rw[List.forIn_cons];refine qa<|qa<|wpAny_onRaise ?_;show wpAny _ _ (Builtin.SmallTypes.nextOf (.ref i1) >>= _) _ _ _;refine qa<|Mm (s:={s with heap:=ha}) hh x8 HP en λhb e sb hZ=>?_;have(oe,ge,ce):=hZ;have kb:=sb z _ (Ne.symm ap.i1z) ka;refine l7 (s:={s with heap:=hb}) kb (by simp) λhc kc zc fc=>?_;have nez:e≠z:=λh=>by
  rw[h]at ge;have z1:=qw (ge.symm.trans kb);rw[z1]at ce;have z2 : "zip" = "StopIteration":=Value.type.inj ce;exact absurd z2 (by decide)
 show wpAny _ _ (isInstance (.ref e) (.type "StopIteration") >>= _) _ _ _;refine qa<|wpAny_isInstance (T := "StopIteration") (b:=true) ⟨oe,fc _ _ nez ge,ce⟩ isSubtype_stop ?_;exact qb<|q hc λc o n1 n2 n3 n4 e=>fc c o n1<|sb c o n3<|fa c o n1 e
end
def QM(K:qc)(a b:Qg):It :=
 ⟨λi H=>∃ xs ys x y,bz K H a xs/\bz K H b ys/\xs[i]?=some x/\ys[i]?=some y,λi H x H'=>∃ T,H T=none/\x=.ref T/\∀ xs ys v u,bz K H a xs->bz K H b ys->xs[i]?=some v->ys[i]?=some u->H'=upd H T (.tup [v,u]),λi H=>∃ xs ys,bz K H a xs/\bz K H b ys/\xs.length=i⟩
abbrev QK(z TI TO i1 i2 t1 t2:Qg)(i:Nat)(h:Heap):Prop:=IsZip h z TI TO .none/\IsPair h TI (.ref i1) (.ref i2)/\(∃ a b,IsPair h TO a b)/\h.IsTupleIter i1 t1 i/\h.IsTupleIter i2 t2 i
theorem WW{k:Nat}(z TI TO i1 i2 t1 t2:Qg)(ap:ZipApart z TI TO i1 i2 t1 t2):
  Turn P w K (.Tuple elts k pos) (QM K t1 t2) [z,TI,TO,i1,i2] z (QK z TI TO i1 i2 t1 t2) where
 mem:=by simp
 obj:=λi h st c hc=>by
  obtain⟨hz,hI,⟨a,b,hO⟩,⟨o1,e1,_,d1⟩,⟨o2,e2,_,d2⟩⟩:=st;simp only[qu,List.not_mem_nil,or_false]at hc;rcases hc with rfl|rfl|rfl|rfl|rfl
  .exact⟨_,hz,λv q=>by
    have q':Data.fields _=Data.cell v:=q;cases q'⟩
  .exact⟨_,hI,λv q=>by
    have q':Data.seq _ _=Data.cell v:=q;cases q'⟩
  .exact⟨_,hO,λv q=>by
    have q':Data.seq _ _=Data.cell v:=q;cases q'⟩
  .exact⟨o1,e1,λv q=>by rw[d1]at q; cases q⟩
  .exact⟨o2,e2,λv q=>by rw[d2]at q; cases q⟩
 keep:=λi h h' st kk=>by
  obtain⟨hz,hI,⟨a,b,hO⟩,⟨o1,e1,r1⟩,⟨o2,e2,r2⟩⟩:=st;exact⟨kk z (by simp) _ hz,kk TI (by simp) _ hI,⟨a,b,kk TO (by simp) _ hO⟩,⟨o1,kk i1 (by simp) _ e1,r1⟩,⟨o2,kk i2 (by simp) _ e2,r2⟩⟩
 item:=by
  intro X hP hw hK hc i pins s σ H E I hf st hg;subst hP hw hK;have(xs,ys,x,y,oJ,qJ,hx,hy):=hg;obtain⟨hz,hI,⟨a,b,hO⟩,h1,h2⟩:=st;have(tF,B2,vp,_):=I.tuple oJ;have(dz,GP,vo,_):=I.tuple qJ;have(u1,eu1,r1):=B2.get hx;have(u2,eu2,r2):=GP.get hy;refine Zk ap hz hI hO h1 h2 vp vo (by simpa using eu1) (by simpa using eu2) λh' z' O' k1 k2 gJ kk=>?_;refine⟨_,rfl,wpAny_letOwnedTupleGo_zip (s:={s with heap:=h'}) z' λiI z2 sb=>?_⟩;have nm:s.heap.objs.size∉[z,TI,TO,i1,i2]:=λhm=>by
   have:s.heap.objs.size < s.heap.objs.size:=by
    simp only[qu,List.not_mem_nil,or_false]at hm;have(_,e1,_):=h1;have(_,e2,_):=h2;rcases hm with h|h|h|h|h
    .exact qi (h▸qh hz) (qe _)
    .exact qi (h▸qh hI) (qe _)
    .exact qi (h▸qh hO) (qe _)
    .exact qi (h▸qh e1) (qe _)
    .exact qi (h▸qh e2) (qe _)
   exact Í _ this
  have nz:s.heap.objs.size≠z:=λh=>nm (by rw[h]; simp);have I2:Inv X pins σ H {s with heap:=iI}:=I.bS (t':=s.toks) (wr:=[z,TI,TO,i1,i2]) (λc o hc q=>by
   simp only[qu,List.not_mem_nil,or_false,not_or]at hc;exact(sb.2 c hc.1).trans<|kk c o hc.1 hc.2.2.1 hc.2.2.2.1 hc.2.2.2.2 q) hf
  have fT:fm X pins H s.heap.objs.size:=I.cM (qe _) (I.aw.fresh<|qe _);have I3:Inv X pins σ (upd H s.heap.objs.size<|.tup [x,y]) {s with heap:=iI}:=I2.i4 fT I.sz ⟨by show 2<=sizeLine; decide,[u1,u2],.cons r1<|.cons r2 .nil,_,(sb.2 _ nz).trans gJ,rfl,⟨_,rfl⟩,.inl rfl⟩;refine⟨.ref s.heap.objs.size,_,I3,rfl,⟨_,I.aw.fresh<|qe _,rfl,λsJ n8 v u Hs Hr hv hu=>?_⟩,⟨z2,(sb.2 _ ap.TIz).trans<|kk _ _ ap.TIz ap.TITO ap.TIi1 ap.TIi2 hI,⟨_,_,(sb.2 _ ap.TOz).trans O'⟩,?_,?_⟩,λc hc=>?_⟩
  .cases I.cy oJ Hs
   cases I.cy qJ Hr;rw[hx]at hv;rw[hy]at hu;cases hv;cases hu;rfl
  .have(o,e,r):=k1
   exact⟨o,(sb.2 _ ap.i1z).trans e,r⟩
  .have(o,e,r):=k2
   exact⟨o,(sb.2 _ ap.i2z).trans e,r⟩
  .have ne:c≠s.heap.objs.size:=λh=>nm<|h▸hc
   rw[zy ne];exact(hf c hc).1
 done:=by
  intro X hP hw hK hc i pins s σ H E I hf st hg;subst hP hw hK;have(xs,ys,oJ,qJ,hl):=hg;obtain⟨hz,hI,⟨a,b,hO⟩,h1,h2⟩:=st;have(tF,B2,vp,_):=I.tuple oJ;have(dz,GP,vo,_):=I.tuple qJ;refine WX (I.ok.hd hc) ap hz hI hO h1 h2 vp vo (by
   have:=B2.length;simp;omega) λh' kk=>⟨rfl,I.bS (t':=s.toks) (wr:=[z,TI,TO,i1,i2]) (λc o hc q=>by
   simp only[qu,List.not_mem_nil,or_false,not_or]at hc;exact kk c o hc.1 hc.2.2.1 hc.2.2.2.1 hc.2.2.2.2 q) hf⟩
 self:=λ_ _ _ _ _ st h=>wpAny_pyIter_zip st.1 h
section
theorem Zj{t1 t2:Qg}{xs ys:Array Qc}(h1:s.heap.IsTuple t1 xs)(h2:s.heap.IsTuple t2 ys)
  (h:∀ h':Heap,QK (s.heap.objs.size+4) (s.heap.objs.size+2) (s.heap.objs.size+3) s.heap.objs.size (s.heap.objs.size+1) t1 t2 0 h'->(∀ b o,s.heap.get? b=some o->h'.get? b=some o)->Q (.ref<|s.heap.objs.size+4) {s with heap:=h'}):
  wpAny (model prog w) A (call (.type "zip") [.ref t1,.ref t2]) Q E s:=by
 refine callType_new F.called_zip (by decide) (F.typeCall_zip_2 _ _) (F.newCall_zip_2 _ _) (λobj=>F.args_object_init_3 obj _ _) F.entry_zip_new (WY t1 t2 xs ys) ⟨h1,h2,?_⟩;have z1:(uB s.heap t1).objs.size=s.heap.objs.size+1:=Heap.size_push ..;have z2:(wq s.heap t1 t2).objs.size=s.heap.objs.size+2:=by rw[Heap.size_push,z1]
 have z3:(uA s.heap t1 t2).objs.size=s.heap.objs.size+3:=by rw[Heap.size_push,z2]
 have z4:(A9 s.heap t1 t2).objs.size=s.heap.objs.size+4:=by rw[Heap.size_push,z3]
 show _/\_;rw[z4];have ez:(FR s.heap t1 t2).get? (s.heap.objs.size+4)=some {cls:=.type "zip",data:=.fields #[.none,.bool false,.bool false,.ref<|s.heap.objs.size+2,.ref<|s.heap.objs.size+3]}:=by
  have:=qg (A9 s.heap t1 t2) (o:={cls:=.type "zip",data:=.fields #[.none,.bool false,.bool false,.ref (wq s.heap t1 t2).objs.size,.ref (uA s.heap t1 t2).objs.size]}) rfl;rw[z4,z2,z3]at this;rw[<-this];unfold FR;rw[z2,z3]
 refine⟨⟨_,ez,rfl⟩,h _ ⟨ez,?_,⟨.none,.none,?_⟩,⟨{cls:=.type "tuple_iterator",data:=.fields #[.ref t1,.int 0 0]},?_,rfl,rfl⟩,⟨{cls:=.type "tuple_iterator",data:=.fields #[.ref t2,.int 0 0]},?_,rfl,rfl⟩⟩ λb o x=>?_⟩
 .have:=qg (wq s.heap t1 t2) (o:={cls:=.type "tuple",data:=.seq #[.ref s.heap.objs.size,.ref (uB s.heap t1).objs.size]}) rfl
  rw[z2,z1]at this;refine qd _<|qd _ ?_;unfold uA;rw[z1];exact this
 .have:=qg (uA s.heap t1 t2) (o:={cls:=.type "tuple",data:=.seq #[.none,.none]}) rfl
  rw[z3]at this;exact qd _ this
 .exact qd _ (qd _<|qd _<|qd _<|qg _ rfl)
 .have:=qg (uB s.heap t1) (o:={cls:=.type "tuple_iterator",data:=.fields #[.ref t2,.int 0 0]}) rfl
  rw[z1]at this;exact qd _<|qd _<|qd _ this
 .exact qd _ (qd _<|qd _<|qd _<|qd _ x)
end
section
variable{X:Cx}{k:Nat}
def OH(K:qc)(ta:TA):TI:=λσ H R=>ta σ H λvs H1=>∃ a b,vs=[.ref a,.ref b]/\(∃ xs,bz K H1 a xs)/\(∃ ys,bz K H1 b ys)/\R (QM K a b) H1
theorem JJ{a b:Expr}{ta:TA}{p:Pos}(ha:Wr (PA X [a,b] ta))(hK:X.K=K:=by rfl)(hg:Gl X "zip":=by exact rfl)(hm:X.mg "zip"=none:=by exact pH ‹Bl _ _› (by decide))(hs:zV a=true:=by rfl)(mS:[b].all zV=true:=by rfl):
  Wr (PI X (.Tuple elts k k9) (.Call (.Name "zip" p) [a,b] [] pos)<|OH K ta):=by
 subst hK;refine⟨?_⟩;intro pins s σ H R I h;refine Call_<|pO I hg hm boot_zip<|Ó (aD (ha.run pos pins s σ H _ I h) λus s1 hZ=>?_) (i0 hs)<|sE mS;have(vs,H1,I1,r1,q1):=hZ;obtain⟨t1,t2,e,⟨xs,oJ⟩,⟨ys,qJ⟩,q⟩:=q1;subst e;have(u1,u2,rfl,ru1,ru2):=Ac r1;cases ru1;cases ru2;have(tF,B2,vp,hz1):=I1.tuple oJ;have(dz,GP,vo,hz2):=I1.tuple qJ;have tl1:t1 < s1.heap.objs.size:=by
  have(o,e,_):=vp;exact qh e
 have tl2:t2 < s1.heap.objs.size:=by
  have(o,e,_):=vo;exact qh e
 have qE:∀ {x y:Nat},x < y->x≠y:=λh=>qj h;refine Zj (show s1.heap.IsTuple t1 tF.toArray from vp) (show s1.heap.IsTuple t2 dz.toArray from vo) λh' vq kk=>?_;have I2:Inv X pins σ H1 {s1 with heap:=h'}:=I1.kept (t':=s1.toks) kk;refine wpAny_pyIter_zip vq.1 ?_;have f:∀ j:Nat,fm X pins H1 (s1.heap.objs.size+j):=λj=>I1.cM (Nat.le_add_right _ _)<|I1.aw.fresh<|Nat.le_add_right _ _;have ap:ZipApart (s1.heap.objs.size+4) (s1.heap.objs.size+2) (s1.heap.objs.size+3) s1.heap.objs.size (s1.heap.objs.size+1) t1 t2:=by
  generalize s1.heap.objs.size=n at tl1 tl2;constructor<;>(simp only[Qg]at *; omega)
 refine⟨_,_,_,_,H1,rfl,I2,WW _ _ _ _ _ t1 t2 ap,vq,λc hc=>?_,q⟩;simp only[qu,List.not_mem_nil,or_false]at hc;rcases hc with rfl|rfl|rfl|rfl|rfl
 .exact f 4
 .exact f 2
 .exact f 3
 .exact f 0
 .exact f 1
end
def rh:Qa D->Qa D->Qa D
 | x::xs,y::ys=>.tuple [x,y]::rh xs ys
 | _,_=>[]
theorem KW:∀ {xs ys:Qa D} {i:Nat} {d:D},(rh xs ys)[i]?=some d->∃ x y,xs[i]?=some x/\ys[i]?=some y/\d=.tuple [x,y]
 | [],ys,i,d,h=>by simp[rh]at h
 | x::xs,[],i,d,h=>by simp[rh]at h
 | x::xs,y::ys,0,d,h=>by cases h; exact⟨x,y,rfl,rfl,rfl⟩
 | x::xs,y::ys,i+1,d,h=>KW (xs:=xs) (ys:=ys) (i:=i) h
theorem LV:∀ (xs ys:Qa D),xs.length=ys.length->(rh xs ys).length=xs.length
 | [],[],_=>rfl
 | [],y::ys,h=>by cases h
 | x::xs,[],h=>by cases h
 | x::xs,y::ys,h=>congrArg (·+1)<|LV xs ys<|Nat.succ.inj h
def vK:Qa U->Qb (Qa D)
 | [.d<|.tuple xs,.d<|.tuple ys]=>if xs.length=ys.length then some (rh xs ys)else none
 | _=>none
def yG(ma:MA):MI:=λρ=>(ma ρ).bind λp=>(bt p.2 p.1).bind λus=>(vK us).bind λds=>some (ds,p.2)
theorem JI{ta:TA}{ma:MA}(h:iN K ta ma):VI K (OH K ta) (yG ma):=by
 intro ρ σ H ds ao R r e q;obtain⟨⟨as,aq⟩,e1,e⟩:=zb e;have(us,eu,e):=zb e;have(zs,ez,e):=zb e;cases e;refine h ρ σ H as aq _ r e1 λvs H1 g1 s1=>?_;have rp:=s1.ku r g1 eu;unfold vK at ez;split at ez
 .split at ez
  rotate_left
  .cases ez
  rename_i xs ys hl;cases ez;cases rp with
  | cons p1 t=>
   cases t with
   | cons p2 t=>
    cases t;have(a,vx,rfl,h1,d1):=DF.aE p1;have(b,vy,rfl,h2,d2):=DF.aE p2;refine⟨a,b,rfl,⟨vx,(aV.sq h1)⟩,⟨vy,(aV.sq h2)⟩,q _ _ g1 λH2 kk i=>⟨λd ed=>?_,λei=>?_⟩⟩
    .have(x,y,ex,ey,rfl):=KW ed
     have(v,ev,dv):=(d1.kp kk).get ex;have(w,ew,dw):=(d2.kp kk).get ey;refine⟨⟨vx,vy,v,w,(aV.kp kk h1).sq,(aV.kp kk h2).sq,ev,ew⟩,λz H' y=>?_⟩;have(T,nT,rfl,y):=y;cases y vx vy v w ((aV.kp kk h1).sq) ((aV.kp kk h2).sq) ev ew;have sm:=zL nT (.tup [v,w]);exact⟨sm,.tup (.inl zw)<|.cons (dv.kp sm.kp)<|.cons (dw.kp sm.kp) .nil⟩
    .exact⟨vx,vy,(aV.kp kk h1).sq,(aV.kp kk h2).sq,by rw[LV _ _ hl]at ei; rw[d1.len]; exact ei.symm⟩
 .cases ez
section
theorem zlH{b:Qg}{Q:Bool->Qd->Prop}(hT:s.TypeIs (.ref b) "tuple")(h:Q false s):wpAny (model prog w) A (Builtin.Dict.quietEq<|.ref b) Q E s:=by
 unfold Builtin.Dict.quietEq;refine qa<|wpAny_specialOf hT F.slot_tuple_eq.lookup<|qb ?_;exact h
theorem zlI{id:String}{o:Obj}{Q:Array DictEntry->Qd->Prop}(ho:s.heap.get? d=some o)(hd:o.data=.dict es ep)
  (hk:∀ e∈es.toList,∃ b,e.key=.ref b/\s.TypeIs (.ref b) "tuple") (hh:∀ e∈es.toList,¬(es.filter (·.hash==e.hash)).size > 1) (h:Q es s):
  wpAny (model prog w) A (Builtin.Dict.entriesForEmpty id d) Q E s:=by
 unfold Builtin.Dict.entriesForEmpty;refine qa<|wpAny_dictEntries ho hd ?_;refine qa ?_;rw[<-Array.forIn_toList];refine wpAny_forIn_list _ (λdu _ s'=>s'=s/\∀ e∈du,e∈es.toList) _ ?_ ?_ _ _ ⟨rfl,λe h=>h⟩
 .rintro e du b s' ⟨rfl,hr⟩
  have(c,ec,tc):=hk e (hr e qo);rw[ec];refine qa<|zlH tc ?_;simp only[Bool.not_false,if_true];rw[if_neg<|hh e<|hr e qo];exact qb ⟨rfl,λe h=>hr e<|qm _ h⟩
 .rintro b s' ⟨rfl,_⟩
  exact qb h
theorem Q5(ne:es.isEmpty=false)(hk:∀ e∈es.toList,∃ b,e.key=.ref b):(decide (es.size<=8) && es.all λe=>(keyPart e.key).isSome)=false:=by
 have:(es.all λe=>(keyPart e.key).isSome)=false:=by
  rw[<-Array.all_toList];cases h:es.toList with
  | nil=>
   have:es=#[]:=by
    apply Array.ext';rw[h]
   rw[this]at ne;cases ne
  | cons e r=>
   have(b,eb):=hk e (by rw[h]; exact qo);rw[List.all_cons,eb];rfl
 rw[this,Bool.and_false]
theorem zi4{o:Obj}(hdS:(d==sysModules)=false)(ho:s.heap.get? d=some o)(hx:o.ExactDict)(hd:o.data=.dict es ep)(hz:es.size<=sizeLine)
  (hk:∀ e∈es.toList,∃ b,e.key=.ref b/\s.TypeIs (.ref b) "tuple") (hh:∀ e∈es.toList,¬(es.filter (·.hash==e.hash)).size > 1)
  (h:∀ h':Heap,(∃ o' dM,h'.get? s.heap.objs.size=some o'/\o'.ExactDict/\o'.data=.dict es dM)->(∀ b u,s.heap.get? b=some u->h'.get? b=some u)->Q (.ref s.heap.objs.size) {s with heap:=h'}):
  wpAny (model prog w) A (call (.type "dict") [.ref d]) Q E s:=by
 refine callType_codes (Q₁:=λobj aF=>obj=.ref s.heap.objs.size/\aF={s with heap:=s.heap.push {cls:=.type "dict",data:=.dict #[]}}) F.kt_called_dict (F.kt_typeCall_dict_1 _) F.entry_dict_init (kt_code_dict_new _ ⟨rfl,rfl⟩) ?_;rintro obj aF ⟨rfl,rfl⟩;have nd:s.heap.objs.size≠d:=Ne.symm (qj<|qh ho);have hn:(s.heap.push {cls:=.type "dict",data:=.dict #[]}).get? s.heap.objs.size=some {cls:=.type "dict",data:=.dict #[]}:=qg _ rfl;have ff:(s.heap.push {cls:=.type "dict",data:=.dict #[]}).get? d=some o:=qd _ ho;have kk:∀ b u,s.heap.get? b=some u->(s.heap.push {cls:=.type "dict",data:=.dict #[]}).get? b=some u:=λb u e=>qd _ e;generalize s.heap.push {cls:=.type "dict",data:=.dict #[]}=h1 at hn ff kk ⊢;have tn:Shared.TypeIs {s with heap:=h1} (.ref s.heap.objs.size) "dict":=⟨_,hn,rfl⟩;have to:Shared.TypeIs {s with heap:=h1} (.ref d) "dict":=⟨_,ff,hx.1⟩;refine⟨tn,F.args_dict_init_2 _ _,?_⟩;unfold Builtin.«dict.__init__»;refine qa ?_;unfold Builtin.Dict.selfAndRest;refine qa<|wpAny_notOrdered_dict tn ?_;show wpAny _ _ (pure (s.heap.objs.size,[Value.ref d])) _ _ _;refine qb ?_;show wpAny _ _ (Builtin.Dict.updateFrom "dict.__init__" s.heap.objs.size (.ref d) [] .none) _ _ _;unfold Builtin.Dict.updateFrom;refine qa<|wpAny_typeOf to ?_;rw[if_neg (by decide)];refine qa ?_;unfold Builtin.Dict.merge;refine qa ?_;unfold Builtin.Dict.readDirectly;refine qa<|wpAny_isInstance to isSubtype_dict_dict ?_;simp only[Bool.not_true,Bool.false_eq_true,if_false];refine qa<|wpAny_specialOf to F.slot_dict_iter.lookup<|qb ?_;simp only[beq_self_eq_true,if_true];refine qa<|qb ?_;unfold Builtin.Dict.mergeDict;rw[if_neg (by simpa using nd)];unfold Builtin.Dict.showsAll;rw[if_neg (by rw[hdS]; exact qf)];refine qa<|qb ?_;refine qa<|wpAny_dictEntries ff hd ?_;cases ne:es.isEmpty with
 | true=>
  have e0:es=#[]:=Array.isEmpty_iff.mp ne;subst e0;have fw:(decide ((#[]:Array DictEntry).size<=8) && (#[]:Array DictEntry).all λe=>(keyPart e.key).isSome)=true:=by rw[<-Array.all_toList]; rfl
  simp only[fw,Bool.not_true,Bool.false_eq_true,if_false];refine qa<|wpAny_dictEpoch (s:={s with heap:=h1}) ff hd ?_;refine qa<|wpAny_dictEntries (s:={s with heap:=h1}) ff hd ?_;refine qa ?_;rw[Std.Legacy.Range.forIn_eq_forIn_range'];simp only[Std.Legacy.Range.size,Nat.sub_zero,Nat.add_sub_cancel,Nat.div_one,Array.size_empty,List.range'_zero,List.forIn_nil];refine qb<|qb ?_;exact qa<|qb<|qb ⟨rfl,h h1 ⟨_,0,hn,⟨rfl,rfl,rfl⟩,rfl⟩ kk⟩
 | false=>
  have fw:=Q5 ne λe he=>let ⟨b,eb,_⟩:=hk e he; ⟨b,eb⟩;simp only[fw,Bool.not_false,if_true];refine qa<|wpAny_dictEntries hn rfl ?_;simp only[Array.isEmpty_empty,if_true];refine qa<|zlI (s:={s with heap:=h1}) ff hd (λe he=>?_) hh ?_
  .have(b,eb,o2,eo,ec):=hk e he
   exact⟨b,eb,o2,kk _ _ eo,ec⟩
  simp only[ne,Bool.not_false,if_true];refine qa<|wpAny_updateDictKeysTo hn rfl ?_ (by show es.size<=_; omega);refine qb<|qa<|qb<|qb ⟨rfl,h _ ⟨_,_,é _ hn rfl,⟨rfl,rfl,rfl⟩,rfl⟩ λb u e=>?_⟩;exact((Ñ ..).2 b<|qj<|qh e).trans<|kk b u e
end
def hK:Key->Int
 | .inl i=>hashInt i
 | .inr _=>0
def hT(ks:Qa Key):Int:=reduceHash (Builtin.Tuple.tupleHashOf<|ks.map hK)
def Dg(ks:Qa Key):Bool:=ks.all λk=>match k with | .inl _=>true | .inr _=>false
def rX(Pn:Qa (Qa Key)):Bool:=Pn.all Dg && decide ((Pn.map hT).Nodup)
theorem zBp:∀ {ks:Qa Key},Dg ks=true->(tupleKind<|zW P w).hash ks=hT ks:=λ{ks} h=>by
 show reduceHash (Builtin.Tuple.tupleHashOf<|ks.map<|OX w)=_;unfold hT;congr 2;refine Ã λk hk=>?_;have:=ä.mp h k hk;cases k with
 | inl i=>rfl
 | inr x=>cases this
theorem znf{es:Qa DictEntry}(hn:(es.map (·.hash)).Nodup){e:DictEntry}(he:e∈es):(es.filter (·.hash==e.hash)).length<=1:=by
 induction es with
 | nil=>cases he
 | cons x es ih=>
  rw[List.map_cons,List.nodup_cons]at hn;rw[List.filter_cons];rcases qu.mp he with rfl|PK
  .rw[if_pos (by simp)]
   have:es.filter (·.hash==e.hash)=[]:=List.filter_eq_nil_iff.mpr λy hy z=>hn.1<|À.mpr ⟨y,hy,by simpa using z⟩;rw[this];simp
  .have:¬((x.hash==e.hash)=true):=λz=>hn.1<|À.mpr ⟨e,PK,by simpa using (beq_iff_eq.mp z).symm⟩
   rw[if_neg this];exact ih hn.2 PK
section
variable{X:Cx}
theorem U2{l:Qa (Qa Key×V)}{m:Qa (Qa Key×Qg×Qc)}(r:KT X.K H l m):m.map (·.1)=l.map (·.1):=by
 induction r with
 | nil=>rfl
 | cons hq t ih=>rw[List.map_cons,List.map_cons,ih,hq.1]
theorem U1(I:Inv X pins σ H s)(e:Rd H a (.dT kvs))(hh:rX (kvs.map (·.1))=true)(h:∀ p s',H p=none->Inv X pins σ (upd H p<|.dT kvs) s'->Q (.ref p) s'):wpAny (model X.prog X.w) A (call (.type "dict") [.ref a]) Q E s:=by
 have(z,y,xs,r,o,es,ep,h1,h2,h3,h4,h5):=(show bR X.prog X.w X.K H s.heap a (.dT kvs) from D5 I.aw e);have(_,_,sJ,r',dd):=pI I.bN I.aw e;have hlen:es.size=kvs.length:=by
  have:=congrArg List.length h4;rw[Array.length_toList,List.length_map,<-wQ r]at this;exact this
 have(hi,hn):=Bool.and_eq_true_iff.mp hh;have hn:=of_decide_eq_true hn;have lE:=U2 r;have hashes:es.toList.map (·.hash)=(kvs.map (·.1)).map hT:=by
  rw[h4,<-lE,List.map_map,List.map_map];refine Ã λx hx=>?_;exact zBp<|ä.mp hi x.1 (by rw[<-lE]; exact À.mpr ⟨x,hx,rfl⟩)
 refine zi4 y h1 h2 h3 (by omega) (λq hq=>?_) (λq hq=>?_) λh' ⟨o',dM,n1,n2,n3⟩ kk=>?_
 .rw[h4]at hq
  have(x,hx,rfl):=À.mp hq;have key:∀ {l:Qa (Qa Key×V)} {m:Qa (Qa Key×Qg×Qc)},KT X.K H l m->∀ x∈m,aV X.K H x.2.1 (x.1.map kV):=by
   intro l m q
   induction q with
   | nil=>intro x hx; cases hx
   | cons hq _ ih=>
    intro x hx;rcases qu.mp hx with e|hx
    .subst e
     rw[<-hq.1];exact hq.2.1
    .exact ih x hx
  exact⟨x.2.1,rfl,(pN I.bN I.aw<|key r x hx).typeIs⟩
 .rw[<-hashes]at hn
  have:=znf hn hq;rw[<-Array.length_toList,Array.toList_filter];omega
 .refine h _ _ (I.aw.fresh<|qe _) (I.laid (a:=s.heap.objs.size) (o:=.dT kvs) (t':=s.toks) kk (qe _) ⟨z,beq_eq_false_iff_ne.mpr<|Ne.symm<|qj I.yn,xs,?_,o',es,dM,n1,n2,n3,h4,h5⟩)
  exact KT.keeps r λb ys hb=>by rw[zy (λz=>by rw[z,I.aw.fresh<|qe _]at hb; cases hb)]; exact hb
theorem Z9:e8 X (.type "dict") (λxs H Q=>∃ a kvs,xs=[.ref a]/\Rd H a (.dT kvs)/\rX (kvs.map (·.1))=true/\∀ p,H p=none->Q (.ref p) (upd H p<|.dT kvs)):=by
 intro pins s σ H xs us Q I r h;have(a,kvs,rfl,hr,hh,q):=h;have(u,rfl,ru):=ju r;cases ru;exact U1 I hr hh λp s' hp I'=>⟨.ref p,_,I',rfl,q p hp⟩
end
def rG:Qa (D×D)->Qb (Qa<|Qa Key×D)
 | []=>some []
 | (k,d)::r=>(cO k).bind λk=>(rG r).bind λr=>some<|(k,d)::r
def zev:U->Qb U
 | .t kvs=>if rX (kvs.map (·.1))=true then some (.t kvs)else none
 | .d (.dict kvs)=>if hU kvs=true then(rG kvs).bind λkvs=>if rX (kvs.map (·.1))=true then some (.t kvs)else none else none
 | _=>none
section
theorem LU{ws:Qa (Qa Key×V)}{kvs:Qa (Qa Key×D)}(h:dP K H ws kvs):ws.map (·.1)=kvs.map (·.1):=by
 induction h with
 | nil=>rfl
 | cons hq t ih=>rw[List.map_cons,List.map_cons,ih,hq.1]
theorem Fv:∀ {kvs:Qa (D×D)} {ws:Qa (Qa Key×V)} {r:Qa (Qa Key×D)},gO K H ws kvs->rG kvs=some r->dP K H ws r
 | [],ws,r,h,e=>by cases h; cases e; exact .nil
 | (k,d)::kvs,ws,r,h,e=>by
  have(k',ek,e):=zb (show(cO k).bind _=some r from e);have(r',er,e):=zb e;cases e;cases h with
  | @cons k2 v _ vs ds hv t=>
   rw[Bc]at ek;cases ek;exact .cons ⟨rfl,hv⟩<|Fv t er
theorem Yz:VC K (λxs H Q=>∃ a kvs,xs=[.ref a]/\Rd H a (.dT kvs)/\rX (kvs.map (·.1))=true/\∀ p,H p=none->Q (.ref p) (upd H p<|.dT kvs)) (f1 zev):=ph λv a u H Q h e q=>by
 unfold zev at e;split at e
 .split at e
  rotate_left
  .cases e
  rename_i kvs hh;cases e;have(b,ws,rfl,h1,h2):=h;refine⟨b,ws,rfl,.inl h1,by rw[LU h2]; exact hh,λp hp=>?_⟩;have sm:=zL hp (.dT ws);exact q _ _ sm ⟨p,ws,rfl,zw,h2.kp sm.kp⟩ λ_=>⟨p,rfl,hp⟩
 .split at e
  rotate_left
  .cases e
  rename_i nx;have(r,er,e):=zb e;split at e
  rotate_left
  .cases e
  rename_i hh;cases e;have(b,o,ws,rfl,h1,h2):=DF.bT h nx;have kd:=Fv h2 er;refine⟨b,ws,rfl,.inr ⟨o,h1⟩,by rw[LU kd]; exact hh,λp hp=>?_⟩;have sm:=zL hp (.dT ws);exact q _ _ sm ⟨p,ws,rfl,zw,kd.kp sm.kp⟩ λ_=>⟨p,rfl,hp⟩
 .cases e
end
def Aa(i j:Int):Prop:=i.natAbs.log2 < 1000000/\j.natAbs.log2 < 1000000
theorem LS{n:Int}(h:n.natAbs.log2 < 1000000):Builtin.Int.intBits n<=2^20:=by
 refine intBits_le ?_
 by_cases z:n.natAbs=0
 .rw[z]; exact Nat.two_pow_pos _
 .exact qi ((Nat.log2_lt z).mp h) (Ç (by decide) (by decide))
section
variable{X:Cx}
theorem jy:bH X (binaryOp .Mult) (rI Aa λi j=>.int<|i * j):=qC λ_ _ _ _ _ _ _ hc q=>mul_int q<|IntMulOk.of_bits (LS hc.1)<|LS hc.2
end
section
def iw:=jS Aa λi j=>.int<|i * j
theorem jx:VO K (rI Aa λi j=>.int<|i * j) iw:=pG λi j H=>.int _
def y9:Qa U->Qb U
 | [.d<|.int i,.d<|.int j]=>some<|.d<|.int (if j < i then j else i)
 | _=>none
theorem U0:VC K (λxs H Q=>∃ i j,xs=[.int i,.int j]/\Q (.int (if j < i then j else i)) H) y9:=by
 intro vs us u H Q hr e q;unfold y9 at e;split at e
 .rename_i i j
  cases e;cases hr with
  | cons h1 t=>
   cases t with
   | cons h2 t=>
    cases t;cases DF.int_inv h1;cases DF.int_inv h2;exact⟨i,j,rfl,q _ _ (λ_ _ z=>z) (.int _) Nw.data⟩
 .cases e
end
section
variable{ρ:En}{me ma mb mc mk mi md my mv mx mo:ME}{mA mK:MA}{mt mu:MT}{mI:MI}{mg:MG}{m1 m2:MS}{u:U}{x:D}
variable{QE:Ar×En->Prop}{QI:Qa D×En->Prop}
theorem zlL:Wo (kU md my mx ρ) QE=Wo (md ρ) (Co (λp=>(p.1.get p.2).bind λu0=>if rH u0=true then(my p.2).bind λq=>(mx q.2).bind λz=>(p.1.get z.2).bind λu=>(q.1.get z.2).bind λy=>(z.1.get z.2).bind λx=>(kF u y).bind λo=>x.da.bind λx=>some (.u<|.d<|o.getD x,z.2)else none) ⟨0⟩ QE):=by
 have e:kU md my mx ρ=(md ρ).bind λp=>(p.1.get p.2).bind λu0=>if rH u0=true then(my p.2).bind λq=>(mx q.2).bind λz=>(p.1.get z.2).bind λu=>(q.1.get z.2).bind λy=>(z.1.get z.2).bind λx=>(kF u y).bind λo=>x.da.bind λx=>some (.u<|.d<|o.getD x,z.2)else none:=by
  unfold kU;refine bind_fn λp=>bind_fn λu0=>?_;split
  .refine bind_fn λq=>bind_fn λz=>bind_fn λu=>bind_fn λy=>bind_fn λx=>bind_fn λo=>?_
   cases x<;>rfl
  .rfl
 rw[e,zq]
theorem WV:Wo (yG mA ρ) QI=Wo (mA ρ) (Co (λp=>(bt p.2 p.1).bind λus=>(vK us).bind λds=>some (ds,p.2)) ⟨0⟩ QI):=by
 show Wo (Option.bind _ _) QI=_;rw[zq]
theorem ZK{kvs:Qa (Qa Key×D)}:rH (.t kvs)=true:=rfl
theorem WU{a:Int}(h:0<=b):CN (.d<|.int a) (.d<|.int b)=some (.d<|.int<|a / 2^b.toNat):=pE (c:=λ_ j=>0<=j) h
theorem WT{a:Int}:y9 [.d<|.int a,.d<|.int b]=some (.d<|.int (if b < a then b else a)):=rfl
theorem jz{a:Int}(h:a.natAbs.log2 < 1000000)(h2:b.natAbs.log2 < 1000000):iw (.d<|.int a) (.d<|.int b)=some (.d<|.int<|a * b):=pE (c:=Aa) ⟨h,h2⟩
theorem ZJ{a:Int}:CM (.d<|.int a) (.d<|.int 1)=some (.d<|.int<|a % 2):=by
 show some (U.d<|.int<|Builtin.bitAnd a 1)=_;rw[bitAnd_m1]
theorem Es{g:α->D}{b:α->Bool}{e:α->D}{Q:Qa D×En->Prop}(hz:as.length<=sizeLine)
  (st:∀ a∈as,∀ ys,Wo (mg (g a) ρ)<|Co mt ⟨0⟩<|vk nt me ys λao zs=>ao=ρ/\zs=if b a=true then ys++[e a]else ys) (q:Q ((as.filter b).map e,ρ)):Wo (iB nt mg mt me (as.map g) ρ []) Q:=by
 refine Ji (λi ao ys=>ao=ρ/\ys=((as.take i).filter b).map e) (by rw[List.length_map]; exact hz) (λi ao ys h=>?_) ⟨rfl,rfl⟩ (λi d ao ys hd h=>?_) λao ys h=>?_
 .rw[h.2,List.length_map]
  exact qx (ö _ _) (by rw[List.length_take]; exact Nat.min_le_left _ _)
 .have(rfl,rfl):=h
  rw[List.getElem?_map]at hd;have(a,ha,rfl):=qq.mp hd;have:=st a (Æ ha) (((as.take i).filter b).map e);have en:((as.take<|i+1).filter b).map e=if b a=true then((as.take i).filter b).map e++[e a]else((as.take i).filter b).map e:=by
   rw[List.take_succ,ha,List.filter_append,List.map_append];show _++(([a]:Qa α).filter b).map e=_;rw[List.filter_cons];split<;>simp
  rw[en];exact this
 .have(rfl,rfl):=h
  rw[List.length_map,List.take_of_length_le<|qe _];exact q
end
section
variable{X:Cx}
end
end L2
namespace L2
open PySem
def lY(n d:Int):Int:=(if d < 0 then -n else n) / (Int.gcd n d:Nat)
def kE(n d:Int):Int:=(if d < 0 then -d else d) / (Int.gcd n d:Nat)
theorem Yy{n d:Int}(hd:d≠0):lY n d * d=n * kE n d/\1<=kE n d/\Int.gcd (lY n d) (kE n d)=1/\kE n d<=d.natAbs/\(lY n d).natAbs<=n.natAbs:=by
 have hg:0 < Int.gcd n d:=ø n hd;have(u,hu):=Int.gcd_dvd_left n d;have(v,hv):=Int.gcd_dvd_right n d;have Cq:(0:Int) < (Int.gcd n d:Nat):=Int.natCast_pos.mpr hg;have hc:Int.gcd (n / (Int.gcd n d:Nat)) (d / (Int.gcd n d:Nat))=1:=Int.gcd_ediv_gcd_ediv_gcd hg;unfold lY kE;generalize (Int.gcd n d:Nat)=g at *;have Cs:(g:Int)≠0:=by omega
 have eu:n / (g:Int)=u:=by rw[hu]; exact í u Cs
 have ev:d / (g:Int)=v:=by rw[hv]; exact í v Cs
 have P0:(-n) / (g:Int)=-u:=by rw[hu,<-Int.mul_neg]; exact í (-u) Cs
 have tX:(-d) / (g:Int)=-v:=by rw[hv,<-Int.mul_neg]; exact í (-v) Cs
 rw[eu,ev]at hc;have g1:1<=g:=hg;have an:n.natAbs=g * u.natAbs:=by rw[hu,Int.natAbs_mul]; rfl
 have ad:d.natAbs=g * v.natAbs:=by rw[hv,Int.natAbs_mul]; rfl
 have lu:u.natAbs<=n.natAbs:=by rw[an]; exact Nat.le_mul_of_pos_left _ hg
 have lv:v.natAbs<=d.natAbs:=by rw[ad]; exact Nat.le_mul_of_pos_left _ hg
 by_cases c:d < 0
 .rw[if_pos c,if_pos c,P0,tX]
  have hv0:v < 0:=by
   rcases(by omega:v < 0\/0<=v)with z|z
   .exact z
   .have:=Int.mul_nonneg (Ö Cq) z
    omega
  refine⟨?_,by omega,?_,by omega,by omega⟩
  .rw[hu,hv]
   simp only[Int.neg_mul,Int.mul_neg,Int.neg_inj]
   ac_rfl
  .rw[Int.neg_gcd,Int.gcd_neg]
   exact hc
 .rw[if_neg c,if_neg c,eu,ev]
  have hv0:0 < v:=by
   rcases(by omega:0 < v\/v<=0)with z|z
   .exact z
   .have:=Int.mul_nonneg (Ö Cq) (show 0<=-v by omega)
    rw[Int.mul_neg,<-hv]at this;omega
  refine⟨?_,by omega,hc,by omega,by omega⟩;rw[hu,hv]
  ac_rfl
theorem WS{n d N D:Int}(hd:d≠0)(h1:1<=D)(hc:Int.gcd N D=1)(he:N * d=n * D):N=lY n d/\D=kE n d:=by
 have(e,y1,c,_,_):=Yy (n:=n) hd;generalize lY n d=x at *;generalize kE n d=y at *;have k:N * y=x * D:=by
  have z:(N * y) * d=(x * D) * d:=by grind
  exact ü hd z
 have d1:D∣y:=by
  have t:D∣N * y:=⟨x,by rw[k]; ac_rfl⟩;have u:=ç.mpr t;rw[Int.gcd_comm,hc]at u;simpa using u
 have d2:y∣D:=by
  have t:y∣x * D:=⟨N,by rw[<-k]; ac_rfl⟩;have u:=ç.mpr t;rw[Int.gcd_comm,c]at u;simpa using u
 have l1:=Int.le_of_dvd (by omega) d1;have l2:=Int.le_of_dvd (by omega) d2;have e2:D=y:=by omega
 refine⟨?_,e2⟩;rw[e2]at k;exact ü (by omega) k
theorem LR(n d:Int){g:Int}(hg:0 < g):n.fdiv (if d < 0 then 0 - g else g)=(if d < 0 then -n else n) / g:=by
 split
 .rw[Int.zero_sub,<-Int.fdiv_eq_ediv_of_nonneg _ (Int.le_of_lt hg)]
  have:=Int.neg_fdiv_neg (-n) g;rw[Int.neg_neg]at this;exact this
 .rw[Int.fdiv_eq_ediv_of_nonneg _<|Int.le_of_lt hg]
theorem WR(x y:Int):Int.gcd (if x < 0 then -x else x) (if y < 0 then -y else y)=Int.gcd x y:=by
 rw[Fh];split
 .exact Int.gcd_neg
 .rfl
theorem UZ{n d:Int}(hd:d≠0):lY n d=(Rat.divInt n d).num/\kE n d=((Rat.divInt n d).den:Int):=by
 have h:=WS (n:=n) (d:=d) (N:=(Rat.divInt n d).num) (D:=((Rat.divInt n d).den:Int)) hd (by have:=(Rat.divInt n d).den_pos; omega) (by
  have:=(Rat.divInt n d).reduced;exact this) (by
  have e:Rat.divInt (Rat.divInt n d).num ((Rat.divInt n d).den:Int)=Rat.divInt n d:=Rat.num_divInt_den _;rw[Rat.divInt_eq_divInt_iff (by have:=(Rat.divInt n d).den_pos; omega) hd]at e;rw[e])
 exact⟨h.1.symm,h.2.symm⟩
def fR(r:Rat):D:=.tuple [.int r.num,.int (r.den:Int)]
theorem JH{n d:Int}(hd:d≠0):PyData.tuple [.int<|lY n d,.int<|kE n d]=fR (Rat.divInt n d):=by
 have(e1,e2):=UZ (n:=n) hd;rw[e1,e2];rfl
theorem jY(r:Rat):1<=(r.den:Int):=by have:=r.den_pos; omega
theorem P7(r:Rat):Int.gcd r.num (r.den:Int)=1:=by
 have:=r.reduced;exact this
theorem UY(a b:Rat):Rat.divInt (a.num * b.den+b.num * a.den) ((a.den:Int) * b.den)=a+b:=by
 rw[Rat.add_def',<-Rat.divInt_ofNat,Int.natCast_mul]
theorem UX(a b:Rat):Rat.divInt (a.num * b.num) ((a.den:Int) * b.den)=a * b:=by
 rw[Rat.mul_def',<-Rat.divInt_ofNat,Int.natCast_mul]
theorem Fu(r:Rat):r * (r.den:Rat)=(r.num:Rat):=by
 have e:(r.num:Rat) / ((r.den:Int):Rat)=r:=by rw[<-Rat.divInt_eq_div]; exact Rat.num_divInt_den r
 have n:((r.den:Int):Rat)≠0:=λh=>by
  have:=Rat.intCast_inj.mp (show((r.den:Int):Rat)=((0:Int):Rat) from h);have:=r.den_pos;omega
 have:=Rat.div_mul_cancel (a:=(r.num:Rat)) n;rw[e]at this;exact this
def Bd(M B:Nat)(r:Rat):Prop:=∃ k:Int,r * (M:Rat)=(k:Rat)/\k.natAbs<=B
section
variable{N C:Nat}{r s:Rat}
theorem Bd.le(h:Bd M B r)(c:B<=C):Bd M C r:=let ⟨k,e,b⟩:=h; ⟨k,e,qx b c⟩
theorem Bd.size(hM:0 < M)(h:Bd M B r):r.den<=M/\r.num.natAbs<=B:=by
 have(k,e,b):=h;have e2:r.num * (M:Int)=k * (r.den:Int):=by
  have h1:=Fu r;have h2:((r.num * (M:Int):Int):Rat)=((k * (r.den:Int):Int):Rat):=by
   rw[Rat.intCast_mul,Rat.intCast_mul,<-h1,<-e,Rat.intCast_natCast,Rat.intCast_natCast,Rat.mul_assoc,Rat.mul_assoc,Rat.mul_comm (r.den:Rat)]
  exact Rat.intCast_inj.mp h2
 have dv:(r.den:Int)∣(M:Int):=by
  have t:(r.den:Int)∣r.num * (M:Int):=⟨k,by rw[e2,Int.mul_comm]⟩;have u:=ç.mpr t;rw[Int.gcd_comm,P7]at u;simpa using u
 have(c,hc):=dv;have dp:(0:Int) < r.den:=by have:=r.den_pos; omega
 have c0:0 < c:=by
  rcases(by omega:0 < c\/c<=0)with z|z
  .exact z
  .have:=Int.mul_nonneg (Ö dp) (show 0<=-c by omega)
   rw[Int.mul_neg,<-hc]at this;omega
 have ek:k=r.num * c:=by
  rw[hc]at e2;have:k * (r.den:Int)=(r.num * c) * (r.den:Int):=by rw[<-e2]; ac_rfl
  exact ü (by omega) this
 constructor
 .have:(r.den:Int) * 1<=(r.den:Int) * c:=Int.mul_le_mul_of_nonneg_left (by omega) (by omega)
  omega
 .rw[ek,Int.natAbs_mul]at b
  exact qx (Nat.le_mul_of_pos_right _ (by omega)) b
theorem Bd.add(h:Bd M B r)(h':Bd M C s):Bd M (B+C) (r+s):=by
 have(k,e,b):=h;have(l,f,c):=h';exact⟨k+l,by rw[Rat.add_mul,e,f,Rat.intCast_add],qx (Int.natAbs_add_le _ _)<|Nat.add_le_add b c⟩
theorem Bd.mul(h:Bd M B r)(h':Bd N C s):Bd (M * N) (B * C) (r * s):=by
 have(k,e,b):=h;have(l,f,c):=h';refine⟨k * l,?_,by rw[Int.natAbs_mul]; exact ù b c⟩;rw[Rat.intCast_mul,<-e,<-f,Rat.natCast_mul];grind
theorem Bd.neg(h:Bd M B r):Bd M B (-r):=by
 have(k,e,b):=h;exact⟨-k,by rw[Rat.neg_mul,e,Rat.intCast_neg],by rw[Int.natAbs_neg]; exact b⟩
theorem Bd.zero:Bd M B 0:=⟨0,by rw[Rat.zero_mul]; rfl,É _⟩
theorem Bd.wide(h:Bd M B r)(c:Nat):Bd (M * c) (B * c) r:=by
 have(k,e,b):=h;refine⟨k * c,?_,by rw[Int.natAbs_mul,Int.natAbs_natCast]; exact È _ b⟩;rw[Rat.intCast_mul,<-e,Rat.natCast_mul,Rat.intCast_natCast,Rat.mul_assoc]
theorem Bd.one:Bd 1 1 1:=⟨1,by rw[Rat.one_mul]; rfl,qe _⟩
end
abbrev Pq(α:Type):=Qa (Qa Int×α)
section
def look(p:Pq α)(k:Qa Int):Qb α:=(p.find? λt=>decide<|t.1=k).map (·.2)
def bD(p:Pq α)(k:Qa Int)(x:α):Pq α:=if(p.any λt=>decide<|t.1=k)=true then p.map (λt=>if t.1=k then(t.1,x)else t)else p++[(k,x)]
def aP(p:Pq α):Prop:=(p.map (·.1)).Nodup
theorem sI{p:Pq α}{k:Qa Int}:look p k=none↔(p.any λt=>decide<|t.1=k)=false:=by
 induction p with
 | nil=>simp[look]
 | cons t p ih=>
  unfold look at ih ⊢;rw[List.find?_cons,List.any_cons]
  by_cases h:t.1=k
  .simp[h]
  .rw[decide_eq_false h,Bool.false_or]
   exact ih
theorem WQ{p:Pq α}{k:Qa Int}:(look p k).isSome=(p.any λt=>decide<|t.1=k):=by
 cases h:look p k with
 | none=>rw[sI.mp h]; rfl
 | some x=>
  cases z:(p.any λt=>decide<|t.1=k)with
  | true=>rfl
  | false=>rw[sI.mpr z]at h; cases h
theorem Xo(p:Pq α)(k:Qa Int)(x:α):(bD p k x).map (·.1)=if(p.any λt=>decide<|t.1=k)=true then p.map (·.1)else p.map (·.1)++[k]:=by
 unfold bD;split
 .rw[List.map_map]
  refine Ã λt _=>?_;show(if t.1=k then(t.1,x)else t).1=t.1;split<;>rfl
 .rw[List.map_append]
  rfl
theorem A4{p:Pq α}{k:Qa Int}{x:α}{t:Qa Int×α}(h:t∈bD p k x):(t∈p/\t.1≠k)\/t=(k,x):=by
 unfold bD at h;split at h
 .have(u,hu,rfl):=À.mp h
  by_cases c:u.1=k
  .rw[if_pos c]; exact .inr (by rw[c])
  .rw[if_neg c]; exact .inl ⟨hu,c⟩
 .rename_i hn
  rcases Ì.mp h with z|z
  .exact .inl ⟨z,λe=>hn<|ì.mpr ⟨t,z,decide_eq_true e⟩⟩
  .exact .inr (qp.mp z)
theorem aP.put{p:Pq α}(h:aP p)(k:Qa Int)(x:α):aP (bD p k x):=by
 unfold aP;rw[Xo];split
 .exact h
 .rename_i hn
  refine List.nodup_append.mpr ⟨h,by simp,λa ha b hb=>?_⟩;have:b=k:=by simpa using hb
  rw[this];have(t,ht,rfl):=À.mp ha;exact λe=>hn<|ì.mpr ⟨t,ht,decide_eq_true e⟩
theorem E5(p:Pq α)(k:Qa Int)(x:α):(bD p k x).length<=p.length+1:=by
 unfold bD;split
 .rw[List.length_map]; omega
 .rw[qr]; exact qe _
def aR[Add α][Zero α](acc:Pq α)(ts:Pq α):Pq α:=ts.foldl (λa t=>bD a t.1<|(look a t.1).getD 0+t.2) acc
end
section
variable[Add α][Zero α]
theorem pK(ts:Pq α):∀ {acc:Pq α},aP acc->aP (aR acc ts):=by
 induction ts with
 | nil=>exact λh=>h
 | cons t ts ih=>exact λh=>ih<|h.put _ _
theorem pQ(ts:Pq α):∀ (acc:Pq α),(aR acc ts).length<=acc.length+ts.length:=by
 induction ts with
 | nil=>intro acc; exact qe _
 | cons t ts ih=>
  intro acc;have h1:=ih (bD acc t.1<|(look acc t.1).getD 0+t.2);have h2:=E5 acc t.1 ((look acc t.1).getD 0+t.2);rw[qt];show(aR (bD acc t.1<|(look acc t.1).getD 0+t.2) ts).length<=_;omega
theorem Br(acc ts:Pq α)(t:Qa Int×α):aR acc (ts++[t])=bD (aR acc ts) t.1 ((look (aR acc ts) t.1).getD 0+t.2):=by
 unfold aR;rw[List.foldl_append];rfl
theorem Bq{Pk:Qa Int->Prop}(ts:Pq α):∀ {acc:Pq α},(∀ t∈acc,Pk t.1)->(∀ t∈ts,Pk t.1)->∀ t∈aR acc ts,Pk t.1:=by
 induction ts with
 | nil=>exact λh _=>h
 | cons t ts ih=>
  intro acc h1 h2;refine ih (acc:=bD acc t.1 _) (λu hu=>?_) λu hu=>h2 u<|qm _ hu;rcases A4 hu with⟨z,_⟩|rfl
  .exact h1 u z
  .exact h2 t qo
end
theorem FJ{p:Pq α}{k:Qa Int}{x:α}(h:look p k=some x):(k,x)∈p:=by
 unfold look at h;have(t,ht,rfl):=qq.mp h;have h1:=List.mem_of_find?_eq_some ht;have h2:t.1=k:=by simpa using List.find?_some ht
 rw[<-h2];exact h1
theorem nV{p:Pq α}(nd:aP p){t:Qa Int×α}(h:t∈p):look p t.1=some t.2:=by
 induction p with
 | nil=>cases h
 | cons u p ih=>
  have kA:u.1∉p.map (·.1)/\aP p:=Û.mp nd;unfold look at ih ⊢;rw[List.find?_cons];rcases qu.mp h with rfl|h
  .rw[decide_eq_true rfl]; rfl
  .rw[decide_eq_false λe=>kA.1<|List.mem_map.mpr ⟨t,h,e.symm⟩]
   exact ih kA.2 h
def aM(p:Pq Rat)(g:Qa Int->Rat):Rat:=(p.map λt=>t.2 * g t.1).sum
theorem fA(g:Qa Int->Rat):aM [] g=0:=rfl
theorem zC(t:Qa Int×Rat)(p:Pq Rat)(g:Qa Int->Rat):aM (t::p) g=t.2 * g t.1+aM p g:=rfl
theorem KU(p q:Pq Rat)(g:Qa Int->Rat):aM (p++q) g=aM p g+aM q g:=by
 induction p with
 | nil=>rw[List.nil_append,fA,Rat.zero_add]
 | cons t p ih=>rw[List.cons_append,zC,zC,ih,Rat.add_assoc]
theorem Bp{p q:Pq Rat}(h:p.Perm q)(g:Qa Int->Rat):aM p g=aM q g:=by
 induction h with
 | nil=>rfl
 | cons t _ ih=>rw[zC,zC,ih]
 | swap t u p=>rw[zC,zC,zC,zC]; grind
 | trans _ _ i1 i2=>exact i1.trans i2
theorem Er(p:Pq Rat)(g:Qa Int->Rat):aM (p.filter λt=>decide<|t.2≠0) g=aM p g:=by
 induction p with
 | nil=>rfl
 | cons t p ih=>
  rw[List.filter_cons]
  by_cases h:t.2=0
  .rw[if_neg (by simp[h]),zC,h,ih]; grind
  .rw[if_pos (by simp[h]),zC,zC,ih]
theorem Xn{p:Pq Rat}(nd:aP p){k:Qa Int}{x:Rat}(h:look p k=some x)(y:Rat)(g:Qa Int->Rat):aM (p.map λt=>if t.1=k then(t.1,x+y)else t) g=aM p g+y * g k:=by
 induction p with
 | nil=>cases h
 | cons t p ih=>
  have kA:t.1∉p.map (·.1)/\aP p:=Û.mp nd;rw[List.map_cons,zC,zC]
  by_cases c:t.1=k
  .have e:p.map (λt=>if t.1=k then(t.1,x+y)else t)=p:=by
    have:∀ u∈p,(λt:Qa Int×Rat=>if t.1=k then(t.1,x+y)else t) u=id u:=λu hu=>if_neg λz=>kA.1<|À.mpr ⟨u,hu,z.trans c.symm⟩;rw[List.map_congr_left this,List.map_id]
   have ex:t.2=x:=by
    unfold look at h;rw[List.find?_cons,decide_eq_true c]at h;exact qw h
   rw[e,if_pos c,ex,c];grind
  .have h':look p k=some x:=by
    unfold look at h ⊢;rw[List.find?_cons,decide_eq_false c]at h;exact h
   rw[if_neg c,ih kA.2 h'];grind
theorem UW{p:Pq Rat}(nd:aP p)(k:Qa Int)(y:Rat)(g:Qa Int->Rat):aM (bD p k<|(look p k).getD 0+y) g=aM p g+y * g k:=by
 unfold bD;cases h:look p k with
 | none=>
  rw[if_neg (by rw[sI.mp h]; exact qf),KU,zC,fA,Option.getD_none];grind
 | some x=>
  rw[if_pos (by rw[<-WQ,h]; rfl),Option.getD_some];exact Xn nd h y g
theorem A3(ts:Pq Rat)(g:Qa Int->Rat):∀ {acc:Pq Rat},aP acc->aM (aR acc ts) g=aM acc g+aM ts g:=by
 induction ts with
 | nil=>intro acc _; rw[fA,Rat.add_zero]; rfl
 | cons t ts ih=>
  intro acc nd;show aM (aR (bD acc t.1 _) ts) g=_;rw[ih<|nd.put _ _,UW nd,zC,Rat.add_assoc]
def vi(a b:Qa Int×α):Prop:=de a.1 b.1=true
def ins(x:Qa Int×α):Pq α->Pq α
 | []=>[x]
 | y::l=>if de x.1 y.1=true then x::y::l else y::ins x l
def gF:Pq α->Pq α
 | []=>[]
 | x::l=>ins x<|gF l
theorem FI(x:Qa Int×α):∀ l:Pq α,(ins x l).Perm<|x::l
 | []=>.refl _
 | y::l=>by
  unfold ins;split
  .exact .refl _
  .exact((FI x l).cons y).trans (List.Perm.swap x y l)
theorem jE:∀ l:Pq α,(gF l).Perm l
 | []=>.refl _
 | x::l=>(FI x<|gF l).trans<|(jE l).cons x
theorem LQ(x:Qa Int×α):∀ {l:Pq α},l.Pairwise vi->(∀ y∈l,x.1≠y.1)->(ins x l).Pairwise vi
 | [],_,_=>by unfold ins; simp
 | y::l,h,ne=>by
  have(h1,h2):=Î.mp h;unfold ins;split
  .rename_i c
   refine Î.mpr ⟨λw hw=>?_,h⟩;rcases qu.mp hw with rfl|hw
   .exact c
   .exact uX c (h1 w hw)
  .rename_i c
   refine Î.mpr ⟨λw hw=>?_,LQ x h2 λw hw=>ne w<|qm _ hw⟩;rcases qu.mp ((FI x l).mem_iff.mp hw)with rfl|hw
   .exact(wI<|ne y qo).resolve_left c
   .exact h1 w hw
theorem uS:∀ {l:Pq α},aP l->(gF l).Pairwise vi
 | [],_=>.nil
 | x::l,nd=>by
  have kA:x.1∉l.map (·.1)/\aP l:=Û.mp nd;exact LQ x (uS kA.2) λy hy e=>kA.1<|À.mpr ⟨y,(jE l).mem_iff.mp hy,e.symm⟩
structure Nf (p:Pq Rat):Prop where
 st:p.Pairwise vi
 nz:∀ t∈p,t.2≠0
theorem E4{p:Pq Rat}{k:Qa Int}(h:∀ t∈p,t.1≠k):aM p (λe=>if e=k then 1 else 0)=0:=by
 induction p with
 | nil=>rfl
 | cons t p ih=>
  rw[zC,ih λu hu=>h u<|qm _ hu,if_neg<|h t qo];grind
theorem qE{a b:Qa Int×α}(h:vi a b):a.1≠b.1:=λe=>by
 unfold vi at h;rw[e,sC]at h;cases h
theorem Nf.tail{t:Qa Int×Rat}{p:Pq Rat}(h:Nf (t::p)):Nf p:=⟨(Î.mp h.st).2,λu hu=>h.nz u<|qm _ hu⟩
theorem Nf.fH{t:Qa Int×Rat}{p:Pq Rat}(h:Nf (t::p)):aM (t::p) (λe=>if e=t.1 then 1 else 0)=t.2:=by
 rw[zC,E4 λu hu e=>qE ((List.pairwise_cons.mp h.st).1 u hu) e.symm,if_pos rfl];grind
theorem E3:∀ {p q:Pq Rat},Nf p->Nf q->(∀ g,aM p g=aM q g)->p=q
 | [],[],_,_,_=>rfl
 | [],t::q,_,hq,h=>by
  have:=h λe=>if e=t.1 then 1 else 0;rw[hq.fH,fA]at this;exact absurd this.symm<|hq.nz t qo
 | t::p,[],hp,_,h=>by
  have:=h λe=>if e=t.1 then 1 else 0;rw[hp.fH,fA]at this;exact absurd this<|hp.nz t qo
 | t::p,u::q,hp,hq,h=>by
  have key:t.1=u.1:=by
   by_cases c:t.1=u.1
   .exact c
   .exfalso
    rcases wI c with z|z
    .have:=h λe=>if e=t.1 then 1 else 0
     rw[hp.fH,E4]at this
     .exact hp.nz t qo this
     .intro w hw e
      rcases qu.mp hw with rfl|hw
      .exact c e.symm
      .have:=uX z ((Î.mp hq.st).1 w hw)
       rw[e,sC]at this;cases this
    .have:=h λe=>if e=u.1 then 1 else 0
     rw[hq.fH,E4]at this
     .exact hq.nz u qo this.symm
     .intro w hw e
      rcases qu.mp hw with rfl|hw
      .exact c e
      .have:=uX z ((Î.mp hp.st).1 w hw)
       rw[e,sC]at this;cases this
  have val:t.2=u.2:=by
   have:=h λe=>if e=t.1 then 1 else 0;rw[hp.fH,key,hq.fH]at this;exact this
  have tl:∀ g,aM p g=aM q g:=λg=>by
   have:=h g;rw[zC,zC,key,val]at this;grind
  rw[E3 hp.tail hq.tail tl,Prod.ext key val]
def nz(p:Pq Rat):Pq Rat:=p.filter λt=>decide<|t.2≠0
theorem ID{p:Pq Rat}(h:aP p):aP (nz p):=h.sublist (List.filter_sublist.map _)
theorem B8:aP ([]:Pq Rat):=ã
def PB(M B:Nat)(p:Pq Rat):Prop:=∀ t∈p,Bd M B t.2
theorem E2{p:Pq Rat}(h:PB M B p)(k:Qa Int):Bd M B ((look p k).getD 0):=by
 cases e:look p k with
 | none=>exact Bd.zero
 | some x=>exact h _<|FJ e
theorem uJ(ts:Pq Rat):∀ {C:Nat} {acc:Pq Rat},PB M C acc->PB M B ts->PB M (C+ts.length * B) (aR acc ts):=by
 induction ts with
 | nil=>intro C acc h _ t ht; exact(h t ht).le (by rw[List.length_nil]; omega)
 | cons t ts ih=>
  intro C acc h h' u hu;have hp:PB M (C+B) (bD acc t.1<|(look acc t.1).getD 0+t.2):=λv hv=>by
   rcases A4 hv with⟨z,_⟩|rfl
   .exact(h v z).le (by omega)
   .exact(E2 h _).add (h' t qo)
  exact(ih hp (λv hv=>h' v<|qm _ hv) u hu).le (by rw[qt,Nat.add_mul]; omega)
theorem GU:PB M B []:=λt ht=>by cases ht
def bp(a b:Qa Int):Qa Int:=List.zipWith (·+·) a b
def bC[Mul α](p q:Pq α):Pq α:=p.flatMap λs=>q.map λt=>(bp s.1 t.1,s.2 * t.2)
theorem Xm(s:Qa Int×Rat)(q:Pq Rat)(g:Qa Int->Rat):aM (q.map λt=>(bp s.1 t.1,s.2 * t.2)) g=s.2 * aM q λb=>g (bp s.1 b):=by
 induction q with
 | nil=>rw[List.map_nil,fA,fA,Rat.mul_zero]
 | cons t q ih=>rw[List.map_cons,zC,zC,ih]; grind
theorem UU(p q:Pq Rat)(g:Qa Int->Rat):aM (bC p q) g=aM p λa=>aM q λb=>g (bp a b):=by
 induction p with
 | nil=>rfl
 | cons s p ih=>
  show aM (_++bC p q) g=_;rw[KU,Xm,ih,zC]
theorem Yx{p:Pq Rat}{g h:Qa Int->Rat}(e:∀ t∈p,g t.1=h t.1):aM p g=aM p h:=by
 induction p with
 | nil=>rfl
 | cons t p ih=>rw[zC,zC,e t qo,ih λu hu=>e u<|qm _ hu]
theorem Yw(p:Pq Rat)(g:Qa Int->Rat)(c:Rat):(aM p λe=>c * g e)=c * aM p g:=by
 induction p with
 | nil=>rw[fA,fA,Rat.mul_zero]
 | cons t p ih=>rw[zC,zC,ih]; grind
theorem Bo[Mul α](p q:Pq α):(bC p q).length=p.length * q.length:=by
 induction p with
 | nil=>simp[bC]
 | cons s p ih=>
  show(_++bC p q).length=_;rw[qr,ih,List.length_map,qt,Nat.add_mul,Nat.one_mul,Nat.add_comm]
theorem E1[Mul α]{p q:Pq α}{t:Qa Int×α}(h:t∈bC p q):∃ u∈p,∃ v∈q,t=(bp u.1 v.1,u.2 * v.2):=by
 have(u,hu,h):=List.mem_flatMap.mp h;have(v,hv,rfl):=À.mp h;exact⟨u,hu,v,hv,rfl⟩
theorem UT{N C:Nat}{p q:Pq Rat}(h:PB M B p)(h':PB N C q):PB (M * N) (B * C) (bC p q):=λt ht=>by
 have(u,hu,v,hv,rfl):=E1 ht;exact(h u hu).mul<|h' v hv
def bL(c:Int)(p:Pq Int):Pq Rat:=p.map λt=>(t.1,Rat.divInt t.2 c)
theorem Xl(φ:α->β)(p:Pq α)(k:Qa Int):look (p.map λt=>(t.1,φ t.2)) k=(look p k).map φ:=by
 unfold look
 induction p with
 | nil=>rfl
 | cons t p ih=>
  rw[List.map_cons,List.find?_cons,List.find?_cons]
  by_cases h:t.1=k
  .rw[decide_eq_true h]; rfl
  .rw[decide_eq_false h]; exact ih
theorem US(φ:α->β)(p:Pq α)(k:Qa Int)(x:α):(bD p k x).map (λt=>(t.1,φ t.2))=bD (p.map λt=>(t.1,φ t.2)) k (φ x):=by
 have any:((p.map λt=>(t.1,φ t.2)).any λt=>decide<|t.1=k)=(p.any λt=>decide<|t.1=k):=by rw[List.any_map]; rfl
 unfold bD;rw[any];split
 .rw[List.map_map,List.map_map]
  refine Ã λt _=>?_;show(λt:Qa Int×α=>(t.1,φ t.2)) (if t.1=k then(t.1,x)else t)=if t.1=k then(t.1,φ x)else(t.1,φ t.2);split<;>rfl
 .rw[List.map_append]; rfl
theorem KS[Add α][Zero α][Add β][Zero β](φ:α->β)(h0:φ 0=0)(ha:∀ a b,φ (a+b)=φ a+φ b)(ts:Pq α):∀ acc:Pq α,(aR acc ts).map (λt=>(t.1,φ t.2))=aR (acc.map λt=>(t.1,φ t.2)) (ts.map λt=>(t.1,φ t.2)):=by
 induction ts with
 | nil=>intro acc; rfl
 | cons t ts ih=>
  intro acc;show(aR (bD acc t.1 _) ts).map _=aR (bD _ t.1 _) _;rw[ih,US,ha,Xl];cases look acc t.1 with
  | none=>rw[Option.getD_none,h0]; rfl
  | some x=>rfl
theorem KQ{c:Int}(hc:c≠0)(ts:Pq Int):bL c (aR [] ts)=aR [] (bL c ts):=KS (λk=>Rat.divInt k c) (Rat.zero_divInt c) (λa b=>by
 rw[Rat.divInt_eq_div,Rat.divInt_eq_div,Rat.divInt_eq_div,Rat.intCast_add,Rat.div_def,Rat.div_def,Rat.div_def,Rat.add_mul]) ts []
theorem RH{c:Int}(hc:c≠0)(p:Pq Int):nz (bL c p)=bL c (p.filter λt=>!decide (t.2=0)):=by
 unfold nz bL;rw[List.filter_map];congr 1;refine List.filter_congr λt _=>?_;show decide (Rat.divInt t.2 c≠0)=!decide (t.2=0);rw[Bool.eq_iff_iff,Bool.not_eq_true',decide_eq_false_iff_not,decide_eq_true_iff];refine not_congr ⟨λh=>?_,λh=>by rw[h]; exact Rat.zero_divInt c⟩;rw[<-Rat.zero_divInt c,Rat.divInt_eq_divInt_iff hc hc]at h;rcases Int.mul_eq_zero.mp (show t.2 * c=0 by omega)with z|z
 .exact z
 .exact absurd z hc
def iv(m:Nat)(r:Rat):Int:=r.num * ((m:Int) / (r.den:Int))
theorem Bd.dvd{r:Rat}(h:Bd M B r):r.den∣M:=by
 have(k,e,b):=h;have e2:r.num * (M:Int)=k * (r.den:Int):=by
  have h1:=Fu r;have h2:((r.num * (M:Int):Int):Rat)=((k * (r.den:Int):Int):Rat):=by
   rw[Rat.intCast_mul,Rat.intCast_mul,<-h1,<-e,Rat.intCast_natCast,Rat.intCast_natCast,Rat.mul_assoc,Rat.mul_assoc,Rat.mul_comm (r.den:Rat)]
  exact Rat.intCast_inj.mp h2
 have t:(r.den:Int)∣r.num * (M:Int):=⟨k,by rw[e2,Int.mul_comm]⟩;have u:=ç.mpr t;rw[Int.gcd_comm,P7]at u;have u:(r.den:Int)∣(M:Int):=by simpa using u
 exact Int.natCast_dvd_natCast.mp u
def aO(ks:Qa Int):D:=.tuple (ks.map PyData.int)
abbrev kL(ks:Qa Int):Qa Key:=ks.map Sum.inl
section
variable{c:α->D}
def aJ(c:α->D)(p:Pq α):Qa (Qa Key×D):=p.map λt=>(kL t.1,c t.2)
def aU(c:α->D)(p:Pq α):Qa (D×D):=p.map λt=>(aO t.1,c t.2)
def fe(c:α->D)(p:Pq α):Qa D:=p.map λt=>.tuple [aO t.1,c t.2]
theorem rW(p:Pq α):fe c p=p.map λt=>.tuple [aO t.1,c t.2]:=rfl
theorem uI{a b:Qa Int}:kL a=kL b↔a=b:=Fg
theorem Ep(k:Qa Int):jL (kL k)=aO k:=by
 unfold jL aO kL;rw[List.map_map];rfl
theorem sG(k:Qa Int):cO (aO k)=some (kL k):=by rw[<-Ep,Bc]
theorem K1(p:Pq α):(aJ c p).map (λp=>(jL p.1,p.2))=aU c p:=by
 unfold aJ aU;rw[List.map_map];refine Ã λt _=>?_;show(jL<|kL t.1,c t.2)=_;rw[Ep]
theorem nY{p:Pq α}:U.fz (.t<|aJ c p)=some (.dict<|aU c p):=by
 show some (PyData.dict _)=_;rw[K1]
theorem rV(p:Pq α):hU (aU c p)=true:=by
 cases p with
 | nil=>rfl
 | cons t p=>rfl
theorem UR(p:Pq α)(k:Qa Int):m5 (aJ c p) (kL k)=(look p k).map c:=by
 unfold m5 aJ look
 induction p with
 | nil=>rfl
 | cons t p ih=>
  rw[List.map_cons,List.find?_cons,List.find?_cons]
  by_cases h:t.1=k
  .rw[decide_eq_true h,decide_eq_true<|uI.mpr h]; rfl
  .rw[decide_eq_false h,decide_eq_false λz=>h<|uI.mp z]; exact ih
theorem Xk(p:Pq α)(k:Qa Int):um (aU c p) (kL k)=(look p k).map c:=by
 unfold um aU look
 induction p with
 | nil=>rfl
 | cons t p ih=>
  rw[List.map_cons,List.find?_cons,List.find?_cons]
  by_cases h:t.1=k
  .rw[decide_eq_true h,decide_eq_true (show cO (aO t.1)=some (kL k) by rw[sG,h])]; rfl
  .rw[decide_eq_false h,decide_eq_false (show ¬cO (aO t.1)=some (kL k) by rw[sG]; exact λz=>h<|uI.mp<|qw z)]; exact ih
theorem ZI{p:Pq α}{k:Qa Int}:kF (.t<|aJ c p) (.d<|aO k)=some ((look p k).map c):=by
 show(cO<|aO k).map _=_;rw[sG,Option.map_some,UR]
theorem ZH{p:Pq α}{k:Qa Int}:kF (.d<|.dict<|aU c p) (.d<|aO k)=some ((look p k).map c):=by
 show(if hU (aU c p)=true then _ else _)=_;rw[if_pos<|rV p];show(cO<|aO k).map _=_;rw[sG,Option.map_some,Xk]
theorem Xj{p:Pq α}:hU (aU c p)=true:=rV p
theorem Xi{p:Pq α}:(aU c p).map (λx=>x.1)=p.map λt=>aO t.1:=by
 unfold aU;rw[List.map_map];rfl
theorem zlO{k:Qa Int}:cO (aO k)=some (kL k):=sG k
theorem Xh{p:Pq α}:rH (.d<|.dict<|aU c p)=true:=rV p
theorem Al(p:Pq α)(k:Qa Int)(x:α):ig (aJ c p) (kL k) (c x)=aJ c (bD p k x):=by
 have any:((aJ c p).any λkv=>decide<|kv.1=kL k)=(p.any λt=>decide<|t.1=k):=by
  unfold aJ;rw[List.any_map];congr 1
  funext t
  exact decide_eq_decide.mpr uI
 unfold ig bD;rw[any];split
 .unfold aJ
  rw[List.map_map,List.map_map];refine Ã λt _=>?_;show(if kL t.1=kL k then _ else _)=(λt:Qa Int×α=>(kL t.1,c t.2)) (if t.1=k then(t.1,x)else t)
  by_cases h:t.1=k
  .rw[if_pos<|uI.mpr h,if_pos h]
  .rw[if_neg λz=>h<|uI.mp z,if_neg h]
 .unfold aJ
  rw[List.map_append];rfl
theorem JR(p:Pq α):(aJ c p).length=p.length:=List.length_map ..
theorem pA{p:Pq α}{k:Qa Int}{x:α}(h:p.length < 16777216):pD (.t<|aJ c p) (aO k) (c x)=some (.t<|aJ c<|bD p k x):=by
 show(cO<|aO k).bind _=_;rw[sG,bd,if_pos (by rw[JR]; exact h),Al]
theorem zjz{p:Pq α}:kS (.d<|.dict<|aU c p)=some (fe c p):=by
 show(if hU (aU c p)=true then _ else _)=_;rw[if_pos<|rV p];unfold aU fe;rw[List.map_map];rfl
theorem FH:∀ p:Pq α,rG (aU c p)=some (aJ c p)
 | []=>rfl
 | t::p=>by
  show(cO<|aO t.1).bind _=_;rw[sG,bd];show(rG<|aU c p).bind _=_;rw[FH p,bd];rfl
theorem LP(p:Pq α):(aJ c p).map (·.1)=(p.map (·.1)).map kL:=by
 unfold aJ;rw[List.map_map,List.map_map];rfl
def vW(p:Pq α):Prop:=rX ((p.map (·.1)).map kL)=true
theorem zBq{p:Pq α}(h:vW p):zev (.d<|.dict<|aU c p)=some (.t<|aJ c p):=by
 show(if hU (aU c p)=true then _ else _)=_;rw[if_pos<|rV p,FH,bd,if_pos (by rw[LP]; exact h)]
theorem zBr{p:Pq α}(h:vW p):zev (.t<|aJ c p)=some (.t<|aJ c p):=by
 show(if _ then _ else _)=_;rw[if_pos (by rw[LP]; exact h)]
theorem DS(k:Qa Int)(d:D):pk (.tuple [aO k,d])=some k:=F3 k
theorem JQ:∀ p:Pq α,vg (fe c p)=some (p.map (·.1))
 | []=>rfl
 | t::p=>by
  show(pk<|.tuple [aO t.1,c t.2]).bind _=_;rw[DS,bd];show(vg<|fe c p).bind _=_;rw[JQ p];rfl
theorem JP{p:Pq α}(nd:aP p)(hl:p.length < 64):Ao (.l<|fe c p)=some (.l<|fe c<|gF p):=by
 have e:yY (fe c p)=fe c (gF p):=LD ((jE p).map _) (á.mpr<|(uS nd).imp λ{a b} h=>⟨_,_,DS a.1 _,DS b.1 _,h⟩);show(some _).bind _=_;rw[bd,JQ,bd,if_pos ⟨by unfold fe; rw[List.length_map]; exact hl,nd⟩,e]
end
theorem SY{r:Rat}:bg (.d<|fR r) (.d<|.int 0)=some (.d<|.int r.num):=rfl
theorem SX{r:Rat}:bg (.d<|fR r) (.d<|.int 1)=some (.d<|.int (r.den:Int)):=rfl
theorem JO(r:Rat):(!decide (r.num=0))=decide (r≠0):=by
 rw[Bool.eq_iff_iff,Bool.not_eq_true',decide_eq_false_iff_not,decide_eq_true_iff];exact not_congr Rat.num_eq_zero
theorem LO{f:α->D}{g:β->D}:∀ (as:Qa α) (bs:Qa β),rh (as.map f) (bs.map g)=(as.zip bs).map λt=>.tuple [f t.1,g t.2]
 | [],bs=>by cases bs<;>rfl
 | a::as,[]=>rfl
 | a::as,b::bs=>by rw[List.map_cons,List.map_cons,List.zip_cons_cons,List.map_cons,<-LO as bs]; rfl
theorem L3{f:α->D}(h:as.length=ks.length):vK [.d<|.tuple<|as.map f,.d<|aO ks]=some ((as.zip ks).map λt=>.tuple [f t.1,.int t.2]):=by
 show(if _ then _ else _)=_;rw[if_pos (by rw[List.length_map,List.length_map]; exact h),LO]
theorem Ga{as:Qa Int}(h:as.length=ks.length):vK [.d<|aO as,.d<|aO ks]=some ((as.zip ks).map λt=>.tuple [.int t.1,.int t.2]):=L3 (f:=PyData.int) h
theorem nP{g:α->D}{e:α->D}{mg:MG}{mt:MT}{me:ME}{ρ:En}{Q:Qa D×En->Prop}(hz:as.length<=16777216)
  (st:∀ a∈as,∀ ys,Wo (mg (g a) ρ)<|Co mt ⟨0⟩<|vk nt me ys λao zs=>ao=ρ/\zs=ys++[e a]) (q:Q (as.map e,ρ)):Wo (iB nt mg mt me (as.map g) ρ []) Q:=by
 refine Es (b:=λ_=>true) (e:=e) (by rw[vO]; exact hz) (λa ha ys=>?_) ?_
 .simp only[if_true]
  exact st a ha ys
 .rw[show as.filter (λ_=>true)=as from List.filter_eq_self.mpr λ_ _=>rfl]
  exact q
theorem My(r:Rat):SeqAt.shaped (fR r)=true:=by
 unfold SeqAt.shaped fR;simp[PyData.canLay0,PyData.canLayAll0,PyData.depth,PyData.depthAll]
theorem RG(a b:Rat):PyData.eqv (fR a) (fR b)=decide (a=b):=by
 unfold fR;simp only[PyData.eqv,PyData.eqvAll];rw[Bool.eq_iff_iff,decide_eq_true_iff];constructor
 .intro h
  simp only[Bool.and_eq_true,beq_iff_eq]at h;exact Rat.ext h.1 (by omega)
 .rintro rfl
  simp
theorem EZ{a b:Rat}{neg:Bool}:jZ neg (.d<|fR a) (.d<|fR b)=some (.d<|.bool (if neg=true then !decide (a=b)else decide (a=b))):=by
 show(some<|fR a).bind _=_;rw[bd];show(some<|fR b).bind _=_;rw[bd,if_pos ⟨My a,My b⟩,RG]
theorem RF{r:Rat}(h1:r.num.natAbs < 10^n)(h2:r.den < 10^n)(h0:0 < n:=by decide)(h3:n<=470:=by decide):fJ 1 (2 * (n+1+2)+3) (fR r):=by
 refine uN (λd hd=>?_)<|qe _;rcases qu.mp hd with rfl|hd
 .exact E8 h1 h0 h3
 .rw[qp.mp hd]
  exact E8 (by rw[Int.natAbs_natCast]; exact h2) h0 h3
theorem Xg{o:Qb Rat}:(Option.map fR o).getD (.tuple [.int 0,.int 1])=fR (o.getD 0):=by cases o<;>rfl
theorem Yv[Mul α](p q:Pq α)(s:Qa Int×α):bC (p++[s]) q=bC p q++q.map λt=>(bp s.1 t.1,s.2 * t.2):=by
 unfold bC;rw[List.flatMap_append];simp
def mon:Qa (Rat×Int)->Rat
 | []=>1
 | t::l=>t.1^t.2.toNat * mon l
def mono(pt:Qa Rat)(e:Qa Int):Rat:=mon (pt.zip e)
def d5(s:Int)(q:Pq Rat):Pq Rat:=q.map λt=>(t.1,(s:Rat) * t.2)
theorem RE{s:Int}(hs:s=1\/s=-1)(r:Rat):PyData.tuple [.int<|s * r.num,.int (r.den:Int)]=fR ((s:Rat) * r):=by
 rcases hs with rfl|rfl
 .rw[Int.one_mul,show((1:Int):Rat)=1 from rfl,Rat.one_mul]; rfl
 .rw[show((-1:Int):Rat)=-1 from rfl,Rat.neg_mul,Rat.one_mul,Int.neg_mul,Int.one_mul]; rfl
theorem Eo{s:Int}(hs:s=1\/s=-1){q:Pq Rat}(h:PB M B q):PB M B (d5 s q):=λt ht=>by
 have(u,hu,rfl):=À.mp ht;rcases hs with rfl|rfl
 .show Bd M B (((1:Int):Rat) * u.2)
  rw[show((1:Int):Rat)=1 from rfl,Rat.one_mul];exact h u hu
 .show Bd M B (((-1:Int):Rat) * u.2)
  rw[show((-1:Int):Rat)=-1 from rfl,Rat.neg_mul,Rat.one_mul];exact(h u hu).neg
theorem Yu{p:Pq α}{k:Qa Int}{x:α}(h:∀ t∈p,t.1≠k):bD p k x=p++[(k,x)]:=by
 unfold bD;rw[if_neg];intro z;have(t,ht,e):=ì.mp z;exact h t ht<|of_decide_eq_true e
theorem Xf{bs cs:Pq α}{t:Qa Int×α}(nd:aP (bs++t::cs)):∀ u∈bs,u.1≠t.1:=λu hu e=>by
 unfold aP at nd;rw[List.map_append,List.map_cons]at nd;exact(List.nodup_append.mp nd).2.2 u.1 (À.mpr ⟨u,hu,rfl⟩) t.1 qo e
theorem KP(bs:Pq Rat)(t:Qa Int×Rat):nz (bs++[t])=if t.2=0 then nz bs else nz bs++[t]:=by
 unfold nz;rw[List.filter_append,List.filter_cons]
 by_cases h:t.2=0
 .rw[if_pos h,if_neg (by simp[h])]; simp
 .rw[if_neg h,if_pos (by simp[h])]; rfl
theorem JN{bs cs:Pq Rat}{t:Qa Int×Rat}(nd:aP (bs++t::cs)):bD (nz bs) t.1 t.2=nz bs++[t]:=Yu λu hu=>Xf nd u (Ò.mp hu).1
theorem Ak{f:α->β}:∀ {l:Qa α},(l.map f).Nodup->∀ a∈l,∀ b∈l,f a=f b->a=b
 | [],_,a,ha,_,_,_=>by cases ha
 | x::l,nd,a,ha,b,hb,e=>by
  rw[List.map_cons,List.nodup_cons]at nd;rcases qu.mp ha with h1|h1
  .rcases qu.mp hb with h2|h2
   .rw[h1,h2]
   .exact(nd.1<|À.mpr ⟨b,h2,by rw[<-e,h1]⟩).elim
  .rcases qu.mp hb with h2|h2
   .exact(nd.1<|À.mpr ⟨a,h1,by rw[e,h2]⟩).elim
   .exact Ak nd.2 a h1 b h2 e
theorem RD{n d:Int}(hd:0 < d)(h:d∣(M:Int))(h0:0 < M):Bd M (n.natAbs * M) (Rat.divInt n d):=by
 have(c,hc):=h;have c0:0 < c:=by
  rcases(by omega:0 < c\/c<=0)with z|z
  .exact z
  .have:=Int.mul_nonneg (Ö hd) (show 0<=-c by omega)
   rw[Int.mul_neg,<-hc]at this;omega
 have dr:((d:Int):Rat)≠0:=λz=>by
  have:=Rat.intCast_inj.mp (show((d:Int):Rat)=((0:Int):Rat) from z);omega
 refine⟨n * c,?_,?_⟩
 .have e:(M:Rat)=((d:Int):Rat) * ((c:Int):Rat):=by rw[<-Rat.intCast_mul,<-hc,Rat.intCast_natCast]
  rw[e,Rat.divInt_eq_div,Rat.intCast_mul];grind
 .rw[Int.natAbs_mul]
  refine Nat.mul_le_mul_left _ ?_;have:1 * c<=d * c:=Int.mul_le_mul_of_nonneg_right (by omega) (by omega);omega
end L2
namespace L2
open PySem PySem.Spec PyProof.Rows
open PySem.AutoSeq1 (wpAny_loadPart')
theorem Z8(t:Qg)(items:Array Qc)(n:Nat)(dd:Qb Qg)(sl:Array (Qb Qc))(u:Tok):
  Meets (Builtin.«tuple.__mul__» ⟨[.ref t,.int 1 u],[]⟩) (λ_ R s=>s.heap.get? t=some {cls:=.type "tuple",dict:=dd,data:=.seq items n,slots:=sl}/\R (.ok<|.ret<|.ref t) s):=
 .of_wp λprog w A R s h=>by
  have(hp,g,d,tk,os):=s;have(hl,h):=h
  wp_walk using wpAny_loadPart' hl
  exact⟨_,rfl,h⟩
theorem Z7(t:Qg)(items:Array Qc)(n:Nat)(dd:Qb Qg)(sl:Array (Qb Qc))(x:Int)(u:Tok)(hf:(decide (x < -2^63) || decide (x>=2^63))=false)(h1:(items.isEmpty || x==1)=false)(h0:(decide (x<=0) || items.isEmpty)=true):
  Meets (Builtin.«tuple.__mul__» ⟨[.ref t,.int x u],[]⟩) (λ_ R s=>s.heap.get? t=some {cls:=.type "tuple",dict:=dd,data:=.seq items n,slots:=sl}/\
   R (.ok<|.ret<|.ref s.heap.objs.size) {s with heap:=s.heap.push {cls:=.type "tuple",data:=.seq #[]}}):=
 .of_wp λprog w A R s h=>by
  have(hp,g,d,tk,os):=s;have(hl,h):=h
  wp_walk using wpAny_loadPart' hl
  refine wpAny_ite_false (by rw[hf]; rfl) ?_
  wp_walk using wpAny_loadPart' hl
  exact⟨_,rfl,h⟩
theorem Z6(t:Qg)(items:Array Qc)(n:Nat)(dd:Qb Qg)(sl:Array (Qb Qc))(x:Int)(u:Tok)(hf:(decide (x < -2^63) || decide (x>=2^63))=false)(h1:(items.isEmpty || x==1)=false)(h0:(decide (x<=0) || items.isEmpty)=false)
  (hm:¬((items.size:Int) * x > (2^63 - 1) / 8)) (ht:Builtin.Tuple.tupleTooMany ((items.size:Int) * x)=false) (hz:(List.foldl (λx1 x2=>x1++x2) #[] (List.replicate x.toNat items)).size<=sizeLine):
  Meets (Builtin.«tuple.__mul__» ⟨[.ref t,.int x u],[]⟩) (λ_ R s=>s.heap.get? t=some {cls:=.type "tuple",dict:=dd,data:=.seq items n,slots:=sl}/\
   R (.ok<|.ret<|.ref s.heap.objs.size) {s with heap:=s.heap.push {cls:=.type "tuple",data:=.seq (List.foldl (λx1 x2=>x1++x2) #[] (List.replicate x.toNat items))}}):=
 .of_wp λprog w A R s h=>by
  have(hp,g,d,tk,os):=s;have(hl,h):=h
  wp_walk using wpAny_loadPart' hl
  refine wpAny_ite_false (by rw[hf]; rfl) ?_
  wp_walk using wpAny_loadPart' hl
  refine wpAny_ite_false (decide_eq_false hm) ?_
  wp_walk using wpAny_loadPart' hl
  exact⟨_,rfl,h⟩
theorem zgF:fillsNumberSlot (.type "tuple") "mul"=pure false :=
 PySem.fillsNumberSlot_seq (id := "tuple.__mul__") (r:=some (.builtin "tuple.__rmul__")) F.slot_tuple_mul.lookup (by decide +kernel) F.slot_tuple_rmul.lookup (by decide +kernel)
theorem zku:seqRepeat? (.type "tuple")=pure (some<|.builtin "tuple.__mul__"):=by
 unfold seqRepeat?;rw[PySem.seqSlot_of (T := "tuple") (name := "__mul__") (id := "tuple.__mul__") F.slot_tuple_mul.lookup (by decide +kernel),PySem.seqSlot_of (T := "tuple") (name := "__rmul__") (id := "tuple.__rmul__") F.slot_tuple_rmul.lookup (by decide +kernel)];rfl
theorem ziD(a:Int)(t:Tok)(l:Qg)(items:Array Qc)(n:Nat)(dd:Qb Qg)(sl:Array (Qb Qc)):
  Meets (Builtin.«int.__rmul__» ⟨[.int a t,.ref l],[]⟩) (λ_ R s=>s.heap.get? l=some {cls:=.type "tuple",dict:=dd,data:=.seq items n,slots:=sl}/\R (.ok<|.ret Value.notImplemented) s):=
 .of_wp λprog w A R s h=>by have(hp,g,d,tk,os):=s; have(hl,h):=h; wp_walk; exact⟨_,rfl,h⟩
section
variable{X:Cx}
def IC(K:qc):R2:=λx y H Q=>∃ l k xs,x=.ref l/\y=.int k/\bz K H l xs/\xs≠[]/\k < 1000000/\-1000000 < k/\xs.length * k.toNat<=1000000/\
 ((k=1/\Q x H)\/(k≠1/\∀ p,H p=none->Q (.ref p) (upd H p<|.tup (List.replicate k.toNat xs).flatten)))
theorem A2(K:qc)(hK:X.K=K:=by rfl):bH X (binaryOp .Mult) (IC K):=by
 subst hK;intro pins s σ H x y v u Q I rx ry h;have(l,k,xs,rfl,rfl,hq,qM,hk,hk0,hz,q):=h;cases rx;have(t,rfl):=ry;have(ah,rv,ht,hzz):=I.tuple hq;obtain⟨⟨c,gx,dt,sl⟩,hl,hc,n,hd⟩:=ht;replace hc:c=.type "tuple":=hc;replace hd:dt=.seq ah.toArray n:=hd;subst hc hd;have lv:=rv.length;have Pp:ah.toArray.isEmpty=false:=by
  cases ah with
  | nil=>cases rv; exact absurd rfl qM
  | cons a r=>rfl
 have hf:(decide (k < -2^63) || decide (k>=2^63))=false:=by
  rw[Bool.or_eq_false_iff];exact⟨decide_eq_false (by omega),decide_eq_false (by omega)⟩
 have f0:List.foldl (λx1 x2=>x1++x2) #[] (List.replicate k.toNat ah.toArray)=(List.replicate k.toNat ah).flatten.toArray:=by
  have:=Mq ah k.toNat [];rw[List.nil_append]at this;exact this
 have ln:(List.replicate k.toNat xs).flatten.length<=sizeLine:=by
  rw[K4,Nat.mul_comm];have:sizeLine=16777216:=vO;omega
 refine wpAny_binaryOp_repeat_ref (T := "tuple") (U := "int") (by decide) ⟨_,hl,rfl⟩ (λs'=>typeIs_int s' k t) zgF F.fills_int_mul F.slot_int_rmul zku F.slot_int_index.lookup
  (call_meets F.slot_int_rmul (typeIs_int s k t) F.entry_int_rmul (F.args_int_rmul_2 _ _) (ziD k t l ah.toArray n gx sl) ⟨hl,rfl,⟨_,hl,rfl⟩,?_⟩)
 rcases q with⟨rfl,q⟩|⟨k1,q⟩
 .exact call_meets F.slot_tuple_mul ⟨_,hl,rfl⟩ F.entry_tuple_mul (F.args_tuple_mul_2 _ _) (Z8 l ah.toArray n gx sl t) ⟨hl,.ref l,H,I,rfl,q⟩
 .have h1:(ah.toArray.isEmpty || k==1)=false:=by rw[Pp,Bool.false_or]; simpa using k1
  by_cases k0:k<=0
  .refine call_meets F.slot_tuple_mul ⟨_,hl,rfl⟩ F.entry_tuple_mul (F.args_tuple_mul_2 _ _) (Z7 l ah.toArray n gx sl k t hf h1 (by rw[decide_eq_true k0]; rfl)) ⟨hl,.ref _,_,I.laid (t':=s.toks) (o:=.tup []) (λ_ _ q=>qd _ q) (qe _) ⟨É _,[],.nil,_,qg _ rfl,rfl,⟨_,rfl⟩,.inl rfl⟩,rfl,?_⟩
   have:=q _ I.fresh;rw[show k.toNat=0 by omega]at this;exact this
  .have m63:(ah.toArray.size:Int) * k<=1000000:=by
    have e1:(ah.toArray.size:Int)=(xs.length:Int):=by rw[List.size_toArray,lv]
    have e2:k=(k.toNat:Int):=by omega
    rw[e1,e2,<-Int.natCast_mul];omega
   refine call_meets F.slot_tuple_mul ⟨_,hl,rfl⟩ F.entry_tuple_mul (F.args_tuple_mul_2 _ _) (Z6 l ah.toArray n gx sl k t hf h1 (by rw[decide_eq_false k0,Pp]; rfl) (by omega) (decide_eq_false (by rw[show((sizeLine:Nat):Int)=16777216 by rw[vO]; rfl]; omega)) ?_) ⟨hl,.ref _,_,I.laid (t':=s.toks) (o:=.tup (List.replicate k.toNat xs).flatten) (λ_ _ q=>qd _ q) (qe _) ⟨ln,(List.replicate k.toNat ah).flatten,rv.rep k.toNat,_,qg _ rfl,rfl,⟨0,?_⟩,.inl rfl⟩,rfl,q _ I.fresh⟩
   .rw[f0,List.size_toArray,K4,Nat.mul_comm]
    have:sizeLine=16777216:=vO;rw[<-lv];omega
   .show Data.seq (List.foldl (λx1 x2=>x1++x2) #[] (List.replicate k.toNat ah.toArray)) _=_
    rw[f0]
end
def pJ:U->U->Qb U
 | .d (.tuple xs),.d (.int k)=>if xs≠[]/\k < 1000000/\-1000000 < k/\xs.length * k.toNat<=1000000 then some (.d<|.tuple (List.replicate k.toNat xs).flatten)else none
 | _,_=>none
theorem KO{ds:Qa D}(h:aK K H vs ds):∀ n:Nat,aK K H (List.replicate n vs).flatten (List.replicate n ds).flatten
 | 0=>.nil
 | n+1=>by
  rw[List.replicate_succ,List.replicate_succ,List.flatten_cons,List.flatten_cons];exact h.app<|KO h n
theorem A0:VO K (IC K) pJ:=by
 intro x y a b u H Q ha hb e q;unfold pJ at e;split at e
 .split at e
  rotate_left
  .cases e
  rename_i xs k hc;cases e;have(l,vs,rfl,h1,h2):=DF.aE ha;cases DF.int_inv hb;have ln:=h2.len;refine⟨l,k,vs,rfl,rfl,(aV.sq h1),λz=>hc.1<|List.eq_nil_of_length_eq_zero (by rw[<-ln,z]; rfl),hc.2.1,hc.2.2.1,by rw[ln]; exact hc.2.2.2,?_⟩
  by_cases k1:k=1
  .subst k1
   refine .inl ⟨rfl,q _ _ (λ_ _ z=>z) ?_ Nw.data⟩;have e:(List.replicate (1:Int).toNat xs).flatten=xs:=by simp
   rw[e];exact DF.tup h1 h2
  .refine .inr ⟨k1,λp hp=>?_⟩
   have sm:=zL hp (.tup (List.replicate k.toNat vs).flatten);exact q _ _ sm (.tup (.inl zw)<|(KO h2 _).kp sm.kp) Nw.data
 .cases e
theorem L1{xs:Qa D}{k:Int}(h:0 < xs.length)(h2:k < 1000)(h3:-1000 < k)(h4:xs.length < 1000):pJ (.d<|.tuple xs) (.d<|.int k)=some (.d<|.tuple (List.replicate k.toNat xs).flatten):=by
 show(if _ then _ else _)=_;rw[if_pos ⟨λz=>by rw[z]at h; exact Í _ h,by omega,by omega,qx (ù (Nat.le_of_lt h4) (show k.toNat<=1000 by omega)) (by decide)⟩]
end L2
namespace L2
open PySem PySem.Spec PyProof.Rows
def Em(K:qc)(tk tv:TE):TE:=λσ H Q=>∀ p,H p=none->tk σ (upd H p<|.dT []) λx H1=>tv σ H1 λy H2=>H2 p=some (.dT [])/\∃ k b,x=.ref b/\aV K H2 b (k.map kV)/\Q (.ref p) (upd H2 p<|.dT [(k,y)])
theorem Xe{X:Cx}{k v:Expr}(hu:X.A.units+1 < cLine)(hk:PE X k tk)(hv:PE X v tv):PE X (.Dict [some k] [v] pos) (Em X.K tk tv):=by
 intro pins s σ H Q I q;have hn:=I.aw.fresh (qe s.heap.objs.size);have I1:=I.laid (a:=s.heap.objs.size) (o:=.dT []) (h':=s.heap.push {cls:=.type "dict",data:=.dict #[]}) (t':=s.toks) (λ_ _ q=>qd _ q) (qe _) (FK s.heap I.yn);refine wpAny_Dict_any rfl rfl (by simp) (by show 1<=15; decide)<|pairTrees_cons_walk<|aD (hk pins _ σ _ _ I1<|q _ hn) λu s1 ⟨x,H1,I1,rx,q1⟩=>aD (hv pins s1 σ H1 _ I1 q1) λw2 s2 ⟨y,H2,I2,ry,e,ks,b,ex,eb,q2⟩=>pairTrees_nil_walk ?_;subst ex;cases rx;unfold storeAll;rw[List.forIn_cons];have(z,hd,xs,rel,dd):=Eh I2.bN I2.aw e;cases rel;refine qa<|qa<|wpAny_dictSet_heap (hsz:=É _) (show X.A.units < cLine from Nat.lt_of_succ_lt hu) (pN I2.bN I2.aw eb) dd λh' lP hs=>qb ?_;dsimp only;rw[List.forIn_nil];refine qb ?_;have(q',es,ep,hq,h2,h3,h4,_,h5):=lP;refine⟨.ref s.heap.objs.size,_,wB (ob:=.dT [(ks,y)]) I2 (by rw[e]; exact True.intro) hs ⟨q',hq⟩ ⟨by show 1<=sizeLine; decide,hd,_,(KT.put (kvs:=[]) .nil ks eb ry).keeps λc ys ec=>?_,q',es,ep,hq,h2,h3,h4,h5⟩,rfl,q2⟩;rw[zy<|nB ec e λz=>nomatch z];exact ec
theorem wF{X:Cx}{k v:Expr}(hr:aH n X.A)(hk:Wr (PE X k tk))(hv:Wr (PE X v tv)):Wr (PE X (.Dict [some k] [v] pos)<|Em X.K tk tv):=⟨Xe (uw hr) hk.run hv.run⟩
section
variable{ρ aq ao:En}
theorem Rs.free{p:Qg}{c o:HO}(r:Rs K ρ σ H)(hc:H p=some c)(m:Mo c)(n:¬Ow ρ σ p):Rs K ρ σ (upd H p o):=by
 have kp:=jA hc m o;refine⟨r.len,λi u e=>?_,r.apart⟩;have(v,ev,q):=r.rep i u e;refine⟨v,ev,q.kp kp λou a c' ea ha=>?_⟩;have ne:a≠p:=by
  rintro rfl;exact n ⟨i,u,e,ou,by rw[ev,ea]⟩
 rw[zy ne];exact ha
theorem Go.free{p:Qg}{c o:HO}(g:Go K ρ σ H ao H')(hp:H p=none)(hc:H' p=some c)(m:Mo c)(n:¬Ow ao σ p):Go K ρ σ H ao (upd H' p o):=by
 refine⟨g.rs.free hc m n,λa ob ha hn=>?_,g.shr,λa ha=>?_⟩
 .have ne:a≠p:=by
   rintro rfl;rw[hp]at ha;cases ha
  rw[zy ne];exact g.fr a ob ha hn
 .by_cases e:a=p
  .subst e
   exact hp
  .rw[zy e]at ha
   exact g.dm a ha
def rT(mk mv:ME):ME:=λρ=>(mk ρ).bind λp=>(mv p.2).bind λq=>(p.1.get q.2).bind λk=>(q.1.get q.2).bind λv=>k.da.bind λk=>v.da.bind λv=>(cO k).bind λk=>some (.u<|.t [(k,v)],q.2)
theorem uM{w:U}{x:D}(h:w.da=some x):w=.d x:=by
 cases w<;>first | (cases h; rfl) | cases h
theorem wD{mk mv:ME}(hk:VE K tk mk)(hv:VE K tv mv):VE K (Em K tk tv) (rT mk mv):=by
 intro ρ σ H a ao Q r e q;obtain⟨⟨a1,aq⟩,e1,e⟩:=zb e;obtain⟨⟨b1,aB⟩,e2,e⟩:=zb e;have(uk,ek,e):=zb e;have(uv,ev,e):=zb e;have(dk,yk,e):=zb e;have(dv,yj,e):=zb e;have(ks,yi,e):=zb e;cases e;cases uM yk;cases uM yj;intro p hp;have sm:=zL hp (.dT []);have g0:=Go.grow r sm;have n0:¬Ow ρ σ p:=λz=>by
  have(c,hc,_):=r.ow z;rw[hp]at hc;cases hc
 refine hk ρ σ (upd H p<|.dT []) a1 aq _ g0.rs e1 λx H1 g1 k1=>hv aq σ H1 b1 _ _ g1.rs e2 λy H2 g2 k2=>?_;have n1:¬Ow aq σ p:=λz=>n0<|g1.shr.ow z;have n2:¬Ow aB σ p:=λz=>n1<|g2.shr.ow z;have oN:H2 p=some (.dT []):=g2.fr p _ (g1.fr p _ zw n0) n1;have pk:=k1.later g0.rs g1 g2 ek;have pv:=k2.now g1.rs g2 ev;have(b,rfl,hb):=uP pk yi;have kp:=jA oN trivial (.dT [(ks,y)]);refine⟨oN,ks,b,rfl,hb,q _ _ (((g0.trans g1).trans g2).free hp oN trivial n2) ⟨⟨p,[(ks,y)],rfl,zw,.cons ⟨rfl,DF.kp kp pv⟩ .nil⟩,λ_=>⟨p,rfl,hp⟩⟩⟩
end
def OG(K:qc)(a:Qg):It :=
 ⟨λi H=>∃ xs x,bA K H a xs/\xs[i]?=some x,λi H x H'=>∃ T,H T=none/\x=.ref T/\∀ xs v,bA K H a xs->xs[i]?=some v->H'=upd H T (.tup [.int i,v]),λi H=>∃ xs,bA K H a xs/\xs.length=i⟩
theorem Z5{k:Nat}(e it t:Qg)(tO:e≠it)(xH:t≠e)(xG:t≠it):
  Turn P w K (.Tuple elts k pos) (OG K t) [e,it] e (λi h=>(∃ old,IsEnum h e it i old)/\h.IsListIter it t i) where
 mem:=by simp
 obj:=λi h st b hb=>by
  obtain⟨⟨old,he⟩,⟨o,ho,_,hd⟩⟩:=st;rcases qu.mp hb with z|z
  .subst z
   exact⟨_,he,λv q=>by
    have q':Data.fields _=Data.cell v:=q;cases q'⟩
  .rw[qp.mp z]
   exact⟨o,ho,λv q=>by rw[hd]at q; cases q⟩
 keep:=λi h h' st kk=>by
  obtain⟨⟨old,he⟩,⟨o,ho,hc,hd⟩⟩:=st;exact⟨⟨old,kk e (by simp) _ he⟩,⟨o,kk it (by simp) _ ho,hc,hd⟩⟩
 item:=by
  intro X hP hw hK hc i pins s σ H E I hf st hg;subst hP hw hK;have(xs,x,hq,hx):=hg;have(ah,rv,ht,hz):=I.list hq;have hi:i < ah.toArray.size:=by
   rw[List.size_toArray,<-rv.length];exact(qk.mp hx).1
  have W:=WalksT.enumerate (prog:=X.prog) (w:=X.w) (A:=X.A) (I.ok.hd hc) e it t tO xH xG ah.toArray;refine W.item i s _ _ hi ⟨st.1,st.2,ht.isList⟩ λT vals h1 tk hP hT gJ mid kk=>?_;refine⟨_,rfl,W.go elts k pos i T {s with heap:=h1,toks:=tk} _ _ mid λh2 gE oG=>?_⟩;have(tt,u,hu,rfl):=hP;have apart:=W.apart _ _ _ mid;have I2:Inv X pins σ H {s with heap:=h2,toks:=tk}:=I.bS (wr:=[e,it]) (λb o hb q=>oG b o hb<|kk b o hb q) hf;have fT:fm X pins H T:=I.cM hT (I.aw.fresh hT);have ru:zO x u:=by
   have(u',eu,r):=rv.get hx;have:u'=u:=by
    have z:ah[i]?=some u:=by simpa using hu
    rw[eu]at z;exact qw z
   rw[<-this];exact r
  have(oT,g1,g2,nT,g3):=gJ;have I3:Inv X pins σ (upd H T<|.tup [.int i,x]) {s with heap:=h2,toks:=tk}:=I2.i4 fT (qx I.sz hT) ⟨by show 2<=sizeLine; decide,[.int i tt,u],.cons ⟨tt,rfl⟩<|.cons ru .nil,oT,oG T oT apart g1,g2,⟨nT,g3⟩,.inr ⟨_,_,_,rfl⟩⟩;refine⟨.ref T,_,I3,rfl,⟨T,I.aw.fresh hT,rfl,λsJ v oK hv=>?_⟩,⟨?_,gE.2.1⟩,λb hb=>?_⟩
  .have:=I.gI hq oK
   subst this;rw[hx]at hv;cases hv;rfl
  .exact gE.1
  .have ne:b≠T:=λz=>apart (by rw[<-z]; exact hb)
   rw[zy ne];exact(hf b hb).1
 done:=by
  intro X hP hw hK hc i pins s σ H E I hf st hg;subst hP hw hK;have(xs,hq,hl):=hg;have(ah,rv,ht,hz):=I.list hq;have hi:i=ah.toArray.size:=by
   rw[List.size_toArray,<-rv.length];exact hl.symm
  have W:=WalksT.enumerate (prog:=X.prog) (w:=X.w) (A:=X.A) (I.ok.hd hc) e it t tO xH xG ah.toArray;refine W.done s _ _ ?_ λh1 tk kk=>⟨rfl,I.bS (wr:=[e,it]) kk hf⟩;rw[<-hi];exact⟨st.1,st.2,ht.isList⟩
 self:=λ_ _ _ _ _ st h=>by
  obtain⟨⟨old,he⟩,_⟩:=st;exact wpAny_pyIter_enum he h
section
variable{X:Cx}{k:Nat}
def JM(K:qc)(ta:TA):TI:=λσ H R=>ta σ H λvs H1=>∃ a,vs=[.ref a]/\(∃ xs,bA K H1 a xs)/\R (OG K a) H1
theorem Xd{a:Expr}{ta:TA}{p:Pos}(ha:Wr (PA X [a] ta))(hK:X.K=K:=by rfl)(hg:Gl X "enumerate":=by exact rfl)(hm:X.mg "enumerate"=none:=by exact pH ‹Bl _ _› (by decide))(hs:zV a=true:=by rfl):
  Wr (PI X (.Tuple elts k k9) (.Call (.Name "enumerate" p) [a] [] pos)<|JM K ta):=by
 subst hK;refine⟨?_⟩;intro pins s σ H R I h;refine Call_<|pO I hg hm boot_enumerate<|Ó (aD (ha.run pos pins s σ H _ I h) λus s1 hZ=>?_) (i0 hs) rfl;have(vs,H1,I1,r1,q1):=hZ;obtain⟨t,e,⟨xs,hq⟩,q⟩:=q1;subst e;have(u,rfl,ru):=ju r1;cases ru;have(ah,rv,ht,hz):=I1.list hq;have tl:t < s1.heap.objs.size:=by
  have(o,n,e,_):=ht;exact qh e
 refine call_enumerate_list ht.isList λh' he hit _ kk=>?_;have I2:Inv X pins σ H1 {s1 with heap:=h'}:=I1.kept (t':=s1.toks) kk;refine wpAny_pyIter_enum he ?_;refine⟨s1.heap.objs.size+1,[s1.heap.objs.size+1,s1.heap.objs.size],_,_,H1,rfl,I2,Z5 (s1.heap.objs.size+1) s1.heap.objs.size t (Nat.succ_ne_self _) (qj<|à tl)<|qj tl,⟨⟨_,he⟩,hit⟩,λb hb=>?_,q⟩;rcases qu.mp hb with z|z
 .subst z
  exact I1.cM (ð _)<|I1.aw.fresh<|ð _
 .rw[qp.mp z]
  exact I1.cM (qe _)<|I1.aw.fresh<|qe _
end
def Aj:Qa U->Qb (Qa D)
 | [.d<|.list ds]=>some<|nZ 0 ds
 | _=>none
def El(ma:MA):MI:=λρ=>(ma ρ).bind λp=>(bt p.2 p.1).bind λus=>(Aj us).bind λds=>some (ds,p.2)
theorem Xc{ta:TA}{ma:MA}(h:iN K ta ma):VI K (JM K ta) (El ma):=by
 intro ρ σ H ds ao R r e q;obtain⟨⟨as,aq⟩,e1,e⟩:=zb e;have(us,eu,e):=zb e;have(zs,ez,e):=zb e;cases e;refine h ρ σ H as aq _ r e1 λvs H1 g1 s1=>?_;have rp:=s1.ku r g1 eu;unfold Aj at ez;split at ez
 .rename_i xs
  cases ez;cases rp with
  | cons h1 t=>
   cases t;have(b,ys,rfl,h1,h2):=DF.lst_inv h1;refine⟨b,rfl,⟨ys,h1.sq⟩,q _ _ g1 λH2 k i=>⟨λd ed=>?_,λei=>?_⟩⟩
   .have(x,ex,rfl):=wW ed
    have(v,ev,dv):=(h2.kp k).get ex;refine⟨⟨ys,v,(h1.kp k).sq,ev⟩,λx H' y=>?_⟩;have(T,nT,rfl,y):=y;cases y ys v (h1.kp k).sq ev;have sm:=zL nT (.tup [.int i,v]);refine⟨sm,.tup (.inl zw)<|.cons ?_<|.cons (dv.kp sm.kp) .nil⟩;rw[Nat.zero_add];exact .int _
   .exact⟨ys,(h1.kp k).sq,by rw[wU]at ei; rw[h2.len]; exact ei.symm⟩
 .cases ez
section
variable{ρ:En}{mk mv:ME}{mA:MA}{f:Qa D->Qa D}{QE:Ar×En->Prop}{QI:Qa D×En->Prop}
theorem zlT:Wo (rT mk mv ρ) QE=Wo (mk ρ) (Co (λp=>(mv p.2).bind λq=>(p.1.get q.2).bind λk=>(q.1.get q.2).bind λv=>k.da.bind λk=>v.da.bind λv=>(cO k).bind λk=>some (.u<|.t [(k,v)],q.2)) ⟨0⟩ QE):=by
 show Wo (Option.bind _ _) QE=_;rw[zq]
theorem zlU:Wo (El mA ρ) QI=Wo (mA ρ) (Co (λp=>(bt p.2 p.1).bind λus=>(Aj us).bind λds=>some (ds,p.2)) ⟨0⟩ QI):=by
 show Wo (Option.bind _ _) QI=_;rw[zq]
theorem Xb{ds:Qa D}:Aj [.d<|.list ds]=some (nZ 0 ds):=rfl
end
end L2
namespace L2
open PySem
def ch:Nat->Nat->Nat
 | _,0=>1
 | 0,_+1=>0
 | n+1,k+1=>ch n k+ch n (k+1)
theorem De{a b:Qa Int}(h:a.length+b.length<=1000):rY (.d<|aO a) (.d<|aO b)=some (.d<|aO<|a++b):=by
 have:=L4 (xs:=a.map PyData.int) (ys:=b.map PyData.int) (by rw[List.length_map,List.length_map]; omega);rw[<-List.map_append]at this;exact this
theorem Ai{k:Int}:PyData.tuple [.int k]=aO [k]:=rfl
end L2
namespace L2
open PySem PySem.Spec PyProof.Rows
open PySem.AutoSeq1 (wpAny_loadPart')
open MeetsSeq MeetsSeq2 MeetsSeq3 SeqRoads2
end L2
namespace L2
open PySem PySem.Spec PyProof.Rows
section
variable{l b:Qg}{items bu:Array Qc}{xs ys:Qa Int}
end
section
variable{X:Cx}{k:Nat}
end
section
end
section
variable{X:Cx}{a b c d:Expr}{tc:TE}
end
section
end
section
variable{f f' f'':U->U->Qb U}{ma mb mc md:ME}{ρ:En}{QE:Ar×En->Prop}
end
end L2
namespace HT
open PySem PySem.Spec PyProof.Rows
section
variable{prog:Program} {w:World} {A:Around} {E:Value->Shared->Prop} {s:Shared}
end
end HT
namespace L2
open PySem PySem.Spec PyProof.Rows
section
variable{X:Cx}{st:Expr}{ts:TE}{p2:Pos}
end
section
end
section
end
section
end
end L2
namespace L2
open PySem PySem.Calls PySem.Spec PyProof.Rows
section
end
section
end
end L2
namespace L2
open PySem PySem.Spec PyProof.Rows
section
variable{X:Cx}{CX:jo}{k:Nat}{f C:Qg}{dvs:Qa V}{ds:Qa Qc}{E:XK}{m:Str}{p:Pos}{es:Qa Expr}{t:TA}
end
section
variable{X:Cx}{k:Nat}{p:Pos}{es:Qa Expr}{t:TA}
end
section
end
section
end
section
variable{X:Cx}{k:Nat}
end
section
end
end L2
namespace L2
open PySem
section
variable{mA:MA}{ρ:En}{QI:Qa D×En->Prop}
end
end L2
namespace L2
open PySem PySem.Spec PyProof.Rows
section
variable{EX:iQ}
end
section
variable{mg:MG}{mb:MS}{ρ:En}{Q:Fl->Prop}
end
theorem Yt{X:Cx}{b:Qg}{r:Qc}{k:Qa Key}{Q:Unit->Qd->Prop}(hu:A.units+1 < cLine)(I:Inv X pins σ H s)
  (e:H a=some (.dT kvs)) (eb:aV X.K H b (k.map kV)) (l:kvs.length < sizeLine) (rv:zO v r) (h:∀ s',Inv X pins σ (upd H a<|.dT<|dS kvs k v) s'->Q () s'):wpAny (model X.prog X.w) A (dictSet a (.ref b) r) Q E s:=by
 have(z,hd,xs,rel,dd):=Eh I.bN I.aw e;have hz:xs.length<=sizeLine:=by rw[<-Paired.length rel]; exact z
 have hl:(dS kvs k v).length<=sizeLine:=by have:=BC kvs k v; omega
 refine wpAny_dictSet_heap (hsz:=hz) (show A.units < cLine from Nat.lt_of_succ_lt hu) (pN I.bN I.aw eb) dd λh' lP hs=>h _ ?_;have(q,es,ep,hq,h2,h3,h4,_,h5):=lP;refine wB I (by rw[e]; exact True.intro) hs ⟨q,hq⟩ ⟨hl,hd,_,(rel.put k eb rv).keeps λc ys ec=>?_,q,es,ep,hq,h2,h3,h4,h5⟩;rw[zy<|nB ec e λz=>nomatch z];exact ec
theorem zlV{target:Expr}{it:Qc}{D:Qg}(I:Nat->Qd->Prop)
  (turn:∀ n s,I n s->∀ E,wpAny (model prog w) A (pyNext it) (λr s1=>match r with
   | none=>R (.ok .next) s1
   | some v=>wpAny (model prog w) A (letOwnedTupleGo target it v) (λ_ s2=>wpAny (model prog w) A (assign target env v) (λ_ s3=>
     wpAny (model prog w) A (forIn ifs true λc r=>if r=true then do let ok <-isTrue c env (eval c env); pure (ForInStep.yield ok)else pure (ForInStep.yield r)) (λok s4=>
      (ok=true->wpAny (model prog w) A (eval kx env) (λk s5=>wpAny (model prog w) A (eval vx env) (λv s6=>wpAny (model prog w) A (dictSet D k v) (λ_ s7=>∃ m,m < n/\I m s7) E s6) E s5) E s4)/\
      (ok=false->∃ m,m < n/\I m s4)) E s3) E s2) E s1) E s)
  (n:Nat) (h:I n s):codeAny (model prog w) A (.compLoop (.DictComp kx vx [⟨target,iter,ifs,0⟩] scope pos) 0 it (.ref D) env) R s:=by
 refine codeAny_loop rfl I (λn s hI=>?_) n h;show wpAny _ A ((compTurn _ 0 it (.ref D) env).onRaise (λx=>do noteFrame x env; theTreesLotGoes x)) _ _ s;refine wpAny_noted ?_;rw[compTurn_dict];refine qa<|wpAny_standAt<|qa<|wpAny_mono (turn n s hI _) (λr s1 h1=>?_) λ_ _ z=>z;cases r with
 | none=>exact qb h1
 | some v=>
  refine qa<|wpAny_mono h1 (λ_ s2 h2=>?_) λ_ _ z=>z;refine qa<|wpAny_mono h2 (λ_ s3 h3=>?_) λ_ _ z=>z;refine qa<|wpAny_mono h3 (λok s4 h4=>?_) λ_ _ z=>z;cases ok with
  | false=>exact qb ⟨rfl,h4.2 rfl⟩
  | true=>
   refine qa<|qa<|wpAny_mono (h4.1 rfl) (λx s5 h5=>?_) λ_ _ z=>z;refine qa<|wpAny_holding<|wpAny_mono h5 (λy s6 h6=>?_) λ_ _ z=>z;exact qa<|wpAny_standAt<|wpAny_holding<|wpAny_mono h6 (λ_ s7 h7=>qb ⟨rfl,h7⟩) λ_ _ z=>z
def Dd(K:qc)(J:It)(jq:St)(g:TG)(tt:TT)(tk tv:TE)(D:Qg)(Z:Hp->Prop)(H1:Hp):Prop :=
 ∃ W:Nat->Nat->Hp->Prop,(∃ m,W 0 m H1)/\∀ i m H,W i m H->
  (J.stop i H/\Z H)\/(J.go i H/\∃ N:Hp->Prop,(∀ H',N H'->∃ m',m' < m/\W (i+1) m' H')/\
   ∀ x H',J.u7 i H x H'->g x jq H' λeJ H2=>tt eJ H2 λb H3=>if b=true then tk eJ H3 λy H4=>tv eJ H4 λv H5=>∃ kvs k p,y=.ref p/\H5 D=some (.dT kvs)/\aV K H5 p (k.map kV)/\kvs.length < sizeLine/\N (upd H5 D<|.dT<|dS kvs k v)else N H3)
section
variable{X:Cx}{xs:Qa Str}{ts:Qa Str}
theorem Z4{J:It}{D:Qg}{Z:Hp->Prop}{h1:Heap}{m1:Str->Qb Qc}{t1:Nat}
  (hu:X.A.units+1 < cLine) (hc:X.calm=true) (I:Inv X pins σ H s) (S:mY scope xs) (f:aL X cl xs js) (eX:ts.length=nt) (T:Turn X.prog X.w X.K tg J fp it tn) (st:tn 0 s.heap) (hf:∀ b∈fp,fm X pins H b)
  (hg:∀ C s H ex,PG (zG X scope cl (ts++xs) C s H ex) tg g) (ht:∀ C s H ex,j7 (zG X scope cl (ts++xs) C s H ex) ifs tt) (hk:∀ C s H ex,PE (zG X scope cl (ts++xs) C s H ex) kx tk) (hv:∀ C s H ex,PE (zG X scope cl (ts++xs) C s H ex) vx tv)
  (gw:GW (c0 nt js σ) g) (h:Dd X.K J (c0 nt js σ) g tt tk tv D Z H) (qN:h1.Ns s.heap.objs.size m1) (old:∀ b o,s.heap.get? b=some o->h1.get? b=some o) (ck:CellsOk h1 (s.heap.objs.size+1) (cellsFrom (s.heap.objs.size+1) scope.names []))
  (hR:∀ (m:Str->Qb Qc) (s':Qd) (H':Hp),Z H'->Inv X pins σ H' s'->s'.heap.Ns s.heap.objs.size m->H' s.heap.objs.size=none->s.heap.objs.size≠X.env.locals->
   (∀ x c,X.env.cells.lookup x=some c->c≠s.heap.objs.size)->X.aY.heap.objs.size<=s.heap.objs.size->(∀ p∈X.pn++pins,p.1≠s.heap.objs.size)->R (.ok .next) s'):
  codeAny (model X.prog X.w) X.A (.compStart (.DictComp kx vx [⟨tg,iter,ifs,0⟩] scope pos) 0 (.ref it) (.ref D)<|compEnvC scope (cellsFrom (s.heap.objs.size+1) scope.names cl) s.heap.objs.size X.env) R {s with heap:=h1,toks:=t1}:=by
 have hl:∀ b∈fp,b < s.heap.objs.size:=λb hb=>by
  have(o,e,_):=T.obj _ _ st b hb;exact qh e
 have J0:Inv (zG X scope cl (ts++xs) s.heap.objs.size s H fp) [] (c0 nt js σ) H {s with heap:=h1,toks:=t1}:=Me I S f eX (qe _) hf hl old qN ck;obtain⟨W,⟨m0,w0⟩,turn⟩:=h;have sN:tn 0 h1:=T.keep _ _ _ st λb hb o e=>old b o e;have tU:∀ {H':Hp},(∀ b∈fp,H' b=none)->∀ b∈fp,fm (zG X scope cl (ts++xs) s.heap.objs.size s H fp) [] H' b:=λ{H'} hn b hb=>by
  refine⟨hn b hb,qj<|hl b hb,λz=>?_,.inl hb,λx c e=>((Fi I S f ck (qe _) hf hl (ts:=ts)).yf b hb).2 x c e,λp Ht=>by cases Ht⟩;rcases qu.mp (I.eV b z)with q|q
  .exact(hf b hb).2.1 q
  .exact(hf b hb).2.2.1 q
 have loop:codeAny (model X.prog X.w) X.A (.compLoop (.DictComp kx vx [⟨tg,iter,ifs,0⟩] scope pos) 0 (.ref it) (.ref D)<|compEnvC scope (cellsFrom (s.heap.objs.size+1) scope.names cl) s.heap.objs.size X.env) R {s with heap:=h1,toks:=t1}:=by
  refine zlV (λn s'=>∃ i H',Inv (zG X scope cl (ts++xs) s.heap.objs.size s H fp) [] (c0 nt js σ) H' s'/\tn i s'.heap/\(∀ b∈fp,H' b=none)/\W i n H') ?_ m0 ⟨0,H,J0,sN,λb hb=>(hf b hb).1,w0⟩;rintro n s3 ⟨i,H3,I3,pZ,qU,w3⟩ E';rcases turn i n H3 w3 with⟨stop,qz⟩|⟨go,N,hN,step⟩
  .refine aD (T.done (zG X scope cl (ts++xs) s.heap.objs.size s H fp) rfl rfl rfl hc i _ s3 _ H3 E' I3 (tU qU) pZ stop) λr s4 hZ=>?_
   have(hr,I4):=hZ;subst hr;have(m4,n4,_):=I4.loc;refine hR m4 s4 H3 qz (I.qX I4.os I4.base I4.aw I4.bare λb hb=>⟨(hf b hb).2.2.2.1,(hf b hb).2.1,(hf b hb).2.2.2.2.1,λp hp=>(hf b hb).2.2.2.2.2 p hp⟩) n4 I4.free ?_ ?_ I.sz ?_
   .exact λz=>absurd I.lt (by rw[<-z]; exact Í _)
   .intro x c e z
    have(v,ob,q,_):=I.cell x c e;exact absurd (qh q) (by rw[z]; exact Í _)
   .intro p hp z
    have q:=(I.pin p hp).1;exact absurd (qh q) (by rw[z]; exact Í _)
  .refine aD (T.item (zG X scope cl (ts++xs) s.heap.objs.size s H fp) rfl rfl rfl hc i _ s3 _ H3 E' I3 (tU qU) pZ go) λr s4 hZ=>?_
   have(u,hr,h4):=hZ;subst hr;refine aD h4 λ_ s5 hZ=>?_;have(x,H5,I5,r5,y5,lj,yc):=hZ;have yq:=I5.pinned (tU yc) (T.obj _ _ lj);refine rq (hg _ _ _ _ _ s5 _ H5 x u _ yq r5<|gw _ _ _<|step x H5 y5) λ_ s6 hZ=>?_;have(lV,H6,I6,w9,q6):=hZ;refine rq (ht _ _ _ _ _ s6 lV H6 _ I6 q6) λok s7 hZ=>?_;have(H7,I7,q7):=hZ;have after:∀ {H8:Hp} {s8:Qd},Inv (zG X scope cl (ts++xs) s.heap.objs.size s H fp) ([]++uH fp s5.heap) lV H8 s8->
     tn (i+1) s8.heap/\(∀ b∈fp,H8 b=none)/\Inv (zG X scope cl (ts++xs) s.heap.objs.size s H fp) [] (c0 nt js σ) H8 s8:=λ{H8 s8} I8=>by
    refine⟨T.keep _ _ _ lj λb hb o e=>(I8.pin (b,o)<|qv _<|qv _<|uZ hb e).1,λb hb=>?_,?_⟩
    .have(o,e,d):=T.obj _ _ lj b hb
     exact(I8.pin (b,o)<|qv _<|qv _<|uZ hb e).2.1
    .exact(I8.weak w9.1 w9.2).cU λp hp=>by cases hp
   refine⟨λaw=>?_,λaw=>?_⟩
   .subst aw
    rw[if_pos rfl]at q7;refine rq (hk _ _ _ _ _ s7 lV H7 _ I7 q7) λkv s8 hZ=>?_;have(y,H8,I8,ry,q8):=hZ;refine rq (hv _ _ _ _ _ s8 lV H8 _ I8 q8) λvv s9 hZ=>?_;have(v,H9,I9,rv,q9):=hZ;have(kvs,k,p,ey,eD,ep,hz,q10):=q9;subst ey;cases(show kv=Value.ref p from ry);refine Yt (X:=zG X scope cl (ts++xs) s.heap.objs.size s H fp) hu I9 eD ep hz rv λs10 I10=>?_;have(GN,HS,Ii):=after I10;have(m',hm,xa):=hN _ q10;exact⟨m',hm,i+1,_,Ii,GN,HS,xa⟩
   .subst aw
    rw[if_neg qf]at q7;have(GL,HR,Ih):=after I7;have(m',hm,w7):=hN _ q7;exact⟨m',hm,i+1,H7,Ih,GL,HR,w7⟩
 exact codeAny_compStart_dict loop<|T.self _ _ _ _ _ sN loop
theorem Nv{J:It}{Z:Qg->Hp->Prop}
  (hu:X.A.units+1 < cLine) (hc:X.calm=true) (I:Inv X pins σ H s) (S:mY scope xs) (f:aL X cl xs js) (eX:ts.length=nt) (T:Turn X.prog X.w X.K tg J fp it tn) (st:tn 0 s.heap) (hf:∀ b∈fp,fm X pins H b)
  (hg:∀ C s H ex,PG (zG X scope cl (ts++xs) C s H ex) tg g) (ht:∀ C s H ex,j7 (zG X scope cl (ts++xs) C s H ex) ifs tt) (hk:∀ C s H ex,PE (zG X scope cl (ts++xs) C s H ex) kx tk) (hv:∀ C s H ex,PE (zG X scope cl (ts++xs) C s H ex) vx tv)
  (gw:GW (c0 nt js σ) g) (h:∀ D,H D=none->Dd X.K J (c0 nt js σ) g tt tk tv D (Z D) (upd H D<|.dT []))
  (HI:∀ (D C:Qg) (m:Str->Qb Qc) (s':Qd) (H':Hp),Z D H'->Inv X pins σ H' s'->s'.heap.Ns C m->H' C=none->C≠X.env.locals->
   (∀ x c,X.env.cells.lookup x=some c->c≠C)->X.aY.heap.objs.size<=C->(∀ p∈X.pn++pins,p.1≠C)->RR (.ref D) C (.ok .next) s'):
  wpAny (model X.prog X.w) X.A newDict (λacc s3=>wpAny (model X.prog X.w) X.A (newFunctionEnv scope X.env.globals cl [] X.env.qual none .none<|some X.env) (λlQ s4=>
   codeAny (model X.prog X.w) X.A (.compStart (.DictComp kx vx [⟨tg,iter,ifs,0⟩] scope pos) 0 (.ref it) acc {lQ with scope:=relabel scope X.env}) (RR acc lQ.locals) s4) E s3) E s:=by
 refine qy<|Mf λh1 qN iG ck=>?_;dsimp only at qN iG ck ⊢;have HK:H s.heap.objs.size=none:=I.aw.fresh (qe _);have I1:=I.laid (a:=s.heap.objs.size) (o:=.dT []) (h':=s.heap.push {cls:=.type "dict",data:=.dict #[]}) (t':=s.toks) (λ_ _ q=>qd _ q) (qe _) (FK s.heap I.yn);have h2:=h _ HK;have xP:∀ b∈fp,b < s.heap.objs.size:=λb hb=>by
  have(o,e,_):=T.obj _ _ st b hb;exact qh e
 have st0:tn 0 (s.heap.push {cls:=.type "dict",data:=.dict #[]}):=T.keep _ _ _ st λb hb o e=>qd _ e;have hf0:∀ b∈fp,fm X pins (upd H s.heap.objs.size<|.dT []) b:=λb hb=>⟨by rw[zy<|qj<|xP b hb]; exact(hf b hb).1,(hf b hb).2⟩;have hp:s.heap.objs.size < (s.heap.push {cls:=.type "dict",data:=.dict #[]}).objs.size:=by rw[Heap.size_push]; exact Õ _
 refine Z4 (s:={s with heap:=s.heap.push {cls:=.type "dict",data:=.dict #[]},toks:=s.toks}) hu hc I1 S f eX T st0 hf0 hg ht hk hv gw h2 qN iG ck λm s' H' z I' hn oR lI lH kC oQ=>HI _ _ m s' H' z I' hn oR lI lH kC oQ
def GJ(K:qc)(wi:TI)(nt:Nat)(js:Qa Nat)(g:TG)(tt:TT)(tk tv:TE):TE:=λσ H Q=>wi σ H λJ H1=>
 ∀ D,H1 D=none->Dd K J (c0 nt js σ) g tt tk tv D (λH2=>Q (.ref D) H2) (upd H1 D<|.dT [])
theorem zCd(hr:aH n X.A)(hi:Wr (PI X tg iter wi))(hg:∀ {C s H ex},Wr<|PG (zG X scope (eZ X js) (fO tg++eK X js) C s H ex) tg g)(ht:∀ {C s H ex},Wr<|j7 (zG X scope (eZ X js) (fO tg++eK X js) C s H ex) ifs tt)
  (hk:∀ {C s H ex},Wr<|PE (zG X scope (eZ X js) (fO tg++eK X js) C s H ex) kx tk) (hv:∀ {C s H ex},Wr<|PE (zG X scope (eZ X js) (fO tg++eK X js) C s H ex) vx tv)
  (f:aL X (eZ X js) (eK X js) js:=by repeat (first|exact aL.nil|refine aL.cons rfl (by first|exact Or.inl rfl|exact Or.inr rfl) rfl ?_)) (cV:closureFor scope X.env=pure (eZ X js):=by rfl) (S:mY scope (eK X js):=by exact⟨rfl,of_decide_eq_true rfl,of_decide_eq_true rfl,of_decide_eq_true rfl,of_decide_eq_true rfl⟩) (eX:(fO tg).length=nt:=by rfl) (hc:X.calm=true:=by rfl) (gw:∀ σ:St,GW (c0 nt js σ) g:=by first|exact AU (by decide) | exact Ag<|AS (by repeat (first|exact Bi|refine Bv (by decide) ?_))) (hs:∀ x,foldedSetIterable iter X.env x=pure x:=by intro _; rfl):
  Wr (PE X (.DictComp kx vx [⟨tg,iter,ifs,0⟩] scope pos)<|GJ X.K wi nt js g tt tk tv):=by
 refine⟨?_⟩;intro pins s σ H Q I h;rw[arm_eval_DictComp];refine wpAny_comprehension_free (use:=none) rfl hs cV S.kind S.names<|aD (hi.run pins s σ H _ I h) λv s1 h1=>aD h1 λvm s2 h2=>?_;have(it,fp,tn,J,H2,e,I2,T,gE,f2,q):=h2;subst e;refine Nv (RR:=λacc C=>compPost (model X.prog X.w) X.A X.xe none (EP X pins σ Q) acc C) (Z:=λD H2=>Q (.ref D) H2) (uw hr) hc I2 S f eX T gE f2 (λC s H ex=>hg.run) (λC s H ex=>ht.run) (λC s H ex=>hk.run) (λC s H ex=>hv.run) (gw σ) q ?_;intro D C m s' H' z I' hn oR lI lH kC oQ;refine⟨m,hn,λh' mT=>⟨.ref D,_,I'.turned (it:=C) (λb o hb e=>mT.extBut b o hb e) oR lI (.inr kC) lH oQ,rfl,z⟩⟩
theorem DR{y:Str}{py lx:Pos}(hr:aH n X.A)(hi:Wr (PI X tg iter wi))(hg:∀ {C s H ex},Wr<|PG (zG X scope (eZ X js) (fO tg++eK X js) C s H ex) tg g)(ht:∀ {C s H ex},Wr<|j7 (zG X scope (eZ X js) (fO tg++eK X js) C s H ex) ifs tt)
  (hk:∀ {C s H ex},Wr<|PE (zG X scope (eZ X js) (fO tg++eK X js) C s H ex) kx tk) (hv:∀ {C s H ex},Wr<|PE (zG X scope (eZ X js) (fO tg++eK X js) C s H ex) vx tv)
  (hN:X.N.Nodup:=by first|assumption|exact wA rfl) (gK:X.N[i]?=some y:=by rfl) (hy:Loc X.env.scope y:=by first|exact Or.inl rfl|exact Or.inr rfl)
  (f:aL X (eZ X js) (eK X js) js:=by repeat (first|exact aL.nil|refine aL.cons rfl (by first|exact Or.inl rfl|exact Or.inr rfl) rfl ?_)) (cV:closureFor scope X.env=pure (eZ X js):=by rfl) (S:mY scope (eK X js):=by exact⟨rfl,of_decide_eq_true rfl,of_decide_eq_true rfl,of_decide_eq_true rfl,of_decide_eq_true rfl⟩) (eX:(fO tg).length=nt:=by rfl) (hc:X.calm=true:=by rfl) (gw:∀ σ:St,GW (c0 nt js σ) g:=by first|exact AU (by decide) | exact Ag<|AS (by repeat (first|exact Bi|refine Bv (by decide) ?_))) (hs:∀ x,foldedSetIterable iter X.env x=pure x:=by intro _; rfl)
  (Hq:swapsWith (.DictComp kx vx [⟨tg,iter,ifs,0⟩] scope pos) (some<|.Name y py) lx.line X.env=pure true:=by rfl)
  (hf:X.fn y=true\/X.env.scope.names.lookup y=some .local:=by first|exact .inl rfl|exact .inr rfl|assumption):
  Wr (PS X (.Assign [.Name y py] (.DictComp kx vx [⟨tg,iter,ifs,0⟩] scope pos) lx)<|nj (GJ X.K wi nt js g tt tk tv)<|jv i):=by
 refine⟨?_⟩;intro pins s σ H D I h;rw[exec_Assign_Name_used _ _ _ _ Hq];refine qa<|wpAny_standAt<|qa ?_;show wpAny _ X.A (do let _ <-comprehension (.DictComp kx vx [⟨tg,iter,ifs,0⟩] scope pos) scope X.env _ newDict false (eval iter X.env) (some<|assign (.Name y py) X.env)) _ _ s;refine qa<|wpAny_mono (wpAny_comprehension_free (use:=some (assign (.Name y py) X.env)) (Q:=λ_ s'=>SP X pins D .next s') rfl hs cV S.kind S.names
  (aD (hi.run pins s σ H _ I h) λv s1 h1=>aD h1 λvm s2 h2=>?_)) (λ_ s' hq=>qb<|qb hq) λ_ _ e=>e
 have(it,fp,tn,J,H2,e,I2,T,gE,f2,q):=h2;subst e;refine Nv (RR:=λacc C=>compPost (model X.prog X.w) X.A X.xe (some<|assign (.Name y py) X.env) (λ_ s'=>SP X pins D .next s') acc C) (uw hr) hc I2 S f eX T gE f2 (λC s H ex=>hg.run) (λC s H ex=>ht.run) (λC s H ex=>hk.run) (λC s H ex=>hv.run) (gw σ) q ?_;intro D' C m s' H' z I' hn oR lI lH kC oQ;show wpAny _ _ (assign (.Name y py) X.env<|.ref D') _ _ _;refine wpAny_assign_Name<|F0 (v:=.ref D') I' hN gK hy rfl (λsP Ij hZ=>?_) hf;have(a,sb,ha):=hZ;have ne:C≠a:=by
  rcases ha with rfl|ha
  .exact lI
  .exact(lH _ _ ha).symm
 exact⟨m,hn.sameBut sb ne,λh' mT=>⟨_,_,Ij.turned (it:=C) (λb o hb e=>mT.extBut b o hb e) oR lI (.inr kC) lH oQ,z⟩⟩
end
section
variable{ρ ao aq:En}{H1:Hp}
theorem Sn.free{A:Qg->Prop}{D:Qg}{c o:HO}(s:Sn K pn au A av aA ρ σ H)(hc:H D=some c)(m:Mo c)(n:¬Ow ρ σ D)(hA:A D):Sn K pn au A av aA ρ σ (upd H D o):=by
 refine⟨s.rs.free hc m n,λa ob h nA=>?_,s.ow,s.pin,λa h=>?_,s.kp.trans<|jA hc m o⟩
 .have ne:a≠D:=by rintro rfl; exact nA hA
  rw[zy ne];exact s.fr a ob h nA
 .by_cases e:a=D
  .subst e; rw[zw]at h; cases h
  .rw[zy e]at h; exact s.dm a h
theorem DQ{D:Qg}{A:Qg->Prop}{vI:En}{Im:St}{Hx:Hp}(r:Rs K aq σ H1)(hD:H1 D=none)(s:Sn K (gk nt js.length) (c0 nt js σ) A (upd H1 D<|.dT []) H1 vI Im Hx)
  (own:∀ (i:Nat) (u:U),nt<=i->vI[i]?=some (some u)->u.own=true->∃ w,(dN nt js aq)[i]?=some (some w)/\w.own=true):¬Ow vI Im D:=by
 rintro⟨i,u,e,ou,es⟩;rcases s.ow i u D e ou es with⟨hi,_⟩|z
 .have gK:=pS.mp hi
  have(w,ew,ow):=own i u gK.1 e ou;have(p,j,rfl,hj,hr):=uC ew;rw[s.pin _ hi,DU hj]at es;have e2:σ[j]?=some (some<|.ref D):=by
   rw[qA]at es;cases q:σ[j]? with
   | none=>rw[q]at es; cases es
   | some o=>rw[q]at es; exact congrArg some<|qw es
  have(c,hc,_):=r.ow ⟨j,w,hr,ow,e2⟩;rw[hD]at hc;cases hc
 .rw[zw]at z; cases z
def mV(nt:Nat)(mg:MG)(mt:MT)(mk mv:ME):Qa D->En->Qa (Qa Key×D)->Qb (Qa (Qa Key×D)×En)
 | [],ρ,ys=>some (ys,ρ)
 | d::ds,ρ,ys=>if ys.length < sizeLine then(mg d ρ).bind λaq=>(mt aq).bind λb=>if b.1=true then(mk b.2).bind λp=>(mv p.2).bind λq=>(p.1.get q.2).bind λuk=>(q.1.get q.2).bind λuv=>uk.da.bind λdk=>uv.da.bind λdv=>(cO dk).bind λk=>
   mV nt mg mt mk mv ds (reset nt q.2) (ig ys k dv)else mV nt mg mt mk mv ds (reset nt b.2) ys else none
def tD(mi:MI)(nt:Nat)(js:Qa Nat)(mg:MG)(mt:MT)(mk mv:ME):ME:=λρ=>(mi ρ).bind λp=>(mV nt mg mt mk mv p.1 (dN nt js p.2) []).bind λq=>some (.u<|.t q.1,back js (q.2.drop nt) p.2)
theorem yF{mi:MI}{mg:MG}{mt:MT}{mk mv:ME}(hi:VI K wi mi)(hg:qY K (gk nt js.length) g mg)(ht:VT K tt mt)(hk:VE K tk mk)(hv:VE K tv mv)(nd:js.Nodup:=by decide):
  VE K (GJ K wi nt js g tt tk tv) (tD mi nt js mg mt mk mv):=by
 intro ρ σ H a ao Q r e q;obtain⟨⟨ds,aq⟩,e1,e⟩:=zb e;obtain⟨⟨zs,rf⟩,e2,e⟩:=zb e;cases e;refine hi ρ σ H ds aq _ r e1 λJ H1 g1 run=>λD hD=>?_;have sm0:=zL hD (.dT []);have s0:=KH (nt:=nt) (js:=js) g1.rs nd;have s1:Sn K (gk nt js.length) (c0 nt js σ) (λa=>kH aq σ js a\/a=D) (upd H1 D<|.dT []) H1 (dN nt js aq) (c0 nt js σ) (upd H1 D<|.dT []):=by
  have s2:=s0.go (Go.grow s0.rs sm0);refine⟨s2.rs,λa o h n=>h,λi u a e o es=>?_,s2.pin,λa h=>h,s2.kp⟩;rcases s2.ow i u a e o es with z|z
  .exact .inl ⟨z.1,.inl z.2⟩
  .exact absurd z (by
    have(v,ev,p):=s0.rs.rep i u e;rw[es]at ev;cases ev;have(b,c,eb,hb,_):=p.own o;cases eb;rw[hb];exact λz=>nomatch z)
 refine⟨λi m H'=>m=ds.length - i/\i<=ds.length/\∃ fj kd ws,Sn K (gk nt js.length) (c0 nt js σ) (λa=>kH aq σ js a\/a=D) (upd H1 D<|.dT []) H1 fj (c0 nt js σ) H'/\eG (dN nt js aq) fj/\(∀ k,k < nt->fj[k]?=some none)/\H' D=some (.dT ws)/\dP K H' ws kd/\mV nt mg mt mk mv (ds.drop i) fj kd=some (zs,rf),
  ⟨ds.length,by simp,É _,_,[],[],s1,eG.refl _,λk hk=>JV hk,zw,.nil,e2⟩,?_⟩
 rintro i m H' ⟨rfl,gK,fj,kd,ws,s',sh,lo,hw,dy,el⟩;have lc:fj.length=nt+js.length:=by rw[sh.len,Fq]
 by_cases fW:i < ds.length
 .rw[List.drop_eq_getElem_cons fW]at el
  unfold mV at el;split at el
  .rename_i hz
   have(aB,e3,el):=zb el;obtain⟨⟨b,jr⟩,e4,el⟩:=zb el;have(l2,p2):=hg.ok _ _ _ e3;have(go,yl):=(run H' s'.kp i).1 ds[i] (ql fW);refine .inr ⟨go,λH2=>∃ dh Cb u9,Sn K (gk nt js.length) (c0 nt js σ) (λa=>kH aq σ js a\/a=D) (upd H1 D<|.dT []) H1 dh (c0 nt js σ) H2/\eG (dN nt js aq) dh/\(∀ k,k < nt->dh[k]?=some none)/\H2 D=some (.dT u9)/\dP K H2 u9 Cb/\mV nt mg mt mk mv (ds.drop<|i+1) dh Cb=some (zs,rf),
    λH2 ⟨dh,Cb,u9,z⟩=>⟨ds.length - (i+1),by omega,rfl,fW,dh,Cb,u9,z⟩,λx H2 y=>?_⟩
   have(sm,dx):=yl x H2 y;have s2:=s'.go (Go.grow s'.rs sm);refine hg.run _ _ _ _ fj _ H2 x ds[i] aB _ s2 dx e3 λdC s3=>?_;have GV:∀ (i:Nat) (u:U),nt<=i->aB[i]?=some (some u)->u.own=true->∃ w,(dN nt js aq)[i]?=some (some w)/\w.own=true:=λk u hk ek ou=>by
    have lk:k < nt+js.length:=by rw[<-l2.trans lc]; exact(qk.mp ek).1
    rw[p2 k<|pS.mpr ⟨hk,lk⟩]at ek;exact sh.own k u ek ou
   have n2:¬Ow aB dC D:=DQ g1.rs hD s3 GV;have toEnd:∀ {cN:En} {H4:Hp},Go K aB dC H2 cN H4->Sn K (gk nt js.length) (c0 nt js σ) (λa=>kH aq σ js a\/a=D) (upd H1 D<|.dT []) H1 (L2.reset nt cN) (c0 nt js σ) H4/\eG (dN nt js aq) (L2.reset nt cN):=λ{cN H4} g4=>by
    have l4:cN.length=nt+js.length:=by rw[g4.shr.len,l2,lc]
    refine⟨(s3.go g4).reset l4 EW,sh.trans<|eG.lz lc lo l4 (λk u hk ek ou=>?_) λk u hk ek=>?_⟩
    .have(w,ew,ow):=g4.shr.own k u ek ou
     have lk:k < nt+js.length:=by rw[<-l2.trans lc]; exact(qk.mp ew).1
     rw[p2 k<|pS.mpr ⟨hk,lk⟩]at ew;exact⟨w,ew,ow⟩
    .have lk:k < nt+js.length:=by rw[<-lc]; exact(qk.mp ek).1
     rw[<-p2 k (pS.mpr ⟨hk,lk⟩)]at ek;exact g4.shr.live k u ek
   have Ho:H2 D=some (.dT ws):=sm _ _ hw;refine ht aB dC H2 b jr _ s3.rs e4 λH3 g3=>?_;dsimp only at el;split at el
   .rename_i hb
    rw[if_pos hb];obtain⟨⟨a4,cN⟩,e5,el⟩:=zb el;obtain⟨⟨a5,Io⟩,e6,el⟩:=zb el;have(uk,ek,el):=zb el;have(uv,ev,el):=zb el;have(dk,yk,el2):=zb el;have(dv,yj,el3):=zb el2;have(ks,yi,el4):=zb el3;cases uM yk;cases uM yj;refine hk jr dC H3 a4 cN _ g3.rs e5 λkx H4 g4 k4=>hv cN dC H4 a5 Io _ g4.rs e6 λvx H5 g5 k5=>?_;have pk:=k4.later g3.rs g4 g5 ek;have pv:=k5.now g4.rs g5 ev;have(p,rfl,hp):=uP pk yi;have HN:=(g3.trans g4).trans g5;have Hn:H5 D=some (.dT ws):=HN.fr D _ Ho n2;have(sn,sr):=toEnd HN;have P4:dP K H5 ws kd:=(dy.kp sm.kp).kp (HN.kp s3.rs);have kp:=jA Hn trivial (.dT<|dS ws ks vx);have nE:¬Ow (L2.reset nt Io) (c0 nt js σ) D:=DQ g1.rs hD sn λk u _ ek ou=>sr.own k u ek ou;exact⟨ws,ks,p,rfl,Hn,hp,by rw[P4.len]; exact hz,_,_,_,sn.free Hn trivial nE<|.inr rfl,sr,λk hk=>Be hk,zw,(P4.kp kp).put ks<|DF.kp kp pv,el4⟩
   .rename_i hb
    rw[if_neg hb];have(sn,sr):=toEnd g3;exact⟨_,_,_,sn,sr,λk hk=>Be hk,g3.fr D _ Ho n2,(dy.kp sm.kp).kp<|g3.kp s3.rs,el⟩
  .cases el
 .have ei:i=ds.length:=by omega
  subst ei;rw[List.drop_length]at el;cases el;refine .inl ⟨(run H' s'.kp _).2 rfl,?_⟩;have nE:¬Ow rf (c0 nt js σ) D:=DQ g1.rs hD s' λk u _ ek ou=>sh.own k u ek ou;have s4:Sn K (gk nt js.length) (c0 nt js σ) (kH aq σ js) H1 H1 rf (c0 nt js σ) H':=by
   refine⟨s'.rs,λa o h n=>?_,λi u a e o es=>?_,s'.pin,λa h=>?_,s'.kp⟩
   .have ne:a≠D:=by rintro rfl; rw[hD]at h; cases h
    exact s'.fr a o (by rw[zy ne]; exact h) λz=>z.elim n ne
   .rcases s'.ow i u a e o es with⟨z1,z2|z2⟩|z
    .exact .inl ⟨z1,z2⟩
    .subst z2; exact absurd ⟨i,u,e,o,es⟩ nE
    .by_cases ea:a=D
     .subst ea; exact .inr hD
     .rw[zy ea]at z; exact .inr z
   .have z:=s'.dm a h
    by_cases ea:a=D
    .subst ea; exact hD
    .rw[zy ea]at z; exact z
  have gb:=Sn.comp_back g1.rs s4 lc sh;exact q _ _ (g1.trans gb) ⟨⟨D,ws,rfl,hw,dy⟩,λ_=>⟨D,rfl,g1.dm _ hD⟩⟩
end
section
theorem Ys{Q:Qb Qc->Qd->Prop}(k:s.heap.IsValIter it d i es.size ep)(r:gX s.heap d es ep){x:DictEntry}(hx:es[i]?=some x)
  (q:∀ h':Heap,h'.IsValIter it d (i+1) es.size ep->Heap.SameBut it s.heap h'->Q (some x.val) {s with heap:=h'}):wpAny (model prog w) A (pyNext<|.ref it) Q E s:=by
 have kT:=k.typeIs;have(oi,ei,ci,fi):=id k;have(o,e,_,dat):=r;unfold pyNext;refine qa<|wpAny_attempt (wpAny_callSpecial?_slot (name:=Str.ofString "__next__") kT Ô
  (wpAny_call_entry Ô kT F.entry_dict_valueiterator_next ?_<|F.args_dict_valueiterator_next_1 _))
 refine qa<|qb<|qa<|qa ?_;refine qa<|wpAny_typeNameOfWhole_valiter kT<|qb<|qa<|wpAny_fieldsOf ei fi ?_;simp only[show Builtin.Dict_items.ownsTuple "dict_valueiterator"=false by decide,Bool.false_eq_true,if_false];show wpAny _ _ (if(Value.ref d==Value.none)=true then _ else _) _ _ s;rw[if_neg (show ¬((Value.ref d==Value.none)=true) from qf)];refine qa<|qb<|qa<|wpAny_dictEntries e dat ?_;rw[if_neg (by simp)];refine qa<|qb<|qa<|wpAny_dictEpoch e dat ?_;rw[if_neg (by simp)];refine qb ?_;simp only[show ¬((i:Int) < 0) from by omega,if_false,Int.toNat_natCast,hx];refine qa<|qa<|wpAny_typeNameOfWhole_valiter kT<|qb<|qa<|wpAny_isOneOf_valiter kT ?_;show wpAny _ _ (setField (.ref it) 1 (rawInt<|(i:Int)+1) >>= _) _ _ s;refine qa<|wpAny_setField ei fi (by simp) ?_;have k':(s.heap.update it<|Obj.mapFields (·.setIfInBounds 1 (rawInt<|(i:Int)+1))).IsValIter it d (i+1) es.size ep :=
  ⟨_,é _ ei<|ô<|ÿ fi _,(Obj.cls_mapFields ..).trans ci,by rw[Obj.data_mapFields fi]; simp[rawInt]⟩
 refine qa<|wpAny_holding<|qa<|wpAny_isOneOf_valiter (s:={s with heap:=s.heap.update it (Obj.mapFields (·.setIfInBounds 1 (rawInt<|(i:Int)+1)))}) k'.typeIs ?_;refine qa<|wpAny_isOneOf_valiter (s:={s with heap:=s.heap.update it (Obj.mapFields (·.setIfInBounds 1 (rawInt<|(i:Int)+1)))}) k'.typeIs ?_;show wpAny _ _ (pure x.val) _ _ _;exact qb<|qb ⟨_,rfl,qb<|q _ k'<|Ñ ..⟩
theorem Xa{Q:Qb Qc->Qd->Prop}(hh:A.handled=none)(k:s.heap.IsValIter it d i es.size ep)(r:gX s.heap d es ep)(hx:es.size<=i)
  (q:∀ h':Heap,Heap.ExtBut it s.heap h'->Q none {s with heap:=h'}):wpAny (model prog w) A (pyNext<|.ref it) Q E s:=by
 have kT:=k.typeIs;have(oi,ei,ci,fi):=id k;have(o,e,_,dat):=r;unfold pyNext;refine qa<|wpAny_attempt (wpAny_callSpecial?_slot (name:=Str.ofString "__next__") kT Ô
  (wpAny_call_entry Ô kT F.entry_dict_valueiterator_next ?_<|F.args_dict_valueiterator_next_1 _))
 refine qa<|qb<|qa<|qa ?_;refine qa<|wpAny_typeNameOfWhole_valiter kT<|qb<|qa<|wpAny_fieldsOf ei fi ?_;simp only[show Builtin.Dict_items.ownsTuple "dict_valueiterator"=false by decide,Bool.false_eq_true,if_false];show wpAny _ _ (if(Value.ref d==Value.none)=true then _ else _) _ _ s;rw[if_neg (show ¬((Value.ref d==Value.none)=true) from qf)];refine qa<|qb<|qa<|wpAny_dictEntries e dat ?_;rw[if_neg (by simp)];refine qa<|qb<|qa<|wpAny_dictEpoch e dat ?_;rw[if_neg (by simp)];refine qb ?_;simp only[show ¬((i:Int) < 0) from by omega,if_false,Int.toNat_natCast,Array.getElem?_eq_none hx];refine qa<|qa<|wpAny_typeNameOfWhole_valiter kT<|qb ?_;show wpAny _ _ (setField (.ref it) 0 .none >>= _) _ _ s;refine qa<|wpAny_setField ei fi (by simp) ?_;show wpAny _ _ (newExc (.type "StopIteration") [] >>= _) _ _ _;refine qa ?_;simp only[newExc,newTuple];refine qa<|qy ?_ (by show(0:Nat)<=sizeLine; exact É _);refine qa (m:=firstArgMember _ _)<|wpAny_of_eq (a:=Value.none) (by first|rfl | (simp only[firstArgMember]; rfl)) ?_;refine qy ?_ (by first|trivial|size_fits);simp only[raiseNew];refine qa<|wpAny_handled ?_;rw[show A.in1.handled=none from hh];refine qa<|qb<|wpAny_throw ?_;refine qa<|wpAny_isInstance (T := "StopIteration") (b:=true) ⟨_,qg _ rfl,rfl⟩ isSubtype_stop ?_;exact qb<|q _<|((Ñ ..).extBut.push _).push _
theorem Z3(hd:(d==sysModules)=false)(r:gX s.heap d es ep)
  (q:Q (.ref s.heap.objs.size) {s with heap:=s.heap.push {cls:=.type "dict_values",data:=.fields #[.ref d]}}):wpAny (model prog w) A (call (.builtin "dict.values") [.ref d]) Q E s:=by
 have hT:=r.typeIs;have(o,e,_,dat):=r;refine wpAny_call_entry F.slot_dict_values hT F.entry_dict_values ?_<|F.args_dict_values_1 _;refine qa ?_;unfold Builtin.Dict.noArgs;refine qa<|wpAny_notOrdered_dict hT ?_;show wpAny _ _ (pure d) _ _ s;refine qb ?_;show wpAny _ _ (Builtin.Dict.showsAll d >>= _) _ _ s;unfold Builtin.Dict.showsAll;rw[if_neg (by rw[hd]; exact qf)];refine qa<|qb ?_;exact qa<|qy<|qb ⟨_,rfl,q⟩
theorem Yr{v:Qg}(hv:s.heap.IsValuesView v d)(r:gX s.heap d es ep)
  (q:∀ h':Heap,h'.IsValIter s.heap.objs.size d 0 es.size ep->(∀ b o,s.heap.get? b=some o->h'.get? b=some o)->Q (.ref s.heap.objs.size) {s with heap:=h'}):wpAny (model prog w) A (pyIter<|.ref v) Q E s:=by
 have(o,e,_,dat):=r;have(o2,e2,c2,d2):=id hv;have hT:=hv.typeIs (s:=s);refine wpAny_pyIter_slot hT F.slot_dict_values_iter<|wpAny_call_entry F.slot_dict_values_iter hT F.entry_dict_values_iter ?_<|F.args_dict_values_iter_1 _;unfold Builtin.«dict_values.__iter__»;refine qa<|qb ?_;unfold Builtin.Dict_items.dictOf;refine qa<|qa<|wpAny_field e2 d2 (x:=.ref d) rfl<|qb ?_;unfold Builtin.Dict_items.newIterator;refine qa<|qa<|wpAny_dictEntries e dat<|qa<|wpAny_dictEpoch e dat ?_;have Hu:Builtin.Dict_items.ownsTuple "dict_valueiterator"=false:=by decide
 simp only[Hu,Bool.false_eq_true,if_false];refine qy<|qb ⟨_,rfl, "dict_valueiterator",_,⟨_,qg _ rfl,rfl⟩,Ô.lookup,?_⟩;exact q _ ⟨_,qg _ rfl,rfl,by simp[rawInt]⟩ λb o z=>qd _ z
end
def QU(a:Qg)(o:Obj)(kvs:Qa (Qa Key×V)):It :=
 ⟨λi H=>H a=some (.aQ o<|.dT kvs)/\i < kvs.length,λi H x H'=>H'=H/\∀ k v,kvs[i]?=some (k,v)->x=v,λi H=>H a=some (.aQ o<|.dT kvs)/\kvs.length<=i⟩
theorem Yq(a it:Qg)(o:Obj)(kvs:Qa (Qa Key×V))(ep:Nat)(qP:∃ es,o.data=.dict es ep):Turn P w K tg (QU a o kvs) [it] it (λi h=>h.IsValIter it a i kvs.length ep) where
 mem:=by simp
 obj:=λi h st b hb=>by
  have e:b=it:=by simpa using hb
  subst e;have(oi,e,c,d):=st;exact⟨oi,e,λv z=>by rw[d]at z; cases z⟩
 keep:=λi h h' st k=>by
  have(oi,e,c,d):=st;exact⟨oi,k it (by simp) _ e,c,d⟩
 item:=by
  intro X hP hw hK hc i pins s σ H E I hf st hg;subst hP hw hK;have(e,hi):=hg;have(lG,es,dM,ea,xd,dat,hsz,ent):=uT I e;have lO:dM=ep:=by
   have(lN,z):=qP;rw[dat]at z;injection z
  subst lO;have(b,x,ex,kx,hb,rv):=ent i kvs[i].1 kvs[i].2 (ql hi);have(f0,f1,f2,f3,f4,f5):=hf it (by simp);refine Ys (es:=es) (by rw[hsz]; exact st) ⟨o,ea,xd,dat⟩ ex λh' fu sb=>?_;have I1:Inv X pins σ H {s with heap:=h'}:=I.turned (t':=s.toks) (λb o hb e=>(sb.2 b hb).trans e) f0 f1 f3 f4 f5;have(oi,e',c',d'):=id fu;refine⟨x.val,rfl,vZ (s:={s with heap:=h'}) e' c' d' (by decide) ⟨kvs[i].2,H,I1,rv,⟨rfl,λk v jd=>?_⟩,by rw[hsz]at fu; exact fu,λb hb=>(hf b hb).1⟩⟩;rw[ql hi]at jd;rw[qw jd]
 done:=by
  intro X hP hw hK hc i pins s σ H E I hf st hg;subst hP hw hK;have(e,hi):=hg;have(lG,es,dM,ea,xd,dat,hsz,ent):=uT I e;have lO:dM=ep:=by
   have(lN,z):=qP;rw[dat]at z;injection z
  subst lO;have(f0,f1,f2,f3,f4,f5):=hf it (by simp);exact Xa (es:=es) (I.ok.hd hc) (by rw[hsz]; exact st) ⟨o,ea,xd,dat⟩ (by omega) λh' eb=>⟨rfl,I.turned (t':=s.toks) (λb o hb e=>eb b o hb e) f0 f1 f3 f4 f5⟩
 self:=λ_ _ _ _ _ st h=>wpAny_pyIter_valiter st h
section
variable{X:Cx}
def IB(td:TE):TI:=λσ H R=>td σ H λx H1=>∃ a o kvs,x=.ref a/\H1 a=some (.aQ o<|.dT kvs)/\R (QU a o kvs) H1
theorem RC{d:Expr}(hd:Wr (PE X d td))(cp:attributeBase d "values" X.env (eval d X.env)=eval d X.env:=by rfl)(cj:(apos.endLine==aX.line)=true:=by rfl):Wr (PI X tg (.Call (.Attribute d "values" apos) [] [] aX)<|IB td):=by
 refine⟨?_⟩;intro pins s σ H R I h;refine wpAny_Call_method0_late cp cj<|aD (hd.run pins s σ H _ I h) λv s1 hZ=>?_;have(x,H1,I1,r1,q1):=hZ;have(a,o,kvs,rfl,e,q):=q1;cases r1;have(lG,es,ep,ea,xd,dat,hsz,_):=uT I1 e;have xo:gX s1.heap a es ep:=⟨o,ea,xd,dat⟩;refine⟨"dict", "dict.values",F.plainAttrs_dict,F.slot_dict_values,F.type_dict_values,xo.typeIs,λb hb=>?_,å rfl<|PySem.evalArgs_none<|Z3 lG xo ?_⟩
 .cases hb
  exact⟨o,ea,xd.2.1⟩
 have I2:Inv X pins σ H1 {s1 with heap:=s1.heap.push {cls:=.type "dict_values",data:=.fields #[.ref a]}}:=I1.kept (t':=s1.toks) λb o z=>qd _ z;refine Yr (v:=s1.heap.objs.size) (s:={s1 with heap:=s1.heap.push {cls:=.type "dict_values",data:=.fields #[.ref a]}}) ⟨_,qg _ rfl,rfl,rfl⟩ ⟨o,qd _ ea,xd,dat⟩ λh' hit oG=>?_;refine⟨_,_,_,_,H1,rfl,I2.kept (t':=s1.toks) oG,Yq a _ o kvs ep ⟨es,dat⟩,by rw[<-hsz]; exact hit,λb hb=>?_,q⟩;rw[qp.mp hb];exact I2.cM (qe _)<|I2.aw.fresh<|qe _
end
def y8:U->Qb (Qa D)
 | .d (.dict kvs)=>if hU kvs=true then some (kvs.map (·.2))else none
 | _=>none
theorem UQ{me:ME}(h:VE K te me):VI K (IB te) (cP y8 me):=by
 intro ρ σ H ds ao R r e q;obtain⟨⟨a,aq⟩,e1,e⟩:=zb e;have(u,eu,e):=zb e;have(xs,ex,e):=zb e;cases e;refine h ρ σ H a _ _ r e1 λv H1 g1 k1=>?_;have p:=k1.now r g1 eu;unfold y8 at ex;split at ex
 .split at ex
  rotate_left
  .cases ex
  rename_i nx;cases ex;have(b,o,ws,rfl,h1,h2):=DF.bT p nx;refine⟨b,o,ws,rfl,h1,q _ _ g1 λH2 k i=>?_⟩;have je:=k.aQ _ _ _ h1;refine⟨λd ed=>?_,λei=>?_⟩
  .rw[List.getElem?_map]at ed
   obtain⟨⟨kd,vd⟩,ew,rfl⟩:=qq.mp ed;have(ks,w,eF,rfl,dv):=E7 h2 ew;refine⟨⟨je,(qk.mp eF).1⟩,λx H' y=>?_⟩;have(rfl,y):=y;rw[y ks w eF];exact⟨λ_ _ z=>z,dv.kp k⟩
  .rw[List.length_map,<-E6 h2]at ei
   exact⟨je,þ ei.symm⟩
 .cases ex
section
variable{X:Cx}{C dx:Qg}{fs:Qa (Str×V)}
theorem Inv.HQ(I:Inv X pins σ H s)(e:H a=some (.ins C dx fs)):∃ o,Inv X pins σ (upd H a<|.aQ o<|.ins C dx fs) s:=by
 have ok:=(show bR X.prog X.w X.K H s.heap a (.ins C dx fs) from I.aw a _ e);have(d,z,ne,ob,_):=id ok;refine⟨PySem.W.instObj C dx,?_⟩;have xq:bR X.prog X.w X.K (upd H a<|.aQ (PySem.W.instObj C dx)<|.ins C dx fs) s.heap a (.ins C dx fs):=
  ok.cK (λ_ _ _ q=>q) (λb q=>by rw[zy<|nB q e (by intro z; cases z)]; exact q) λb ys q=>by rw[zy<|nB q e (by intro z; cases z)]; exact q
 exact I.write (t':=s.toks) (h':=s.heap) (by rw[e]; trivial) (.inl rfl) (λ_ _ _ q=>q) ⟨_,ob⟩ ⟨ob,xq⟩
theorem zlW{b:Bool}{o:Obj}(I:Inv X pins σ H s)(e:H a=some (.aQ o<|.ins C dx fs))(c:m3 X.K C)(n:g6 X.K C f)(l:fs.lookup f=some v)
  (h:∀ u s',Inv X pins σ H s'->zO v u->Q u s'):wpAny (model X.prog X.w) A (getAttr (.ref a) f b) Q E s:=by
 have(_,d,z,ne,ob,mA,nn,r,q):=(show bR X.prog X.w X.K H s.heap a (.aQ o<|.ins C dx fs) from I.aw a _ e);have(u,hu,ru):=iu.some_of (v:=v) (o:=mA f) (by rw[<-l]; exact r f);exact V2 I.bN (⟨ob,nn,ne⟩:iO s.heap a dx C mA) (c.get f) c.hd n hu (Zg ru)<|h u _ (I.tok _) ru
end
def IA(K:qc)(f:Str):V->Hp->VK->Prop:=λx H Q=>∃ a C dx o fs v,x=.ref a/\H a=some (.aQ o<|.ins C dx fs)/\m3 K C/\g6 K C f/\fs.lookup f=some v/\Q v H
section
variable{X:Cx}{value:Expr}
theorem gZ(K:qc)(hK:X.K=K)(he:Wr (PE X e ta))(hb:attributeBase e f X.env (eval e X.env)=eval e X.env):Wr (PE X (.Attribute e f pos)<|BY (IA K f) ta):=by
 subst hK;refine⟨?_⟩;intro pins s σ H Q I h;refine V0 hb<|aD (he.run pins s σ H _ I h) λu s1 hZ=>?_;have(x,H1,I1,rx,a,C,dx,oo,fs,v,ex,ea,c,n,l,q):=hZ;subst ex;obtain rfl:u=Value.ref a:=rx;exact zlW I1 ea c n l λu' s2 I2 ru=>⟨v,H1,I2,ru,q⟩
end
def B0(K:qc)(C:Qg)(fl:Qa Str):Sp:=λvs H Q _=>∃ a dx us,vs=.ref a::us/\us.length=fl.length/\H a=some (.ins C dx [])/\Q .aI (upd H a<|.ins C dx<|fl.zip us)
theorem UP{C:Qg}{Q:VK}{E:XK}(h:B0 K C fl vs H Q E):vs.length=fl.length+1:=by
 have(a,dx,us,rfl,l,_):=h;rw[qt,l]
theorem ln3{us:Qa α}(l:us.length=3):∃ u v w,us=[u,v,w]:=by
 rcases us with _|⟨u,_|⟨v,_|⟨w,_|⟨x,us⟩⟩⟩⟩<;>simp at l;exact⟨u,v,w,rfl⟩
theorem W9{C:Qg}{g h:Str}{Q:VK}{E:XK}(c:m3 K C)(n1:g6 K C f)(n2:g6 K C g)(n3:g6 K C h)(d1:¬f=g)(d2:¬f=h)(d3:¬g=h)(q:B0 K C [f,g,h] vs H Q E):
  vN (yO K (iV 0) (iV 1) f) (vN (yO K (iV 0) (iV 2) g)<|yO K (iV 0) (iV 3) h) {nx:=λ_ H'=>Q .aI H',rt:=Q} (gv N vs) H:=by
 have(a,dx,us,rfl,l,e,q):=q;have(u,v,w,rfl):=ln3 l;refine⟨u,rfl,.ref a,rfl,a,C,dx,[],rfl,e,c,n1,by decide,?_⟩;refine⟨v,rfl,.ref a,rfl,a,C,dx,_,rfl,zw,c,n2,?_,?_⟩
 .show(eL f u []).length < 1000
  simp[eL]
 refine⟨w,rfl,.ref a,rfl,a,C,dx,_,rfl,zw,c,n3,?_,?_⟩
 .simp only[eL]
  split<;>simp
 .show Q .aI _
  rw[AV,AV];have e3:eL h w (eL g v<|eL f u [])=[f,g,h].zip [u,v,w]:=by
   simp[eL,d1,d2,d3,List.zip]
  rw[e3];exact q
def OF(K:qc)(C:Qg)(fl:Qa Str)(t:TA):TE:=λσ H Q=>Jf C (B0 K C fl) [] E0 t σ H λv H2=>∃ a dx fs,v=.ref a/\H2 a=some (.ins C dx fs)/\∀ o,Q v<|upd H2 a<|.aQ o<|.ins C dx fs
structure t6 (P:Qe) (w:Qh) (K:qc) (mg:Str->Qb Qc) (base:Heap) (n:Str) (C:Qg) (fl:Qa Str):Prop where
 xn:XN K n C
 cl:m3 K C
 na:∀ f∈fl,g6 K C f
 gm:mg n=some (.ref C)
 fn:∃ (f:Qg) (fd:FuncData) (ps:Qa Str),Mk K C f/\mn K fd ps []/\cw P w K mg base iR 1 f fd ps (B0 K C fl)
section
variable{X:Cx}{C:Qg}{k:Nat}{p:Pos}{es:Qa Expr}{t:TA}
theorem DP(O:t6 X.prog X.w X.K X.mg X.base x C fl)(ha:Wr (PA X (e::es) t))(hr:aH 2 X.A:=by exact aH.mono ‹aH _ _› (by decide))(hg:Gl X x:=by exact rfl)(dg:(x==("__debug__":Str))=false:=by decide)
  (he:zV e=true:=by rfl) (eC:es.all zV=true:=by rfl):Wr (PE X (.Call (.Name x p) (e::es) [] pos)<|OF X.K C fl t):=by
 have(f,fd,ps,M,hb,F):=O.fn;refine⟨λpins s σ H Q I h=>?_⟩;refine aD (VX (p:=p) (pos:=pos) (dvs:=[]) (E:=E0) M F hr hg O.gm hb .nil Jc ha.run dg (i0 he) (sE eC) pins s σ H _ I h) λu s1 hZ=>?_;have(v,H2,I2,r,a,dx,fs,ev,e,q):=hZ;have(o,I3):=I2.HQ e;exact⟨v,_,I3,r,q o⟩
end
section
variable{n:Str}{C:Qg}
def vh:Qa Str->Qa D->Qa (D×D)
 | f::fl,d::ds=>(.str f,d)::vh fl ds
 | _,_=>[]
theorem JU:∀ {fl:Qa Str} {vs:Qa V} {ds:Qa D},aK K H vs ds->gP K H (fl.zip vs) (vh fl ds)
 | [],_,_,_=>.nil
 | _::_,_,_,.nil=>.nil
 | _::_,_,_,.cons h t=>.cons h<|JU t
def rg(n:Str)(fl:Qa Str)(ds:Qa D):D:=.dict ((.bool true,.str n)::vh fl ds)
def ub(n:Str)(fl:Qa Str)(ma:MA):ME:=λρ=>(ma ρ).bind λp=>(bt p.2 p.1).bind λus=>(iy us).bind λds=>if ds.length=fl.length then some (.u<|.d<|rg n fl ds,p.2)else none
theorem DT{t:TA}{m:MA}(xn:XN K n C)(h:iN K t m):VE K (OF K C fl t) (ub n fl m):=by
 intro ρ σ H a ao Q rs e q;obtain⟨⟨as,aq⟩,e1,e⟩:=zb e;have(us,eu,e):=zb e;have(ds,ed,e):=zb e;split at e
 rotate_left
 .cases e
 rename_i hl;cases e;refine h ρ σ H as aq _ rs e1 λvs H1 g1 s1=>?_;have df:=EI (s1.ku rs g1 eu) ed;intro x dx hx hdx ne;refine⟨x,dx,vs,by rw[List.append_nil],by rw[df.len,hl],zw,rfl,x,dx,_,rfl,zw,λo=>?_⟩;rw[AV,AV];have sm:b8 H1 (upd (upd H1 dx<|.own x) x<|.aQ o<|.ins C dx<|fl.zip vs):=λb u hb=>by
  rw[zy<|jD hb hx,zy<|jD hb hdx];exact hb
 exact q _ _ (g1.trans<|Go.grow g1.rs sm) ⟨DF.obj zw xn<|JU<|df.kp sm.kp,Nw.data⟩
theorem DF.oC{ds:Qa (D×D)}(h:DF K H v (.dict<|(.bool true,.str n)::ds)):∃ a C dx o fs,v=.ref a/\H a=some (.aQ o<|.ins C dx fs)/\XN K n C/\gP K H fs ds:=by
 generalize eq:(PyData.dict<|(.bool true,.str n)::ds)=z at h;cases h with
 | gx h t=>
  cases eq;generalize eq2:((PyData.bool true,PyData.str n)::ds)=y at t;cases t with
  | nil=>cases eq2
  | cons=>cases eq2
 | exc h e t=>cases eq
 | obj h e t=>cases eq; exact⟨_,_,_,_,_,rfl,h,e,t⟩
 | _=>cases eq
def dW(n f:Str):U->Qb U
 | .d (.dict<|(.bool true,.str m)::ds)=>if m=n then(rE f ds).map .d else none
 | _=>none
theorem g7(xn:XN K n C)(c:m3 K C)(na:g6 K C f):VU K (IA K f) (dW n f):=by
 intro x a u H Q h e q;unfold dW at e;split at e
 .rename_i m ds
  split at e
  .rename_i hn
   subst hn;have(d,ed,rfl):=qq.mp e;have(a,C',dx,o,fs,rfl,ha,xn',t):=DF.oC h;have(v,ev,hv):=t.get ed;have:C'=C:=by
    have z:=(show PySem.W.nsIn K mainGlobals m=some (some<|.ref C') from xn').symm.trans (show PySem.W.nsIn K mainGlobals m=some (some<|.ref C) from xn);injection z with z;injection z with z;injection z
   subst this;exact⟨a,C',dx,o,fs,v,rfl,ha,c,na,ev,q v H (b8.refl H) hv Nw.data⟩
  .cases e
 .cases e
end
section
variable{X:Cx}
theorem FG:∀ (ns:Qa Int),aK K H (ns.map V.int)<|ns.map PyData.int
 | []=>.nil
 | n::ns=>.cons (.int n)<|FG ns
theorem Ek{g:Qg}(gt:mZ K g ns)(hn:ns≠[]:=by decide):VE K (tC<|.ref g) (mC<|.tuple<|ns.map PyData.int):=by
 intro ρ σ H a ao Q rs e q;cases e;have(o,i,n,z1,z2,z3,z4,z5):=gt;refine q _ _ (Go.refl rs) ⟨DF.tup (.inr ⟨o,i,n,z1,z2,z3,z4,z5,?_⟩)<|FG ns,Nw.data⟩;cases ns with
 | nil=>exact absurd rfl hn
 | cons a r=>exact⟨a,_,rfl⟩
def nM(i:Int):Int:=(Builtin.Int.intBits i:Nat)
def Iz:V->Qa V->Hp->VK->Prop:=λx xs H Q=>∃ i,x=.int i/\xs=[]/\Q (.int<|nM i) H
theorem KN:vH X "int.bit_length" Iz:=by
 intro pins s σ H x xs v us Q I rx rv h;have(i,rfl,rfl,q):=h;have(t,rfl):=rx;cases rv;exact call_int_bit_length ⟨.int<|nM i,H,I.tok _,⟨_,rfl⟩,q⟩
def vV:U->Qb U
 | .d (.int i)=>some<|.d<|.int<|nM i
 | _=>none
theorem JT{to:TE}{mo:ME}(h:VE K to mo):VE K (DA K "int" Iz to) (bM vV mo):=by
 intro ρ σ H a ao Q rs e q;obtain⟨⟨a1,aq⟩,e1,e⟩:=zb e;have(x,ex,e):=zb e;have(u,eu,e):=zb e;cases e;refine h ρ σ H a1 _ _ rs e1 λv1 H1 g1 k1=>?_;have p:=k1.now rs g1 ex;unfold vV at eu;split at eu
 .rename_i z
  cases eu;cases DF.int_inv p;exact⟨rfl,z,rfl,rfl,q _ _ g1 ⟨DF.int _,Nw.data⟩⟩
 .cases eu
theorem Z2{Q:Bool->Qd->Prop}(hd:(d==sysModules)=false)(r:gX s.heap d es ep)(hfit:(es.size:Int) < 2^63)
  (h:Q (es.size != 0) {s with toks:=s.toks+1+1}):wpAny (model prog w) A (truthy<|.ref d) Q E s:=by
 have hT:=r.typeIs;have(o,e,_,dat):=r;have qM:((es.size:Int) != 0)=(es.size != 0):=by
  cases z:es.size with
  | zero=>rfl
  | succ n=>
   rw[bne_iff_ne.mpr (by omega),bne_iff_ne.mpr (by omega)]
 have key:wpAny (model prog w) A (runValue<|.builtin "len" ⟨[.ref d],[]⟩) (λr s'=>r=.int es.size (s.toks+1)/\Q (es.size != 0) s') E s:=by
  refine wpAny_runValue<|codeAny_builtin entry_len ?_;rw[Around.under_plainId plain_len _];unfold Builtin.«len»;refine qa (m:=oneArg "len" _)<|qb ?_;refine qa (m:=callSpecial? (.ref d) (Str.ofString "__len__")) (wpAny_callSpecial?_slot (name:=Str.ofString "__len__") hT F.slot_dict_len
   (wpAny_call_entry F.slot_dict_len hT F.entry_dict_len ?_<|F.args_dict_len_1 _))
  show wpAny _ _ (dictSize d >>= _) _ _ s;unfold dictSize;refine qa<|qa<|wpAny_dictEntries e dat<|qb ?_;show wpAny _ _ (Builtin.Dict.pendingCount d >>= _) _ _ s;refine qa<|wpAny_pendingCount_other hd ?_;refine wpAny_ret_mkInt ?_;show wpAny _ _ _ _ _ {s with toks:=s.toks+1};refine qa<|wpAny_holding<|qb ?_;refine qa<|wpAny_letGo ?_;show wpAny _ _ (if((es.size+0:Nat):Int) < 0 then _ else _) _ _ _;rw[if_neg (by omega)];show wpAny _ _ (if((es.size+0:Nat):Int)>=2^63 then _ else _) _ _ _;rw[if_neg (by rw[Nat.add_zero]; omega)];exact qa<|wpAny_mkInt<|qb ⟨rfl,h⟩
 unfold truthy
 first
  | refine qa<|wpAny_callSpecial?_none (name:=Str.ofString "__bool__") hT noBool_dict ?_
  | refine qa (qb<|qa<|wpAny_callSpecial?_none (name:=Str.ofString "__bool__") hT noBool_dict ?_)
 first
  | refine qa<|wpAny_specialOf (name:=Str.ofString "__len__") hT F.slot_dict_len.lookup ?_
  | refine qa (qb<|qa<|wpAny_specialOf (name:=Str.ofString "__len__") hT F.slot_dict_len.lookup ?_)
 first
  | exact qa<|wpAny_mono key (λr s' h'=>by have(rfl,hq):=h'; exact qb<|qM▸hq) λ_ _ e=>e
  | exact qa<|qb<|qa<|wpAny_mono key (λr s' h'=>by have(rfl,hq):=h'; exact qb<|qM▸hq) λ_ _ e=>e
def Iy(ta:TE):TT:=λσ H Q=>ta σ H λx H1=>∃ p kvs,x=.ref p/\H1 p=some (.dT kvs)/\Q (!kvs.isEmpty) H1
theorem RB{a:Expr}(ha:Wr (PE X a ta))(he:∀ whole,isTrue a X.env whole=(do let v <-whole; standAt a.pos; holding [v] (truthy v)):=by intro _; rfl):Wr (PT X a<|Iy ta):=by
 refine⟨?_⟩;intro pins s σ H Q I h;refine isTrue_plain (aD (ha.run pins s σ H _ I h) λv s1 hZ=>?_)<|he _;have(x,H1,I1,r1,p,kvs,ex,ep,q1):=hZ;subst ex;cases r1;have(z,y,xs,r,o,es,eq,h1,h2,h3,h4,h5):=(show bR X.prog X.w X.K H1 s1.heap p (.dT kvs) from I1.aw p _ ep);have hl:es.size=kvs.length:=by
  have:=congrArg List.length h4;rw[Array.length_toList,List.length_map,<-wQ r]at this;exact this
 have hs:sizeLine=16777216:=sizeLine_eq;refine Z2 y ⟨o,h1,h2,h3⟩ (by omega) ⟨H1,I1.tok _,?_⟩;have e2:(es.size != 0)=!kvs.isEmpty:=by
  rw[hl];cases kvs<;>rfl
 rw[e2];exact q1
def vU(ma:ME):MT:=λρ=>(ma ρ).bind λp=>(p.1.get p.2).bind λu=>match u with
 | .t kvs=>some (!kvs.isEmpty,p.2)
 | _=>none
theorem UO{ma:ME}(ha:VE K ta ma):VT K (Iy ta) (vU ma):=by
 intro ρ σ H b ao Q r e q;obtain⟨⟨a,aq⟩,e1,e⟩:=zb e;have(u,eu,e):=zb e;refine ha ρ σ H a _ _ r e1 λv H1 g1 k1=>?_;have p:=k1.now r g1 eu;cases u with
 | t kvs=>
  cases e;have(a,ws,rfl,h1,h2):=p;refine⟨a,ws,rfl,h1,?_⟩;have e2:(!ws.isEmpty)=!kvs.isEmpty:=by cases h2<;>rfl
  rw[e2];exact q _ g1
 | _=>cases e
def JS(K:qc):Qa V->Hp->VK->Prop:=λxs H Q=>∃ (d:Qg) (ns:Qa Int),xs=[.ref d]/\bz K H d (ns.map V.int)/\ns.length < 64/\
 ∀ (ms:Qa Int) l,ms.Perm ns->ms.Pairwise (·<=·)->H l=none->Q (.ref l) (upd H l<|.lst<|ms.map V.int)
theorem Z1(hK:X.K=K:=by rfl):e8 X (.builtin "sorted") (JS K):=by
 subst hK;intro pins s σ H xs us Q I r h;have(d,ns,rfl,hd,HM,q):=h;have(u,rfl,ru):=ju r;cases ru;obtain⟨ah,rv,⟨o,eo,co,n,dO⟩,_⟩:=I.tuple hd;have hI:=MZ rv;have lv:ah.length=ns.length:=by
  have:=rv.length;rw[List.length_map]at this;exact this.symm
 have line:(64:Nat)<=sizeLine:=by decide
 refine Calls.call_function_entry kind_sorted plain_sorted entry_sorted (args_sorted1 _) ?_;unfold Builtin.«sorted»;refine qa (m:=checkCount "sorted" 1 1 _)<|qb ?_;refine qa<|wpAny_collect_seq d (.inr rfl) eo co dO (λh1 keep=>?_) (by rw[List.size_toArray]; omega);rw[List.toList_toArray];refine qa<|wpAny_newList ?_ (by omega);have I1:Inv X pins σ H {s with heap:=h1,toks:=s.toks}:=I.kept keep;have oO:(h1.push<|seqObj "list" ah.toArray 0).get? h1.objs.size=some (seqObj "list" ah.toArray 0):=qg _ rfl;refine qa<|wpAny_holding<|wpAny_call_entry slot_list_sort ⟨_,oO,rfl⟩ entry_list_sort (list_sort_tree (s:={s with heap:=h1.push (seqObj "list" ah.toArray 0)}) oO hI (by omega) λout ms a1 a2 a3=>⟨_,rfl,?_⟩)<|args_list_sort _;refine qb ⟨_,rfl,?_⟩;have(en,ho):=sortedHeap_at (vs:=ah) (out:=out) oO;have fresh:H h1.objs.size=none:=I1.aw.fresh (qe _);have lm:ms.length=ns.length:=a2.length_eq;refine⟨.ref h1.objs.size,_,I1.laid (t':=s.toks) (a:=h1.objs.size) (o:=.lst (ms.map V.int)) (λb o e=>?_) (qe _) ⟨by rw[List.length_map]; omega,out.toList,en,FU a1,by simpa using ho⟩,rfl,q ms _ a2 a3 fresh⟩;have hb:b < h1.objs.size:=qh e;rw[sortedHeap_old (qj hb) (by rw[Heap.size_push]; exact à hb)];exact qd _ e
def ua(x:Int):Qa Int->Qa Int
 | []=>[x]
 | y::ys=>if x<=y then x::y::ys else y::ua x ys
def cJ:Qa Int->Qa Int
 | []=>[]
 | x::xs=>ua x<|cJ xs
theorem F2(x:Int):∀ xs,(ua x xs).Perm<|x::xs
 | []=>.refl _
 | y::ys=>by
  unfold ua;split
  .exact .refl _
  .exact((F2 x ys).cons y).trans (.swap x y ys)
theorem F5:∀ xs,(cJ xs).Perm xs
 | []=>.refl _
 | x::xs=>(F2 x _).trans<|(F5 xs).cons x
theorem KL(x:Int):∀ {xs:Qa Int},xs.Pairwise (·<=·)->(ua x xs).Pairwise (·<=·)
 | [],_=>List.pairwise_singleton _ _
 | y::ys,h=>by
  have(h1,h2):=Î.mp h;unfold ua;split
  .rename_i le
   refine Î.mpr ⟨λz hz=>?_,h⟩;rcases qu.mp hz with e|hz
   .omega
   .have:=h1 z hz
    omega
  .rename_i le
   refine Î.mpr ⟨λz hz=>?_,KL x h2⟩;rcases qu.mp ((F2 x ys).mem_iff.mp hz)with e|hz
   .omega
   .exact h1 z hz
theorem LN:∀ xs,(cJ xs).Pairwise (·<=·)
 | []=>.nil
 | x::xs=>KL x<|LN xs
theorem Xu{xs ys:Qa Int}(p:ys.Perm xs)(s:ys.Pairwise (·<=·)):ys=cJ xs:=by
 refine List.Perm.eq_of_pairwise (le:=(·<=·)) (λa b _ _ h1 h2=>Int.le_antisymm h1 h2) s (LN xs)<|p.trans (F5 xs).symm
def Ah(u:U):Qb U:=match u with
 | .d (.tuple xs)=>(nH xs).bind λns=>if ns.length < 64 then some (.l<|(cJ ns).map .int)else none
 | _=>none
theorem Xt:VC K (JS K) (f1 Ah):=ph λv a u H Q h e q=>by
 unfold Ah at e;split at e
 .have(ns,en,e):=zb e
  split at e
  .rename_i hz
   cases e;have(b,xs,rfl,h1,h2):=DF.aE h;refine⟨b,ns,rfl,by rw[<-LI h2 en]; exact h1.sq,hz,λms l hp hs hl=>?_⟩;rw[Xu hp hs];have sm:=zL hl (.lst<|(cJ ns).map V.int);exact q _ _ sm ⟨l,_,rfl,zw,FG _⟩ λ_=>⟨l,rfl,hl⟩
  .cases e
 .cases e
theorem zl0{Q:Qa Qc->Qd->Prop}{r:Qg}{a c:Int}{t u v:Tok}(hh:A.handled=none)(hr:IsRange s.heap r a b c t u v)(iF:Builtin.Range.small a b c=true)
  (hn:Builtin.Range.rangeSize a b c=n) (hlen:n<=2^24)
  (hQ:∀ h' tk acc,(∀ b o,s.heap.get? b=some o->h'.get? b=some o)->ItemsOf (λi v=>∃ t,v=.int (a+i * c) t) acc n->Q acc.toList {s with heap:=h',toks:=tk}):
  wpAny (model prog w) A (collect<|.ref r) Q E s:=by
 unfold collect;refine qa<|wpAny_runValue<|codeAny_builtin F.entry_proto_collect ?_;rw[Around.under_plainId F.plain_proto_collect _];show wpAny _ A.in1 (newList [] >>= λl=>again<|.builtin "list.__iadd__" ⟨[l,.ref r],[]⟩) _ _ s;refine qa<|qy ?_;refine qb ⟨plainId_quiet F.plain_list_iadd _,codeAny_builtin F.entry_list_iadd ?_⟩;rw[Around.under_plainId F.plain_list_iadd _];show wpAny _ A.in1 (Builtin.List.listExtendWith (.ref s.heap.objs.size) (.ref r)<|.ref s.heap.objs.size) _ _ _;have hS:(s.heap.push {cls:=.type "list",data:=.seq ([]:Qa Qc).toArray}).get? s.heap.objs.size=some {cls:=.type "list",data:=.seq #[] 0}:=qg _ rfl;have ye:∀ (s':Qd),(∃ h' tk acc c',s'={s with heap:=h',toks:=tk}/\(∀ b o,b≠s.heap.objs.size->(s.heap.push {cls:=.type "list",data:=.seq ([]:Qa Qc).toArray}).get? b=some o->h'.get? b=some o)/\
   h'.get? s.heap.objs.size=some {cls:=.type "list",dict:=none,data:=.seq acc c',slots:=#[]}/\ItemsOf (λi v=>∃ t,v=.int (a+i * c) t) acc n)->wpAny (model prog w) A (match Value.ref s.heap.objs.size with
   | Value.ref a=>do
    match (<-load a).data with
     | Data.seq xs _=>pure xs.toList
     | _=>unsupported "internal:collect"
   | _=>unsupported "internal:collect") Q E s':=by
  rintro s' ⟨h',tk,acc,c',rfl,hk,HH,gL⟩;show wpAny _ A (load s.heap.objs.size >>= _) _ _ _;refine qa<|wpAny_load HH<|qb ?_;exact hQ h' tk acc (λb o e=>hk b o (qj<|qh e)<|qd _ e) gL
 refine wpAny_mono (wpAny_extend_range (A:=A) (R:=λr s'=>r=.ok (.ret<|.ref s.heap.objs.size)/\∃ h' tk acc c',s'={s with heap:=h',toks:=tk}/\(∀ b o,b≠s.heap.objs.size->(s.heap.push {cls:=.type "list",data:=.seq ([]:Qa Qc).toArray}).get? b=some o->h'.get? b=some o)/\
   h'.get? s.heap.objs.size=some {cls:=.type "list",dict:=none,data:=.seq acc c',slots:=#[]}/\ItemsOf (λi v=>∃ t,v=.int (a+i * c) t) acc n)
  (s:={s with heap:=s.heap.push {cls:=.type "list",data:=.seq ([]:Qa Qc).toArray}}) hh (qd _ hr) iF hn hlen s.heap.objs.size _ 0 hS λh' tk acc c' hk HH gL=>⟨rfl,h',tk,acc,c',rfl,hk,HH,gL⟩) (λfin s' h=>?_) λe s' h=>?_
 .cases fin with
  | done f=>
   have(e,h):=h;cases e;exact ye s' h
  | again c'=>exact⟨h.1,codeAny_mono h.2 λr sP hr=>by have(rfl,h):=hr; exact ye sP h⟩
 .exact absurd h.1 (by simp)
theorem zhj{r:Qg}{a c:Int}{t u v:Tok}(iF:Builtin.Range.small a b c=true)(hn:Builtin.Range.rangeSize a b c=n)(hlen:n<=2^24):
  Meets (Builtin.«tuple.__new__» ⟨[.type "tuple",.ref r],[]⟩)
   (λA R s=>A.handled=none/\IsRange s.heap r a b c t u v/\∀ (h':Heap) (tk:Nat) (acc:Array Qc),(∀ b o,s.heap.get? b=some o->h'.get? b=some o)->ItemsOf (λi v=>∃ t,v=.int (a+i * c) t) acc n->
    R (.ok<|.ret<|.ref h'.objs.size) {s with heap:=h'.push {cls:=.type "tuple",data:=.seq acc},toks:=tk}):=
 .of_wp λprog w A R s h=>by
  have(hp,g,d,tk,os):=s;have(hh,hr,h):=h;have xI:=sub_tuple_self;have PH:=init_tuple_lookup;have hmh:=madeHere_tuple;have hT:Shared.TypeIs ⟨hp,g,d,tk,os⟩ (.ref r) "range":=⟨_,hr,rfl⟩;have hh1:A.in1.handled=none:=hh
  wp_walk using AutoSeq1.wpAny_loadPart' hr,wpAny_typeOf hT,zl0 (A:=A.in1) hh1 hr iF hn hlen
  intro h' tk' acc hk gL;show wpAny _ _ (Builtin.Tuple.tupleExact acc.toList.toArray >>= λv=>ret v) _ _ _;unfold Builtin.Tuple.tupleExact;refine qa<|qy ?_ (show acc.toList.toArray.size<=sizeLine by simp only[Array.toArray_toList]; rw[gL.1,sizeLine_eq]; omega);refine qb ⟨_,rfl,?_⟩;have e:acc.toList.toArray=acc:=by simp
  rw[e];exact h h' tk' acc hk gL
def Iw:Qa V->Hp->VK->Prop:=λxs H Q=>∃ (p:Qg) (lo hi:Int),xs=[.ref p]/\H p=some (.sQ lo hi)/\(-(2^62)<=lo/\lo < 2^62/\-(2^62)<=hi/\hi < 2^62)/\(hi - lo).toNat<=sizeLine/\
 ∀ l,H l=none->Q (.ref l) (upd H l<|.tup<|(List.range (hi - lo).toNat).map λi=>.int<|lo+(i:Nat))
theorem Yp(hc:X.calm=true):e8 X (.type "tuple") Iw:=by
 intro pins s σ H xs us Q I r h;obtain⟨p,lo,hi,rfl,hp,⟨b1,b2,b3,b4⟩,hz,q⟩:=h;have(u,rfl,ru):=ju r;cases ru;have(t,u',v,e):=I.aw p _ hp;have hs:sizeLine=2^24:=rfl;refine callType_new F.called_tuple (by decide) (F.typeCall_tuple_1 _) (F.newCall_tuple_1 _) (λobj=>F.args_object_init_2 obj _) F.entry_tuple_new
  (zhj (n:=(hi - lo).toNat) (small_one b1 b2 b3 b4) (by rw[rangeSize_one]; split<;>omega) (by omega)) ⟨I.ok.hd hc,e,λh' tk acc hk gL=>⟨⟨_,qg _ rfl,rfl⟩,?_⟩⟩
 have I1:Inv X pins σ H {s with heap:=h',toks:=tk}:=I.kept hk;refine⟨.ref h'.objs.size,_,I1.laid (t':=tk) (a:=h'.objs.size) (o:=.tup ((List.range (hi - lo).toNat).map λi=>.int<|lo+(i:Nat))) (λb o e=>qd _ e) (qe _) ?_,rfl,q _<|I1.aw.fresh<|qe _⟩;refine⟨by simpa using hz,acc.toList,?_,_,qg _ rfl,rfl,⟨0,by simp⟩,.inl rfl⟩;have(hl,ha):=gL;refine Mz (by simpa using hl.symm) λj x w e1 e2=>?_;have(t2,rfl):=ha j w (by simpa using e2);rw[List.getElem?_map]at e1;have(k,ek,rfl):=qq.mp e1;have hj:j < (hi - lo).toNat:=by
  have:=(qk.mp ek).1;simpa using this
 rw[List.getElem?_range hj]at ek;cases ek;exact⟨t2,by rw[Int.mul_one]⟩
def yE:Qa U->Qb U
 | [.d<|.int j]=>if(-(2^62)<=j/\j < 2^62)/\j.toNat<=sizeLine then some (.d<|.tuple<|eO 0 j.toNat)else none
 | _=>none
def Bn(ma:MA):ME:=λρ=>(ma ρ).bind λp=>(bt p.2 p.1).bind λus=>(yE us).bind λu=>some (.u u,p.2)
theorem Yo{ta:TA}{ma:MA}(h:iN K ta ma):VE K (mM Iw<|nK (mM IS ta) rB) (Bn ma):=by
 intro ρ σ H a ao Q rs e q;replace e:=zb e;obtain⟨⟨as,aq⟩,e1,e⟩:=e;replace e:=zb e;have(us,eu,e):=e;have(uu,et,e):=zb e;cases e;refine h ρ σ H as aq _ rs e1 λvs H1 g1 s1=>?_;have rp:=s1.ku rs g1 eu;unfold yE at et;split at et
 .split at et
  .rename_i j hc
   cases et;cases rp with
   | cons h1 t=>
    cases t;cases DF.int_inv h1;refine⟨j,rfl,λp hp=>?_⟩;have sm1:=zL hp (.sQ 0 j);refine⟨p,0,j,rfl,zw,⟨by decide,by decide,hc.1.1,hc.1.2⟩,by rw[Int.sub_zero]; exact hc.2,λl hl=>?_⟩;have sm2:=zL hl (.tup<|(List.range (j - 0).toNat).map λi=>.int<|0+(i:Nat));have s12:=sm1.trans sm2;refine q _ _ (g1.trans<|Go.grow g1.rs s12) ⟨DF.tup (.inl zw) ?_,Nw.data⟩;rw[Int.sub_zero];exact Se
  .cases et
 .cases et
end
theorem na3{C:Qg}{g h:Str}(a:g6 K C f)(b:g6 K C g)(c:g6 K C h):∀ x∈[f,g,h],g6 K C x:=λx hx=>by
 rcases qu.mp hx with rfl|hx
 .exact a
 rcases qu.mp hx with rfl|hx
 .exact b
 rcases qu.mp hx with rfl|hx
 .exact c
 cases hx
section
variable{c:β->D}{mI:MI}{mg:MG}{mt:MT}{mk mv me ma:ME}{mA:MA}{ρ:En}{QE:Ar×En->Prop}{QT:Bool×En->Prop}
theorem Xs:Wo (tD mI nt js mg mt mk mv ρ) QE=Wo (mI ρ) (Co (λp=>(mV nt mg mt mk mv p.1 (dN nt js p.2) []).bind λq=>some (.u<|.t q.1,back js (q.2.drop nt) p.2)) ⟨0⟩ QE):=by
 unfold tD;rw[zq]
def Dc(nt:Nat)(mk mv:ME)(ys:Qa (Qa Key×D))(P:En->Qa (Qa Key×D)->Prop)(p:Bool×En):Prop :=
 if p.1=true then Wo (mk p.2) (Co (λp=>(mv p.2).bind λq=>(p.1.get q.2).bind λuk=>(q.1.get q.2).bind λuv=>uk.da.bind λdk=>uv.da.bind λdv=>(cO dk).bind λk=>some (reset nt q.2,ig ys k dv)) ⟨0⟩ λz=>P z.1 z.2)else P (reset nt p.2) ys
theorem Xr{ys:Qa (Qa Key×D)}{P:En->Qa (Qa Key×D)->Prop}:Dc nt mk mv ys P (true,ρ)=Wo (mk ρ) (Co (λp=>(mv p.2).bind λq=>(p.1.get q.2).bind λuk=>(q.1.get q.2).bind λuv=>uk.da.bind λdk=>uv.da.bind λdv=>(cO dk).bind λk=>some (reset nt q.2,ig ys k dv)) ⟨0⟩ λz=>P z.1 z.2):=rfl
theorem Xq{ys:Qa (Qa Key×D)}{P:En->Qa (Qa Key×D)->Prop}:Dc nt mk mv ys P (false,ρ)=P (reset nt ρ) ys:=rfl
def ym(l:Pq β):Pq β:=l.foldl (λys t=>bD ys t.1 t.2) []
theorem UN{l:Pq β}:∀ {acc:Pq β},aP (acc++l)->l.foldl (λys t=>bD ys t.1 t.2) acc=acc++l:=by
 induction l with
 | nil=>intro acc _; simp
 | cons t l ih=>
  intro acc h;have e:bD acc t.1 t.2=acc++[t]:=by
   unfold bD;rw[if_neg];intro z;have(u,hu,e):=ì.mp z;have e:=of_decide_eq_true e;have:(acc++t::l).map (·.1)=acc.map (·.1)++t.1::l.map (·.1):=by simp
   rw[aP,this,List.nodup_append]at h;exact h.2.2 u.1 (À.mpr ⟨u,hu,rfl⟩) t.1 (by simp) e
  rw[List.foldl_cons,e,ih (by rw[List.append_assoc]; exact h)];simp
theorem Ej{l:Pq β}(h:aP l):ym l=l:=UN (acc:=[]) h
theorem wy{g:α->D}{b:α->Bool}{k:α->Qa Int}{v:α->β}{Q:Qa (Qa Key×D)×En->Prop}(hz:as.length<=16777216)
  (st:∀ a∈as,∀ ys:Pq β,Wo (mg (g a) ρ)<|Co mt ⟨0⟩<|Dc nt mk mv (aJ c ys) λao zs=>ao=ρ/\zs=aJ c (if b a=true then bD ys (k a) (v a)else ys))
  (q:Q (aJ c<|ym<|(as.filter b).map λa=>(k a,v a),ρ)):Wo (mV nt mg mt mk mv (as.map g) ρ []) Q:=by
 have main:∀ (es:Qa α) (acc:Pq β),(∀ a∈es,a∈as)->acc.length+es.length<=16777216->Q (aJ c<|((es.filter b).map λa=>(k a,v a)).foldl (λys t=>bD ys t.1 t.2) acc,ρ)->Wo (mV nt mg mt mk mv (es.map g) ρ<|aJ c acc) Q:=by
  intro es
  induction es with
  | nil=>intro acc _ _ q; exact⟨_,rfl,q⟩
  | cons a es ih=>
   intro acc hm hl q;rw[qt]at hl;obtain⟨aq,e1,⟨bb,aB⟩,e2,kk⟩:=st a (hm a qo) acc;rw[List.map_cons];unfold mV;rw[if_pos (by rw[JR]; show _ < 16777216; omega),zq];refine⟨aq,e1,?_⟩;rw[jw,zq];refine⟨_,e2,?_⟩;rw[jw];rw[List.filter_cons]at q;have pl:=E5 acc (k a) (v a);cases bb with
   | false=>
    have(e3,e4):=kk;rw[if_neg qf,e3,e4]
    by_cases hb:b a=true
    .rw[if_pos hb]
     rw[if_pos hb]at q;exact ih _ (λx hx=>hm x<|qm _ hx) (by omega) q
    .rw[if_neg hb]
     rw[if_neg hb]at q;exact ih _ (λx hx=>hm x<|qm _ hx) (by omega) q
   | true=>
    rw[if_pos rfl,zq];have(p,e3,kk):=kk;refine⟨p,e3,?_⟩;rw[jw];have(z,e4,e5,e6):=kk;have(q1,f1,e4):=zb e4;have(uk,f2,e4):=zb e4;have(uv,f3,e4):=zb e4;have(dk,f4,e4):=zb e4;have(dv,f5,e4):=zb e4;have(kk,f6,e4):=zb e4;cases e4;rw[f1,bd,f2,bd,f3,bd,f4,bd,f5,bd,f6,bd];dsimp only at e5 e6;rw[e5,e6]
    by_cases hb:b a=true
    .rw[if_pos hb]
     rw[if_pos hb]at q;exact ih _ (λx hx=>hm x<|qm _ hx) (by omega) q
    .rw[if_neg hb]
     rw[if_neg hb]at q;exact ih _ (λx hx=>hm x<|qm _ hx) (by omega) q
 exact main as [] (λ_ h=>h) (by simpa using hz) q
theorem Xp{n:Str}:Wo (ub n fl mA ρ) QE=Wo (mA ρ) (Co (λp=>(bt p.2 p.1).bind λus=>(iy us).bind λds=>if ds.length=fl.length then some (.u<|.d<|rg n fl ds,p.2)else none) ⟨0⟩ QE):=by
 unfold ub;rw[zq]
def jf(p:Pq Int)(b r:Int):D:=rg "Form" ["numbers", "beneath", "room"] [.dict<|aU .int p,.int b,.int r]
theorem Wt{p:Pq Int}{r:Int}:rg "Form" ["numbers", "beneath", "room"] [.dict<|aU .int p,.int b,.int r]=jf p b r:=id rfl
theorem Ws{p:Pq Int}{r:Int}:dW "Form" "numbers" (.d<|jf p b r)=some (.d<|.dict<|aU .int p):=by
 unfold jf rg;simp[dW,vh,rE]
theorem Wq{p:Pq Int}{r:Int}:dW "Form" "beneath" (.d<|jf p b r)=some (.d<|.int b):=by
 unfold jf rg;simp only[dW,vh,rE,if_true];rw[if_neg (by decide)];rfl
theorem Wp{p:Pq Int}{r:Int}:dW "Form" "room" (.d<|jf p b r)=some (.d<|.int r):=by
 unfold jf rg;simp only[dW,vh,rE,if_true];rw[if_neg (by decide),if_neg (by decide)];rfl
def DJ:U->Qb Bool
 | .t kvs=>some (!kvs.isEmpty)
 | _=>none
theorem ZG:Wo (vU ma ρ) QT=Wo (ma ρ) (Co (λp=>(p.1.get p.2).bind λu=>(DJ u).bind λb=>some (b,p.2)) ⟨0⟩ QT):=by
 have e:vU ma ρ=(ma ρ).bind λp=>(p.1.get p.2).bind λu=>(DJ u).bind λb=>some (b,p.2):=by
  unfold vU;congr 1
  funext p
  congr 1
  funext u
  cases u<;>rfl
 rw[e,zq]
theorem Z0{p:Pq β}:DJ (.t<|aJ c p)=some (!p.isEmpty):=by
 show some (!(aJ c p).isEmpty)=_;unfold aJ;rw[List.isEmpty_map]
theorem zl1{p:Pq β}:y8 (.d<|.dict<|aU c p)=some (p.map λt=>c t.2):=by
 show(if hU (aU c p)=true then _ else _)=_;rw[if_pos<|rV p];unfold aU;rw[List.map_map];rfl
theorem ZZ{i:Int}:vV (.d<|.int i)=some (.d<|.int<|nM i):=id rfl
theorem ZY:Wo (Bn mA ρ) QE=Wo (mA ρ) (Co (λp=>(bt p.2 p.1).bind λus=>(yE us).bind λu=>some (.u u,p.2)) ⟨0⟩ QE):=by
 unfold Bn;rw[zq]
theorem L0{j:Int}(h:j < 1000)(h2:-1000 < j):yE [.d<|.int j]=some (.d<|aO ((List.range j.toNat).map λi:Nat=>(i:Int))):=by
 have hs:sizeLine=16777216:=rfl;show(if _ then _ else _)=_;rw[if_pos ⟨⟨by omega,by omega⟩,by omega⟩];unfold eO aO;rw[List.map_map];congr 3;simp[Function.comp_def]
theorem MR(h:ks.length < 64):Ah (.d<|aO ks)=some (.l<|(cJ ks).map .int):=by
 show(nH<|ks.map PyData.int).bind _=_;rw[F3,bd,if_pos h]
theorem Ma(h:ks.length < 64):iY (.l<|ks.map .int)=some (.d<|aO ks):=by
 have hs:sizeLine=16777216:=rfl
 first|rfl | (unfold iY; simp; unfold aO; rfl)
end
section
variable{X:Cx}{i v f:Expr}{tx:TE}{k:Nat}(K:qc)(hK:X.K=K)
include hK
end
section
end
section
end
section
variable{g:Array GenState}{d:Drawn}{t:Nat}{os:OsState}{items:Array Qc}
end
section
variable{X:Cx}{D:Qg}{xs:Qa V}
end
section
variable{X:Cx}
end
section
end
end L2
namespace L2
open PySem PySem.Calls PySem.Spec PyProof.Rows
abbrev jV:=Qa (Qa Key×Qa Key)
def pY(g:jV)(k:Qa Key):Qb (Qa Key):=(g.find? λq=>decide<|q.1=k).map (·.2)
def jg(f g:jV):Bool:=(f.length==g.length) && f.all λp=>decide<|pY g p.1=some p.2
theorem DI{F:α->β->Prop}{l:Qa α}{m:Qa β}(h:Paired F l m):∀ {i:Nat} {x:α},l[i]?=some x->∃ y,m[i]?=some y/\F x y:=by
 induction h with
 | nil=>intro i x e; cases e
 | cons hq t ih=>
  intro i x e;cases i with
  | zero=>cases(show some _=some x from e); exact⟨_,rfl,hq⟩
  | succ i=>exact ih e
theorem Au{F:α->β->Prop}{l:Qa α}{m:Qa β}(h:Paired F l m):l.length=m.length:=by
 induction h with
 | nil=>rfl
 | cons _ _ ih=>simp[ih]
theorem LZ{g:jV}(hn:(g.map (·.1)).Nodup){k v:Qa Key}(e:g[j]?=some (k,v)):pY g k=some v:=by
 induction g generalizing j with
 | nil=>cases e
 | cons q r ih=>
  rw[List.map_cons,List.nodup_cons]at hn;cases j with
  | zero=>
   cases(show some q=some (k,v) from e);unfold pY;rw[List.find?_cons,decide_eq_true rfl];rfl
  | succ j=>
   have m:k∈r.map (·.1):=À.mpr ⟨_,Æ (show r[j]?=some (k,v) from e),rfl⟩;have ne:¬q.1=k:=λz=>hn.1<|z▸m;unfold pY;rw[List.find?_cons,decide_eq_false ne];exact ih hn.2 (show r[j]?=some (k,v) from e)
theorem Wn{g:jV}{k:Qa Key}(h:∀ (j:Nat) (v:Qa Key),g[j]?≠some (k,v)):pY g k=none:=by
 unfold pY;rw[List.find?_eq_none.mpr]
 .rfl
 .intro q hq z
  have(j,hj):=List.mem_iff_getElem?.mp hq;exact h j q.2 (by rw[hj,<-of_decide_eq_true z])
section
abbrev TK(prog:Qe)(w:Qh):=tupleKind (zW prog w)
def vF(prog:Qe)(w:Qh)(h:Heap)(xs:Qa (Qa Key×Qg×Qc))(f:jV):Prop:=Paired (λx p=>x.1=p.1/\∃ c,x.2.2=.ref c/\(TK prog w).is h p.2 c) xs f
theorem Wm{f:jV}(v:vF prog w h xs f):f.map (·.1)=xs.map (·.1):=by
 induction v with
 | nil=>rfl
 | cons hq _ ih=>rw[List.map_cons,List.map_cons,ih,hq.1]
theorem LY{nm:String}{b:Qg}{oa ob:Obj}{fs:Array DictEntry}{dM:Nat}{f g:jV}{Q:Bool->Qd->Prop}(hu:(TK prog w).room A)(ha:(a==sysModules)=false)(hb:(b==sysModules)=false)
  (qL:s.heap.get? a=some oa) (tQ:oa.data=.dict es ep) (tL:s.heap.get? b=some ob) (dg:ob.data=.dict fs dM) (hx:es.toList=xs.map (entryOfKey<|TK prog w)) (hy:fs.toList=ys.map (entryOfKey<|TK prog w))
  (Cf:∀ x∈xs,(TK prog w).is s.heap x.1 x.2.1) (Ce:∀ x∈ys,(TK prog w).is s.heap x.1 x.2.1) (ny:(ys.map (·.1)).Nodup) (vx:vF prog w s.heap xs f) (vy:vF prog w s.heap ys g) (h:Q (jg f g) s):
  wpAny (model prog w) A (Builtin.Dict.samePairs nm a b) Q E s:=by
 have sx:es.size=f.length:=(size_of_entries hx).trans (Au vx);have sy:fs.size=g.length:=(size_of_entries hy).trans (Au vy);have ng:(g.map (·.1)).Nodup:=by rw[Wm vy]; exact ny
 unfold Builtin.Dict.samePairs Builtin.Dict.showsAll;rw[if_neg (show ¬(a==sysModules)=true by rw[ha]; exact qf),if_neg (show ¬(b==sysModules)=true by rw[hb]; exact qf)];refine qa<|qb<|qa<|qb ?_;refine qa<|wpAny_dictEntries qL tQ ?_;dsimp only;refine qa<|wpAny_dictEntries tL dg ?_
 by_cases hsz:es.size=fs.size
 .rw[if_neg (by simpa using hsz)]
  refine qa<|wpAny_dictEpoch qL tQ ?_;refine qa ?_;rw[Std.Legacy.Range.forIn_eq_forIn_range'];simp only[Std.Legacy.Range.size,Nat.sub_zero,Nat.add_sub_cancel,Nat.div_one];have hlen:(f.length==g.length)=true:=by rw[<-sx,<-sy,hsz]; exact beq_self_eq_true _
  refine wpAny_forIn_list _ (λdu r s'=>s'=s/\r=(none,())/\∃ i,i<=f.length/\du=List.range' i (f.length - i)/\∀ j p,j < i->f[j]?=some p->pY g p.1=some p.2) _ ?_ ?_ _ _ ⟨rfl,rfl,0,É _,by rw[sx,Nat.sub_zero],λj p hj=>absurd hj<|Nat.not_lt_zero _⟩
  .rintro x du r s' ⟨rfl,rfl,i,hi,hr,aw⟩
   have fW:i < f.length:=by
    rcases Nat.lt_or_ge i f.length with z|z
    .exact z
    .rw[Nat.sub_eq_zero_of_le z]at hr; cases hr
   obtain⟨n,hn⟩:∃ n,f.length - i=n+1:=⟨f.length - i - 1,by omega⟩;rw[hn,List.range'_succ]at hr;injection hr with hr1 hr2;subst hr1;obtain⟨⟨k,c,v⟩,jd⟩:∃ y,xs[x]?=some y:=⟨xs[x]'(by rw[Au vx]; exact fW),ql _⟩;obtain⟨⟨k',kv⟩,hf,e1,cv,e2,hcv⟩:=DI vx jd;cases(show k=k' from e1);cases(show v=.ref cv from e2);have hex:es[x]?=some ⟨(TK prog w).hash k,.ref c,.ref cv⟩:=by rw[entry_at hx x,jd]; rfl
   refine qa<|wpAny_dictEntries qL tQ ?_;rw[hex];dsimp only;have bad:¬pY g k=some kv->Q false s':=λqM=>by
    have:jg f g=false:=by
     unfold jg;rw[hlen,Bool.true_and];exact List.all_eq_false.mpr ⟨_,Æ hf,by rw[decide_eq_false qM]; exact qf⟩
    rw[<-this];exact h
   refine qa<|wpAny_holding<|qa<|wpAny_dictFind_heap hu (Cf _<|Æ jd) tL dg hy Ce ny (λHz=>?_) λj p hj=>?_
   .refine qb ?_
    simp only[Bool.not_false,if_true];refine qb ?_;refine qb<|bad ?_;rw[Wn λj v z=>?_]
    .intro z; cases z
    .obtain⟨y,Cg,hy2⟩:∃ y,ys[j]?=some y/\y.1=k:=by
      obtain⟨y,Cg⟩:∃ y,ys[j]?=some y:=⟨ys[j]'(by rw[Au vy]; exact(qk.mp z).1),ql _⟩;have(q,oJ,qJ,_):=DI vy Cg;rw[z]at oJ;cases oJ;exact⟨y,Cg,qJ⟩
     exact Hz j y.2 (by rw[Cg,<-hy2])
   .obtain⟨⟨k2,kb⟩,hg,e3,cb,e4,hcb⟩:=DI vy hj
    have(pa,vb):=p;cases(show k=k2 from e3);cases(show vb=.ref cb from e4);have hfj:fs[j]?=some ⟨(TK prog w).hash k,.ref pa,.ref cb⟩:=by rw[entry_at hy j,hj]; rfl
    refine qa<|wpAny_dictEntries tL dg ?_;rw[hfj];dsimp only;refine wpAny_holding<|(TK prog w).eqBool hu hcv hcb ?_;have va:=LZ ng hg
    by_cases q:kv=kb
    .rw[decide_eq_true q]
     simp only[Bool.not_true,Bool.false_eq_true,if_false];refine qa<|wpAny_dictEpoch qL tQ ?_;rw[if_neg (by simp)];refine qb ⟨rfl,rfl,x+1,fW,?_,λj p hj hp=>?_⟩
     .rw[hr2,show f.length - (x+1)=n by omega]
     .rcases Nat.lt_or_ge j x with z|z
      .exact aw j p z hp
      .cases(show j=x by omega)
       rw[hf]at hp;cases hp;rw[q];exact va
    .rw[decide_eq_false q]
     simp only[Bool.not_false,if_true];refine qb ?_;refine qb<|bad ?_;rw[va];intro z;cases z;exact q rfl
  .rintro r s' ⟨rfl,rfl,i,hi,hr,aw⟩
   have hi2:f.length<=i:=by
    rcases Nat.lt_or_ge i f.length with z|z
    .obtain⟨n,hn⟩:∃ n,f.length - i=n+1:=⟨f.length - i - 1,by omega⟩
     rw[hn,List.range'_succ]at hr;cases hr
    .exact z
   have:jg f g=true:=by
    unfold jg;rw[hlen,Bool.true_and];refine ä.mpr λp hp=>?_;have(j,hj):=List.mem_iff_getElem?.mp hp;exact decide_eq_true<|aw j p (qi (qk.mp hj).1 hi2) hj
   rw[this]at h;exact qb h
 .rw[if_pos (by simpa using hsz)]
  have hbf:jg f g=false:=by
   unfold jg;rw[show(f.length==g.length)=false by rw[<-sx,<-sy]; simpa using hsz,Bool.false_and]
  rw[hbf]at h;exact qa<|wpAny_rule<|qb h
theorem zBu{wanted:Bool}{nm:String}{b:Qg}{f g:jV}(Hv:(op=.Eq/\wanted=true)\/(op=.NotEq/\wanted=false))(ha:(a==sysModules)=false)(hb:(b==sysModules)=false)
  (da:s.heap.DictOfH (TK prog w) a xs) (db:s.heap.DictOfH (TK prog w) b ys) (vx:vF prog w s.heap xs f) (vy:vF prog w s.heap ys g) (hu:A.units+8 < cLine) (h:Q (.bool<|jg f g==wanted) s):
  wpAny (model prog w) A (compareOp op (.ref a)<|.ref b) Q E s:=by
 have(oa,es,ep,qL,ca,tQ,hx,Cf,nx):=da;have(ob,fs,dM,tL,cb,dg,hy,Ce,ny):=db;have ta:s.TypeIs (.ref a) "dict":=⟨_,qL,ca.1⟩;have tb:s.TypeIs (.ref b) "dict":=⟨_,tL,cb.1⟩;rcases Hv with⟨rfl,rfl⟩|⟨rfl,rfl⟩
 .refine wpAny_richCompare_same_room (op:=.Eq) ta tb PySem.F.slot_dict_eq (wpAny_call_entry PySem.F.slot_dict_eq ta PySem.F.entry_dict_eq ?_<|PySem.F.args_dict_eq_2 _ _) (Ä (Nat.le_add_right _ 8) hu)
  show wpAny _ _ (Builtin.Dict.dictSlotArgs "__eq__" ⟨[.ref a,.ref b],[]⟩ >>= _) _ _ s;refine qa ?_;unfold Builtin.Dict.dictSlotArgs;refine qa<|wpAny_notOrdered_dict ta ?_;show wpAny _ _ (pure (Value.ref a,Value.ref b)) _ _ s;refine qb ?_;refine qa<|wpAny_isInstance (T := "dict") tb PySem.F.sub_dict_dict ?_;simp only[Bool.not_true,Bool.false_eq_true,if_false];refine qa<|qb<|qa<|qb ?_;refine qa<|LY (show _ < cLine from by dsimp only[Around.in1]; omega) ha hb qL tQ tL dg hx hy Cf Ce ny vx vy ?_;refine qb ⟨_,rfl,?_,?_⟩
  .exact λx=>nomatch x
  .simpa using h
 .refine wpAny_richCompare_same_room (op:=.NotEq) ta tb PySem.F.slot_dict_ne (wpAny_call_entry PySem.F.slot_dict_ne ta PySem.F.entry_dict_ne ?_<|PySem.F.args_dict_ne_2 _ _) (Ä (Nat.le_add_right _ 8) hu)
  show wpAny _ _ (Builtin.Dict.dictSlotArgs "__ne__" ⟨[.ref a,.ref b],[]⟩ >>= _) _ _ s;refine qa ?_;unfold Builtin.Dict.dictSlotArgs;refine qa<|wpAny_notOrdered_dict ta ?_;show wpAny _ _ (pure (Value.ref a,Value.ref b)) _ _ s;refine qb ?_;refine qa<|wpAny_isInstance (T := "dict") tb PySem.F.sub_dict_dict ?_;simp only[Bool.not_true,Bool.false_eq_true,if_false];refine qa<|qb<|qa<|qb ?_;refine qa<|LY (show _ < cLine from by dsimp only[Around.in1]; omega) ha hb qL tQ tL dg hx hy Cf Ce ny vx vy ?_;refine qb ⟨_,rfl,?_,?_⟩
  .exact λx=>nomatch x
  .simpa using h
end
def CF(K:qc)(H:Hp)(kvs:Qa (Qa Key×V))(f:jV):Prop:=Paired (λp q=>p.1=q.1/\∃ c,p.2=.ref c/\aV K H c (q.2.map kV)) kvs f
theorem Ei(jb:K.In h)(ok:cu P w K H h):∀ {kvs:Qa (Qa Key×V)} {xs:Qa (Qa Key×Qg×Qc)} {f:jV},KT K H kvs xs->CF K H kvs f->vF P w h xs f
 | _,_,_,.nil,.nil=>.nil
 | _,_,_,.cons hq t,.cons hp u=>by
  have(e1,_,rv):=hq;have(e2,c,e3,tp):=hp;rw[e3]at rv;exact .cons ⟨e1.symm.trans e2,c,rv,pN jb ok tp⟩<|Ei jb ok t u
def Iv(K:qc)(wanted:Bool):R2:=λx y H Q=>∃ a b kvs Ca f g,x=.ref a/\y=.ref b/\Rd H a (.dT kvs)/\Rd H b (.dT Ca)/\CF K H kvs f/\CF K H Ca g/\Q (.bl<|jg f g==wanted) H
theorem UM{X:Cx}{k:Nat}{wanted:Bool}(Hv:(op=.Eq/\wanted=true)\/(op=.NotEq/\wanted=false))(K:qc)(hK:X.K=K)(hr:aH k X.A):bH X (compareOp op) (Iv K wanted):=by
 subst hK;intro pins s σ H x y v u Q I rx ry h;have(a,b,kvs,Ca,f,g,rfl,rfl,ea,eb,tf,tg,q):=h;cases rx;cases ry;have(_,ya,xs,ra,da):=pI I.bN I.aw ea;have(_,yb,ys,rb,db):=pI I.bN I.aw eb;exact zBu (nm := "") Hv ya yb da db (Ei I.bN I.aw ra tf) (Ei I.bN I.aw rb tg) (by have:=hr.units; omega) ⟨.bl _,H,I,rfl,q⟩
section
def tY:U->Qb (Qa<|Qa Key×D)
 | .t kvs=>some kvs
 | .d (.dict ds)=>if hU ds=true then rG ds else none
 | _=>none
def qF:Qa (Qa Key×D)->Qb jV
 | []=>some []
 | (k,d)::r=>(cO d).bind λv=>(qF r).bind λr=>some<|(k,v)::r
def Ab(wanted:Bool)(u v:U):Qb U:=(tY u).bind λa=>(tY v).bind λb=>(qF a).bind λf=>(qF b).bind λg=>some<|.d<|.bool<|jg f g==wanted
theorem Js{u:U}{kvs:Qa (Qa Key×D)}(h:Rp K H v u)(e:tY u=some kvs):∃ a ws,v=.ref a/\Rd H a (.dT ws)/\dP K H ws kvs:=by
 unfold tY at e;split at e
 .cases e
  have(a,ws,rfl,h1,h2):=h;exact⟨a,ws,rfl,.inl h1,h2⟩
 .split at e
  .rename_i nx
   have(a,o,ws,rfl,h1,h2):=DF.bT h nx;exact⟨a,ws,rfl,.inr ⟨o,h1⟩,Fv h2 e⟩
  .cases e
 .cases e
theorem EC:∀ {ws:Qa (Qa Key×V)} {kvs:Qa (Qa Key×D)} {f:jV},dP K H ws kvs->qF kvs=some f->CF K H ws f
 | _,_,f,.nil,e=>by cases e; exact .nil
 | _,(k,d)::r,f,.cons hq t,e=>by
  have(v,ev,e):=zb (show(cO d).bind _=some f from e);have(r',er,e):=zb e;cases e;have(b,e2,tb):=uP hq.2 ev;exact .cons ⟨hq.1,b,e2,tb⟩<|EC t er
theorem UL{wanted:Bool}:VO K (Iv K wanted) (Ab wanted):=by
 intro x y a b u H Q ha hb e q;have(k1,e1,e):=zb e;have(k2,e2,e):=zb e;have(f,e3,e):=zb e;have(g,e4,e):=zb e;cases e;have(c,ws,rfl,h1,h2):=Js ha e1;have(c',u9,rfl,h3,h4):=Js hb e2;exact⟨c,c',ws,u9,f,g,rfl,rfl,h1,h3,EC h2 e3,EC h4 e4,q _ _ (λ_ _ z=>z) (.bl _) Nw.data⟩
end
end L2
namespace L2
open PySem PySem.Spec PyProof.Rows
section
variable{X:Cx}
end
section
end
section
variable{X:Cx}{k:Nat}
end
section
variable{X:Cx}
end
section
end
section
variable{X:Cx}
end
section
end
theorem zCe:∀ {us:Qa α},us.length=1->∃ a,us=[a]
 | [a],_=>⟨a,rfl⟩
theorem zCf:∀ {us:Qa α},us.length=2->∃ a b,us=[a,b]
 | [a,b],_=>⟨a,b,rfl⟩
theorem zCg:∀ {us:Qa α},us.length=3->∃ a b c,us=[a,b,c]
 | [a,b,c],_=>⟨a,b,c,rfl⟩
theorem OE:∀ {us:Qa α},us.length=4->∃ a b c d,us=[a,b,c,d]
 | [a,b,c,d],_=>⟨a,b,c,d,rfl⟩
theorem zCh:∀ {us:Qa α},us.length=5->∃ a b c d e,us=[a,b,c,d,e]
 | [a,b,c,d,e],_=>⟨a,b,c,d,e,rfl⟩
structure Zs where
 P:Qe
 w:Qh
 K:qc
 mg:Str->Qb Qc
 base:Heap
def cx(K:qc)(x:Str)(st:Stmt):Prop:=∃ (f:Qg) (fd:FuncData),jW K x x st f fd/\PySem.W.nsIn K mainGlobals x=some (some<|.ref f)
theorem fnK{f:Qg}{oc:Qc}{od an:Qb Qg}{kV doc pm bG ct:Qc}(a:PySem.W.nsIn K mainGlobals x=some (some<|.ref f))(l:K.lookup f=some ⟨oc,od,.func<|PySem.W.fnOf x x (sD st) (kY st) (zX st) .none kV doc pm an bG ct,oz⟩)
  (c:PySem.W.codeIn K bG x=true) (k:PySem.W.keepIn K (.ref f)=true):cx K x st:=⟨f,_,J4 l c k,a⟩
def cB(Z:Zs)(x:Str)(st:Stmt):Prop:=∃ (f:Qg) (fd:FuncData),jW Z.K x x st f fd/\Z.mg x=some (.ref f)
theorem cx.z{base:Heap}(a:cx K x st)(X:K.In h)(G:h.Ns mainGlobals mg):cB ⟨P,w,K,mg,base⟩ x st:=by
 have(f,fd,F,g):=a;exact⟨f,fd,F,ý X G g⟩
abbrev Zs.C(Z:Zs)(x:Str)(k:Nat)(ps:Qa Str)(n:Nat)(F:FD):Prop:=Il Z.P Z.w Z.K Z.mg Z.base x k ps (p7 Z.K n F)
abbrev Zs.X(Z:Zs)(x:Str)(k:Nat)(ps:Qa Str)(n:Nat)(F:FX):Prop:=Ik Z.P Z.w Z.K Z.mg Z.base x k ps (spX Z.K n F)
section
variable{Z:Zs}{k nn:Nat}{m:MS}{f:Qg}
abbrev Iu(Z:Zs)(x:Str)(st:Stmt)(k:Nat)(pn:Qa Nat)(m:MS)(N:Qa Str)(f:Qg):Prop:=∀ {bG:Qc} {A:Qf} {outer:Qa Env} {s:Qd} {H:Hp} {E:XK},N.Nodup->aH k (A.deeper<|envOfC x (zX st) s.heap.objs.size f bG)->
 ∃ t,VS Z.K pn QY t m/\Wr (eI (nh iR Z.P Z.w Z.K Z.mg Z.base N x (zX st) f bG A outer s H E).sZ (kY st) t)
theorem Pc(F:jW Z.K x x st f fd)(N:Qa Str)(cn:Iu Z x st k pn m N f)(S:bJ N ps (zX st):=by exact⟨rfl,rfl,rfl,by decide +kernel,rfl,by decide +kernel,by decide +kernel⟩)(Ck:ps.length=n:=by rfl)(hN:N.length=nn:=by rfl)(Cn:n<=nn:=by decide):
  cw Z.P Z.w Z.K Z.mg Z.base iR (k+1) f fd ps (p7 Z.K n<|bX nn pn m):=F.okV S Ck hN Cn λbG A outer s H E hr=>let ⟨t,a,b⟩:=cn S.nd hr; ⟨t,b,a⟩
theorem cG(A:cB Z x st)(N:Qa Str)(cn:∀ {f},Iu Z x st k pn m N f)(S:bJ N ps (zX st):=by exact⟨rfl,rfl,rfl,by decide +kernel,rfl,by decide +kernel,by decide +kernel⟩)(Ck:ps.length=n:=by rfl)(hN:N.length=nn:=by rfl)(Cn:n<=nn:=by decide)
  (hb:∀ (kV doc pm:Qc) (an:Qb Qg) (bG ct:Qc) (us:Qa Qc),us.length=ps.length->bindArgs (PySem.W.fnOf x x (sD st) (kY st) (zX st) .none kV doc pm an bG ct) ⟨us,[]⟩=pure (ps.zip us):=by
   intro _ _ _ _ _ _ us hl
   first
   | (have(_,rfl):=zCe hl; rfl)
   | (have(_,_,rfl):=zCf hl; rfl)
   | (have(_,_,_,rfl):=zCg hl; rfl)
   | (have(_,_,_,_,rfl):=OE hl; rfl)
   | (have(_,_,_,_,_,rfl):=zCh hl; rfl)
   | (cases(List.eq_nil_of_length_eq_zero hl); rfl)):Z.C x (k+1) ps n (bX nn pn m):=
 let ⟨f,fd,F,g⟩:=A; ⟨⟨f,fd,Pc F N cn S Ck hN Cn,F.binds hb,F.kp,g⟩⟩
end
section
variable{ρ:En}
end
end L2
namespace L2
open PySem
section
variable{a:α}{f:α->Qb β}{R:β->Prop}{t:Ph f}
theorem SW:Wo (some a) (Co f t R)=Wo (f a) R:=e9
theorem SV{x:Fl}{Q:Fl->Prop}{P:En->Prop}:Wo (some x) (rJ Q P)=rJ Q P x:=e9
end
end L2
namespace L2
open PySem PySem.Spec PyProof.Rows
section
variable{g:Array GenState}{d:Drawn}{t:Nat}{os:OsState}{items:Array Qc}
end
section
variable{X:Cx}{D:Qg}{xs:Qa V}
end
section
variable{X:Cx}
end
end L2
namespace L2
open PySem PySem.Spec
def Tt(b:Bool):Prop:=b=true
theorem SU{b:Bool}(h:b=true):Tt b:=h
def vD(ρ:En)(i:Nat):Bool:=((ρ[i]?).join).isSome
def gt(ρ:En)(i:Nat):U:=((ρ[i]?).join).getD (.d .none)
theorem zBw{ρ:En}:gt ρ i=((ρ[i]?).join).getD (.d .none):=rfl
theorem zBx{u v:U}:(some u:Qb U).getD v=u:=rfl
theorem K0{ρ:En}(h:vD ρ i=true):(ρ[i]?).join=some (gt ρ i):=by
 unfold vD at h;unfold gt;cases e:(ρ[i]?).join with
 | none=>rw[e]at h; cases h
 | some u=>rfl
def t5(ρ:En):Ar->Bool
 | .s i=>vD ρ i
 | .u _=>true
def ag(ρ:En):Ar->U
 | .s i=>gt ρ i
 | .u x=>x
theorem zBy{ρ:En}:ag ρ (.s i)=gt ρ i:=rfl
theorem zBz{ρ:En}{x:U}:ag ρ (.u x)=x:=rfl
theorem AZ{ρ:En}{a:Ar}(h:t5 ρ a=true):a.get ρ=some (ag ρ a):=by
 cases a with
 | s i=>exact K0 h
 | u x=>rfl
def gs(ρ:En)(as:Qa Ar):Qa U:=as.map (ag ρ)
theorem zBA{ρ:En}:gs ρ []=[]:=rfl
theorem zBB{ρ:En}{a:Ar}{as:Qa Ar}:gs ρ (a::as)=ag ρ a::gs ρ as:=rfl
theorem EB{ρ:En}:∀ {as:Qa Ar},as.all (t5 ρ)=true->bt ρ as=some (gs ρ as)
 | [],_=>rfl
 | a::as,h=>by
  rw[List.all_cons,Bool.and_eq_true_iff]at h;rw[M5,AZ h.1,bd,EB h.2];rfl
def Ic(m:En->Qb α)(ρ:En):Qb α:=m ρ
def Cu(ρ:En)(t:Ph ρ)(Q:Ar×En->Prop)(u:U):Prop:=Q (.u u,ρ)
def Cw(ρ:En)(as:Qa Ar)(t:Ph ρ)(Q:Ar×En->Prop)(o:U×Qa U):Prop:=Q (.u o.1,wb ρ as o.2)
def G9(f:U->Qb U)(p:Ar×En):Qb (Ar×En):=(p.1.get p.2).bind λx=>(f x).bind λu=>some (.u u,p.2)
def Ir(mA:MA)(p:Ar×En):Qb (Qa Ar×En):=(mA p.2).bind λq=>some (p.1::q.1,q.2)
def Jr(a:Ar)(q:Qa Ar×En):Qb (Qa Ar×En):=some (a::q.1,q.2)
def Hb(f:Qa U->Qb U)(p:Qa Ar×En):Qb (Ar×En):=(bt p.2 p.1).bind λus=>(f us).bind λu=>some (.u u,p.2)
def CZ(f:FD)(p:Qa Ar×En):Qb (Ar×En):=if iT p.2 p.1=true then(bt p.2 p.1).bind λus=>(f us).bind λo=>some (.u o.1,wb p.2 p.1 o.2)else none
def CY(i:Nat)(p:Ar×En):Qb Fl:=(put p).bind λq=>some<|.nx<|q.2.set i<|some q.1
def kB(p:Ar×En):Qb (Bool×En):=(p.1.get p.2).bind λu=>u.tZ.bind λb=>some (b,p.2)
def Cc(m1 m2:MS)(p:Bool×En):Qb Fl:=if p.1=true then m1 p.2 else m2 p.2
def Iq(p:Ar×En):Qb Fl:=some (.nx p.2)
section
variable{γ:Type}{ρ:En}{ma mb me:ME}{mA:MA}{mt:MT}{m1 m2:MS}{u x y:U}{d:D}{a b:Ar}{as:Qa Ar}{f:U->Qb U}{f2:U->U->Qb U}{fl:Qa U->Qb U}{F:FD}
variable{QE:Ar×En->Prop}{QA:Qa Ar×En->Prop}{QT:Bool×En->Prop}{QS:Fl->Prop}
theorem SS{m:En->Qb α}{Q:α->Prop}:Wo (Ic m ρ) Q=Wo (m ρ) Q:=rfl
theorem SR{g:Ar×En->Qb β}{t:Ph ρ}{t2:Ph g}{R:β->Prop}:Cu ρ t (Co g t2 R) u=Wo (g (.u u,ρ)) R:=rfl
theorem Wl{g:Ar×En->Qb β}{t:Ph g}{R:β->Prop}(h:Tt (vD ρ i)):Wo (zi i ρ) (Co g t R)=Wo (g (.s i,ρ)) R:=by
 rw[K3,K0 h,e9,jw,e9];rfl
theorem zBC{g:Ar×En->Qb β}{t:Ph g}{R:β->Prop}:Wo (mC d ρ) (Co g t R)=Wo (g (.u<|.d d,ρ)) R:=Ip
theorem ZX(h:Tt (t5 ρ a && t5 ρ b)):Wo (yz f2 a (b,ρ)) QE=Wo (f2 (ag ρ a)<|ag ρ b) (Cu ρ ⟨0⟩ QE):=by
 have(h1,h2):=Bool.and_eq_true_iff.mp h;unfold yz;rw[AZ h1,bd,AZ h2,bd,zq];exact congrArg (Wo _)<|funext λ_=>e9
theorem SQ:Wo (bM f ma ρ) QE=Wo (ma ρ) (Co (G9 f) ⟨0⟩ QE):=zBm
theorem Wj(h:Tt (t5 ρ a)):Wo (G9 f (a,ρ)) QE=Wo (f<|ag ρ a) (Cu ρ ⟨0⟩ QE):=by
 unfold G9;rw[AZ h,bd,zq];exact congrArg (Wo _)<|funext λ_=>e9
theorem ZW:Wo (zf me mA ρ) QA=Wo (me ρ) (Co (Ir mA) ⟨0⟩ QA):=Ur
theorem zl4:Wo (Ir mA (a,ρ)) QA=Wo (mA ρ) (Co (Jr a) ⟨0⟩ QA):=zq
theorem zjB{g:Qa Ar×En->Qb β}{t:Ph g}{R:β->Prop}:Wo (Jr a (as,ρ)) (Co g t R)=Wo (g (a::as,ρ)) R:=e9
theorem Wi{g:Qa Ar×En->Qb β}{t:Ph g}{R:β->Prop}:Wo (zp ρ) (Co g t R)=Wo (g ([],ρ)) R:=K2
theorem SO:Wo (aZ fl mA ρ) QE=Wo (mA ρ) (Co (Hb fl) ⟨0⟩ QE):=zBn
theorem Wh(h:Tt (as.all<|t5 ρ)):Wo (Hb fl (as,ρ)) QE=Wo (fl<|gs ρ as) (Cu ρ ⟨0⟩ QE):=by
 unfold Hb;rw[EB h,bd,zq];exact congrArg (Wo _)<|funext λ_=>e9
theorem Wg:Wo (zS F mA ρ) QE=Wo (mA ρ) (Co (CZ F) ⟨0⟩ QE):=Rc
theorem ZV(h:Tt (iT ρ as && as.all (t5 ρ))):Wo (CZ F (as,ρ)) QE=Wo (F<|gs ρ as) (Cw ρ as ⟨0⟩ QE):=by
 have(h1,h2):=Bool.and_eq_true_iff.mp h;unfold CZ;rw[if_pos h1,EB h2,bd,zq];exact congrArg (Wo _)<|funext λ_=>e9
theorem SN{us:Qa U}{g:Ar×En->Qb β}{t:Ph ρ}{t2:Ph g}{R:β->Prop}:Cw ρ as t (Co g t2 R) (u,us)=Wo (g (.u u,wb ρ as us)) R:=rfl
theorem Wf:Wo (zQ i me ρ) QS=Wo (me ρ) (Co (CY i) ⟨0⟩ QS):=Rb
theorem ZU{t:Ph (pe m2)}:Wo (CY i (.u u,ρ)) (Co (pe m2) t QS)=Wo (Ic m2<|ρ.set i<|some u) QS:=e9
theorem zBD:Wo (mB me ρ) QT=Wo (me ρ) (Co kB ⟨0⟩ QT):=zCc
theorem SM{c:Bool}{g:Bool×En->Qb β}{t:Ph g}{R:β->Prop}:Wo (kB (.u<|.d<|.bool c,ρ)) (Co g t R)=Wo (g (c,ρ)) R:=e9
theorem We:Wo (bW mt m1 m2 ρ) QS=Wo (mt ρ) (Co (Cc m1 m2) ⟨0⟩ QS):=Ra
theorem Wd:Wo (Cc m1 m2 (true,ρ)) QS=Wo (m1 ρ) QS:=rfl
theorem Wc:Wo (Cc m1 m2 (false,ρ)) QS=Wo (m2 ρ) QS:=rfl
theorem ZT:Wo (nG me ρ) QS=Wo (me ρ) (Co Iq ⟨0⟩ QS):=Uq
theorem YY{t:Ph (pe m2)}:Wo (bZ ρ) (Co (pe m2) t QS)=Wo (Ic m2 ρ) QS:=L5
theorem YX{p:Ar×En}:CY i p=(put p).bind λq=>some (.nx<|q.2.set i<|some q.1):=rfl
theorem SK{p:Ar×En}:kB p=(p.1.get p.2).bind λu=>u.tZ.bind λb=>some (b,p.2):=rfl
theorem Wa{p:Bool×En}:Cc m1 m2 p=if p.1=true then m1 p.2 else m2 p.2:=rfl
theorem zl5{p:Ar×En}:Iq p=some (.nx p.2):=rfl
end
end L2
namespace L2
open PySem PySem.Spec PyProof.Rows
section
def t9:=jS lX λi j=>.int<|i * 2^j.toNat
theorem EA:VO K (rI lX λi j=>.int<|i * 2^j.toNat) t9:=pG λi j H=>.int _
theorem Jq(h:n < 60):t9 (.d<|.int 1) (.d<|.int (n:Int))=some (.d<|.int ((2^n:Nat):Int)):=by
 have e:=pE (c:=lX) (g:=λi j=>.int<|i * 2^j.toNat) (a:=1) (b:=(n:Int)) (by unfold lX; omega);rw[show t9=jS lX λi j=>.int (i * 2^j.toNat) from rfl,e];simp
end
theorem UK{X:Cx}{k v:Expr}(hk:Wr (PE X k tk))(hv:Wr (PE X v tv)):Wr (PE X (.Dict [some k] [v] pos)<|Ee [(tk,tv)]):=⟨VD (YM hk.run hv.run VF) rfl rfl (by simp) (by show 1<=15; decide)⟩
def Ez(mk mv:ME):ME:=λρ=>(mk ρ).bind λp=>(mv p.2).bind λq=>(p.1.get q.2).bind λk=>(q.1.get q.2).bind λv=>k.da.bind λk=>v.da.bind λv=>(lZ k).bind λk=>some (.u<|.k [(k,v)],q.2)
section
theorem Vg{mk mv:ME}(hk:VE K tk mk)(hv:VE K tv mv):VE K (Ee [(tk,tv)]) (Ez mk mv):=by
 intro ρ σ H a ao Q r e q;obtain⟨⟨a1,aq⟩,e1,e⟩:=zb e;obtain⟨⟨b1,aB⟩,e2,e⟩:=zb e;have(uk,ek,e):=zb e;have(uv,ev,e):=zb e;have(dk,yk,e):=zb e;have(dv,yj,e):=zb e;have(ks,yi,e):=zb e;cases e;cases uM yk;cases uM yj;intro p hp;have sm:=zL hp (.dK []);have g0:=Go.grow r sm;have n0:¬Ow ρ σ p:=λz=>by
  have(c,hc,_):=r.ow z;rw[hp]at hc;cases hc
 refine hk ρ σ (upd H p<|.dK []) a1 aq _ g0.rs e1 λx H1 g1 k1=>hv aq σ H1 b1 _ _ g1.rs e2 λy H2 g2 k2=>?_;have n1:¬Ow aq σ p:=λz=>n0<|g1.shr.ow z;have n2:¬Ow aB σ p:=λz=>n1<|g2.shr.ow z;have oN:H2 p=some (.dK []):=g2.fr p _ (g1.fr p _ zw n0) n1;have pk:=k1.later g0.rs g1 g2 ek;have pv:=k2.now g1.rs g2 ev;cases EU pk yi;have kp:=jA oN trivial (.dK [(ks,y)]);refine⟨oN,[(ks,y)],rfl,by show 1<=15; decide,q _ _ (((g0.trans g1).trans g2).free hp oN trivial n2) ⟨⟨p,[(ks,y)],rfl,zw,.cons ⟨rfl,DF.kp kp pv⟩ .nil⟩,λ_=>⟨p,rfl,hp⟩⟩⟩
end
section
variable{ρ:En}{mk mv:ME}{QE:Ar×En->Prop}
theorem V9:Wo (Ez mk mv ρ) QE=Wo (mk ρ) (Co (λp=>(mv p.2).bind λq=>(p.1.get q.2).bind λk=>(q.1.get q.2).bind λv=>k.da.bind λk=>v.da.bind λv=>(lZ k).bind λk=>some (.u<|.k [(k,v)],q.2)) ⟨0⟩ QE):=by
 show Wo (Option.bind _ _) QE=_;rw[zq]
end
end L2
namespace K46
open PySem L2
def top(i:Nat):Stmt:=PySem.Challenge.pw_undivide_k46_whole_tables_of_webs.main.body.getD i (.Pass ⟨0,0,0,0⟩)
abbrev Oe:Stmt:=top 3
abbrev MQ:Stmt:=top 4
abbrev NM:Stmt:=top 6
abbrev Mx:Stmt:=top 10
abbrev MP:Stmt:=top 11
abbrev Oz:Stmt:=top 12
abbrev Oy:Stmt:=top 13
abbrev OD:Stmt:=top 14
abbrev NB:Stmt:=top 15
abbrev Nu:Stmt:=top 17
abbrev Nd:Stmt:=top 19
abbrev MN:Stmt:=top 20
abbrev Nt:Stmt:=top 22
abbrev Nb:Stmt:=top 23
abbrev NL:Stmt:=top 24
abbrev N0:Stmt:=top 25
abbrev Na:Stmt:=top 26
abbrev NK:Stmt:=top 27
abbrev NZ:Stmt:=top 28
abbrev OC:Stmt:=top 29
abbrev OB:Stmt:=top 30
abbrev Oj:Stmt:=top 31
abbrev NY:Stmt:=top 32
abbrev NJ:Stmt:=top 33
abbrev Nr:Stmt:=top 34
abbrev Ox:Stmt:=top 35
abbrev NX:Stmt:=top 36
abbrev Oi:Stmt:=top 37
abbrev NW:Stmt:=top 38
abbrev NV:Stmt:=top 39
abbrev Ov:Stmt:=top 40
abbrev IQ:Stmt:=top 41
def OO:Qa (Str×Qa Str):=[]
abbrev O1:Qa Str:=[]
def RA:Stmt->Stmt
 | .ClassDef _ _ _ (b::_) _ _ _ _ _ _ _=>b
 | s=>s
abbrev wx:Stmt:=RA (top 9)
theorem V8:bJ ["self", "numbers", "beneath", "room"] ["self", "numbers", "beneath", "room"] (zX wx):=⟨rfl,rfl,rfl,by decide +kernel,rfl,by decide +kernel,by decide +kernel⟩
section
variable{base:Heap}{f:Qg}
end
section
def Bs(Z:Zs):Prop:=Bl Z.mg ["abs", "tuple", "zip", "max", "sorted", "len", "enumerate", "range", "int", "dict", "isinstance", "bool", "all", "min"]/\XT Z.K OO O1/\(∃ T,Z.mg "ROOM"=some (.int 256 T))/\(∃ G,Z.mg "NOUGHT"=some (.ref G)/\mZ Z.K G [0,1])/\(∃ G,Z.mg "ONE"=some (.ref G)/\mZ Z.K G [1,1])/\(∃ C,t6 Z.P Z.w Z.K Z.mg Z.base "Form" C ["numbers", "beneath", "room"])
variable{Z:Zs}
def Od:MS:=(zz (rZ (vL<|zi 1)<|ud 0 1<|zf (zi 1)<|zf (aj gU (zi 0)<|zi 1) zp)
  (ba<|zi 0))
def pW:FD:=bX 2 [] Od
abbrev BE(Z:Zs):Prop:=Z.C "common_factor" 1 ["one", "other"] 2 pW
theorem zhk(B:Bs Z)(A:cB Z "common_factor" Oe):BE Z :=
 have hB:=B.1; cG A ["one", "other"] λnd hr=>⟨_,(zu (KJ (JZ ze)<|DW<|zd ze<|zd (zo jB ze ze) zn)
 (zT ze)),
 (aC (Lj (IZ aa)<|zK<|DX<|af aa<|af (zB jC aa aa) zj)
 (zK<|zR aa))⟩
def NI:MS:=(ba<|aZ (f1 iY)<|zf (iA (yG<|zf (zi 0)<|zf (zi 1) zp) 2 [] (dG 2<|zJ (zv 0)<|zJ (zv 1) eN) ic<|aj dF (zi 0)<|zi 1) zp)
def BJ:FD:=bX 2 [0,1] NI
abbrev NH(Z:Zs):Prop:=Z.C "powers_plus" 1 ["one", "other"] 2 BJ
theorem zi6(B:Bs Z)(A:cB Z "powers_plus" NM):NH Z :=
 have hB:=B.1; cG A ["one", "other"] λnd hr=>⟨_,(zT<|bh mF<|zd (kG (JI<|zd ze<|zd ze zn) (fC<|zA zt<|zA zt fD) j9<|zo eP ze ze) zn),
 (zK<|zR<|gQ mH Â<|af (m9 (JJ<|af aa<|af aa zj) (fE<|bE zr<|bE zr fF) kj<|zB eQ aa aa) zj)⟩
def MM:MS:=(zz (nv (zi 0)<|dG 3<|zJ (zv 1)<|zJ (zv 2)<|zJ (zv 3) eN)
  (zz (zQ 4<|tD (cP kI<|zi 3) 3 [] (dG 3<|zJ (zv 0)<|zJ (zv 1)<|zJ (zv 2) eN) ic (bB<|zf (zi 0)<|zf (zi 1) zp)<|zi 2)
  (zz (dq (rM<|zf (mC<|.int 1)<|zf (aj fL (zi 2)<|mC<|.int 1) zp) (zv 5)<|iX 4 (bB<|zf (zi 5)<|zf (zi 5) zp)<|bB<|zf (bB<|zf (bM l5<|mC<|.int 1)<|zf (mC<|.int 1) zp)<|zf (mC .none) zp)
  (zz (zQ 6<|iU zp)
  (zz (dq (kM<|zf (aj fL (zi 2)<|mC<|.int 1) zp) (zv 7)<|nG<|l0 6<|aZ (f1 iY)<|zf (iA (rM<|zf (mC<|.int 1)<|zf (zi 2) zp) 1 [7,4] (zv 0) ic<|kU (zi 2) (bB<|zf (zi 1)<|zf (zi 0) zp)<|bB<|zf (mC<|.tuple [.int 0,.int 1])<|zf (mC .none) zp) zp)
  (ba<|bB<|zf (zi 1)<|zf (aZ (f1 iY)<|zf (zi 6) zp) zp))))))
def wO:FD:=bX 8 [0] MM
abbrev ML(Z:Zs):Prop:=Z.C "table_of" 1 ["web"] 1 wO
theorem znE(B:Bs Z)(A:cB Z "table_of" MN):ML Z :=
 by obtain⟨hB,_,_,⟨bI,bP,bq⟩,_⟩:=B; exact cG A ["web", "letters", "dots", "ways", "entries", "dot", "rows", "start"] λnd hr=>⟨_,(zu (vS ze<|fC<|zA zt<|zA zt<|zA zt fD)
 (zu (zD<|yF (r8 ze) (fC<|zA zt<|zA zt<|zA zt fD) j9 (bU<|zd ze<|zd ze zn) ze)
 (zu (dX (AI<|zd zk<|zd (zo gC ze zk) zn) zt<|nR (bU<|zd ze<|zd ze zn)<|bU<|zd (bU<|zd (eM r9 zk)<|zd zk zn)<|zd vT zn)
 (zu (zD<|l8 zn)
 (zu (dX (pP<|zd (zo gC ze zk) zn) zt<|wj<|vR<|bh mF<|zd (kG (AI<|zd zk<|zd ze zn) zt j9<|su ze (bU<|zd ze<|zd ze zn)<|bU<|zd (Ek bq)<|zd vT zn) zn)
 (zT<|bU<|zd ze<|zd (bh mF<|zd ze zn) zn)))))),
 (aC (nI aa<|fE<|bE zr<|bE zr<|bE zr fF)
 (aC (zH<|zCd hr (si aa) (fE<|bE zr<|bE zr<|bE zr fF) kj (bV<|af aa<|af aa zj) aa)
 (aC (dY (Bh<|af zm<|af (zB gD aa zm) zj) zr<|zK<|nS hr aa (bV<|af aa<|af aa zj)<|bV<|af (bV<|af (rn so zm)<|af zm zj)<|af wd zj)
 (aC (zH<|l9 zj)
 (aC (dY (pV<|af (zB gD aa zm) zj) zr<|zK<|wk<|rm _ rfl â Ý Þ wJ aa<|af (gQ mH Â<|af (m9 (Bh<|af zm<|af aa zj) zr kj<|sv hr aa (bV<|af aa<|af aa zj) (bV<|af (sf (v:=.ref bI) rfl bP rfl)<|af wd zj) ⟨rfl,rfl,rfl,rfl⟩) zj) zj)
 (zK<|zR<|bV<|af aa<|af (gQ mH Â<|af aa zj) zj))))))⟩
def Nq:MS:=(zz (zQ 2<|aj dF (aj gW (mC<|.int 7919)<|zi 1)<|mC<|.int 11)
  (zz (bW (mB<|aj oU (zi 1)<|aZ (f1 cZ)<|zf (zi 0) zp) (zQ 2<|aj fK (zi 0)<|zi 1)<|bW (mB<|aj vA (aZ (f1 cZ)<|zf (zi 0) zp)<|mC<|.int 0) (zQ 2<|aj dF (zi 2)<|aj gW (aj gU (aj fK (zi 0)<|aj gU (zi 1)<|aZ (f1 cZ)<|zf (zi 0) zp)<|mC<|.int 2147483629)<|mC<|.int 69623) bZ)
  (zz (zQ 3<|aj dF (aj gU (aj dF (aj gW (aj gU (zi 2)<|mC<|.int 2147483629)<|mC<|.int 48271)<|aj gW (mC<|.int 40692)<|zi 1)<|mC<|.int 2147483629)<|mC<|.int 1)
  (ba<|iU<|zf (aj gW (zi 2)<|aZ (f1 uq)<|zf (aj HU (zi 2)<|aj yU (mC<|.int 10)<|mC<|.int 18) zp)<|zf (zi 3) zp))))
def BD:FD:=bX 4 [0,1] Nq
abbrev Np(Z:Zs):Prop:=Z.C "_law_box" 1 ["_law_script", "_law_k"] 2 BD
theorem zl6(B:Bs Z)(A:cB Z "_law_box" Nt):Np Z :=
 have hB:=B.1; cG A ["_law_script", "_law_k", "_law_cell", "_law_seed"] λnd hr=>⟨_,(zu (zD<|zo eP (zo ki zk ze) zk)
 (zu (uD<|cI (zI<|zo rR ze<|bh dU<|zd ze zn) (zD<|zo iZ ze ze)<|cI (zI<|zo Af (bh dU<|zd ze zn) zk) (zD<|zo eP ze<|zo ki (zo jB (zo iZ ze<|zo jB ze<|bh dU<|zd ze zn) zk) zk) cS)
 (zu (zD<|zo eP (zo jB (zo eP (zo ki (zo jB ze zk) zk)<|zo ki zk ze) zk) zk)
 (zT<|l8<|zd (zo ki ze<|bh Fs<|zd (zo zAB ze<|zo Sm zk zk) zn)<|zd ze zn)))),
 (aC (zH<|zB eQ (zB ko zm aa) zm)
 (aC (uF<|cH (zP rQ aa<|bw dZ Å<|af aa zj) (zK<|zH<|aW iW aa aa)<|zK<|cH (zP Ad (bw dZ Å<|af aa zj) zm) (zK<|zH<|zB eQ aa<|zB ko (zB jC (aW iW aa<|zB jC aa<|bw dZ Å<|af aa zj) zm) zm) cT)
 (aC (zH<|zB eQ (zB jC (zB eQ (zB ko (zB jC aa zm) zm)<|zB ko zm aa) zm) zm)
 (zK<|zR<|l9<|af (zB ko aa<|gQ FY ê<|af (wc zAj aa<|zB R5 zm zm) zj)<|af aa zj))))⟩
def M9:MS:=(zz (bW (mB<|aj vA (aj fK (zi 0)<|mC<|.int 0)<|mC<|.int 0) (zz (zQ 2<|aj gU (aj fK (zi 0)<|mC<|.int 0)<|zi 1)
  (zz (pL 0 (aj rS (aj fK (zi 0)<|mC<|.int 0)<|zi 1)<|mC<|.int 0)
  (ba<|zi 2))) bZ)
  (zz (zQ 3<|aj gU (aj gW (aj fK (zi 0)<|mC<|.int 1)<|mC<|.int 69623)<|mC<|.int 2147483647)
  (zz (pL 0 (aj dF (aj gU (aj dF (aj gW (zi 3)<|mC<|.int 48271)<|mC<|.int 30103)<|mC<|.int 2147483629)<|mC<|.int 1)<|mC<|.int 1)
  (ba<|aj gU (aj rS (aj dF (aj gW (zi 3)<|mC<|.int 2147483647)<|aj fK (zi 0)<|mC<|.int 1)<|mC<|.int 8191)<|zi 1))))
def zx:FD:=bX 4 [0,1] M9
abbrev uY(Z:Zs):Prop:=Z.C "_law_take" 1 ["_law_box_here", "_law_wide"] 2 zx
theorem zkC(B:Bs Z)(A:cB Z "_law_take" Nb):uY Z :=
 have hB:=B.1; cG A ["_law_box_here", "_law_wide", "_law_digit", "_law_one"] λnd hr=>⟨_,(zu (cI (zI<|zo Af (zo iZ ze zk) zk) (zu (zD<|zo jB (zo iZ ze zk) ze)
 (zu (AG (zo AL (zo iZ ze zk) ze) zk)
 (zT ze))) cS)
 (zu (zD<|zo jB (zo ki (zo iZ ze zk) zk) zk)
 (zu (AG (zo eP (zo jB (zo eP (zo ki ze zk) zk) zk) zk) zk)
 (zT<|zo jB (zo AL (zo eP (zo ki ze zk)<|zo iZ ze zk) zk) ze)))),
 (aC (cH (zP Ad (aW iW aa zm) zm) (aC (zH<|zB jC (aW iW aa zm) aa)
 (aC (nI (zB Bj (aW iW aa zm) aa)<|Aw aa zm Bk)
 (zK<|zR aa))) cT)
 (aC (zH<|zB jC (zB ko (aW iW aa zm) zm) zm)
 (aC (nI (zB eQ (zB jC (zB eQ (zB ko aa zm) zm) zm) zm)<|Aw aa zm Bk)
 (zK<|zR<|zB jC (zB Bj (zB eQ (zB ko aa zm)<|aW iW aa zm) zm) aa))))⟩
def NU:MS:=(zz (zQ 2<|aZ (f1 rF)<|zf (zi 0) zp)
  (zz (zQ 3<|aZ (f1 rF)<|zf (zi 1) zp)
  (zz (rZ (mB<|aj (cR true) (zi 3)<|mC<|.int 0)<|ud 2 3<|zf (zi 3)<|zf (aj gU (zi 2)<|zi 3) zp)
  (zz (bW (mB<|aj oU (zi 1)<|mC<|.int 0) (zQ 2<|aj fL (mC<|.int 0)<|zi 2) bZ)
  (ba<|bB<|zf (aj pF (zi 0)<|zi 2)<|zf (aj pF (zi 1)<|zi 2) zp)))))
def pX:FD:=bX 4 [0,1] NU
abbrev w5(Z:Zs):Prop:=Z.C "_law_fraction" 1 ["_law_n", "_law_d"] 2 pX
theorem zgI(B:Bs Z)(A:cB Z "_law_fraction" N0):w5 Z :=
 have hB:=B.1; cG A ["_law_n", "_law_d", "_law_one", "_law_two"] λnd hr=>⟨_,(zu (zD<|bh AB<|zd ze zn)
 (zu (zD<|bh AB<|zd ze zn)
 (zu (KJ (zI<|zo nQ ze zk)<|DW<|zd ze<|zd (zo jB ze ze) zn)
 (zu (uD<|cI (zI<|zo rR ze zk) (zD<|zo gC zk ze) cS)
 (zT<|bU<|zd (zo uQ ze ze)<|zd (zo uQ ze ze) zn))))),
 (aC (zH<|bw Bm ú<|af aa zj)
 (aC (zH<|bw Bm ú<|af aa zj)
 (aC (Lj (zP nL aa zm)<|zK<|DX<|af aa<|af (zB jC aa aa) zj)
 (aC (uF<|cH (zP rQ aa zm) (zK<|zH<|zB gD zm aa) cT)
 (zK<|zR<|bV<|af (zB uV aa aa)<|af (zB uV aa aa) zj)))))⟩
def OA:MS:=(ba<|aZ (f1 iY)<|zf (aZ (f1 Ao)<|zf (iA (cP nF<|cD<|zi 0) 1 [0] (zv 0) ic<|bB<|zf (zi 0)<|zf (gY (zi 1)<|zi 0) zp) zp) zp)
def BR:FD:=bX 1 [0] OA
abbrev N5(Z:Zs):Prop:=Z.C "_law_poly_told" 1 ["_law_sums"] 1 BR
theorem zgf(B:Bs Z)(A:cB Z "_law_poly_told" OB):N5 Z :=
 have hB:=B.1; cG A ["_law_sums"] λnd hr=>⟨_,(zT<|bh mF<|zd (bh LC<|zd (kG (uO<|dD ze) zt j9<|bU<|zd ze<|zd (kW ze ze) zn) zn) zn),
 (zK<|zR<|gQ mH Â<|af (bw (M3 _ rfl hr) PyProof.Rows.boot_sorted<|af (m9 (uU<|dE aa) zr kj<|bV<|af aa<|af (kQ hr aa aa) zj) zj) zj)⟩
def Oh:MS:=(zz (bW (mB<|aj (cR false) (aj bg (zi 1)<|mC<|.int 0)<|mC<|.int 0) (ba kf) bZ)
  (ba<|rT (aj pJ (bB<|zf (mC<|.int 0) zp)<|zi 0)<|zi 1))
def wX:FD:=bX 2 [0,1] Oh
abbrev Gk(Z:Zs):Prop:=Z.C "_law_poly_number" 1 ["_law_many", "_law_f"] 2 wX
theorem zeD(B:Bs Z)(A:cB Z "_law_poly_number" Oj):Gk Z :=
 have hB:=B.1; cG A ["_law_many", "_law_f"] λnd hr=>⟨_,(zu (cI (zI<|zo mw (zo zN ze zk) zk) (zT nW) cS)
 (zT<|wD (zo A0 (bU<|zd zk zn) ze) ze)),
 (aC (cH (zP mq (aW zZ aa zm) zm) (zK<|zR nX) cT)
 (zK<|zR<|wF hr (zB (A2 _ rfl) (bV<|af zm zj) aa) aa))⟩
def Gj:MS:=(zz (nv (zi 0)<|dG 2<|zJ (zv 2)<|zJ (zv 3) eN)
  (zz (bW (mB<|aj (cR false) (aj bg (zi 2)<|mC<|.int 0)<|mC<|.int 0) (ba kf) bZ)
  (ba<|rT (aZ (f1 iY)<|zf (iA (kM<|zf (zi 1) zp) 1 [3] (zv 0) ic<|aZ (f1 uq)<|zf (aj (cR false) (zi 0)<|zi 1) zp) zp)<|zi 2)))
def u6:FD:=bX 4 [0,1] Gj
abbrev Gi(Z:Zs):Prop:=Z.C "_law_entry_poly" 1 ["_law_entry_here", "_law_many"] 2 u6
theorem zft(B:Bs Z)(A:cB Z "_law_entry_poly" Ox):Gi Z :=
 have hB:=B.1; cG A ["_law_entry_here", "_law_many", "_law_f", "_law_letter"] λnd hr=>⟨_,(zu (vS ze<|fC<|zA zt<|zA zt fD)
 (zu (cI (zI<|zo mw (zo zN ze zk) zk) (zT nW) cS)
 (zT<|wD (bh mF<|zd (kG (pP<|zd ze zn) zt j9<|bh Fs<|zd (zo mw ze ze) zn) zn) ze))),
 (aC (nI aa<|fE<|bE zr<|bE zr fF)
 (aC (cH (zP mq (aW zZ aa zm) zm) (zK<|zR nX) cT)
 (zK<|zR<|wF hr (gQ mH Â<|af (m9 (pV<|af aa zj) zr kj<|gQ FY ê<|af (wc mq aa aa) zj) zj) aa)))⟩
def MK:MS:=(zz (bW (mB<|aj oU (zi 1)<|mC<|.int 0) (ud 0 1<|zf (bM l5<|zi 0)<|zf (bM l5<|zi 1) zp) bZ)
  (zz (zQ 2<|zS pW<|zf (aZ (f1 rF)<|zf (zi 0) zp)<|zf (zi 1) zp)
  (ba<|bB<|zf (aj rS (zi 0)<|zi 2)<|zf (aj rS (zi 1)<|zi 2) zp)))
def Bx:FD:=bX 3 [] MK
abbrev MH(Z:Zs):Prop:=Z.C "fraction" 2 ["n", "d"] 2 Bx
theorem znF(B:Bs Z)(A:cB Z "fraction" MQ)(c0:BE Z):MH Z :=
 have hB:=B.1; cG A ["n", "d", "factor"] λnd hr=>⟨_,(zu (uD<|cI (zI<|zo rR ze zk) (DW<|zd (eM r9 ze)<|zd (eM r9 ze) zn) cS)
 (zu (zD<|zF 2<|zd (bh AB<|zd ze zn)<|zd ze zn)
 (zT<|bU<|zd (zo AL ze ze)<|zd (zo AL ze ze) zn))),
 (aC (uF<|cH (zP rQ aa zm) (zK<|DX<|af (rn so aa)<|af (rn so aa) zj) cT)
 (aC (zH<|zE<|af (bw Bm ú<|af aa zj)<|af aa zj)
 (zK<|zR<|bV<|af (zB Bj aa aa)<|af (zB Bj aa aa) zj)))⟩
def NG:MS:=(zz (zQ 2<|mC<|.str "abcdefghijklmnopqrstuvwxyz")
  (zz (zQ 3<|iA (kM<|zf (aj dF (mC<|.int 1)<|zS zx<|zf (zi 0)<|zf (mC<|.int 4) zp) zp) 1 [0,2] (zv 0) ic<|aj rD (zi 2)<|zS zx<|zf (zi 1)<|zf (mC<|.int 26) zp)
  (zz (zQ 4<|zS zx<|zf (zi 0)<|zf (aZ (f1 cZ)<|zf (zi 3) zp) zp)
  (zz (zQ 5<|zS zx<|zf (zi 0)<|zf (mC<|.int 26) zp)
  (zz (zQ 6<|iU zp)
  (zz (dq (kM<|zf (zi 1) zp) (zv 7) (zz (zQ 8<|aj rD (zi 2)<|aj gU (aj dF (zi 5)<|aj gW (mC<|.int 7)<|zi 7)<|mC<|.int 26)
  (zz (zQ 9<|aj nD (aj nD (B9 xg uj (mC<|.str "")<|tz uc (zi 3) sA<|rL<|zi 4)<|zi 8)<|B9 xg uj (mC<|.str "")<|tz uc (zi 3) (rL<|aj dF (zi 4)<|mC<|.int 1) sA)
  (zz (zQ 9<|aj nD (zi 9)<|aj vP (mC<|.str "q")<|zS zx<|zf (zi 0)<|zf (mC<|.int 2) zp)
  (zz (bW (i8 (mB<|aj (lL false) (zi 9)<|zi 6)<|mB<|aj (lL false) (zi 9)<|bB<|zf (mC<|.str "part")<|zf (mC<|.str "end")<|zf (mC<|.str "give")<|zf (mC<|.str "rounds")<|zf (mC<|.str "letters") zp) (zQ 9<|aj nD (mC<|.str "zz")<|aj rD (zi 2)<|zi 7) bZ)
  (nG<|l0 6<|zi 9))))))
  (zz (bW (mB<|aj (cR false) (zS zx<|zf (zi 0)<|zf (mC<|.int 5) zp)<|mC<|.int 0) (zz (zQ 10<|aj fK (iU<|zf (mC<|.str "ends")<|zf (mC<|.str "pa")<|zf (mC<|.str "gives")<|zf (mC<|.str "giv")<|zf (mC<|.str "x")<|zf (mC<|.str "y")<|zf (mC<|.str "r")<|zf (mC<|.str "rk") zp)<|zS zx<|zf (zi 0)<|zf (mC<|.int 8) zp)
  (bW (mB<|aj (lL true) (zi 10)<|zi 6) (pL 6 (zi 10)<|zS zx<|zf (zi 0)<|zf (zi 1) zp) bZ)) bZ)
  (ba<|aZ (f1 iY)<|zf (zi 6) zp))))))))
def BI:FD:=bX 11 [0,1] NG
abbrev NF(Z:Zs):Prop:=Z.C "_law_names" 2 ["_law_box_here", "_law_many"] 2 BI
theorem zi7(B:Bs Z)(A:cB Z "_law_names" NL)(c0:uY Z):NF Z :=
 have hB:=B.1; cG A ["_law_box_here", "_law_many", "_law_alphabet", "_law_signs", "_law_spot", "_law_first", "_law_found", "_law_k", "_law_one", "_law_name", "_law_odd"] λnd hr=>⟨_,(zu (zD gr)
 (zu (zD<|kG (pP<|zd (zo eP zk<|zF 2<|zd ze<|zd zk zn) zn) zt j9<|zo ES ze<|zF 2<|zd ze<|zd zk zn)
 (zu (zD<|zF 2<|zd ze<|zd (bh dU<|zd ze zn) zn)
 (zu (zD<|zF 2<|zd ze<|zd zk zn)
 (zu (zD<|l8 zn)
 (zu (dX (pP<|zd ze zn) zt (zu (zD<|zo ES ze<|zo jB (zo eP ze<|zo ki zk ze) zk)
 (zu (zD<|zo A6 (zo A6 (OI J6 KD gr<|yQ Fc ze A8<|A7 ze) ze)<|OI J6 KD gr<|yQ Fc ze (A7<|zo eP ze zk) A8)
 (zu (zD<|zo A6 ze<|zo Ut gr<|zF 2<|zd ze<|zd zk zn)
 (zu (uD<|cI (kN (zI<|zo (yX false) ze ze)<|zI<|zo (yX false) ze<|bU<|zd gr<|zd gr<|zd gr<|zd gr<|zd gr zn) (zD<|zo A6 gr<|zo ES ze ze) cS)
 (wj<|vR ze))))))
 (zu (uD<|cI (zI<|zo mw (zF 2<|zd ze<|zd zk zn) zk) (zu (zD<|zo iZ (l8<|zd gr<|zd gr<|zd gr<|zd gr<|zd gr<|zd gr<|zd gr<|zd gr zn)<|zF 2<|zd ze<|zd zk zn)
 (cI (zI<|zo (yX true) ze ze) (AG ze<|zF 2<|zd ze<|zd ze zn) cS)) cS)
 (zT<|bh mF<|zd ze zn)))))))),
 (aC (zH gu)
 (aC (IY (pV<|af (zB eQ zm<|zE<|af aa<|af zm zj) zj) zr kj<|aW ER aa<|zE<|af aa<|af zm zj)
 (aC (zH<|zE<|af aa<|af (bw dZ Å<|af aa zj) zj)
 (aC (zH<|zE<|af aa<|af zm zj)
 (aC (zH<|l9 zj)
 (aC (dY (pV<|af aa zj) zr (aC (zH<|aW ER aa<|zB jC (zB eQ aa<|zB ko zm aa) zm)
 (aC (zH<|zB Bz (zB Bz (rm _ rfl PySem.F.plainAttrs_str PySem.F.slot_str_join PySem.F.type_str_join (Lh _ rfl) gu<|af (AM DY aa AQ<|AN aa) zj) aa)<|rm _ rfl PySem.F.plainAttrs_str PySem.F.slot_str_join PySem.F.type_str_join (Lh _ rfl) gu<|af (AM DY aa (AN<|zB eQ aa zm) AQ) zj)
 (aC (zH<|zB Bz aa<|zB zmR gu<|zE<|af aa<|af zm zj)
 (aC (uF<|cH (j0<|kP (zP OR aa aa rfl)<|pM<|zP OR aa (bV<|af gu<|af gu<|af gu<|af gu<|af gu zj) rfl) (zK<|zH<|zB Bz gu<|aW ER aa aa) cT)
 (zK<|wk<|rm _ rfl â Ý Þ wJ aa<|af aa zj))))))
 (aC (uF<|cH (zP mq (zE<|af aa<|af zm zj) zm) (aC (zH<|aW iW (l9<|af gu<|af gu<|af gu<|af gu<|af gu<|af gu<|af gu<|af gu zj)<|zE<|af aa<|af zm zj)
 (zK<|cH (zP Lk aa aa rfl) (zK<|nI aa<|Aw aa (zE<|af aa<|af aa zj) Bk) cT)) cT)
 (zK<|zR<|gQ mH Â<|af aa zj))))))))⟩
def M8:MS:=(ba<|zS pX<|zf (aj dF (aj iw (aj bg (zi 0)<|mC<|.int 0)<|aj bg (zi 1)<|mC<|.int 1)<|aj iw (aj bg (zi 1)<|mC<|.int 0)<|aj bg (zi 0)<|mC<|.int 1)<|zf (aj iw (aj bg (zi 0)<|mC<|.int 1)<|aj bg (zi 1)<|mC<|.int 1) zp)
def wR:FD:=bX 2 [0,1] M8
abbrev Gg(Z:Zs):Prop:=Z.C "_law_plus" 2 ["_law_one", "_law_other"] 2 wR
theorem zkD(B:Bs Z)(A:cB Z "_law_plus" Na)(c0:w5 Z):Gg Z :=
 have hB:=B.1; cG A ["_law_one", "_law_other"] λnd hr=>⟨_,(zT<|zF 2<|zd (zo eP (zo jx (zo zN ze zk)<|zo zN ze zk)<|zo jx (zo zN ze zk)<|zo zN ze zk)<|zd (zo jx (zo zN ze zk)<|zo zN ze zk) zn),
 (zK<|zR<|zE<|af (zB eQ (zB jy (aW zZ aa zm)<|aW zZ aa zm)<|zB jy (aW zZ aa zm)<|aW zZ aa zm)<|af (zB jy (aW zZ aa zm)<|aW zZ aa zm) zj)⟩
def ND:MS:=(ba<|zS pX<|zf (aj iw (aj bg (zi 0)<|mC<|.int 0)<|aj bg (zi 1)<|mC<|.int 0)<|zf (aj iw (aj bg (zi 0)<|mC<|.int 1)<|aj bg (zi 1)<|mC<|.int 1) zp)
def BM:FD:=bX 2 [0,1] ND
abbrev NC(Z:Zs):Prop:=Z.C "_law_times" 2 ["_law_one", "_law_other"] 2 BM
theorem zi8(B:Bs Z)(A:cB Z "_law_times" NK)(c0:w5 Z):NC Z :=
 have hB:=B.1; cG A ["_law_one", "_law_other"] λnd hr=>⟨_,(zT<|zF 2<|zd (zo jx (zo zN ze zk)<|zo zN ze zk)<|zd (zo jx (zo zN ze zk)<|zo zN ze zk) zn),
 (zK<|zR<|zE<|af (zB jy (aW zZ aa zm)<|aW zZ aa zm)<|af (zB jy (aW zZ aa zm)<|aW zZ aa zm) zj)⟩
def NT:MS:=(zz (zQ 1<|zS zx<|zf (zi 0)<|zf (mC<|.int 12) zp)
  (zz (bW (mB<|aj oU (zi 1)<|mC<|.int 7) (ba<|aj fK (iU<|zf (bB<|zf (mC<|.int 0)<|zf (mC<|.int 1) zp)<|zf (bB<|zf (mC<|.int 1)<|zf (mC<|.int 1) zp)<|zf (bB<|zf (mC<|.int 1)<|zf (mC<|.int 1) zp)<|zf (bB<|zf (bM l5<|mC<|.int 1)<|zf (mC<|.int 1) zp)<|zf (bB<|zf (mC<|.int 2)<|zf (mC<|.int 1) zp)<|zf (bB<|zf (mC<|.int 1)<|zf (mC<|.int 2) zp)<|zf (bB<|zf (bM l5<|mC<|.int 2)<|zf (mC<|.int 3) zp) zp)<|zi 1) bZ)
  (zz (bW (mB<|aj oU (zi 1)<|mC<|.int 11) (ba<|zS pX<|zf (aj fL (zS zx<|zf (zi 0)<|zf (mC<|.int 19) zp)<|mC<|.int 9)<|zf (aj dF (mC<|.int 1)<|zS zx<|zf (zi 0)<|zf (mC<|.int 4) zp) zp) bZ)
  (ba<|zS pX<|zf (aj fL (zS zx<|zf (zi 0)<|zf (mC<|.int 1999999) zp)<|mC<|.int 999999)<|zf (aj dF (mC<|.int 1)<|zS zx<|zf (zi 0)<|zf (mC<|.int 4) zp) zp))))
def wZ:FD:=bX 2 [0] NT
abbrev NS(Z:Zs):Prop:=Z.C "_law_multiple" 2 ["_law_box_here"] 1 wZ
theorem zgJ(B:Bs Z)(A:cB Z "_law_multiple" NY)(c0:uY Z)(c1:w5 Z):NS Z :=
 have hB:=B.1; cG A ["_law_box_here", "_law_kind"] λnd hr=>⟨_,(zu (zD<|zF 2<|zd ze<|zd zk zn)
 (zu (cI (zI<|zo rR ze zk) (zT<|zo iZ (l8<|zd (bU<|zd zk<|zd zk zn)<|zd (bU<|zd zk<|zd zk zn)<|zd (bU<|zd zk<|zd zk zn)<|zd (bU<|zd (eM r9 zk)<|zd zk zn)<|zd (bU<|zd zk<|zd zk zn)<|zd (bU<|zd zk<|zd zk zn)<|zd (bU<|zd (eM r9 zk)<|zd zk zn) zn) ze) cS)
 (zu (cI (zI<|zo rR ze zk) (zT<|zF 2<|zd (zo gC (zF 2<|zd ze<|zd zk zn) zk)<|zd (zo eP zk<|zF 2<|zd ze<|zd zk zn) zn) cS)
 (zT<|zF 2<|zd (zo gC (zF 2<|zd ze<|zd zk zn) zk)<|zd (zo eP zk<|zF 2<|zd ze<|zd zk zn) zn)))),
 (aC (zH<|zE<|af aa<|af zm zj)
 (aC (cH (zP rQ aa zm) (zK<|zR<|aW iW (l9<|af (bV<|af zm<|af zm zj)<|af (bV<|af zm<|af zm zj)<|af (bV<|af zm<|af zm zj)<|af (bV<|af (rn so zm)<|af zm zj)<|af (bV<|af zm<|af zm zj)<|af (bV<|af zm<|af zm zj)<|af (bV<|af (rn so zm)<|af zm zj) zj) aa) cT)
 (aC (cH (zP rQ aa zm) (zK<|zR<|zE<|af (zB gD (zE<|af aa<|af zm zj) zm)<|af (zB eQ zm<|zE<|af aa<|af zm zj) zj) cT)
 (zK<|zR<|zE<|af (zB gD (zE<|af aa<|af zm zj) zm)<|af (zB eQ zm<|zE<|af aa<|af zm zj) zj))))⟩
def Og:MS:=(zz (bW (i8 (ik<|mB<|bM (iS "tuple")<|zi 0)<|mB<|aj (cR true) (aZ (f1 cZ)<|zf (zi 0) zp)<|mC<|.int 2) (ba<|mC<|.bool false) bZ)
  (zz (dq (cP kI<|zi 0) (zv 1)<|bW (i8 (ik<|mB<|bM (iS "int")<|zi 1)<|mB<|bM (iS "bool")<|zi 1) (ba<|mC<|.bool false) bZ)
  (ba<|uo (aj vA (aj bg (zi 0)<|mC<|.int 1)<|mC<|.int 0)<|aj (jZ false) (zS pX<|zf (aj bg (zi 0)<|mC<|.int 0)<|zf (aj bg (zi 0)<|mC<|.int 1) zp)<|zi 0)))
def BP:FD:=bX 2 [0] Og
abbrev Of(Z:Zs):Prop:=Z.C "_law_is_fraction" 2 ["_law_thing"] 1 BP
theorem zeE(B:Bs Z)(A:cB Z "_law_is_fraction" Oi)(c0:w5 Z):Of Z :=
 have hB:=B.1; cG A ["_law_thing", "_law_one"] λnd hr=>⟨_,(zu (cI (kN (kX<|ip<|nC (T := "tuple") ze)<|zI<|zo nQ (bh dU<|zd ze zn) zk) (zT iq) cS)
 (zu (dX (r8 ze) zt<|cI (kN (kX<|ip<|nC (T := "int") ze)<|ip<|nC (T := "bool") ze) (zT iq) cS)
 (zT<|EY (zo Af (zo zN ze zk) zk)<|zo (AD false) (zF 2<|zd (zo zN ze zk)<|zd (zo zN ze zk) zn) ze))),
 (aC (cH (j0<|kP (kR<|km<|bw nJ Ê<|af aa<|af (nU (v:=.ty "tuple") Â rfl) zj)<|pM<|zP nL (bw dZ Å<|af aa zj) zm) (zK<|zR ir) cT)
 (aC (dY (si aa) zr<|zK<|cH (j0<|kP (kR<|km<|bw nJ Ê<|af aa<|af (nU (v:=.ty "int") ê rfl) zj)<|pM<|km<|bw nJ Ê<|af aa<|af (nU (v:=.ty "bool") PyProof.Rows.boot_bool rfl) zj) (zK<|zR ir) cT)
 (zK<|zR<|DZ (wc Ad (aW zZ aa zm) zm)<|Ja<|wc (Sl _ rfl hr) (zE<|af (aW zZ aa zm)<|af (aW zZ aa zm) zj) aa)))⟩
def Mw:MS:=(zz (zQ 3<|tD (cP kS<|cD<|zi 0) 2 [] (dG 2<|zJ (zv 0)<|zJ (zv 1) eN) (mB<|aj (cR true) (zi 1)<|mC<|.int 0) (zi 0)<|zi 1)
  (zz (bW (pf (vU<|zi 3)<|mB<|aj Ct (bM vV<|zi 1)<|zi 2) (ba<|ub "Form" ["numbers", "beneath", "room"]<|zf (cD<|zi 3)<|zf (zi 1)<|zf (zi 2) zp) bZ)
  (zz (zQ 4<|zi 1)
  (zz (dq (cP y8<|cD<|zi 3) (zv 5)<|zQ 4<|zS pW<|zf (zi 4)<|zf (aZ (f1 rF)<|zf (zi 5) zp) zp)
  (zz (zQ 6<|tD (cP kS<|cD<|zi 3) 2 [4] (dG 2<|zJ (zv 0)<|zJ (zv 1) eN) ic (zi 0)<|aj pF (zi 1)<|zi 2)
  (zz (zQ 1<|aj pF (zi 1)<|zi 4)
  (ba<|ub "Form" ["numbers", "beneath", "room"]<|zf (cD<|zi 6)<|zf (zi 1)<|zf (aZ rO<|zf (mC<|.int 256)<|zf (aj iw (mC<|.int 2)<|bM vV<|zi 1) zp) zp)))))))
def uW:FD:=bX 7 [0,2] Mw
abbrev Bt(Z:Zs):Prop:=Z.C "settled" 3 ["numbers", "beneath", "room"] 3 uW
theorem Yn(B:Bs Z)(A:cB Z "settled" Mx)(c0:BE Z):Bt Z :=
 by obtain⟨hB,_,⟨jn,cL⟩,_,_,⟨bf,ai⟩⟩:=B; exact cG A ["numbers", "beneath", "room", "kept", "factor", "many", "lowest"] λnd hr=>⟨_,(zu (zD<|yF (pU<|dD ze) (fC<|zA zt<|zA zt fD) (zI<|zo nQ ze zk) ze ze)
 (zu (cI (AA (UO ze)<|zI<|zo IU (JT ze) ze) (zT<|DT ai.xn<|zd (dD ze)<|zd ze<|zd ze zn) cS)
 (zu (zD ze)
 (zu (dX (UQ<|dD ze) zt<|zD<|zF 2<|zd ze<|zd (bh AB<|zd ze zn) zn)
 (zu (zD<|yF (pU<|dD ze) (fC<|zA zt<|zA zt fD) j9 ze<|zo uQ ze ze)
 (zu (zD<|zo uQ ze ze)
 (zT<|DT ai.xn<|zd (dD ze)<|zd ze<|zd (bh AK<|zd zk<|zd (zo jx zk<|JT ze) zn) zn))))))),
 (aC (DR hr (pR<|dE aa) (fE<|bE zr<|bE zr fF) (EJ<|zP nL aa zm) aa aa)
 (aC (cH (j0<|Ax (RB aa)<|AR<|zP Jg (IX _ rfl PySem.F.plainAttrs_int PySem.F.slot_int_bit_length PySem.F.type_int_bit_length KN aa) aa) (zK<|zR<|DP ai<|af (dE aa)<|af aa<|af aa zj) cT)
 (aC (zH aa)
 (aC (dY (RC<|dE aa) zr<|zK<|zH<|zE<|af aa<|af (bw Bm ú<|af aa zj) zj)
 (aC (DR hr (pR<|dE aa) (fE<|bE zr<|bE zr fF) kj aa<|zB uV aa aa)
 (aC (zH<|zB uV aa aa)
 (zK<|zR<|DP ai<|af (dE aa)<|af aa<|af (bw (Bw rfl) û<|af (sf (v:=.int 256) rfl cL ⟨_,rfl⟩)<|af (zB jy zm<|IX _ rfl PySem.F.plainAttrs_int PySem.F.slot_int_bit_length PySem.F.type_int_bit_length KN aa) zj) zj)))))))⟩
def Ou:MS:=(ba<|ub "Form" ["numbers", "beneath", "room"]<|zf (cD<|rT (aj rY (aj rY (aj pJ (bB<|zf (mC<|.int 0) zp)<|zi 0)<|bB<|zf (mC<|.int 1) zp)<|aj pJ (bB<|zf (mC<|.int 0) zp)<|aj fL (aj fL (zi 1)<|zi 0)<|mC<|.int 1)<|mC<|.int 1)<|zf (mC<|.int 1)<|zf (mC<|.int 256) zp)
def BO:FD:=bX 2 [0,1] Ou
abbrev Ot(Z:Zs):Prop:=Z.C "letter_by_powers" 3 ["k", "many_letters"] 2 BO
theorem zfu(B:Bs Z)(A:cB Z "letter_by_powers" Oy):Ot Z :=
 by obtain⟨hB,_,⟨jn,cL⟩,_,_,⟨bf,ai⟩⟩:=B; exact cG A ["k", "many_letters"] λnd hr=>⟨_,(zT<|DT ai.xn<|zd (dD<|wD (zo Fx (zo Fx (zo A0 (bU<|zd zk zn) ze)<|bU<|zd zk zn)<|zo A0 (bU<|zd zk zn)<|zo gC (zo gC ze ze) zk) zk)<|zd zk<|zd zk zn),
 (zK<|zR<|DP ai<|af (dE<|wF hr (zB Fy (zB Fy (zB (A2 _ rfl) (bV<|af zm zj) aa)<|bV<|af zm zj)<|zB (A2 _ rfl) (bV<|af zm zj)<|zB gD (zB gD aa aa) zm) zm)<|af zm<|af (sf (v:=.int 256) rfl cL ⟨_,rfl⟩) zj)⟩
def NA:MS:=(ba<|aZ (f1 Ao)<|zf (iA (cP kS<|cD<|bM (dW "Form" "numbers")<|zi 0) 2 [0] (dG 2<|zJ (zv 0)<|zJ (zv 1) eN) ic<|bB<|zf (zi 0)<|zf (zS Bx<|zf (zi 1)<|zf (bM (dW "Form" "beneath")<|zi 2) zp) zp) zp)
def BK:FD:=bX 1 [0] NA
abbrev Nz(Z:Zs):Prop:=Z.C "fractions_of" 3 ["form"] 1 BK
theorem ziN(B:Bs Z)(A:cB Z "fractions_of" NB)(c0:MH Z):Nz Z :=
 by obtain⟨hB,_,_,_,_,⟨bf,ai⟩⟩:=B; exact cG A ["form"] λnd hr=>⟨_,(zT<|bh LC<|zd (kG (pU<|dD<|eM (g7 ai.xn ai.cl<|ai.na _ (by decide)) ze) (fC<|zA zt<|zA zt fD) j9<|bU<|zd ze<|zd (zF 2<|zd ze<|zd (eM (g7 ai.xn ai.cl<|ai.na _ (by decide)) ze) zn) zn) zn),
 (zK<|zR<|bw (M3 _ rfl hr) PyProof.Rows.boot_sorted<|af (m9 (pR<|dE<|gZ _ rfl aa rfl) (fE<|bE zr<|bE zr fF) kj<|bV<|af aa<|af (zE<|af aa<|af (gZ _ rfl aa rfl) zj) zj) zj)⟩
def Oc:MS:=(zz (zQ 3<|aZ (f1 zev)<|zf (zi 0) zp)
  (zz (dq (cP nF<|cD<|zi 1) (zv 4) (zz (zQ 5<|bB<|zf (aj gW (zi 2)<|aj bg (gY (zi 1)<|zi 4)<|mC<|.int 0)<|zf (aj bg (gY (zi 1)<|zi 4)<|mC<|.int 1) zp)
  (iX 3 (zi 4)<|zS wR<|zf (kU (zi 3) (zi 4)<|bB<|zf (mC<|.int 0)<|zf (mC<|.int 1) zp)<|zf (zi 5) zp)))
  (zz (zQ 6 kf)
  (zz (dq (cP nF<|cD<|zi 3) (zv 4)<|bW (mB<|aj (cR true) (aj bg (gY (zi 3)<|zi 4)<|mC<|.int 0)<|mC<|.int 0) (iX 6 (zi 4)<|gY (zi 3)<|zi 4) bZ)
  (rN [0,1,2] 6)))))
def u3:FD:=bX 7 [0,1,2] Oc
abbrev Gn(Z:Zs):Prop:=Z.C "_law_poly_add" 3 ["_law_one", "_law_other", "_law_sign"] 3 u3
theorem zgK(B:Bs Z)(A:cB Z "_law_poly_add" NZ)(c0:Gg Z):Gn Z :=
 have hB:=B.1; cG A ["_law_one", "_law_other", "_law_sign", "_law_found", "_law_powers", "_law_more", "_law_kept"] λnd hr=>⟨_,(zu (zD<|bh Yz<|zd ze zn)
 (zu (dX (uO<|dD ze) zt (zu (zD<|bU<|zd (zo ki ze<|zo zN (kW ze ze) zk)<|zd (zo zN (kW ze ze) zk) zn)
 (nR ze<|zF 2<|zd (su ze ze<|bU<|zd zk<|zd zk zn)<|zd ze zn)))
 (zu (zD nW)
 (zu (dX (uO<|dD ze) zt<|cI (zI<|zo nQ (zo zN (kW ze ze) zk) zk) (nR ze<|kW ze ze) cS)
 JX)))),
 (aC (zH<|gQ Z9 PyProof.Rows.boot_dict<|af aa zj)
 (aC (dY (uU<|dE aa) zr (aC (zH<|bV<|af (zB ko aa<|aW zZ (kQ hr aa aa) zm)<|af (aW zZ (kQ hr aa aa) zm) zj)
 (zK<|nS hr aa aa<|zE<|af (sv hr aa aa (bV<|af zm<|af zm zj) ⟨rfl,rfl,rfl,rfl⟩)<|af aa zj)))
 (aC (zH nX)
 (aC (dY (uU<|dE aa) zr<|zK<|cH (zP nL (aW zZ (kQ hr aa aa) zm) zm) (zK<|nS hr aa aa<|kQ hr aa aa) cT)
 (zK<|zR aa)))))⟩
def N4:MS:=(zz (zQ 2 kf)
  (zz (dq (cP nF<|cD<|zi 0) (zv 3)<|dq (cP nF<|cD<|zi 1) (zv 4) (zz (zQ 5<|aZ (f1 iY)<|zf (iA (yG<|zf (zi 3)<|zf (zi 4) zp) 2 [] (dG 2<|zJ (zv 0)<|zJ (zv 1) eN) ic<|aj dF (zi 0)<|zi 1) zp)
  (zz (zQ 6<|zS BM<|zf (gY (zi 0)<|zi 3)<|zf (gY (zi 1)<|zi 4) zp)
  (iX 2 (zi 5)<|zS wR<|zf (kU (zi 2) (zi 5)<|bB<|zf (mC<|.int 0)<|zf (mC<|.int 1) zp)<|zf (zi 6) zp))))
  (zz (zQ 7 kf)
  (zz (dq (cP nF<|cD<|zi 2) (zv 5)<|bW (mB<|aj (cR true) (aj bg (gY (zi 2)<|zi 5)<|mC<|.int 0)<|mC<|.int 0) (iX 7 (zi 5)<|gY (zi 2)<|zi 5) bZ)
  (rN [0,1] 7)))))
def u4:FD:=bX 8 [0,1] N4
abbrev Gp(Z:Zs):Prop:=Z.C "_law_poly_mult" 3 ["_law_one", "_law_other"] 2 u4
theorem zgh(B:Bs Z)(A:cB Z "_law_poly_mult" OC)(c0:Gg Z)(c1:NC Z):Gp Z :=
 have hB:=B.1; cG A ["_law_one", "_law_other", "_law_found", "_law_left", "_law_right", "_law_powers", "_law_more", "_law_kept"] λnd hr=>⟨_,(zu (zD nW)
 (zu (dX (uO<|dD ze) zt<|dX (uO<|dD ze) zt (zu (zD<|bh mF<|zd (kG (JI<|zd ze<|zd ze zn) (fC<|zA zt<|zA zt fD) j9<|zo eP ze ze) zn)
 (zu (zD<|zF 2<|zd (kW ze ze)<|zd (kW ze ze) zn)
 (nR ze<|zF 2<|zd (su ze ze<|bU<|zd zk<|zd zk zn)<|zd ze zn))))
 (zu (zD nW)
 (zu (dX (uO<|dD ze) zt<|cI (zI<|zo nQ (zo zN (kW ze ze) zk) zk) (nR ze<|kW ze ze) cS)
 JX)))),
 (aC (zH nX)
 (aC (dY (uU<|dE aa) zr<|zK<|dY (uU<|dE aa) zr (aC (zH<|gQ mH Â<|af (m9 (JJ<|af aa<|af aa zj) (fE<|bE zr<|bE zr fF) kj<|zB eQ aa aa) zj)
 (aC (zH<|zE<|af (kQ hr aa aa)<|af (kQ hr aa aa) zj)
 (zK<|nS hr aa aa<|zE<|af (sv hr aa aa (bV<|af zm<|af zm zj) ⟨rfl,rfl,rfl,rfl⟩)<|af aa zj))))
 (aC (zH nX)
 (aC (dY (uU<|dE aa) zr<|zK<|cH (zP nL (aW zZ (kQ hr aa aa) zm) zm) (zK<|nS hr aa aa<|kQ hr aa aa) cT)
 (zK<|zR aa)))))⟩
def NR:MS:=(zz (zQ 3<|zS wZ<|zf (zi 0) zp)
  (zz (bW (pf (mB<|aj (cR false) (aj bg (zi 3)<|mC<|.int 0)<|mC<|.int 0)<|ik<|mB<|zi 2) (zQ 3<|bB<|zf (mC<|.int 1)<|zf (mC<|.int 1) zp) bZ)
  (zz (zQ 4<|zS zx<|zf (zi 0)<|zf (aj dF (zi 1)<|mC<|.int 1) zp)
  (zz (bW (mB<|aj (cR false) (zi 4)<|zi 1) (ba<|bB<|zf (zi 3)<|zf (mC .none) zp) bZ)
  (ba<|bB<|zf (aj fK (iU<|zf (zi 3)<|zf (bB<|zf (mC<|.int 1)<|zf (mC<|.int 1) zp) zp)<|zS zx<|zf (zi 0)<|zf (mC<|.int 2) zp)<|zf (zi 4) zp)))))
def BL:FD:=bX 5 [0,1,2] NR
abbrev NQ(Z:Zs):Prop:=Z.C "_law_entry" 3 ["_law_box_here", "_law_many", "_law_may_be_nought"] 3 BL
theorem zi9(B:Bs Z)(A:cB Z "_law_entry" NJ)(c0:uY Z)(c1:NS Z):NQ Z :=
 have hB:=B.1; cG A ["_law_box_here", "_law_many", "_law_may_be_nought", "_law_f", "_law_k"] λnd hr=>⟨_,(zu (zD<|zF 1<|zd ze zn)
 (zu (uD<|cI (AA (zI<|zo mw (zo zN ze zk) zk)<|kX<|ip ze) (zD<|bU<|zd zk<|zd zk zn) cS)
 (zu (zD<|zF 2<|zd ze<|zd (zo eP ze zk) zn)
 (zu (cI (zI<|zo mw ze ze) (zT<|bU<|zd ze<|zd vT zn) cS)
 (zT<|bU<|zd (zo iZ (l8<|zd ze<|zd (bU<|zd zk<|zd zk zn) zn)<|zF 2<|zd ze<|zd zk zn)<|zd ze zn))))),
 (aC (zH<|zE<|af aa zj)
 (aC (uF<|cH (j0<|Ax (zP mq (aW zZ aa zm) zm)<|AR<|kR<|km aa) (zK<|zH<|bV<|af zm<|af zm zj) cT)
 (aC (zH<|zE<|af aa<|af (zB eQ aa zm) zj)
 (aC (cH (zP mq aa aa) (zK<|zR<|bV<|af aa<|af wd zj) cT)
 (zK<|zR<|bV<|af (aW iW (l9<|af aa<|af (bV<|af zm<|af zm zj) zj)<|zE<|af aa<|af zm zj)<|af aa zj)))))⟩
def Ob:MS:=(zz (bW (i8 (ik<|mB<|bM (iS "tuple")<|zi 0)<|i8 (mB<|aj (cR true) (aZ (f1 cZ)<|zf (zi 0) zp)<|mC<|.int 2)<|ik<|mB<|zS BP<|zf (aj bg (zi 0)<|mC<|.int 0) zp) (ba<|mC<|.bool false) bZ)
  (zz (bW (pf (mB<|aj (cR false) (aj bg (aj bg (zi 0)<|mC<|.int 0)<|mC<|.int 0)<|mC<|.int 0)<|ik<|mB<|zi 2) (ba<|mC<|.bool false) bZ)
  (zz (bW (mB<|aj (ui false) (aj bg (zi 0)<|mC<|.int 1)<|mC .none) (ba<|mC<|.bool true) bZ)
  (ba<|uo (bM (iS "int")<|aj bg (zi 0)<|mC<|.int 1)<|uo (Ae<|bM (iS "bool")<|aj bg (zi 0)<|mC<|.int 1)<|Am Ct oU (mC<|.int 0) (aj bg (zi 0)<|mC<|.int 1)<|zi 1))))
def BH:FD:=bX 3 [0,1,2] Ob
abbrev Oa(Z:Zs):Prop:=Z.C "_law_is_entry" 3 ["_law_entry_here", "_law_many", "_law_may_be_nought"] 3 BH
theorem zgL(B:Bs Z)(A:cB Z "_law_is_entry" NW)(c0:Of Z):Oa Z :=
 have hB:=B.1; cG A ["_law_entry_here", "_law_many", "_law_may_be_nought"] λnd hr=>⟨_,(zu (cI (kN (kX<|ip<|nC (T := "tuple") ze)<|kN (zI<|zo nQ (bh dU<|zd ze zn) zk)<|kX<|ip<|zF 1<|zd (zo zN ze zk) zn) (zT iq) cS)
 (zu (cI (AA (zI<|zo mw (zo zN (zo zN ze zk) zk) zk)<|kX<|ip ze) (zT iq) cS)
 (zu (cI (zI<|zo J8 (zo zN ze zk) vT) (zT iq) cS)
 (zT<|EY (nC (T := "int")<|zo zN ze zk)<|EY (Si<|nC (T := "bool")<|zo zN ze zk)<|Uu IU rR zk (zo zN ze zk) ze)))),
 (aC (cH (j0<|kP (kR<|km<|bw nJ Ê<|af aa<|af (nU (v:=.ty "tuple") Â rfl) zj)<|kP (zP nL (bw dZ Å<|af aa zj) zm)<|pM<|kR<|km<|zE<|af (aW zZ aa zm) zj) (zK<|zR ir) cT)
 (aC (cH (j0<|Ax (zP mq (aW zZ (aW zZ aa zm) zm) zm)<|AR<|kR<|km aa) (zK<|zR ir) cT)
 (aC (cH (zP Ke (aW zZ aa zm) wd) (zK<|zR ir) cT)
 (zK<|zR<|DZ (bw nJ Ê<|af (aW zZ aa zm)<|af (nU (v:=.ty "int") ê rfl) zj)<|DZ (w_not<|bw nJ Ê<|af (aW zZ aa zm)<|af (nU (v:=.ty "bool") PyProof.Rows.boot_bool rfl) zj)<|Ja<|Vz Jg rQ zm (aW zZ aa zm) aa))))⟩
def MF:MS:=(zz (zQ 3<|aj iw (bM (dW "Form" "beneath")<|zi 1)<|aj bg (zi 2)<|mC<|.int 1)
  (zz (zQ 4<|zS pW<|zf (bM (dW "Form" "beneath")<|zi 0)<|zf (zi 3) zp)
  (zz (zQ 5<|aj pF (zi 3)<|zi 4)
  (zz (zQ 6<|aj iw (aj pF (bM (dW "Form" "beneath")<|zi 0)<|zi 4)<|aj bg (zi 2)<|mC<|.int 0)
  (zz (zQ 7<|tD (cP kS<|cD<|bM (dW "Form" "numbers")<|zi 0) 2 [5] (dG 2<|zJ (zv 0)<|zJ (zv 1) eN) ic (zi 0)<|aj iw (zi 1)<|zi 2)
  (zz (dq (cP kS<|cD<|bM (dW "Form" "numbers")<|zi 1) (dG 2<|zJ (zv 8)<|zJ (zv 9) eN)<|iX 7 (zi 8)<|aj dF (kU (zi 7) (zi 8)<|mC<|.int 0)<|aj iw (zi 9)<|zi 6)
  (ba<|zS uW<|zf (zi 7)<|zf (aj iw (bM (dW "Form" "beneath")<|zi 0)<|zi 5)<|zf (aZ rO<|zf (bM (dW "Form" "room")<|zi 0)<|zf (bM (dW "Form" "room")<|zi 1) zp) zp)))))))
def wN:FD:=bX 10 [0,1,2] MF
abbrev MD(Z:Zs):Prop:=Z.C "form_sum" 4 ["one", "other", "f"] 3 wN
theorem znG(B:Bs Z)(A:cB Z "form_sum" MP)(c0:BE Z)(c1:Bt Z):MD Z :=
 by obtain⟨hB,_,_,_,_,⟨bf,ai⟩⟩:=B; exact cG A ["one", "other", "f", "beneath", "factor", "first", "second", "sums", "product", "many"] λnd hr=>⟨_,(zu (zD<|zo jx (eM (g7 ai.xn ai.cl<|ai.na _ (by decide)) ze)<|zo zN ze zk)
 (zu (zD<|zF 2<|zd (eM (g7 ai.xn ai.cl<|ai.na _ (by decide)) ze)<|zd ze zn)
 (zu (zD<|zo uQ ze ze)
 (zu (zD<|zo jx (zo uQ (eM (g7 ai.xn ai.cl<|ai.na _ (by decide)) ze) ze)<|zo zN ze zk)
 (zu (zD<|yF (pU<|dD<|eM (g7 ai.xn ai.cl<|ai.na _ (by decide)) ze) (fC<|zA zt<|zA zt fD) j9 ze<|zo jx ze ze)
 (zu (dX (pU<|dD<|eM (g7 ai.xn ai.cl<|ai.na _ (by decide)) ze) (fC<|zA zt<|zA zt fD)<|nR ze<|zo eP (su ze ze zk)<|zo jx ze ze)
 (zT<|zF 3<|zd ze<|zd (zo jx (eM (g7 ai.xn ai.cl<|ai.na _ (by decide)) ze) ze)<|zd (bh AK<|zd (eM (g7 ai.xn ai.cl<|ai.na _ (by decide)) ze)<|zd (eM (g7 ai.xn ai.cl<|ai.na _ (by decide)) ze) zn) zn))))))),
 (aC (zH<|zB jy (gZ _ rfl aa rfl)<|aW zZ aa zm)
 (aC (zH<|zE<|af (gZ _ rfl aa rfl)<|af aa zj)
 (aC (zH<|zB uV aa aa)
 (aC (zH<|zB jy (zB uV (gZ _ rfl aa rfl) aa)<|aW zZ aa zm)
 (aC (DR hr (pR<|dE<|gZ _ rfl aa rfl) (fE<|bE zr<|bE zr fF) kj aa<|zB jy aa aa)
 (aC (dY (pR<|dE<|gZ _ rfl aa rfl) (fE<|bE zr<|bE zr fF)<|zK<|nS hr aa aa<|zB eQ (sv hr aa aa zm ⟨rfl,rfl,rfl,rfl⟩)<|zB jy aa aa)
 (zK<|zR<|zE<|af aa<|af (zB jy (gZ _ rfl aa rfl) aa)<|af (bw (Bw rfl) û<|af (gZ _ rfl aa rfl)<|af (gZ _ rfl aa rfl) zj) zj)))))))⟩
def Oq:MS:=(ba<|zS uW<|zf (rT (aj pJ (bB<|zf (mC<|.int 0) zp)<|zi 1)<|aj bg (zi 0)<|mC<|.int 0)<|zf (aj bg (zi 0)<|mC<|.int 1)<|zf (mC<|.int 256) zp)
def w6:FD:=bX 2 [0,1] Oq
abbrev Oo(Z:Zs):Prop:=Z.C "number_by_powers" 4 ["f", "many_letters"] 2 w6
theorem zfv(B:Bs Z)(A:cB Z "number_by_powers" Oz)(c0:Bt Z):Oo Z :=
 by obtain⟨hB,_,⟨jn,cL⟩,_⟩:=B; exact cG A ["f", "many_letters"] λnd hr=>⟨_,(zT<|zF 3<|zd (wD (zo A0 (bU<|zd zk zn) ze)<|zo zN ze zk)<|zd (zo zN ze zk)<|zd zk zn),
 (zK<|zR<|zE<|af (wF hr (zB (A2 _ rfl) (bV<|af zm zj) aa)<|aW zZ aa zm)<|af (aW zZ aa zm)<|af (sf (v:=.int 256) rfl cL ⟨_,rfl⟩) zj)⟩
def N3:MS:=(zz (zQ 2 kf)
  (zz (dq (cP kS<|cD<|bM (dW "Form" "numbers")<|zi 0) (dG 2<|zJ (zv 3)<|zJ (zv 4) eN)<|dq (cP kS<|cD<|bM (dW "Form" "numbers")<|zi 1) (dG 2<|zJ (zv 5)<|zJ (zv 6) eN) (zz (zQ 7<|zS BJ<|zf (zi 3)<|zf (zi 5) zp)
  (iX 2 (zi 7)<|aj dF (kU (zi 2) (zi 7)<|mC<|.int 0)<|aj iw (zi 4)<|zi 6)))
  (ba<|zS uW<|zf (zi 2)<|zf (aj iw (bM (dW "Form" "beneath")<|zi 0)<|bM (dW "Form" "beneath")<|zi 1)<|zf (aZ rO<|zf (bM (dW "Form" "room")<|zi 0)<|zf (bM (dW "Form" "room")<|zi 1) zp) zp)))
def BQ:FD:=bX 8 [0,1] N3
abbrev N2(Z:Zs):Prop:=Z.C "times_by_powers" 4 ["one", "other"] 2 BQ
theorem zgi(B:Bs Z)(A:cB Z "times_by_powers" OD)(c0:NH Z)(c1:Bt Z):N2 Z :=
 by obtain⟨hB,_,_,_,_,⟨bf,ai⟩⟩:=B; exact cG A ["one", "other", "sums", "powers", "many", "others", "more", "both"] λnd hr=>⟨_,(zu (zD nW)
 (zu (dX (pU<|dD<|eM (g7 ai.xn ai.cl<|ai.na _ (by decide)) ze) (fC<|zA zt<|zA zt fD)<|dX (pU<|dD<|eM (g7 ai.xn ai.cl<|ai.na _ (by decide)) ze) (fC<|zA zt<|zA zt fD) (zu (zD<|zF 2<|zd ze<|zd ze zn)
 (nR ze<|zo eP (su ze ze zk)<|zo jx ze ze)))
 (zT<|zF 3<|zd ze<|zd (zo jx (eM (g7 ai.xn ai.cl<|ai.na _ (by decide)) ze)<|eM (g7 ai.xn ai.cl<|ai.na _ (by decide)) ze)<|zd (bh AK<|zd (eM (g7 ai.xn ai.cl<|ai.na _ (by decide)) ze)<|zd (eM (g7 ai.xn ai.cl<|ai.na _ (by decide)) ze) zn) zn))),
 (aC (zH nX)
 (aC (dY (pR<|dE<|gZ _ rfl aa rfl) (fE<|bE zr<|bE zr fF)<|zK<|dY (pR<|dE<|gZ _ rfl aa rfl) (fE<|bE zr<|bE zr fF) (aC (zH<|zE<|af aa<|af aa zj)
 (zK<|nS hr aa aa<|zB eQ (sv hr aa aa zm ⟨rfl,rfl,rfl,rfl⟩)<|zB jy aa aa)))
 (zK<|zR<|zE<|af aa<|af (zB jy (gZ _ rfl aa rfl)<|gZ _ rfl aa rfl)<|af (bw (Bw rfl) û<|af (gZ _ rfl aa rfl)<|af (gZ _ rfl aa rfl) zj) zj)))⟩
def Nn:MS:=(zz (zQ 3<|aj dF (mC<|.int 2)<|zS zx<|zf (zi 0)<|zf (aj fL (zi 2)<|mC<|.int 1) zp)
  (zz (zQ 4<|zS zx<|zf (zi 0)<|zf (mC<|.int 4) zp)
  (zz (zQ 5<|iU zp)
  (zz (dq (kM<|zf (aj fL (zi 3)<|mC<|.int 1) zp) (zv 6)<|dq (rM<|zf (aj dF (zi 6)<|mC<|.int 1)<|zf (zi 3) zp) (zv 7) (zz (zQ 8<|aj fK (iU<|zf (mC<|.int 4)<|zf (mC<|.int 2)<|zf (mC<|.int 1)<|zf (aj dF (mC<|.int 1)<|aj gW (mC<|.int 3)<|aZ (f1 uq)<|zf (aj (cR false) (zi 7)<|aj dF (zi 6)<|mC<|.int 1) zp) zp)<|zi 4)
  (bW (mB<|aj oU (zS zx<|zf (zi 0)<|zf (mC<|.int 4) zp)<|zi 8) (nG<|l0 5<|bB<|zf (zi 6)<|zf (zi 7)<|zf (zS BL<|zf (zi 0)<|zf (aZ (f1 cZ)<|zf (zi 1) zp)<|zf (mC<|.bool false) zp) zp) bZ)))
  (ba<|bB<|zf (zi 1)<|zf (zi 3)<|zf (aZ (f1 iY)<|zf (zi 5) zp) zp)))))
def wV:FD:=bX 9 [0,1,2] Nn
abbrev Nm(Z:Zs):Prop:=Z.C "_law_web" 4 ["_law_box_here", "_law_letters", "_law_most"] 3 wV
theorem zl7(B:Bs Z)(A:cB Z "_law_web" Nr)(c0:uY Z)(c1:NQ Z):Nm Z :=
 have hB:=B.1; cG A ["_law_box_here", "_law_letters", "_law_most", "_law_dots", "_law_kind", "_law_ways", "_law_begin", "_law_end", "_law_chance"] λnd hr=>⟨_,(zu (zD<|zo eP zk<|zF 2<|zd ze<|zd (zo gC ze zk) zn)
 (zu (zD<|zF 2<|zd ze<|zd zk zn)
 (zu (zD<|l8 zn)
 (zu (dX (pP<|zd (zo gC ze zk) zn) zt<|dX (AI<|zd (zo eP ze zk)<|zd ze zn) zt (zu (zD<|zo iZ (l8<|zd zk<|zd zk<|zd zk<|zd (zo eP zk<|zo ki zk<|bh Fs<|zd (zo mw ze<|zo eP ze zk) zn) zn) ze)
 (cI (zI<|zo rR (zF 2<|zd ze<|zd zk zn) ze) (wj<|vR<|bU<|zd ze<|zd ze<|zd (zF 3<|zd ze<|zd (bh dU<|zd ze zn)<|zd iq zn) zn) cS)))
 (zT<|bU<|zd ze<|zd ze<|zd (bh mF<|zd ze zn) zn))))),
 (aC (zH<|zB eQ zm<|zE<|af aa<|af (zB gD aa zm) zj)
 (aC (zH<|zE<|af aa<|af zm zj)
 (aC (zH<|l9 zj)
 (aC (dY (pV<|af (zB gD aa zm) zj) zr<|zK<|dY (Bh<|af (zB eQ aa zm)<|af aa zj) zr (aC (zH<|aW iW (l9<|af zm<|af zm<|af zm<|af (zB eQ zm<|zB ko zm<|gQ FY ê<|af (wc mq aa<|zB eQ aa zm) zj) zj) aa)
 (zK<|cH (zP rQ (zE<|af aa<|af zm zj) aa) (zK<|wk<|rm _ rfl â Ý Þ wJ aa<|af (bV<|af aa<|af aa<|af (zE<|af aa<|af (bw dZ Å<|af aa zj)<|af ir zj) zj) zj) cT)))
 (zK<|zR<|bV<|af aa<|af aa<|af (gQ mH Â<|af aa zj) zj)))))⟩
def N9:MS:=(zz (nv (zi 0)<|dG 3<|zJ (zv 1)<|zJ (zv 2)<|zJ (zv 3) eN)
  (zz (zQ 4<|aj ue (iU<|zf (cD<|zS wX<|zf (aZ (f1 cZ)<|zf (zi 1) zp)<|zf (bB<|zf (mC<|.int 1)<|zf (mC<|.int 1) zp) zp) zp)<|iA (kM<|zf (aj fL (zi 2)<|mC<|.int 1) zp) 1 [] (zv 0) ic<|cD kf)
  (zz (dq (cP kI<|zi 3) (dG 3<|zJ (zv 5)<|zJ (zv 6)<|zJ (zv 7) eN) (zz (zQ 8<|zS u4<|zf (aj fK (zi 4)<|zi 5)<|zf (zS u6<|zf (zi 7)<|zf (aZ (f1 cZ)<|zf (zi 1) zp) zp) zp)
  (pL 4 (cD<|zS u3<|zf (aj fK (zi 4)<|zi 6)<|zf (zi 8)<|zf (mC<|.int 1) zp)<|zi 6)))
  (ba<|aj fK (zi 4)<|bM l5<|mC<|.int 1))))
def BG:FD:=bX 9 [0] N9
abbrev N8(Z:Zs):Prop:=Z.C "_law_web_poly" 4 ["_law_web_here"] 1 BG
theorem zgM(B:Bs Z)(A:cB Z "_law_web_poly" NX)(c0:Gn Z)(c1:Gp Z)(c2:Gk Z)(c3:Gi Z):N8 Z :=
 have hB:=B.1; cG A ["_law_web_here", "_law_letters", "_law_dots", "_law_ways", "_law_found", "_law_begin", "_law_end", "_law_entry_here", "_law_part"] λnd hr=>⟨_,(zu (vS ze<|fC<|zA zt<|zA zt<|zA zt fD)
 (zu (zD<|zo J1 (l8<|zd (dD<|zF 2<|zd (bh dU<|zd ze zn)<|zd (bU<|zd zk<|zd zk zn) zn) zn)<|kG (pP<|zd (zo gC ze zk) zn) zt j9<|dD nW)
 (zu (dX (r8 ze) (fC<|zA zt<|zA zt<|zA zt fD) (zu (zD<|zF 2<|zd (zo iZ ze ze)<|zd (zF 2<|zd ze<|zd (bh dU<|zd ze zn) zn) zn)
 (AG (dD<|zF 3<|zd (zo iZ ze ze)<|zd ze<|zd zk zn) ze)))
 (zT<|zo iZ ze<|eM r9 zk)))),
 (aC (nI aa<|fE<|bE zr<|bE zr<|bE zr fF)
 (aC (zH<|zB Ka (l9<|af (dE<|zE<|af (bw dZ Å<|af aa zj)<|af (bV<|af zm<|af zm zj) zj) zj)<|m9 (pV<|af (zB gD aa zm) zj) zr kj<|dE nX)
 (aC (dY (si aa) (fE<|bE zr<|bE zr<|bE zr fF) (aC (zH<|zE<|af (aW iW aa aa)<|af (zE<|af aa<|af (bw dZ Å<|af aa zj) zj) zj)
 (zK<|nI (dE<|zE<|af (aW iW aa aa)<|af aa<|af zm zj)<|Aw aa aa Bk)))
 (zK<|zR<|aW iW aa<|rn so zm))))⟩
def N7:MS:=(zz (bW (i8 (ik<|mB<|bM (iS "tuple")<|zi 0)<|i8 (mB<|aj (cR true) (aZ (f1 cZ)<|zf (zi 0) zp)<|mC<|.int 2)<|i8 (mB<|aj (jZ true) (aj bg (zi 0)<|mC<|.int 0)<|zi 1)<|ik<|mB<|bM (iS "tuple")<|aj bg (zi 0)<|mC<|.int 1) (ba<|mC<|.bool false) bZ)
  (zz (bW (mB<|aj (cR true) (aZ (f1 cZ)<|zf (aj bg (zi 0)<|mC<|.int 1) zp)<|zi 2) (ba<|mC<|.bool false) bZ)
  (zz (dq (cP kI<|aj bg (zi 0)<|mC<|.int 1) (zv 3) (zz (bW (i8 (ik<|mB<|bM (iS "tuple")<|zi 3)<|mB<|aj (cR true) (aZ (f1 cZ)<|zf (zi 3) zp)<|zi 2) (ba<|mC<|.bool false) bZ)
  (bW (ik<|mB<|aZ (f1 CQ)<|zf (iA (cP kI<|zi 3) 1 [1] (zv 0) ic<|zS BH<|zf (zi 0)<|zf (aZ (f1 cZ)<|zf (zi 1) zp)<|zf (mC<|.bool true) zp) zp) (ba<|mC<|.bool false) bZ)))
  (ba<|mC<|.bool true))))
def BF:FD:=bX 4 [0,1,2] N7
abbrev N6(Z:Zs):Prop:=Z.C "_law_is_table" 4 ["_law_table", "_law_letters", "_law_many"] 3 BF
theorem zgN(B:Bs Z)(A:cB Z "_law_is_table" NV)(c0:Oa Z):N6 Z :=
 have hB:=B.1; cG A ["_law_table", "_law_letters", "_law_many", "_law_row"] λnd hr=>⟨_,(zu (cI (kN (kX<|ip<|nC (T := "tuple") ze)<|kN (zI<|zo nQ (bh dU<|zd ze zn) zk)<|kN (zI<|zo (AD true) (zo zN ze zk) ze)<|kX<|ip<|nC (T := "tuple")<|zo zN ze zk) (zT iq) cS)
 (zu (cI (zI<|zo nQ (bh dU<|zd (zo zN ze zk) zn) ze) (zT iq) cS)
 (zu (dX (r8<|zo zN ze zk) zt (zu (cI (kN (kX<|ip<|nC (T := "tuple") ze)<|zI<|zo nQ (bh dU<|zd ze zn) ze) (zT iq) cS)
 (cI (kX<|ip<|bh Rf<|zd (kG (r8 ze) zt j9<|zF 3<|zd ze<|zd (bh dU<|zd ze zn)<|zd iq zn) zn) (zT iq) cS)))
 (zT iq)))),
 (aC (cH (j0<|kP (kR<|km<|bw nJ Ê<|af aa<|af (nU (v:=.ty "tuple") Â rfl) zj)<|kP (zP nL (bw dZ Å<|af aa zj) zm)<|kP (zP (AE _ rfl hr) (aW zZ aa zm) aa)<|pM<|kR<|km<|bw nJ Ê<|af (aW zZ aa zm)<|af (nU (v:=.ty "tuple") Â rfl) zj) (zK<|zR ir) cT)
 (aC (cH (zP nL (bw dZ Å<|af (aW zZ aa zm) zj) aa) (zK<|zR ir) cT)
 (aC (dY (si<|aW zZ aa zm) zr (aC (cH (j0<|kP (kR<|km<|bw nJ Ê<|af aa<|af (nU (v:=.ty "tuple") Â rfl) zj)<|pM<|zP nL (bw dZ Å<|af aa zj) aa) (zK<|zR ir) cT)
 (zK<|cH (kR<|km<|bw (zAy _ rfl rfl) PyProof.Rows.boot_all<|af (m9 (si aa) zr kj<|zE<|af aa<|af (bw dZ Å<|af aa zj)<|af ir zj) zj) (zK<|zR ir) cT)))
 (zK<|zR ir))))⟩
def Om:MS:=(zz (nv (zi 0)<|dG 2<|zJ (zv 1)<|zJ (zv 2) eN)
  (zz (zQ 3<|Ez (mC<|.int 0)<|cD<|zS wX<|zf (aZ (f1 cZ)<|zf (zi 1) zp)<|zf (bB<|zf (mC<|.int 1)<|zf (mC<|.int 1) zp) zp)
  (zz (dq (rM<|zf (mC<|.int 1)<|zf (aj t9 (mC<|.int 1)<|aZ (f1 cZ)<|zf (zi 2) zp) zp) (zv 4) (zz (zQ 5<|iA (kM<|zf (aZ (f1 cZ)<|zf (zi 2) zp) zp) 1 [4] (zv 0) (mB<|aj (cR false) (aj gU (aj CN (zi 1)<|zi 0)<|mC<|.int 2)<|mC<|.int 1)<|zi 0)
  (zz (zQ 6 kf)
  (zz (dq (El<|zf (cD<|zi 5) zp) (dG 2<|zJ (zv 7)<|zJ (zv 8) eN) (zz (zQ 9<|aj fL (mC<|.int 1)<|aj gW (mC<|.int 2)<|aj gU (aj fL (aj fL (aZ (f1 cZ)<|zf (zi 5) zp)<|mC<|.int 1)<|zi 7)<|mC<|.int 2)
  (zz (zQ 10<|zS u6<|zf (aj bg (aj bg (zi 2)<|aj fL (aZ (f1 cZ)<|zf (zi 5) zp)<|mC<|.int 1)<|zi 8)<|zf (aZ (f1 cZ)<|zf (zi 1) zp) zp)
  (zQ 6<|zS u3<|zf (zi 6)<|zf (zS u4<|zf (gY (zi 3)<|aj fL (zi 4)<|aj t9 (mC<|.int 1)<|zi 8)<|zf (zi 10) zp)<|zf (zi 9) zp))))
  (iX 3 (zi 4)<|cD<|zi 6)))))
  (ba<|gY (zi 3)<|aj fL (aj t9 (mC<|.int 1)<|aZ (f1 cZ)<|zf (zi 2) zp)<|mC<|.int 1))))
def BN:FD:=bX 11 [0] Om
abbrev Ol(Z:Zs):Prop:=Z.C "_law_signed_sum" 4 ["_law_table"] 1 BN
theorem zfw(B:Bs Z)(A:cB Z "_law_signed_sum" Ov)(c0:Gn Z)(c1:Gp Z)(c2:Gk Z)(c3:Gi Z):Ol Z :=
 have hB:=B.1; cG A ["_law_table", "_law_letters", "_law_rows", "_law_known", "_law_chosen", "_law_columns", "_law_found", "_law_place", "_law_column", "_law_sign", "_law_entry_here"] λnd hr=>⟨_,(zu (vS ze<|fC<|zA zt<|zA zt fD)
 (zu (zD<|Vg zk<|dD<|zF 2<|zd (bh dU<|zd ze zn)<|zd (bU<|zd zk<|zd zk zn) zn)
 (zu (dX (AI<|zd zk<|zd (zo EA zk<|bh dU<|zd ze zn) zn) zt (zu (zD<|kG (pP<|zd (bh dU<|zd ze zn) zn) zt (zI<|zo mw (zo jB (zo Q7 ze ze) zk) zk) ze)
 (zu (zD nW)
 (zu (dX (Xc<|zd (dD ze) zn) (fC<|zA zt<|zA zt fD) (zu (zD<|zo gC zk<|zo ki zk<|zo jB (zo gC (zo gC (bh dU<|zd ze zn) zk) ze) zk)
 (zu (zD<|zF 2<|zd (zo zN (zo zN ze<|zo gC (bh dU<|zd ze zn) zk) ze)<|zd (bh dU<|zd ze zn) zn)
 (zD<|zF 3<|zd ze<|zd (zF 2<|zd (kW ze<|zo gC ze<|zo EA zk ze)<|zd ze zn)<|zd ze zn))))
 (nR ze<|dD ze)))))
 (zT<|kW ze<|zo gC (zo EA zk<|bh dU<|zd ze zn) zk)))),
 (aC (nI aa<|fE<|bE zr<|bE zr fF)
 (aC (zH<|UK zm<|dE<|zE<|af (bw dZ Å<|af aa zj)<|af (bV<|af zm<|af zm zj) zj)
 (aC (dY (Bh<|af zm<|af (zB EG zm<|bw dZ Å<|af aa zj) zj) zr (aC (IY (pV<|af (bw dZ Å<|af aa zj) zj) zr (EJ<|zP mq (zB jC (zB R4 aa aa) zm) zm) aa)
 (aC (zH nX)
 (aC (dY (Xd<|af (dE aa) zj) (fE<|bE zr<|bE zr fF) (aC (zH<|zB gD zm<|zB ko zm<|zB jC (zB gD (zB gD (bw dZ Å<|af aa zj) zm) aa) zm)
 (aC (zH<|zE<|af (aW zZ (aW zZ aa<|zB gD (bw dZ Å<|af aa zj) zm) aa)<|af (bw dZ Å<|af aa zj) zj)
 (zK<|zH<|zE<|af aa<|af (zE<|af (kQ hr aa<|zB gD aa<|zB EG zm aa)<|af aa zj)<|af aa zj))))
 (zK<|nS hr aa aa<|dE aa)))))
 (zK<|zR<|kQ hr aa<|zB gD (zB EG zm<|bw dZ Å<|af aa zj) zm))))⟩
def Gc:MS:=(ba<|xx (mB<|aj (ui false) (zi 1)<|mC .none) (zi 0)<|zS BQ<|zf (zi 0)<|zf (zS BO<|zf (zi 1)<|zf (zi 2) zp) zp)
def wM:FD:=bX 3 [0,1,2] Gc
abbrev Nl(Z:Zs):Prop:=Z.C "by_letter" 5 ["form", "letter", "many_letters"] 3 wM
theorem zl8(B:Bs Z)(A:cB Z "by_letter" Nu)(c0:Ot Z)(c1:N2 Z):Nl Z :=
 have hB:=B.1; cG A ["form", "letter", "many_letters"] λnd hr=>⟨_,(zT<|O0 (zI<|zo J8 ze vT) ze<|zF 2<|zd ze<|zd (zF 2<|zd ze<|zd ze zn) zn),
 (zK<|zR<|I0 (zP Ke aa wd) aa<|zE<|af aa<|af (zE<|af aa<|af aa zj) zj)⟩
def M7:MS:=(zz (nv (zi 0)<|dG 2<|zJ (zv 1)<|zJ (zv 2) eN)
  (zz (zQ 3<|aZ (f1 cZ)<|zf (zi 1) zp)
  (zz (zQ 4<|zS w6<|zf (mC<|.tuple [.int 0,.int 1])<|zf (zi 3) zp)
  (zz (zQ 5<|rT (bB zp)<|zS w6<|zf (mC<|.tuple [.int 1,.int 1])<|zf (zi 3) zp)
  (zz (dq (cP kI<|zi 2) (zv 6) (zz (zQ 7 kf)
  (zz (dq (cP kS<|cD<|zi 5) (dG 2<|zJ (zv 8)<|zJ (zv 9) eN)<|dq (yZ<|zf (zi 6) zp) (dG 2<|zJ (zv 10)<|zJ (dG 2<|zJ (zv 11)<|zJ (zv 12) eN) eN)<|bW (pf (mB<|aj (lL true) (zi 10)<|zi 8)<|mB<|bM (CP true [0,1])<|zi 11) (zz (zQ 13<|aj CM (aZ (f1 cZ)<|zf (iA (cP kI<|zi 8) 1 [10] (zv 0) (mB<|aj vA (zi 0)<|zi 1)<|zi 0) zp)<|mC<|.int 1)
  (zz (zQ 14<|xx (vL<|zi 13) (bB<|zf (bM l5<|aj bg (zi 11)<|mC<|.int 0)<|zf (aj bg (zi 11)<|mC<|.int 1) zp)<|zi 11)
  (zz (zQ 15<|aZ (f1 iY)<|zf (aZ (f1 Ah)<|zf (aj rY (zi 8)<|bB<|zf (zi 10) zp) zp) zp)
  (iX 7 (zi 15)<|zS wN<|zf (kU (zi 7) (zi 15)<|zi 4)<|zf (zS wM<|zf (zi 9)<|zf (zi 12)<|zf (zi 3) zp)<|zf (zi 14) zp)))) bZ)
  (zQ 5<|cD<|zi 7))))
  (ba<|aZ (f1 iY)<|zf (zS BK<|zf (kU (zi 5) (Bn<|zf (aZ (f1 cZ)<|zf (zi 2) zp) zp)<|zi 4) zp) zp))))))
def BA:FD:=bX 16 [0] M7
abbrev M6(Z:Zs):Prop:=Z.C "signed_sum" 6 ["table"] 1 BA
theorem zkE(B:Bs Z)(A:cB Z "signed_sum" Nd)(c0:MD Z)(c1:Oo Z)(c2:Nz Z)(c3:Nl Z):M6 Z :=
 by obtain⟨hB,_,_,⟨bI,bP,bq⟩,⟨lT,lK,iJ⟩,_⟩:=B; exact cG A ["table", "letters", "rows", "many", "nought", "ahead", "row", "behind", "taken", "form", "column", "f", "letter", "is_odd", "signed", "both"] λnd hr=>⟨_,(zu (vS ze<|fC<|zA zt<|zA zt fD)
 (zu (zD<|bh dU<|zd ze zn)
 (zu (zD<|zF 2<|zd (Ek bq)<|zd ze zn)
 (zu (zD<|wD (bU zn)<|zF 2<|zd (Ek iJ)<|zd ze zn)
 (zu (dX (r8 ze) zt (zu (zD nW)
 (zu (dX (pU<|dD ze) (fC<|zA zt<|zA zt fD)<|dX (V3<|zd ze zn) (fC<|zA zt<|zA (fC<|zA zt<|zA zt fD) fD)<|cI (AA (zI<|zo (yX true) ze ze)<|zI<|zBl (neg:=true) bq ze) (zu (zD<|zo Q6 (bh dU<|zd (kG (r8 ze) zt (zI<|zo Af ze ze) ze) zn) zk)
 (zu (zD<|O0 (JZ ze) (bU<|zd (eM r9<|zo zN ze zk)<|zd (zo zN ze zk) zn) ze)
 (zu (zD<|bh mF<|zd (bh Xt<|zd (zo Fx ze<|bU<|zd ze zn) zn) zn)
 (nR ze<|zF 3<|zd (su ze ze ze)<|zd (zF 3<|zd ze<|zd ze<|zd ze zn)<|zd ze zn)))) cS)
 (zD<|dD ze))))
 (zT<|bh mF<|zd (zF 1<|zd (su ze (Yo<|zd (bh dU<|zd ze zn) zn) ze) zn) zn)))))),
 (aC (nI aa<|fE<|bE zr<|bE zr fF)
 (aC (zH<|bw dZ Å<|af aa zj)
 (aC (zH<|zE<|af (sf (v:=.ref bI) rfl bP rfl)<|af aa zj)
 (aC (zH<|wF hr (bV zj)<|zE<|af (sf (v:=.ref lT) rfl lK rfl)<|af aa zj)
 (aC (dY (si aa) zr (aC (zH nX)
 (aC (dY (pR<|dE aa) (fE<|bE zr<|bE zr fF)<|zK<|dY (Vx<|af aa zj) (fE<|bE zr<|bE (fE<|bE zr<|bE zr fF) fF)<|zK<|cH (j0<|Ax (zP Lk aa aa rfl)<|AR<|zP (AE _ rfl hr) aa<|sf (v:=.ref bI) rfl bP rfl) (aC (zH<|zB R3 (bw dZ Å<|af (m9 (si aa) zr (EJ<|zP Ad aa aa) aa) zj) zm)
 (aC (zH<|I0 (IZ aa) (bV<|af (rn so<|aW zZ aa zm)<|af (aW zZ aa zm) zj) aa)
 (aC (zH<|gQ mH Â<|af (bw Z1 PyProof.Rows.boot_sorted<|af (zB Fy aa<|bV<|af aa zj) zj) zj)
 (zK<|nS hr aa aa<|zE<|af (sv hr aa aa aa ⟨rfl,rfl,rfl,rfl⟩)<|af (zE<|af aa<|af aa<|af aa zj)<|af aa zj)))) cT)
 (zK<|zH<|dE aa))))
 (zK<|zR<|gQ mH Â<|af (zE<|af (sv hr aa (gQ (Yp rfl) Â<|af (gQ Zq PyProof.Rows.boot_range<|af (bw dZ Å<|af aa zj) zj) zj) aa ⟨rfl,rfl,rfl,rfl⟩) zj) zj))))))⟩
def IP:MS:=(zz (zQ 1<|iU zp)
  (zz (dq (kM<|zf (aZ rO<|zf (mC<|.int 2)<|zf (aZ y9<|zf (aZ (f1 cZ)<|zf (zi 0) zp)<|zf (mC<|.int 3) zp) zp) zp) (zv 2) (zz (zQ 3<|zS BD<|zf (zi 0)<|zf (zi 2) zp)
  (zz (zQ 4<|zS BI<|zf (zi 3)<|zf (aj dF (mC<|.int 1)<|zS zx<|zf (zi 3)<|zf (mC<|.int 3) zp) zp)
  (bW (mB<|aj (cR false) (zS zx<|zf (zi 3)<|zf (mC<|.int 4) zp)<|mC<|.int 0) (nG<|l0 1<|zS wV<|zf (zi 3)<|zf (tz yP (zi 4) sA<|rL<|mC<|.int 1)<|zf (mC<|.int 7) zp)<|nG<|l0 1<|zS wV<|zf (zi 3)<|zf (zi 4)<|zf (mC<|.int 5) zp))))
  (zz (dq (cP yS<|cD<|aj ue (zi 1)<|tz uc (zi 1) sA<|rL<|mC<|.int 1) (zv 5) (zz (zQ 6<|zS wO<|zf (zi 5) zp)
  (zz (bW (i8 (ik<|mB<|zS BF<|zf (zi 6)<|zf (aj bg (zi 5)<|mC<|.int 0)<|zf (aj fL (aj bg (zi 5)<|mC<|.int 1)<|mC<|.int 1) zp)<|mB<|aj (jZ true) (zS wO<|zf (zi 5) zp)<|zi 6) (ba<|mC<|.bool false) bZ)
  (zz (zQ 7<|zS BG<|zf (zi 5) zp)
  (bW (i8 (mB<|aj (Ab false) (zS BN<|zf (zi 6) zp)<|zi 7)<|mB<|aj (jZ true) (zS BA<|zf (zi 6) zp)<|zS BR<|zf (zi 7) zp) (ba<|mC<|.bool false) bZ)))))
  (ba<|mC<|.bool true))))
def uz:FD:=bX 8 [0] IP
theorem Rz{f:Qg}(B:Bs Z)(F:jW Z.K "law" "law" IQ f fd)(c0:M6 Z)(c1:ML Z)(c2:Np Z)(c3:uY Z)(c4:NF Z)(c5:N5 Z)(c6:Nm Z)(c7:N8 Z)(c8:N6 Z)(c9:Ol Z):cw Z.P Z.w Z.K Z.mg Z.base iR 7 f fd ["_law_script"] (p7 Z.K 1 uz):=
 have hB:=B.1; Pc F ["_law_script", "_law_webs", "_law_k", "_law_box_here", "_law_letters", "_law_web_here", "_law_heard", "_law_due"] λnd hr=>⟨_,(zu (zD<|l8 zn)
 (zu (dX (pP<|zd (bh AK<|zd zk<|zd (bh U0<|zd (bh dU<|zd ze zn)<|zd zk zn) zn) zn) zt (zu (zD<|zF 2<|zd ze<|zd ze zn)
 (zu (zD<|zF 2<|zd ze<|zd (zo eP zk<|zF 2<|zd ze<|zd zk zn) zn)
 (cI (zI<|zo mw (zF 2<|zd ze<|zd zk zn) zk) (wj<|vR<|zF 3<|zd ze<|zd (yQ Sf ze A8<|A7 zk)<|zd zk zn)<|wj<|vR<|zF 3<|zd ze<|zd ze<|zd zk zn))))
 (zu (dX (V4<|dD<|zo J1 ze<|yQ Fc ze A8<|A7 zk) zt (zu (zD<|zF 1<|zd ze zn)
 (zu (cI (kN (kX<|ip<|zF 3<|zd ze<|zd (zo zN ze zk)<|zd (zo gC (zo zN ze zk) zk) zn)<|zI<|zo (AD true) (zF 1<|zd ze zn) ze) (zT iq) cS)
 (zu (zD<|zF 1<|zd ze zn)
 (cI (kN (zI<|zo UL (zF 1<|zd ze zn) ze)<|zI<|zo (AD true) (zF 1<|zd ze zn)<|zF 1<|zd ze zn) (zT iq) cS)))))
 (zT iq)))),
 (aC (zH<|l9 zj)
 (aC (dY (pV<|af (bw (Bw rfl) û<|af zm<|af (bw (Zi rfl) PyProof.Rows.boot_min<|af (bw dZ Å<|af aa zj)<|af zm zj) zj) zj) zr (aC (zH<|zE<|af aa<|af aa zj)
 (aC (zH<|zE<|af aa<|af (zB eQ zm<|zE<|af aa<|af zm zj) zj)
 (zK<|cH (zP mq (zE<|af aa<|af zm zj) zm) (zK<|wk<|rm _ rfl â Ý Þ wJ aa<|af (zE<|af aa<|af (AM zB8 aa AQ<|AN zm)<|af zm zj) zj)<|zK<|wk<|rm _ rfl â Ý Þ wJ aa<|af (zE<|af aa<|af aa<|af zm zj) zj))))
 (aC (dY (Vy<|dE<|zB Ka aa<|AM DY aa AQ<|AN zm) zr (aC (zH<|zE<|af aa zj)
 (aC (cH (j0<|kP (kR<|km<|zE<|af aa<|af (aW zZ aa zm)<|af (zB gD (aW zZ aa zm) zm) zj)<|pM<|zP (AE _ rfl hr) (zE<|af aa zj) aa) (zK<|zR ir) cT)
 (aC (zH<|zE<|af aa zj)
 (zK<|cH (j0<|kP (zP (UM (.inr ⟨rfl,rfl⟩) _ rfl hr) (zE<|af aa zj) aa)<|pM<|zP (AE _ rfl hr) (zE<|af aa zj)<|zE<|af aa zj) (zK<|zR ir) cT)))))
 (zK<|zR ir))))⟩
end
end K46
set_option exponentiation.threshold 10000
open PySem L2
open Lean in
local macro_rules|`(tactic|simp![$ls,*])=>do
 let u<-("↓Wl ↓zBC ↓ZX ↓SQ ↓Wj ↓ZW ↓zl4 ↓zjB ↓Wi ↓SO ↓Wh ↓Wg ↓ZV ↓Wf ↓ZU ↓zBD ↓SM ↓We ↓Wd ↓Wc ↓ZT ↓YY ↓SR ↓SN ~SS ~YX ~SK ~Wa ~zl5 zBw zBx zBy zBz zBA zBB ↓SW ↓SV e9 ↓zq ↓jw K3 Ip ↓TC ↓XO K2 ↓XM ↓XJ ↓XH ↓XG ↓Zv L5 ↓Yf ↓Ye ↓Ul ↓Yd ↓Zu ↓Zt ↓Yc ↓Yb ↓Ya ↓zlx ↓Zr ↓ZS ↓zly ↓Uk ↓Uj ↓ZR ↓ZQ ↓ZO ↓X9 ↓X8 ↓Ug ↓zjx ↓ZN ↓X7 ↓W8 ↓zlz ↓ZM ↓zlA ↓ZL ↓Ue ↓zlB ↓W6 ↓zlL ↓WV ↓zlT ↓zlU ↓Xs ↓wy ↓Xp ↓ZG ↓ZY bd Ub X6 ZF zls M5 zju zin zAO zAP X5 ~ZE ~ZD Ua T9 T8 T7 ZC zAS zAT T6 T5 T4 zAV zAW zAX X2 X0 ZA XZ T3 T2 zA3 zA4 zA5 zA6 T1 TZ XW XU zA7 TY TX TV Zz TU TR TQ TN TM TL ~Zy zlu zjv TJ TH XS Zx zA8 zA9 zBa zBb zBc zBd zBe zBf zBg XR XQ J7 Ui Uh ZP Ud ~zlC ~JL ~Uc vO W5 W4 L4 S2 S1 S0 ZK WU WT ZJ K1 nY ZI ZH Xj Xi zlO Xh zjz SY SX L3 Ga EZ Xg L1 Xb ~Xr ~Xq Wt Ws Wq Wp Z0 zl1 ZZ L0 MR Ma !List.getElem?_cons_zero !List.getElem?_cons_succ !List.set_cons_zero !List.set_cons_succ !List.cons_append !List.nil_append !List.length_cons !List.length_nil !List.replicate !Option.map_some !decide_eq_true_eq !List.mem_cons !List.not_mem_nil !true_or !or_true !or_false !false_or !if_true !if_false !ite_true !ite_false !true_and !and_true !and_false !false_and !Bool.not_true !Bool.not_false !Bool.false_eq_true !not_true !not_false_iff !Nat.zero_add !Nat.reduceAdd !Nat.reduceLeDiff !Nat.reduceEqDiff !Nat.reduceSub !Nat.reduceLT !List.map_cons !List.map_nil !List.getD_cons_zero !List.getD_cons_succ !List.drop_succ_cons !List.drop_zero !decide_true !decide_false !Bool.true_and !Bool.and_true !Bool.true_or !Bool.or_true !Bool.false_or !Bool.or_false !Bool.false_and !Bool.and_false !reduceCtorEq !List.length_map !List.length_append TF Zw !String.reduceEq ↓!reduceIte !Int.reduceEq !Int.reduceNe !Int.reduceLT !Int.reduceLE !Int.reduceAdd !Int.reduceSub !Int.reduceNeg !Int.reduceToNat !Int.cast_ofNat_Int !implies_true !forall_const !Option.map_none".splitOn " ").toArray.mapM λx=>do
  let n:=(((x.replace "↓" "").replace "~" "").replace "!" "").toName
  let y:=mkIdent (if x.contains '!' then n else `L2++n)
  if x.startsWith "↓" then `(Parser.Tactic.simpLemma|↓$y:term) else if x.startsWith "~" then `(Parser.Tactic.simpLemma|nr $y) else `(Parser.Tactic.simpLemma|$y:term)
 `(tactic|simp (disch:=first|with_unfolding_all exact SU rfl|omega | (simp only[List.length_cons,List.length_nil,List.length_map,List.length_append,List.length_take,List.length_drop,Nat.zero_add,Nat.reduceAdd]<;>omega) | fail) only[$ls,*,$u,*])
local macro_rules | `(tactic| simp!)=>`(tactic| simp![Option.map_none])
namespace K46
open PySem L2
abbrev bx(x y:Int):U:=.l [.int x,.int y]
theorem fB{x w:Int}{Q:U×Qa U->Prop}(hw:0 < w)(Ho:w<=18446744073709551616)(k:∀ r x' y',0<=r->r < w->Q (.d<|.int r,[bx x' y',.d<|.int w])):Wo (zx [bx x y,.d<|.int w]) Q:=by
 simp![zx,M9];refine nN (λhx=>?_) λhx=>?_
 .simp![hx]
  exact k _ _ _ (ß _ (by omega))<|è _ hw
 .simp![hx]
  exact k _ _ _ (ß _ (by omega))<|è _ hw
theorem Jp{k:Int}(h0:0<=k)(h:k < (ns.length:Int)):∃ v:Int,bY (ns.map PyData.int) k=some (.int v):=by
 have hk:k.toNat < ns.length:=by omega
 refine⟨ns[k.toNat],?_⟩;unfold bY eB;rw[if_pos h0,if_pos (by rw[List.length_map]; exact h),bd,List.getElem?_map,ql hk];rfl
theorem zBF{k:Int}{Q:U×Qa U->Prop}(h0:0<=k)(q:∀ x y,Q (bx x y,[.d<|.list<|ns.map .int,.d<|.int k])):Wo (BD [.d<|.list<|ns.map .int,.d<|.int k]) Q:=by
 simp![BD,Nq,List.length_map];refine nN (λh1=>?_) λh1=>?_
 .have(v,hv):=Jp h0 h1
  simp![hv];exact q _ _
 .simp![List.length_map]
  refine nN (λh2=>?_) λh2=>?_
  .have hm:=è k h2
   have hm0:=ß k (show(ns.length:Int)≠0 by omega);have(v,hv):=Jp hm0 hm;simp![hv];exact q _ _
  .simp!
   exact q _ _
theorem Gm{x:Int}(hx:0<=x)(hy:0<=y):pW [.d<|.int x,.d<|.int y]=some (.d<|.int (Int.gcd x y:Nat),[.d<|.int x,.d<|.int y]):=by
 refine zU ?_;simp![pW,Od];refine LX (λk ρ=>∃ a b:Int,ρ=[some<|.d<|.int a,some<|.d<|.int b]/\0<=a/\0<=b/\b.toNat=k/\Int.gcd a b=Int.gcd x y) _ ⟨x,y,rfl,hx,hy,rfl,rfl⟩ ?_;rintro k _ ⟨a,b,rfl,ha,hb,hk,hg⟩;simp!
 by_cases hz:b=0
 .subst hz
  have e:a=((Int.gcd x y:Nat):Int):=by rw[<-hg,Int.gcd_zero_right]; omega
  subst e;simp![bne_self_eq_false]
 .have jQ:(b != 0)=true:=by simp[hz]
  simp![jQ];refine⟨(a % b).toNat,?_,_,_,rfl,by omega,ß _ hz,rfl,?_⟩
  .have:=è a (show 0 < b by omega)
   have:=ß a hz;omega
  .rw[Mc a b ha (by omega)]
   exact hg
theorem Ey{a b:Nat}(h:a<=b)(hb:b.log2 < 9000):a.log2 < 9000:=by
 by_cases z:a=0
 .rw[z]; decide
 .exact Ä ((Nat.le_log2 (by omega)).mpr<|qx (Nat.log2_self_le z) h) hb
theorem wY{n d:Int}(hd:d≠0)(hb:d.natAbs.log2 < 9000):pX [.d<|.int n,.d<|.int d]=some (.d<|fR<|Rat.divInt n d,[.d<|.int n,.d<|.int d]):=by
 have gl:Int.gcd n d<=d.natAbs:=Int.gcd_le_natAbs_right n hd;have gp:0 < Int.gcd n d:=ø n hd;have x9:=Ey gl hb;refine zU ?_;rw[<-JH hd];unfold lY kE;rw[<-LR n d (show(0:Int) < (Int.gcd n d:Nat) by omega),<-LR d d (show(0:Int) < (Int.gcd n d:Nat) by omega)];simp![pX,NU];refine LX (λk ρ=>∃ a b:Int,ρ=[some<|.d<|.int n,some<|.d<|.int d,some<|.d<|.int a,some<|.d<|.int b]/\0<=a/\0<=b/\b.toNat=k/\Int.gcd a b=Int.gcd n d) _ ⟨_,_,rfl,by split<;>omega,by split<;>omega,rfl,WR n d⟩ ?_;rintro k _ ⟨a,b,rfl,ha,hb0,hk,hg⟩;simp!
 by_cases hz:b=0
 .subst hz
  have e:a=((Int.gcd n d:Nat):Int):=by rw[<-hg,Int.gcd_zero_right]; omega
  subst e;have c1:rP n ((Int.gcd n d:Nat):Int):=⟨by omega,by rw[Int.natAbs_natCast]; exact x9⟩;have c2:rP n (0 - ((Int.gcd n d:Nat):Int)):=⟨by omega,by rw[Int.zero_sub,Int.natAbs_neg,Int.natAbs_natCast]; exact x9⟩;simp!;refine nN (λh=>?_) λh=>?_
  .simp![h,uL (a:=n) c2,uL (a:=d) c2]
  .simp![h,uL (a:=n) c1,uL (a:=d) c1]
 .simp![hz]
  refine⟨(a % b).toNat,?_,_,_,rfl,by omega,ß _ hz,rfl,?_⟩
  .have:=è a (show 0 < b by omega)
   have:=ß a hz;omega
  .rw[Mc a b ha (by omega)]
   exact hg
theorem zeF{n d:Int}(hd:d≠0)(hb:d.natAbs.log2 < 9000):Bx [.d<|.int n,.d<|.int d]=some (.d<|fR<|Rat.divInt n d,[.d<|.int n,.d<|.int d]):=by
 have gl:Int.gcd n d<=d.natAbs:=Int.gcd_le_natAbs_right n hd;have gp:0 < Int.gcd n d:=ø n hd;have c1:∀ z:Int,ur z ((Int.gcd n d:Nat):Int):=λz=>⟨by omega,by rw[Int.natAbs_natCast]; exact Ey gl hb⟩;refine zU ?_;rw[<-JH hd];unfold lY kE;simp![Bx,MK]
 by_cases h:d < 0
 .have cf:pW [.d<|.int (if -n < 0 then - -n else -n),.d<|.int (-d)]=some (.d<|.int (Int.gcd n d:Nat),[.d<|.int (if -n < 0 then - -n else -n),.d<|.int (-d)]):=by
   rw[Gm (by split<;>omega) (by omega),Fh,Int.neg_gcd,Int.gcd_neg]
  simp![h,cf,ET<|c1 _]
 .have cf:pW [.d<|.int (if n < 0 then -n else n),.d<|.int d]=some (.d<|.int (Int.gcd n d:Nat),[.d<|.int (if n < 0 then -n else n),.d<|.int d]):=by
   rw[Gm (by split<;>omega) (by omega),Fh]
  simp![h,cf,ET<|c1 _]
structure Sz (r:Rat):Prop where
 n:r.num.natAbs < 2^4000
 d:r.den < 2^4000
theorem Sz.di{r:Rat}(h:Sz r):(r.den:Int).natAbs < 2^4000:=by rw[Int.natAbs_natCast]; exact h.d
theorem lgd(h:n < 2^4000):n.log2 < 4000:=sH (by decide) h
theorem mP(h:n < 2^4000):n.log2 < 1000000:=æ (lgd h) (by decide)
theorem Jo{a b:Nat}(h:a < 2^4000)(h':b < 2^4000):(a * b).log2 < 9000:=by
 refine æ (sH (k:=4000+4000) (by decide) ?_) (by decide);rw[Nat.pow_add];exact Nat.mul_lt_mul'' h h'
section
variable{a b:Rat}
theorem MV(ha:Sz a)(hb:Sz b):wR [.d<|fR a,.d<|fR b]=some (.d<|fR<|a+b,[.d<|fR a,.d<|fR b]):=by
 refine zU ?_;have da:=jY a;have db:=jY b;have HX:((a.den:Int) * (b.den:Int))≠0:=Int.mul_ne_zero (by omega) (by omega);have lf:=wY (n:=a.num * (b.den:Int)+b.num * (a.den:Int)) HX (by rw[Int.natAbs_mul,Int.natAbs_natCast,Int.natAbs_natCast]; exact Jo ha.d hb.d);rw[UY]at lf;simp![wR,M8,jz (mP ha.n)<|mP hb.di,jz (mP hb.n)<|mP ha.di,jz (mP ha.di)<|mP hb.di,lf]
theorem zkF(ha:Sz a)(hb:Sz b):BM [.d<|fR a,.d<|fR b]=some (.d<|fR<|a * b,[.d<|fR a,.d<|fR b]):=by
 refine zU ?_;have da:=jY a;have db:=jY b;have HX:((a.den:Int) * (b.den:Int))≠0:=Int.mul_ne_zero (by omega) (by omega);have lf:=wY (n:=a.num * b.num) HX (by rw[Int.natAbs_mul,Int.natAbs_natCast,Int.natAbs_natCast]; exact Jo ha.d hb.d);rw[UX]at lf;simp![BM,ND,jz (mP ha.n)<|mP hb.n,jz (mP ha.di)<|mP hb.di,lf]
end
end K46
open PySem L2
namespace K46
open PySem L2
abbrev vE:Str := "abcdefghijklmnopqrstuvwxyz"
theorem AY:∀ c∈vE.cps.toList,c < 128:=by decide
theorem AX:vE.length=26:=by decide
theorem Vf{z:Str}{n:Int}(h0:0<=n)(h1:n<=1):vP (.d<|.str z) (.d<|.int n)=some (.d<|.str<|uf z n):=by
 unfold vP;dsimp only;rw[if_pos ⟨h0,h1⟩]
theorem Ve{k:Nat}{z:Str}{n:Int}(hz:br k z)(h0:0<=n)(h1:n<=1):br k (uf z n):=by
 rcases(by omega:n=0\/n=1)with rfl|rfl
 .exact⟨É _,λc hc=>by cases hc⟩
 .exact hz
theorem ON{zs:Qa Str}{lo hi:Qb Int}:∃ ws:Qa Str,ie (zs.map PyData.str) lo hi=ws.map PyData.str/\ws.length<=zs.length/\∀ z∈ws,z∈zs:=by
 refine⟨(zs.drop<|HT.aN zs.length 0 lo).take<|HT.aN zs.length zs.length hi - HT.aN zs.length 0 lo,?_,?_,λz hz=>List.mem_of_mem_drop<|List.mem_of_mem_take hz⟩
 .unfold ie
  rw[List.length_map,<-List.map_drop,<-List.map_take]
 .rw[List.length_take,List.length_drop]
  omega
theorem IM{neg:Bool}{zs:Qa Str}{Q:U->Prop}(k:∀ b,Q<|.d<|.bool b):Wo (lL neg (.d<|.str x)<|.l<|zs.map PyData.str) Q:=by
 unfold lL;show Wo ((rC (.str x)<|zs.map PyData.str).bind _) Q;unfold rC;rw[Fw];exact⟨_,rfl,k _⟩
theorem zBH{neg:Bool}{zs:Qa Str}{Q:U->Prop}(k:∀ b,Q<|.d<|.bool b):Wo (lL neg (.d<|.str x)<|.d<|.tuple<|zs.map PyData.str) Q:=by
 unfold lL;show Wo ((rC (.str x)<|zs.map PyData.str).bind _) Q;unfold rC;rw[Fw];exact⟨_,rfl,k _⟩
theorem Vd{x m:Int}{Q:U×Qa U->Prop}(h1:1<=m)(h3:m<=3)(k:∀ (ns:Qa Str) x' y',ns.length=m.toNat->(∀ z∈ns,br 10 z)->Q (.d<|.tuple<|ns.map .str,[bx x' y',.d<|.int m])):Wo (BI [bx x y,.d<|.int m]) Q:=by
 simp![BI,NG];refine fB (by decide) (by decide) λr1 x1 y1 a1 b1=>?_;simp!;refine U6 (λi ρ ys=>∃ (x y:Int) (zs:Qa Str),ρ=[none,some<|bx x y,some<|.d<|.str vE]/\ys=zs.map PyData.str/\zs.length=i/\∀ z∈zs,br 1 z) ?_ ⟨_,_,[],rfl,rfl,rfl,λz hz=>by cases hz⟩ ?_ ?_ ?_
 .rw[zl]; omega
 .rintro i ρ ys ⟨x,y,zs,rfl,rfl,hl,_⟩
  simp[hl]
 .rintro i _ _ hi ⟨x,y,zs,rfl,rfl,hl,hz⟩
  simp![JL];refine fB (by decide) (by decide) λr2 x2 y2 a2 b2=>?_;simp!;refine A5 a2 (by rw[AX]; omega) (by decide) λc hc=>?_;simp!;exact⟨x2,y2,zs++[⟨#[c]⟩],rfl,by rw[List.map_append]; rfl,by rw[qr,hl]; rfl,λz Hk=>by
   rcases Ì.mp Hk with h|h
   .exact hz z h
   .cases qp.mp h
    exact br.one<|AY c hc⟩
 rintro _ _ ⟨x2,y2,sg,rfl,rfl,hl,hs⟩;simp!;refine fB (by omega) (by omega) λr3 x3 y3 a3 b3=>?_;simp!;refine fB (by decide) (by decide) λr4 x4 y4 a4 b4=>?_;simp!;refine DO (λi ρ=>∃ (x y:Int) (v7 v8 v9:Qb U) (zs:Qa Str),ρ=[some<|bx x y,some<|.d<|.int m,some<|.d<|.str vE,some<|.l<|sg.map .str,some<|.d<|.int r3,some<|.d<|.int r4,some<|.l<|zs.map PyData.str,v7,v8,v9,none]/\zs.length=i/\∀ z∈zs,br 10 z) ⟨x4,y4,none,none,none,[],rfl,rfl,λz hz=>by cases hz⟩ ?_ ?_
 .rintro i _ hi ⟨x,y,v7,v8,v9,zs,rfl,xN,hz⟩
  simp!;refine A5 (ß _ (by decide)) (by rw[AX]; exact è _ (by decide)) (by decide) λc hc=>?_;simp!;have(w1,e1,l1,m1):=ON (zs:=sg) (lo:=none) (hi:=some r3);rw[e1];refine KZ (n:=1) (m:=4) (λz hz=>hs z<|m1 z hz) (by omega) (by decide) λj1=>?_;simp!;refine wg j1 (br.one<|AY c hc) (by decide) λj2=>?_;simp!;have(w2,e2,l2,m2):=ON (zs:=sg) (lo:=some (r3+1)) (hi:=none);rw[e2];refine KZ (n:=1) (m:=4) (λz hz=>hs z<|m2 z hz) (by omega) (by decide) λj3=>?_;simp!;refine wg j2 j3 (by decide) λj4=>?_;simp!;refine fB (by decide) (by decide) λr5 x5 y5 a5 b5=>?_;simp![Vf];refine wg j4 (Ve (show br 1 "q" by unfold br; decide) a5 (by omega)) (by decide) λj5=>?_;simp!;refine IM λb=>?_;generalize Txt.join "" w1++{cps:=#[c]}++Txt.join "" w2++uf "q" r5=nm at *;have fin:∀ (nm:Str),br 10 nm->∃ (x y:Int) (v7 v8 v9:Qb U) (ws:Qa Str),[some<|bx x5 y5,some<|.d<|.int m,some<|.d<|.str vE,some<|.l<|sg.map .str,some<|.d<|.int r3,some<|.d<|.int r4,some<|.l<|zs.map PyData.str++[.str nm],some<|.d<|.int<|0+(i:Nat),some<|.d<|.str ⟨#[c]⟩,some<|.d<|.str nm,none]=[some<|bx x y,some<|U.d<|.int m,some<|.d<|.str vE,some<|.l<|sg.map .str,some<|.d<|.int r3,some<|.d<|.int r4,some<|.l<|ws.map PyData.str,v7,v8,v9,none]/\ws.length=i+1/\∀ z∈ws,br 10 z:=λnm hn=>
   ⟨x5,y5,_,_,_,zs++[nm],by rw[List.map_append]; rfl,by rw[qr,xN]; rfl,λz Hk=>by
    rcases Ì.mp Hk with h|h
    .exact hz z h
    .cases qp.mp h
     exact hn⟩
  cases b with
  | true=>
   simp!;refine A5 (by omega) (by rw[AX]; omega) (by decide) λd hd=>?_;simp!;refine wg (show br 2 "zz" by unfold br; decide) (br.one<|AY d hd) (by decide) λj6=>?_;simp!;exact fin _<|j6.mono (by decide)
  | false=>
   simp!;refine zBH (zs:=["part", "end", "give", "rounds", "letters"]) λb=>?_;cases b with
   | true=>
    simp!;refine A5 (by omega) (by rw[AX]; omega) (by decide) λd hd=>?_;simp!;refine wg (show br 2 "zz" by unfold br; decide) (br.one<|AY d hd) (by decide) λj6=>?_;simp!;exact fin _<|j6.mono (by decide)
   | false=>
    simp!;exact fin _ j5
 .rintro _ ⟨x,y,v7,v8,v9,zs,rfl,xN,hz⟩
  simp!;refine fB (by decide) (by decide) λr5 x5 y5 a5 b5=>?_;simp!;refine nN (λh5=>?_) λh5=>?_
  .simp!
   refine fB (by decide) (by decide) λr6 x6 y6 a6 b6=>?_;simp!;refine Q9 (f:=PyData.str) (xs:=["ends", "pa", "gives", "giv", "x", "y", "r", "rk"]) a6 b6 λz mz _=>?_;have az:br 10 z:=by
    have:∀ z∈(["ends", "pa", "gives", "giv", "x", "y", "r", "rk"]:Qa Str),br 10 z:=by unfold br; decide
    exact this z mz
   simp!;refine IM λb=>?_;cases b with
   | false=>
    simp!;exact k zs _ _ xN hz
   | true=>
    simp!;refine fB (by omega) (by omega) λr7 x7 y7 a7 b7=>?_;have e7:eB zs.length r7=some r7.toNat:=by
     unfold eB;rw[if_pos a7,if_pos (by omega)]
    simp![e7];have es:(zs.map PyData.str).set r7.toNat (.str z)=(zs.set r7.toNat z).map PyData.str:=by rw[List.map_set]
    rw[es];refine k _ _ _ (by rw[List.length_set]; exact xN) λw hw=>?_;rcases List.mem_or_eq_of_mem_set hw with h|h
    .exact hz w h
    .exact h▸az
  .simp!
   exact k zs _ _ xN hz
theorem CW{d:Int}(h:1<=d)(h2:d<=1000000):d.natAbs.log2 < 9000:=æ (sH (k:=30) (by decide) (by omega)) (by decide)
theorem kK{n d:Int}(hn:n.natAbs<=1000000)(h1:1<=d)(h4:d<=4):Bd 12 12000000 (Rat.divInt n d):=by
 have:d∣((12:Nat):Int):=by
  rcases(by omega:d=1\/d=2\/d=3\/d=4)with rfl|rfl|rfl|rfl<;>decide
 exact(RD (M:=12) (by omega) this (by decide)).le (by omega)
theorem V7{x:Int}{Q:U×Qa U->Prop}(k:∀ r x' y',Bd 12 12000000 r->Q (.d<|fR r,[bx x' y'])):Wo (wZ [bx x y]) Q:=by
 simp![wZ,NT];refine fB (by decide) (by decide) λr x1 y1 h0 h1=>?_;simp!;refine nN (λh7=>?_) λh7=>?_
 .simp!
  refine Eu h0 (by show r < 7; omega) λa ha=>?_;have hq:∃ q:Rat,a=fR q/\Bd 12 12000000 q:=by
   simp only[qu,List.not_mem_nil,or_false]at ha;rcases ha with rfl|rfl|rfl|rfl|rfl|rfl|rfl
   .exact⟨Rat.divInt 0 1,rfl,kK (by decide) (by decide) (by decide)⟩
   .exact⟨Rat.divInt 1 1,rfl,kK (by decide) (by decide) (by decide)⟩
   .exact⟨Rat.divInt 1 1,rfl,kK (by decide) (by decide) (by decide)⟩
   .exact⟨Rat.divInt (-1) 1,rfl,kK (by decide) (by decide) (by decide)⟩
   .exact⟨Rat.divInt 2 1,rfl,kK (by decide) (by decide) (by decide)⟩
   .exact⟨Rat.divInt 1 2,rfl,kK (by decide) (by decide) (by decide)⟩
   .exact⟨Rat.divInt (-2) 3,rfl,kK (by decide) (by decide) (by decide)⟩
  have(q,rfl,hq):=hq;simp!;exact k q _ _ hq
 .simp!
  refine nN (λx8=>?_) λx8=>?_
  .simp!
   refine fB (by decide) (by decide) λr2 x2 y2 h2 h3=>?_;simp!;refine fB (by decide) (by decide) λr3 x3 y3 h4 h5=>?_;simp![wY (n:=r2 - 9) (d:=1+r3) (by omega)<|CW (by omega) (by omega)];exact k _ _ _<|kK (by omega) (by omega) (by omega)
  .simp!
   refine fB (by decide) (by decide) λr2 x2 y2 h2 h3=>?_;simp!;refine fB (by decide) (by decide) λr3 x3 y3 h4 h5=>?_;simp![wY (n:=r2 - 999999) (d:=1+r3) (by omega)<|CW (by omega) (by omega)];exact k _ _ _<|kK (by omega) (by omega) (by omega)
abbrev Et:=Rat×Qb Nat
def hV:Qb Nat->D
 | none=>.none
 | some k=>.int (k:Int)
def cQ(e:Et):D:=.tuple [fR e.1,hV e.2]
def cc(r:Qa Et):D:=.tuple (r.map cQ)
structure EO (n:Nat) (e:Et):Prop where
 bd:Bd 12 12000000 e.1
 lt:∀ k,e.2=some k->k < n
theorem P9:Bd 12 12000000 1:=kK (n:=1) (d:=1) (by decide) (by decide) (by decide)
theorem PY:PyData.tuple [.int 1,.int 1]=fR 1:=rfl
theorem fR0:PyData.tuple [.int 0,.int 1]=fR 0:=rfl
theorem WM{c:Prop}[Decidable c]{X:Qb (Bool×En)}{ρ:En}{Q:Bool×En->Prop}(h:c->X=some (false,ρ))(q:Q (false,ρ)):Wo (if c then X else some (false,ρ)) Q:=by
 split
 .rename_i hc
  rw[h hc];exact⟨_,rfl,q⟩
 .exact⟨_,rfl,q⟩
def DM:MS:=(zz (zQ 4<|zS zx<|zf (zi 0)<|zf (aj dF (zi 1)<|mC<|.int 1) zp)
  (zz (bW (mB<|aj (cR false) (zi 4)<|zi 1) (ba<|bB<|zf (zi 3)<|zf (mC .none) zp) bZ)
  (ba<|bB<|zf (aj fK (iU<|zf (zi 3)<|zf (bB<|zf (mC<|.int 1)<|zf (mC<|.int 1) zp) zp)<|zS zx<|zf (zi 0)<|zf (mC<|.int 2) zp)<|zf (zi 4) zp)))
theorem WL:NR=(zz (zQ 3<|zS wZ<|zf (zi 0) zp)
  (zz (bW (pf (mB<|aj (cR false) (aj bg (zi 3)<|mC<|.int 0)<|mC<|.int 0)<|ik<|mB<|zi 2) (zQ 3<|bB<|zf (mC<|.int 1)<|zf (mC<|.int 1) zp) bZ)
  DM)):=rfl
theorem MC{x:Int}{p:Rat}{Q:Fl->Prop}(n1:1<=n)(n3:n<=3)(sm:Bd 12 12000000 p)(p0:p≠0)(k:∀ e x' y' o3 o4,EO n e->e.1≠0->Q (.rt (.d<|cQ e) [some<|bx x' y',some<|.d<|.int (n:Int),some<|.d<|.bool false,o3,o4])):
  Wo (DM [some<|bx x y,some<|.d<|.int (n:Int),some<|.d<|.bool false,some<|.d<|fR p,none]) Q:=by
 simp![DM];refine fB (by omega) (by omega) λr x2 y2 a2 b2=>?_;simp!
 by_cases c:r=(n:Int)
 .simp![c]
  exact k (p,none) _ _ _ _ ⟨sm,λk hk=>by cases hk⟩ p0
 .simp![c]
  refine fB (by decide) (by decide) λr3 x3 y3 a3 b3=>?_;simp!;refine Eu a3 b3 λz hz=>?_;have e:(r.toNat:Int)=r:=by omega
  have hq:∃ q:Rat,z=fR q/\Bd 12 12000000 q/\q≠0:=by
   simp only[qu,List.not_mem_nil,or_false]at hz;rcases hz with rfl|rfl
   .exact⟨p,rfl,sm,p0⟩
   .exact⟨1,rfl,P9,by decide⟩
  have(q,rfl,hq,q0):=hq;simp!;have:=k (q,some r.toNat) x3 y3 (some<|.d<|fR p) (some<|.d<|.int r) ⟨hq,λk hk=>by cases hk; omega⟩ q0;simp only[cQ,hV,e]at this;exact this
theorem Vc{x:Int}{Q:U×Qa U->Prop}(n1:1<=n)(n3:n<=3)(k:∀ e x' y',EO n e->e.1≠0->Q (.d<|cQ e,[bx x' y',.d<|.int (n:Int),.d<|.bool false])):Wo (BL [bx x y,.d<|.int (n:Int),.d<|.bool false]) Q:=by
 simp![BL,WL];refine V7 λp x1 y1 sm=>?_;have pn:p.num=0↔p=0:=Rat.num_eq_zero
 by_cases c:p=0
 .subst c
  simp![show((0:Rat).num=0)=True from eq_true rfl,if_true,PY];refine MC n1 n3 P9 (by decide) λe x' y' o3 o4 he h0=>?_;simp!;exact k e x' y' he h0
 .simp![pn,c]
  refine MC n1 n3 sm c λe x' y' o3 o4 he h0=>?_;simp!;exact k e x' y' he h0
end K46
open PySem L2
namespace K46
open PySem L2
theorem uy{r:Rat}(h:Bd M B r)(hM:0 < M)(h1:M < 2^4000)(h2:B < 2^4000):Sz r:=by
 have(a,b):=h.size hM;exact⟨Ä b h2,Ä a h1⟩
abbrev yW(p:Pq Rat):U:=.d (.tuple<|fe fR p)
abbrev dT(p:Pq Rat):U:=.d (.dict<|aU fR p)
theorem Jz{u:U}{a b:Qb α}:(if u.own=true/\u.own=false then a else b)=b:=if_neg λ⟨h,h'⟩=>by rw[h]at h'; cases h'
def Ln(n:Nat)(p:Pq α):Prop:=∀ t∈p,t.1.length=n
theorem Vb{p:Pq Rat}{u:U}(hu:u.fz=some (.dict<|aU fR p))(nd:aP p)(hl:p.length < 64):BR [u]=some (yW<|gF p,[dT p]):=by
 refine zU ?_;simp![BR,OA,hu];refine nP (e:=λt=>.tuple [aO t.1,fR t.2]) (by omega) (λt ht ys=>?_) ?_
 .simp![nV nd ht]
 .rw[show(p.map λt=>PyData.tuple [aO t.1,fR t.2])=fe fR p from rfl]
  simp![JP (c:=fR) nd hl]
theorem zl9{p q:Pq Rat}{u1 u2:U}{s:Int}(tH:zev u1=some (.t<|aJ fR p))(qH:u2.fz=some (.dict<|aU fR q))(hs:s=1\/s=-1)(np:aP p)(nq:aP q)(hp:PB M B p)(hq:PB M B q)(hM:0 < M)(h1:M < 2^4000)(h2:B+q.length * B < 2^4000)(l1:p.length < 64)(l2:q.length < 64):
  u3 [u1,u2,.d<|.int s]=some (.t<|aJ fR<|nz<|aR p<|d5 s q,[u1,dT q,.d<|.int s]):=by
 refine zU ?_;have sp:d5 s q=q.map λt=>(t.1,(s:Rat) * t.2):=rfl;simp![u3,Oc,tH,qH];refine kr (λbs cs ρ=>∃ o4 o5,ρ=[some u1,some<|dT q,some<|.d<|.int s,some<|.t<|aJ fR<|aR p<|d5 s bs,o4,o5,none]) ⟨_,_,rfl⟩ ?_ ?_
 .rintro bs t cs _ e ⟨o4,o5,rfl⟩
  have tq:t∈q:=by rw[e]; simp
  have lb:bs.length+1<=q.length:=by rw[e,qr,qt]; omega
  have gl:=pQ (d5 s bs) p;rw[show(d5 s bs).length=bs.length from List.length_map ..]at gl;have gb:PB M (B+q.length * B) (aR p<|d5 s bs):=λv hv=>(uJ (d5 s bs) hp (Eo hs λw hw=>hq w (by rw[e]; exact Ü _ hw)) v hv).le (by
   rw[show(d5 s bs).length=bs.length from List.length_map ..];have:=È B (show bs.length<=q.length by omega);omega)
  have s1:=uy (E2 gb t.1) hM h1 h2;have s2:Sz ((s:Rat) * t.2):=uy (Eo hs hq (t.1,(s:Rat) * t.2)<|À.mpr ⟨t,tq,rfl⟩) hM h1 (by omega);simp![nV nq tq,RE hs,MV s1 s2];rw[pA (by omega)];simp!;rw[show d5 s (bs++[t])=d5 s bs++[(t.1,(s:Rat) * t.2)] by unfold d5; rw[List.map_append]; rfl,Br];exact⟨_,_,rfl⟩
 .rintro _ ⟨o4,o5,rfl⟩
  have gn:aP (aR p<|d5 s q):=pK _ np;have gl:=pQ (d5 s q) p;rw[show(d5 s q).length=q.length from List.length_map ..]at gl;generalize aR p (d5 s q)=r at gn gl;simp!;refine kr (λbs cs ρ=>∃ o4,ρ=[some u1,some<|dT q,some<|.d<|.int s,some<|dT r,o4,o5,some<|.t<|aJ fR<|nz bs]) ⟨_,rfl⟩ ?_ ?_
  .rintro bs t cs _ e ⟨o4,rfl⟩
   have tr:t∈r:=by rw[e]; simp
   have ln:(nz bs).length<=bs.length:=ö _ _;have lb:bs.length+1<=r.length:=by rw[e,qr,qt]; omega
   simp![nV gn tr,JO];rw[KP]
   by_cases z:t.2=0
   .simp![z,ne_eq]
    exact⟨_,rfl⟩
   .simp![z,ne_eq,nV gn tr,pA (c:=fR) (p:=nz bs) (k:=t.1) (x:=t.2) (by omega)]
    rw[JN (cs:=cs) (by rw[<-e]; exact gn)];exact⟨_,rfl⟩
  .rintro _ ⟨o4,rfl⟩
   simp![Jz]
theorem zma{N C:Nat}{p q:Pq Rat}{u1 u2:U}{Q:U×Qa U->Prop}(tH:u1.fz=some (.dict<|aU fR p))(qH:u2.fz=some (.dict<|aU fR q))(np:aP p)(nq:aP q)(hp:PB M B p)(hq:PB N C q)(lp:Ln n p)(lq:Ln n q)(ln:n < 64)(hM:0 < M)(hN:0 < N)(h1:M * N < 2^4000)(h2:M < 2^4000)(h3:N < 2^4000)(h4:B < 2^4000)(h5:C < 2^4000)(h6:p.length * q.length * (B * C) < 2^4000)(hBC:0 < B * C)
  (l1:p.length * q.length < 64) (lp6:p.length < 64) (lq6:q.length < 64) (kq:∀ ve,ve.fz=some (.dict<|aU fR q)->Q (.t<|aJ fR<|nz<|aR []<|bC p q,[dT p,ve])):Wo (u4 [u1,u2]) Q:=by
 have fin:∀ (o1 o3 o4 o5 o6:Qb U) (r:Pq Rat),aP r->r.length < 64->∀ (Q:Fl->Prop),(∀ o5,Q<|.nx [some<|dT p,o1,some<|dT r,o3,o4,o5,o6,some<|.t<|aJ fR<|nz r])->Wo (gB (zv 5) (bW (mB<|aj (cR true) (aj bg (gY (zi 2)<|zi 5)<|mC<|.int 0)<|mC<|.int 0) (iX 7 (zi 5)<|gY (zi 2)<|zi 5) bZ) (r.map λt=>aO t.1) [some<|dT p,o1,some<|dT r,o3,o4,o5,o6,some<|.t []]) Q:=by
  intro o1 o3 o4 o5 o6 r gn gl Q hQ;refine kr (λbs cs ρ=>∃ o5,ρ=[some<|dT p,o1,some<|dT r,o3,o4,o5,o6,some<|.t<|aJ fR<|nz bs]) ⟨_,rfl⟩ ?_ ?_
  .rintro bs t cs _ e ⟨o5,rfl⟩
   have tr:t∈r:=by rw[e]; simp
   have ln:(nz bs).length<=bs.length:=ö _ _;have lb:bs.length+1<=r.length:=by rw[e,qr,qt]; omega
   simp![nV gn tr,JO];rw[KP]
   by_cases z:t.2=0
   .simp![z,ne_eq]
    exact⟨_,rfl⟩
   .simp![z,ne_eq,nV gn tr,pA (c:=fR) (p:=nz bs) (k:=t.1) (x:=t.2) (by omega)]
    rw[JN (cs:=cs) (by rw[<-e]; exact gn)];exact⟨_,rfl⟩
  .rintro _ ⟨o5,rfl⟩
   exact hQ o5
 simp![u4,N4,tH];refine kr (λbs cs ρ=>∃ (x:U) (o3 o4 o5 o6:Qb U),ρ=[some<|dT p,some x,some<|.t<|aJ fR<|aR []<|bC bs q,o3,o4,o5,o6,none]/\(x=u2\/x=dT q)) ⟨u2,_,_,_,_,rfl,.inl rfl⟩ ?_ ?_
 .rintro bs s cs _ e ⟨x,o3,o4,o5,o6,rfl,vn⟩
  have hx:x.fz=some (.dict<|aU fR q):=by
   rcases vn with rfl|rfl
   .exact qH
   .rfl
  have sp:s∈p:=by rw[e]; simp
  have lbs:bs.length+1<=p.length:=by rw[e,qr,qt]; omega
  have lpm:(bC bs q).length+q.length<=p.length * q.length:=by
   rw[Bo];have:=È q.length lbs;rw[Nat.add_mul,Nat.one_mul]at this;exact this
  simp![hx];refine kr (λds fs ρ=>∃ (o4 o5 o6:Qb U),ρ=[some<|dT p,some<|dT q,some<|.t<|aJ fR<|aR []<|bC bs q++ds.map λt=>(bp s.1 t.1,s.2 * t.2),some<|.d<|aO s.1,o4,o5,o6,none]) ⟨_,_,_,by rw[List.map_nil,List.append_nil]⟩ ?_ ?_
  .rintro ds t fs _ e2 ⟨o4,o5,o6,rfl⟩
   have tq:t∈q:=by rw[e2]; simp
   have lds:ds.length+1<=q.length:=by rw[e2,qr,qt]; omega
   have hle:s.1.length=t.1.length:=by rw[lp s sp,lq t tq]
   have s1:=uy (hp s sp) hM h2 h4;have s2:=uy (hq t tq) hN h3 h5;have hb:PB (M * N) (B * C) (bC bs q++ds.map λt=>(bp s.1 t.1,s.2 * t.2)):=λv hv=>by
    rcases Ì.mp hv with z|z
    .have(a,ha,b,hb,rfl):=E1 z
     exact(hp a (by rw[e]; exact Ü _ ha)).mul<|hq b hb
    .have(b,hb,rfl):=À.mp z
     exact(hp s sp).mul<|hq b (by rw[e2]; exact Ü _ hb)
   have ll:(bC bs q++ds.map λt=>(bp s.1 t.1,s.2 * t.2)).length<=p.length * q.length:=by
    rw[qr,List.length_map];omega
   have gl:=pQ (bC bs q++ds.map λt=>(bp s.1 t.1,s.2 * t.2)) [];rw[List.length_nil,Nat.zero_add]at gl;have gb:PB (M * N) (p.length * q.length * (B * C)) (aR []<|bC bs q++ds.map λt=>(bp s.1 t.1,s.2 * t.2)):=λv hv=>(uJ _ (C:=0) GU hb v hv).le (by
    have:=È (B * C) ll;omega)
   have s3:=uy (E2 gb<|bp s.1 t.1) (Nat.mul_pos hM hN) h1 h6;have s4:Sz (s.2 * t.2):=uy ((hp s sp).mul<|hq t tq) (Nat.mul_pos hM hN) h1 (by
    have h7:1 * (B * C)<=p.length * q.length * (B * C):=È _ (by
     have:1 * 1<=p.length * q.length:=ù (by omega) (by omega);omega)
    omega)
   simp![Ga hle];refine nP (e:=λt=>.int<|t.1+t.2) (by rw[List.length_zip,lp s sp]; omega) (λt ht ys=>?_) ?_
   .simp!
   .rw[show((s.1.zip t.1).map λt=>PyData.int<|t.1+t.2)=(bp s.1 t.1).map PyData.int by unfold bp; rw[List.map_zipWith,List.zip,List.map_zipWith]]
    simp![show PyData.tuple ((bp s.1 t.1).map PyData.int)=aO (bp s.1 t.1) from rfl,nV np sp,nV nq tq,zkF s1 s2,MV s3 s4];rw[pA (by omega)];simp!;rw[List.map_append,<-List.append_assoc,List.map_cons,List.map_nil,Br];exact⟨_,_,_,rfl⟩
  .rintro _ ⟨o4,o5,o6,rfl⟩
   simp!;rw[Yv];exact⟨dT q,_,_,_,_,rfl,.inr rfl⟩
 .rintro _ ⟨x,o3,o4,o5,o6,rfl,hx⟩
  have gl:=pQ (bC p q) [];rw[List.length_nil,Bo]at gl;simp!;refine fin _ _ _ _ _ _ (pK _ B8) (by omega) _ λo5=>?_;rcases hx with rfl|rfl
  .simp![Jz]
   exact kq x qH
  .simp!
   exact kq (dT q) rfl
def cE(n:Nat):Nat:=if n=1 then 6 else 4
theorem mU:4<=cE n/\cE n<=6:=by unfold cE; split<;>omega
def lW:Nat->Nat->Qa (Qa Int)
 | 0,_=>[[]]
 | n+1,w=>(List.range<|w+1).flatMap λ(j:Nat)=>(lW n<|w - j).map λl=>(j:Int)::l
structure Ks (n w:Nat) (a:Qa Int):Prop where
 ln:a.length=n
 pos:∀ k∈a,0<=k
 sm:a.sum<=(w:Int)
theorem Kx:∀ {a:Qa Int},(∀ k∈a,0<=k)->0<=a.sum
 | [],_=>by decide
 | k::a,h=>by
  rw[List.sum_cons];have:=h k qo;have:=Kx λj hj=>h j<|qm k hj;omega
theorem yV:∀ {n w:Nat} {a:Qa Int},Ks n w a->a∈lW n w
 | 0,_,[],_=>qp.mpr rfl
 | 0,_,_::_,h=>by have:=h.ln; simp at this
 | n+1,_,[],h=>by have:=h.ln; simp at this
 | n+1,w,k::a,h=>by
  have h1:=h.pos k qo;have h2:=Kx λj hj=>h.pos j<|qm k hj;have h3:=h.sm;rw[List.sum_cons]at h3;refine List.mem_flatMap.mpr ⟨k.toNat,Á.mpr (by omega),À.mpr ⟨a,yV ⟨Nat.succ.inj h.ln,λj hj=>h.pos j<|qm k hj,by omega⟩,?_⟩⟩;rw[Int.toNat_of_nonneg h1]
theorem Ks.up{w w':Nat}{a:Qa Int}(h:Ks n w a)(c:w<=w'):Ks n w' a:=⟨h.ln,h.pos,by have:=h.sm; omega⟩
theorem LA:∀ {a b:Qa Int},a.length=b.length->(bp a b).sum=a.sum+b.sum
 | [],[],_=>rfl
 | [],_::_,h=>by simp at h
 | _::_,[],h=>by simp at h
 | x::a,y::b,h=>by
  show((x+y)::bp a b).sum=_;rw[List.sum_cons,List.sum_cons,List.sum_cons,LA<|Nat.succ.inj h];omega
theorem Lz:∀ {a b:Qa Int},(∀ k∈a,0<=k)->(∀ k∈b,0<=k)->∀ k∈bp a b,0<=k
 | [],_,_,_,k,hk=>by simp[bp]at hk
 | _::_,[],_,_,k,hk=>by simp[bp]at hk
 | x::a,y::b,h,h',k,hk=>by
  rcases qu.mp (show k∈(x+y)::bp a b from hk)with rfl|hk
  .have:=h x qo
   have:=h' y qo;omega
  .exact Lz (λj hj=>h j<|qm _ hj) (λj hj=>h' j<|qm _ hj) k hk
theorem Ks.add{w w':Nat}{a b:Qa Int}(h:Ks n w a)(h':Ks n w' b):Ks n (w+w') (bp a b):=by
 refine⟨?_,Lz h.pos h'.pos,?_⟩
 .unfold bp
  rw[List.length_zipWith,h.ln,h'.ln,Nat.min_self]
 .rw[LA<|h.ln.trans h'.ln.symm]
  have:=h.sm;have:=h'.sm;omega
theorem Ry:((lW 1 6).map λa=>hT<|kL a).Nodup:=by decide +kernel
theorem Rx:((lW 2 4).map λa=>hT<|kL a).Nodup:=by decide +kernel
theorem Rw:((lW 3 4).map λa=>hT<|kL a).Nodup:=by decide +kernel
theorem Rv{p:Pq Rat}(h1:1<=n)(h3:n<=3)(nd:aP p)(ky:∀ t∈p,Ks n (cE n) t.1):vW p:=by
 have inj:∀ a∈lW n (cE n),∀ b∈lW n (cE n),hT (kL a)=hT (kL b)->a=b:=by
  rcases(by omega:n=1\/n=2\/n=3)with rfl|rfl|rfl
  .exact Ak Ry
  .exact Ak Rx
  .exact Ak Rw
 unfold vW rX;rw[Bool.and_eq_true_iff];constructor
 .rw[List.all_eq_true]
  intro ks hk;have(a,_,rfl):=À.mp hk;rw[Dg,List.all_eq_true];intro k hk;have(i,_,rfl):=À.mp hk;rfl
 .rw[decide_eq_true_iff,List.map_map]
  have mem:∀ a∈p.map (·.1),a∈lW n (cE n):=λa ha=>by
   have(t,ht,rfl):=À.mp ha;exact yV<|ky t ht
  refine á.mpr<|List.Pairwise.imp_of_mem (λ{a b} ha hb (qM:a≠b)=>?_) nd;exact λe=>qM<|inj a (mem a ha) b (mem b hb) e
structure PG (n e a:Nat) (p:Pq Rat):Prop where
 nd:aP p
 ky:∀ t∈p,Ks n a t.1
 bd:PB (12^a) (2^(24 * a+e)) p
section
variable{e e' a:Nat}{p q:Pq Rat}
theorem PG.len(h:PG n e a p)(n1:1<=n)(n3:n<=3)(a4:a<=cE n):p.length<=35:=by
 have:=ï h.nd (l₂:=lW n (cE n)) λx hx=>by
  have(t,ht,rfl):=À.mp hx;exact yV<|(h.ky t ht).up a4
 rw[List.length_map]at this;refine qx this ?_;rcases(by omega:n=1\/n=2\/n=3)with rfl|rfl|rfl<;>decide
theorem PG.up(h:PG n e a p)(hc:a<=c)(he:e<=e'):PG n e' c p:=by
 refine⟨h.nd,λt ht=>(h.ky t ht).up hc,λt ht=>?_⟩;have(d,rfl):=Nat.exists_eq_add_of_le hc;rw[Nat.pow_add];refine((h.bd t ht).wide<|12^d).le ?_;have h1:12^d<=2^(24 * d):=by rw[Nat.pow_mul]; exact Nat.pow_le_pow_left (by decide) d
 refine qx (Nat.mul_le_mul_left _ h1) ?_;rw[<-Nat.pow_add];exact Ç (by decide) (by omega)
theorem PG.hash(h:PG n e a p)(n1:1<=n)(n3:n<=3)(a4:a<=cE n):vW p:=Rv n1 n3 h.nd λt ht=>(h.ky t ht).up a4
theorem PG.mul(h:PG n e a p)(h':PG n e' c q)(n1:1<=n)(n3:n<=3)(hac:a+c<=cE n):PG n (e+e'+11) (a+c) (nz<|aR []<|bC p q):=by
 refine⟨ID<|pK _ B8,λt ht=>?_,λt ht=>?_⟩
 .refine Bq (Pk:=λk=>Ks n (a+c) k) (bC p q) (λt h=>by cases h) (λt ht=>?_) t (Ò.mp ht).1
  have(u,hu,v,hv,rfl):=E1 ht;exact(h.ky u hu).add<|h'.ky v hv
 .have:=uJ (bC p q) (C:=0) GU (UT h.bd h'.bd) t (Ò.mp ht).1
  rw[<-Nat.pow_add]at this;refine this.le ?_;rw[Bo,Nat.zero_add];have l1:=h.len n1 n3 (by omega);have l2:=h'.len n1 n3 (by omega);have l3:p.length * q.length<=2^11:=qx (ù l1 l2) (by decide);refine qx (È _ l3) ?_;rw[<-Nat.pow_add,<-Nat.pow_add];exact Ç (by decide) (by omega)
theorem PG.add(h:PG n e a p)(h':PG n e a q)(n1:1<=n)(n3:n<=3)(a4:a<=cE n){s:Int}(hs:s=1\/s=-1):PG n (e+6) a (nz<|aR p<|d5 s q):=by
 have pk:∀ t∈d5 s q,Ks n a t.1:=λt ht=>by
  have(u,hu,rfl):=À.mp ht;exact h'.ky u hu
 refine⟨ID<|pK _ h.nd,λt ht=>Bq (Pk:=λk=>Ks n a k) (d5 s q) h.ky pk t (Ò.mp ht).1,λt ht=>?_⟩;refine(uJ (d5 s q) h.bd (Eo hs h'.bd) t (Ò.mp ht).1).le ?_;rw[show(d5 s q).length=q.length from List.length_map ..];have l2:=h'.len n1 n3 a4;have:=È (2^(24 * a+e)) l2;rw[<-Nat.add_assoc,Nat.pow_add _ _ 6];omega
end
def zs(n:Nat):Qa Int:=List.replicate n 0
def gT(n k:Nat):Qa Int:=List.replicate k 0++[1]++List.replicate (n - k - 1) 0
def jt(n:Nat)(f:Rat):Pq Rat:=if f=0 then []else [(zs n,f)]
theorem As(k:Nat):PyData.tuple (List.replicate k [PyData.int 0]).flatten=aO (List.replicate k 0):=by
 unfold aO;congr 1
 induction k with
 | zero=>rfl
 | succ k ih=>rw[List.replicate_succ,List.flatten_cons,List.replicate_succ,List.map_cons,<-ih]; rfl
theorem WK(r:Rat):decide (r.num=0)=decide (r=0):=decide_eq_decide.mpr Rat.num_eq_zero
theorem Ny{f:Rat}(hn:n<=3):wX [.d<|.int (n:Int),.d<|fR f]=some (.t<|aJ fR<|jt n f,[.d<|.int (n:Int),.d<|fR f]):=by
 refine zU ?_;simp![wX,Oh,WK];unfold jt
 by_cases z:f=0
 .simp![z]
  rfl
 .simp![z,As,Int.toNat_natCast]
  rfl
theorem OM{k:Int}(h:k < 1000)(h2:-1000 < k):pJ (.d<|aO [0]) (.d<|.int k)=some (.d<|aO<|List.replicate k.toNat 0):=by
 rw[<-As];exact L1 (xs:=[.int 0]) (by decide) h h2 (by decide)
theorem Ly{k:Nat}(hk:k < n):(gT n k).length=n:=by
 unfold gT;rw[qr,qr,List.length_replicate,List.length_replicate,List.length_singleton];omega
theorem Ex(n:Nat):(zs n).length=n:=List.length_replicate
theorem WJ{k:Nat}:∀ j∈gT n k,0<=j/\j<=1:=λj hj=>by
 unfold gT at hj;rcases Ì.mp hj with z|z
 .rcases Ì.mp z with z|z
  .rw[List.eq_of_mem_replicate z]; omega
  .rw[qp.mp z]; omega
 .rw[List.eq_of_mem_replicate z]; omega
theorem Ew:∀ j∈zs n,j=0:=λj hj=>List.eq_of_mem_replicate hj
theorem Pg{t:Qa Int×Rat}:aP [t]:=by unfold aP; simp
end K46
open PySem L2
namespace K46
open PySem L2
structure Fm where
 p:Pq Int
 b:Int
 r:Int
def cF(F:Fm):D:=jf F.p F.b F.r
def jX(p:Pq Int)(b r:Int):Fm:=if(p.filter λt=>!decide (t.2=0)).isEmpty=true then⟨[],1,256⟩else⟨p.filter λt=>!decide (t.2=0),b,r⟩
theorem Mv{p:Pq α}(h:aP p)(f:Qa Int×α->Bool):aP (p.filter f):=h.sublist (List.filter_sublist.map _)
theorem zBJ:nM 1=1:=by decide
theorem WH(p:Pq α):(p.map λa=>(a.1,a.2))=p:=by simp
theorem F4{p:Pq Int}{r:Int}{u:U}(hu:u.fz=some (.dict<|aU .int p))(nd:aP p)(hl:p.length < 1000)(b1:1<=b)(hb:nM b<=r)(hg:b.natAbs.log2 < 9000):
  uW [u,.d<|.int b,.d<|.int r]=some (.d<|cF<|jX p b r,[.d<|.dict<|aU .int p,.d<|.int b,.d<|.int r]):=by
 refine zU ?_;simp![uW,Mw,hu];rw[rW p];refine wy (c:=PyData.int) (b:=λt=>!decide (t.2=0)) (k:=(·.1)) (v:=(·.2)) (by omega) (λt ht ys=>?_) ?_
 .simp!
  by_cases h:t.2=0
  .simp![h]
  .simp![h,Al]
 .rw[WH,Ej<|Mv nd _]
  simp!
  by_cases h:(p.filter λt=>!decide (t.2=0)).isEmpty=true
  .have e:jX p b r=⟨[],1,256⟩:=if_pos h
   have e2:(p.filter λt=>!decide (t.2=0))=[]:=by simpa using h
   rw[e];simp![h];rw[e2];refine mG (λi ρ=>i=0/\ρ=[some<|U.d<|.dict<|aU .int p,some<|.d<|.int b,some<|.d<|.int r,some<|.d<|.dict<|aU .int ([]:Pq Int),some<|.d<|.int b,none,none]) ⟨rfl,rfl⟩ (λi d ρ hd=>by cases hd) ?_;rintro _ ⟨_,rfl⟩;simp!;refine wy (c:=PyData.int) (b:=λt=>true) (k:=(·.1)) (v:=λt:Qa Int×Int=>t.2) (as:=[]) (by decide) (λt ht=>by cases ht) ?_;have e3:ym (List.map (λa:Qa Int×Int=>(a.1,a.2))<|List.filter (λ_=>true) [])=[]:=rfl;rw[e3];have d1:b.fdiv b=1:=Int.fdiv_self (by omega);have lg:∀ i:Int,i=1\/i=2->i.natAbs.log2 < 1000000:=by rintro i (rfl|rfl)<;>exact Ä (Nat.log2_le_self _) (by decide)
   simp![uL (a:=b) (b:=b) ⟨by omega,hg⟩,d1,zBJ,jz (a:=2) (b:=1) (lg _<|.inr rfl)<|lg _<|.inl rfl];rfl
  .have e:jX p b r=⟨p.filter λt=>!decide (t.2=0),b,r⟩:=if_neg h
   have h':(p.filter λt=>!decide (t.2=0)).isEmpty=false:=by simpa using h
   rw[e];simp![h',hb];rfl
theorem DL{t:Qa Int×Int}:aP [t]:=by unfold aP; simp
theorem Nx{f:Rat}(hn:n<=3)(hb:nM (f.den:Int)<=256)(hg:f.den.log2 < 9000):w6 [.d<|fR f,.d<|.int (n:Int)]=some (.d<|cF<|jX [(zs n,f.num)] f.den 256,[.d<|fR f,.d<|.int (n:Int)]):=by
 refine zU ?_;have s:=F4 (u:=.t (aJ .int [(zs n,f.num)])) (p:=[(zs n,f.num)]) (b:=f.den) (r:=256) nY DL (by show(1:Nat) < 1000; decide) (jY f) hb (by rw[Int.natAbs_natCast]; exact hg);simp![w6,Oq,As,Int.toNat_natCast];rw[show [(kL<|List.replicate n 0,PyData.int f.num)]=aJ PyData.int [(zs n,f.num)] from rfl];simp![s]
theorem ziS{k:Nat}(hk:k < n)(hn:n<=3):BO [.d<|.int (k:Int),.d<|.int (n:Int)]=some (.d<|cF ⟨[(gT n k,1)],1,256⟩,[.d<|.int (k:Int),.d<|.int (n:Int)]):=by
 refine zU ?_;have e:((n:Int) - (k:Int) - 1).toNat=n - k - 1:=by omega
 simp![BO,Ou,As,Int.toNat_natCast,e,Ai,De (a:=List.replicate k 0) (b:=[1]) (by rw[List.length_replicate]; show k+1<=1000; omega),De (a:=List.replicate k 0++[1]) (b:=List.replicate (n - k - 1) 0) (by rw[qr,List.length_replicate,List.length_replicate]; show k+1+_<=1000; omega),OM (k:=(k:Int)) (by omega) (by omega),OM (k:=(n:Int) - (k:Int) - 1) (by omega) (by omega)];rw[Ep];rfl
theorem ziT{a b:Qa Int}(h:a.length=b.length)(hl:a.length < 64):BJ [.d<|aO a,.d<|aO b]=some (.d<|aO<|bp a b,[.d<|aO a,.d<|aO b]):=by
 refine zU ?_;simp![BJ,NI,Ga h];refine nP (e:=λt=>.int<|t.1+t.2) (by rw[List.length_zip,<-h]; omega) (λt ht ys=>?_) ?_
 .simp!
 .rw[show((a.zip b).map λt=>PyData.int<|t.1+t.2)=(bp a b).map PyData.int by unfold bp; rw[List.map_zipWith,List.zip,List.map_zipWith]]
  simp!;rfl
end K46
open PySem L2
namespace K46
open PySem L2
structure FZ (F:Fm):Prop where
 nd:aP F.p
 ln:F.p.length < 64
 b1:1<=F.b
 bs:F.b.natAbs < 2^1000
 ns:∀ t∈F.p,t.2.natAbs < 2^6000
 r1:256<=F.r
def cz(p:Pq Int)(c:Int):Pq Int:=p.map λt=>(t.1,t.2 * c)
def m8(F G:Fm)(f:Rat):Fm :=
 jX (aR (cz F.p<|(G.b * f.den).fdiv (Int.gcd F.b (G.b * f.den):Nat))<|cz G.p<|F.b.fdiv (Int.gcd F.b (G.b * f.den):Nat) * f.num) (F.b * (G.b * f.den).fdiv (Int.gcd F.b (G.b * f.den):Nat)) (if G.r > F.r then G.r else F.r)
theorem Aq{p:Pq Int}(h:aP p)(c:Int):aP (cz p c):=by
 unfold aP cz;rw[List.map_map];exact h
theorem AW(p:Pq Int)(c:Int):(cz p c).length=p.length:=List.length_map ..
theorem ja{x:Int}{k:Nat}(h:x.natAbs < 2^k)(hk:k < 9000)(h0:0 < k):x.natAbs.log2 < 1000000:=æ (sH h0 h) (æ hk (by decide))
theorem yH{x:Int}{k:Nat}(h:x.natAbs < 2^k)(hk:k < 9000)(h0:0 < k):x.natAbs.log2 < 9000:=æ (sH h0 h) hk
theorem Jy{x:Int}{k:Nat}(hx:x.natAbs < 2^j)(hy:y.natAbs < 2^k):(x * y).natAbs < 2^(j+k):=by
 rw[Int.natAbs_mul,Nat.pow_add];exact Nat.mul_lt_mul'' hx hy
theorem Kw{x g:Int}{k:Nat}(h0:0<=x)(hg:0 < g)(hx:x.natAbs < 2^k):(x.fdiv g).natAbs < 2^k:=by
 rw[Int.fdiv_eq_ediv_of_nonneg _ (by omega)];refine Ä ?_ hx;have:=Int.ediv_le_self g h0;have:=Int.ediv_nonneg h0 (by omega:0<=g);omega
theorem Kv{k:Nat}(h0:0 < k)(h:b.natAbs < 2^k):nM b<=k:=by
 unfold nM Builtin.Int.intBits;split
 .exact Int.natCast_nonneg _
 .have:=sH h0 h
  omega
theorem zme{F G:Fm}{f:Rat}(hF:FZ F)(hG:FZ G)(hn:f.num.natAbs < 2^1000)(hd:f.den < 2^100)(hb:(F.b * (G.b * f.den).fdiv (Int.gcd F.b (G.b * f.den):Nat)).natAbs < 2^256):
  wN [.d<|cF F,.d<|cF G,.d<|fR f]=some (.d<|cF<|m8 F G f,[.d<|cF F,.d<|cF G,.d<|fR f]):=by
 refine zU ?_;have qR:((f.den:Nat):Int).natAbs < 2^100:=by rw[Int.natAbs_natCast]; exact hd
 have d1:=jY f;have Fb:=hF.b1;have Gb:=hG.b1;have P8:0 < G.b * (f.den:Int):=Ù (by omega) (by omega);have bes:=Jy hG.bs qR;have gp:0 < Int.gcd F.b (G.b * f.den):=Int.gcd_pos_of_ne_zero_left _ (by omega);have gl:Int.gcd F.b (G.b * f.den)<=F.b.natAbs:=Int.gcd_le_natAbs_left _ (by omega);have cg:∀ z:Int,rP z ((Int.gcd F.b (G.b * f.den):Nat):Int):=λz=>⟨by omega,by rw[Int.natAbs_natCast]; exact Ey gl<|yH hF.bs (by decide) (by decide)⟩;have fs:=Kw (Ö P8) (by omega:(0:Int) < (Int.gcd F.b (G.b * f.den):Nat)) bes;have ss:=Kw (by omega:0<=F.b) (by omega:(0:Int) < (Int.gcd F.b (G.b * f.den):Nat)) hF.bs;have ss2:=Jy ss hn;have cf:=Gm (x:=F.b) (y:=G.b * f.den) (by omega) (by omega);unfold cF m8;generalize PJ:(G.b * (f.den:Int)).fdiv (Int.gcd F.b (G.b * f.den):Nat)=fi at *;generalize hse:F.b.fdiv (Int.gcd F.b (G.b * f.den):Nat)=se at *;simp![wN,MF,jz (a:=G.b) (b:=(f.den:Int)) (ja hG.bs (by decide) (by decide))<|ja qR (by decide) (by decide),cf,uL<|cg _,PJ,hse,jz (a:=se) (b:=f.num) (ja ss (by decide) (by decide))<|ja hn (by decide) (by decide)];rw[rW F.p];have ec:(F.p.filter λ_=>true).map (λa=>(a.1,a.2 * fi))=cz F.p fi:=by
  unfold cz;rw[List.filter_eq_self.mpr λ_ _=>rfl]
 refine wy (c:=PyData.int) (b:=λt=>true) (k:=(·.1)) (v:=λt:Qa Int×Int=>t.2 * fi) (by have:=hF.ln; omega) (λt ht ys=>?_) ?_
 .simp![jz (a:=t.2) (b:=fi) (ja (hF.ns t ht) (by decide) (by decide))<|ja fs (by decide) (by decide),Al]
 rw[ec,Ej<|Aq hF.nd fi];simp!;rw[rW G.p];have gnd:=Aq hF.nd fi;refine kr (λbs cs ρ=>∃ o8 o9,ρ=[some<|U.d<|jf F.p F.b F.r,some<|U.d<|jf G.p G.b G.r,some<|U.d<|fR f,some<|U.d<|PyData.int<|G.b * (f.den:Int),some<|U.d<|PyData.int ((F.b.gcd (G.b * (f.den:Int)):Nat):Int),some<|U.d<|PyData.int fi,some<|U.d<|PyData.int<|se * f.num,some<|.t<|aJ PyData.int<|aR (cz F.p fi)<|cz bs<|se * f.num,o8,o9]) ⟨none,none,rfl⟩ ?_ ?_
 .rintro bs t cs _ e ⟨o8,o9,rfl⟩
  have ht:t∈G.p:=by rw[e]; simp
  have lb:bs.length+cs.length+1=G.p.length:=by rw[e,qr,qt]; omega
  have l1:=pQ (cz bs<|se * f.num) (cz F.p fi);rw[AW,AW]at l1;have l2:=hF.ln;have l3:=hG.ln;have eg:aR (cz F.p fi) (cz (bs++[t])<|se * f.num)=bD (aR (cz F.p fi)<|cz bs<|se * f.num) t.1 ((look (aR (cz F.p fi)<|cz bs<|se * f.num) t.1).getD 0+t.2 * (se * f.num)):=by
   unfold cz;rw[List.map_append];exact Br _ _ _
  rw[eg];have pu:∀ x:Int,pD (.t<|aJ PyData.int<|aR (cz F.p fi)<|cz bs<|se * f.num) (aO t.1) (.int x)=some (.t<|aJ PyData.int<|bD (aR (cz F.p fi)<|cz bs<|se * f.num) t.1 x):=λx=>pA (c:=PyData.int) (by omega);have mb:=jz (a:=t.2) (b:=se * f.num) (ja (hG.ns t ht) (by decide) (by decide)) (ja ss2 (by decide) (by decide));cases hl:look (aR (cz F.p fi)<|cz bs<|se * f.num) t.1 with
  | none=>
   simp![hl,mb,pu,Option.getD_none];exact⟨_,_,rfl⟩
  | some z=>
   simp![hl,mb,pu,Option.getD_some];exact⟨_,_,rfl⟩
 .rintro _ ⟨o8,o9,rfl⟩
  have l1:=pQ (cz G.p<|se * f.num) (cz F.p fi);rw[AW,AW]at l1;have l2:=hF.ln;have l3:=hG.ln;have fi0:0 < fi:=by
   rw[<-PJ,Int.fdiv_eq_ediv_of_nonneg _ (by omega)];exact Int.ediv_pos_of_pos_of_dvd P8 (by omega)<|Int.gcd_dvd_right _ _
  have H0:1<=F.b * fi:=by have:=Ù (by omega:0 < F.b) fi0; omega
  have rr:256<=(if G.r > F.r then G.r else F.r):=by have:=hF.r1; have:=hG.r1; split<;>omega
  have s:=F4 (u:=.t (aJ .int<|aR (cz F.p fi)<|cz G.p<|se * f.num)) (p:=aR (cz F.p fi) (cz G.p<|se * f.num)) (b:=F.b * fi) (r:=if G.r > F.r then G.r else F.r) nY (pK _ gnd) (by omega) H0 (õ (Kv (by decide) hb) rr) (yH hb (by decide) (by decide));simp![jz (a:=F.b) (b:=fi) (ja hF.bs (by decide) (by decide))<|ja fs (by decide) (by decide),s];rfl
def t8(F G:Fm):Fm:=jX (aR []<|bC F.p G.p) (F.b * G.b) (if G.r > F.r then G.r else F.r)
theorem Va(acc ts us:Pq Int):aR acc (ts++us)=aR (aR acc ts) us:=List.foldl_append ..
theorem zjb{F G:Fm}(hF:FZ F)(hG:FZ G)(h1:∀ t∈F.p,t.1.length=n)(h2:∀ t∈G.p,t.1.length=n)(hn:n < 64)(hb:(F.b * G.b).natAbs < 2^256)(hl:F.p.length * G.p.length < 1000):
  BQ [.d<|cF F,.d<|cF G]=some (.d<|cF<|t8 F G,[.d<|cF F,.d<|cF G]):=by
 refine zU ?_;unfold cF t8;have Fb:=hF.b1;have Gb:=hG.b1;have l2:=hF.ln;have l3:=hG.ln;simp![BQ,N3];rw[rW F.p];have pl:∀ bs:Pq Int,bs.length<=F.p.length->(bC bs G.p).length < 1000:=λbs hb=>by
  rw[Bo];exact Ä (È _ hb) hl
 refine kr (λbs cs ρ=>∃ o3 o4 o5 o6 o7,ρ=[some<|U.d<|jf F.p F.b F.r,some<|U.d<|jf G.p G.b G.r,some<|.t<|aJ PyData.int<|aR []<|bC bs G.p,o3,o4,o5,o6,o7]) ⟨none,none,none,none,none,rfl⟩ ?_ ?_
 .rintro bs s cs _ e ⟨o3,o4,o5,o6,o7,rfl⟩
  have hs:s∈F.p:=by rw[e]; simp
  have lb:bs.length+cs.length+1=F.p.length:=by rw[e,qr,qt]; omega
  simp!;rw[rW G.p];have epm:∀ ds:Pq Int,aR [] (bC bs G.p++ds.map λt=>(bp s.1 t.1,s.2 * t.2))=aR (aR []<|bC bs G.p) (ds.map λt=>(bp s.1 t.1,s.2 * t.2)):=λds=>Va _ _ _;refine kr (λds es ρ=>∃ o5 o6 o7,ρ=[some<|U.d<|jf F.p F.b F.r,some<|U.d<|jf G.p G.b G.r,some<|.t<|aJ PyData.int<|aR []<|bC bs G.p++ds.map λt=>(bp s.1 t.1,s.2 * t.2),some<|.d<|aO s.1,some<|.d<|.int s.2,o5,o6,o7]) ⟨o5,o6,o7,by rw[List.map_nil,List.append_nil]⟩ ?_ ?_
  .rintro ds t es _ e2 ⟨o5,o6,o7,rfl⟩
   have ht:t∈G.p:=by rw[e2]; simp
   have ld:ds.length+es.length+1=G.p.length:=by rw[e2,qr,qt]; omega
   have l1:=pQ (bC bs G.p++ds.map λt=>(bp s.1 t.1,s.2 * t.2)) [];rw[qr,List.length_map]at l1;have l4:=pl bs (by omega);have pp:=ziT (a:=s.1) (b:=t.1) ((h1 s hs).trans (h2 t ht).symm) (by rw[h1 s hs]; exact hn);have eg:aR [] (bC bs G.p++(ds++[t]).map λt=>(bp s.1 t.1,s.2 * t.2))=bD (aR []<|bC bs G.p++ds.map λt=>(bp s.1 t.1,s.2 * t.2)) (bp s.1 t.1) ((look (aR []<|bC bs G.p++ds.map λt=>(bp s.1 t.1,s.2 * t.2))<|bp s.1 t.1).getD 0+s.2 * t.2):=by
    rw[List.map_append,<-List.append_assoc];exact Br _ _ _
   rw[eg];generalize aR [] (bC bs G.p++ds.map λt=>(bp s.1 t.1,s.2 * t.2))=gg at *;have pu:∀ x:Int,pD (.t<|aJ PyData.int gg) (aO<|bp s.1 t.1) (.int x)=some (.t<|aJ PyData.int<|bD gg (bp s.1 t.1) x):=λx=>pA (c:=PyData.int) (by simp at l1; omega);have mb:=jz (a:=s.2) (b:=t.2) (ja (hF.ns s hs) (by decide) (by decide)) (ja (hG.ns t ht) (by decide) (by decide));cases PD:look gg (bp s.1 t.1)with
   | none=>
    simp![pp,PD,mb,pu,Option.getD_none];exact⟨_,_,_,rfl⟩
   | some z=>
    simp![pp,PD,mb,pu,Option.getD_some];exact⟨_,_,_,rfl⟩
  .rintro _ ⟨o5,o6,o7,rfl⟩
   simp!;have:bC (bs++[s]) G.p=bC bs G.p++G.p.map λt=>(bp s.1 t.1,s.2 * t.2):=by unfold bC; simp
   rw[this];exact⟨_,_,_,_,_,rfl⟩
 .rintro _ ⟨o3,o4,o5,o6,o7,rfl⟩
  have l1:=pQ (bC F.p G.p) [];have l4:=pl F.p (qe _);have H0:1<=F.b * G.b:=by have:=Ù (by omega:0 < F.b) (by omega:0 < G.b); omega
  have rr:256<=(if G.r > F.r then G.r else F.r):=by have:=hF.r1; have:=hG.r1; split<;>omega
  have s:=F4 (u:=.t (aJ .int<|aR []<|bC F.p G.p)) (p:=aR [] (bC F.p G.p)) (b:=F.b * G.b) (r:=if G.r > F.r then G.r else F.r) nY (pK _ ã) (by simp at l1; omega) H0 (õ (Kv (by decide) hb) rr) (yH hb (by decide) (by decide));simp![jz (a:=F.b) (b:=G.b) (ja hF.bs (by decide) (by decide))<|ja hG.bs (by decide) (by decide),s];rfl
theorem zkJ{F:Fm}(hF:FZ F):BK [.d<|cF F]=some (.l<|fe fR<|gF<|bL F.b F.p,[.d<|cF F]):=by
 refine zU ?_;unfold cF;have l2:=hF.ln;have Fb:=hF.b1;simp![BK,NA];rw[rW F.p];refine nP (e:=λt=>.tuple [aO t.1,fR<|Rat.divInt t.2 F.b]) (by omega) (λt ht ys=>?_) ?_
 .simp![zeF (n:=t.2) (d:=F.b) (by omega)<|yH hF.bs (by decide) (by decide)]
 .have e:(F.p.map λt=>PyData.tuple [aO t.1,fR<|Rat.divInt t.2 F.b])=fe fR (bL F.b F.p):=by
   unfold bL fe;rw[List.map_map];rfl
  have nd:aP (bL F.b F.p):=by
   unfold aP bL;rw[List.map_map];exact hF.nd
  have st:=JP (c:=fR) nd (by unfold bL; rw[List.length_map]; exact l2);rw[e];simp![st]
def bO(F:Fm)(h:Qa Int->Rat):Rat:=aM (bL F.b F.p) h
structure FO (n e a w:Nat) (F:Fm):Prop where
 nd:aP F.p
 ky:∀ t∈F.p,Ks n w t.1
 b1:1<=F.b
 dv:F.b∣((12^a:Nat):Int)
 bd:∀ t∈F.p,Bd (12^a) (2^(24 * a+e)) (Rat.divInt t.2 F.b)
 nz:∀ t∈F.p,t.2≠0
 r1:256<=F.r
theorem Ru{x:Int}(h:Bd M B (Rat.divInt x b))(b1:1<=b)(dv:b∣(M:Int))(hM:0 < M):x.natAbs<=B:=by
 have(k,e,hk):=h;have(c,hc):=dv;have e2:(k:Rat)=((x * c:Int):Rat):=by
  rw[<-e,show((M:Nat):Rat)=((M:Int):Rat) from rfl,hc,Rat.intCast_mul,Rat.intCast_mul,Rat.divInt_eq_div];have:(b:Rat)≠0:=λz=>by
   have:b=0:=by exact_mod_cast z
   omega
  grind
 have e3:k=x * c:=by exact_mod_cast e2
 have c0:c≠0:=λz=>by rw[z,Int.mul_zero]at hc; omega
 rw[e3,Int.natAbs_mul]at hk;have:1<=c.natAbs:=by omega
 exact qx (Nat.le_mul_of_pos_right _ this) hk
section
variable{e a w:Nat}{F G:Fm}
theorem FO.len(h:FO n e a w F)(n1:1<=n)(n3:n<=3)(w4:w<=cE n):F.p.length<=35:=by
 have:=ï h.nd (l₂:=lW n (cE n)) λx hx=>by
  have(t,ht,rfl):=À.mp hx;exact yV<|(h.ky t ht).up w4
 rw[List.length_map]at this;refine qx this ?_;rcases(by omega:n=1\/n=2\/n=3)with rfl|rfl|rfl<;>decide
theorem FO.ble(h:FO n e a w F)(a4:a<=6):F.b.natAbs<=2985984:=by
 have h1:=Int.le_of_dvd (by exact_mod_cast ó (by decide)) h.dv;have h2:(12:Nat)^a<=12^6:=Ç (by decide) a4;have h3:=h.b1;have:(12:Nat)^6=2985984:=by decide
 omega
theorem vJ{x y:Nat}(h:x < y):2^x < 2^y:=Nat.pow_lt_pow_right (by decide) h
theorem FO.fz(h:FO n e a w F)(n1:1<=n)(n3:n<=3)(w4:w<=cE n)(a4:a<=6)(he:e<=5000):FZ F :=
 ⟨h.nd,by have:=h.len n1 n3 w4; omega,h.b1,Ä (h.ble a4)<|qi (by decide:2985984 < 2^22)<|Ç (by decide) (by decide),
  λt ht=>Ä (Ru (h.bd t ht) h.b1 h.dv<|ó (by decide))<|vJ (by omega),h.r1⟩
theorem FO.up(h:FO n e a w F){e' w':Nat}(he:e<=e')(hw:w<=w'):FO n e' a w' F :=
 ⟨h.nd,λt ht=>(h.ky t ht).up hw,h.b1,h.dv,λt ht=>(h.bd t ht).le<|Ç (by decide) (by omega),h.nz,h.r1⟩
theorem Lw{p:Pq Int}{r:Int}(hb:b≠0)(h:Qa Int->Rat):bO (jX p b r) h=aM (bL b p) h:=by
 unfold jX bO;rw[<-Er (bL b p) h,show(bL b p).filter (λt=>decide<|t.2≠0)=bL b (p.filter λt=>!decide (t.2=0)) from RH hb p];split
 .rename_i z
  have e2:(p.filter λt=>!decide (t.2=0))=[]:=by simpa using z
  rw[e2];rfl
 .rfl
theorem Ku{p:Pq Int}{r:Int}(nd:aP p)(ky:∀ t∈p,Ks n w t.1)(b1:1<=b)(dv:b∣((12^a:Nat):Int))(bd:∀ t∈p,Bd (12^a) (2^(24 * a+e))<|Rat.divInt t.2 b)(r1:256<=r):FO n e a w (jX p b r):=by
 unfold jX;split
 .exact⟨ã,λt h=>(by cases h),by decide,⟨_,(Int.one_mul _).symm⟩,λt h=>(by cases h),λt h=>(by cases h),by decide⟩
 .refine⟨Mv nd _,λt h=>ky t (Ò.mp h).1,b1,dv,λt h=>bd t (Ò.mp h).1,λt h=>?_,r1⟩
  have:=(Ò.mp h).2;simpa using this
theorem Jx{c:Int}{p:Pq Int}(h:aP p):aP (bL c p):=by
 unfold aP bL;rw[List.map_map];exact h
theorem Lv{c:Int}(hc:c≠0)(acc ts:Pq Int):bL c (aR acc ts)=aR (bL c acc) (bL c ts):=KS (λk=>Rat.divInt k c) (Rat.zero_divInt c) (λa b=>by
 rw[Rat.divInt_add_divInt _ _ hc hc,<-Int.add_mul,Rat.divInt_mul_right hc]) ts acc
theorem wK{A X:Int}(hA:1<=A)(hX:1<=X):1<=X.fdiv (Int.gcd A X:Nat)/\X.fdiv (Int.gcd A X:Nat) * (Int.gcd A X:Nat)=X/\A.fdiv (Int.gcd A X:Nat) * (Int.gcd A X:Nat)=A/\(0:Int) < (Int.gcd A X:Nat):=by
 have g0:(0:Int) < (Int.gcd A X:Nat):=by exact_mod_cast Int.gcd_pos_of_ne_zero_left _ (by omega)
 rw[Int.fdiv_eq_ediv_of_nonneg _ (by omega),Int.fdiv_eq_ediv_of_nonneg _ (by omega)];refine⟨?_,Int.ediv_mul_cancel<|Int.gcd_dvd_right _ _,Int.ediv_mul_cancel<|Int.gcd_dvd_left _ _,g0⟩;exact Int.ediv_pos_of_pos_of_dvd (by omega) (by omega)<|Int.gcd_dvd_right _ _
theorem O8{p:Pq Int}{c:Int}(hb:b≠0)(hc:c≠0):bL (b * c) (cz p c)=bL b p:=by
 unfold bL cz;rw[List.map_map];refine Ã λt _=>?_;show(t.1,Rat.divInt (t.2 * c)<|b * c)=_;rw[Rat.divInt_mul_right hc]
theorem O7{p:Pq Int}{c d s:Int}{f:Rat}(h:∀ x:Int,Rat.divInt (x * s) (b * c)=f * Rat.divInt x d):bL (b * c) (cz p s)=(bL d p).map λt=>(t.1,f * t.2):=by
 unfold bL cz;rw[List.map_map,List.map_map];refine Ã λt _=>?_;show(t.1,Rat.divInt (t.2 * s)<|b * c)=(t.1,f * Rat.divInt t.2 d);rw[h]
theorem Lu(f:Rat)(p:Pq Rat)(h:Qa Int->Rat):aM (p.map λt=>(t.1,f * t.2)) h=f * aM p h:=by
 induction p with
 | nil=>rw[List.map_nil,fA,Rat.mul_zero]
 | cons t p ih=>
  rw[List.map_cons,zC,zC,ih];grind
theorem Jw{A d:Int}{f:Rat}(hA:1<=A)(hd:1<=d)(x:Int):
  Rat.divInt (x * (A.fdiv (Int.gcd A (d * f.den):Nat) * f.num)) (A * (d * f.den).fdiv (Int.gcd A (d * f.den):Nat))=f * Rat.divInt x d:=by
 have d1:=jY f;have X1:1<=d * (f.den:Int):=by have:=Ù (by omega:0 < d) (by omega:(0:Int) < f.den); omega
 have(h1,h2,h3,h4):=wK hA X1;generalize (d * (f.den:Int)).fdiv (Int.gcd A (d * f.den):Nat)=fi at *;generalize A.fdiv (Int.gcd A (d * f.den):Nat)=se at *;generalize ((Int.gcd A (d * f.den):Nat):Int)=g at *;have hf:f * (f.den:Rat)=(f.num:Rat):=Fu f;have q1:((A * fi:Int):Rat)≠0:=λz=>by
  have z:A * fi=0:=by exact_mod_cast z
  have:=Ù (by omega:0 < A) (by omega:0 < fi);omega
 have q2:(d:Rat)≠0:=λz=>by
  have z:d=0:=by exact_mod_cast z
  omega
 have q3:(g:Rat)≠0:=λz=>by
  have z:g=0:=by exact_mod_cast z
  omega
 have r2:(fi:Rat) * (g:Rat)=(d:Rat) * ((f.den:Int):Rat):=by rw[<-Rat.intCast_mul,<-Rat.intCast_mul,h2]
 have r3:(se:Rat) * (g:Rat)=(A:Rat):=by rw[<-Rat.intCast_mul,h3]
 have hf':f * ((f.den:Int):Rat)=(f.num:Rat):=hf;rw[Rat.divInt_eq_div,Rat.divInt_eq_div];rw[Rat.intCast_mul,Rat.intCast_mul];rw[Rat.intCast_mul]at q1 ⊢;grind
theorem U9(hF:FO n e a w F)(hG:1<=G.b){f:Rat}(h:Qa Int->Rat):bO (m8 F G f) h=bO F h+f * bO G h:=by
 have d1:=jY f;have X1:1<=G.b * (f.den:Int):=by have:=Ù (by omega:0 < G.b) (by omega:(0:Int) < f.den); omega
 have(h1,h2,h3,h4):=wK hF.b1 X1;have A1:=hF.b1;have c0:F.b * (G.b * (f.den:Int)).fdiv (Int.gcd F.b (G.b * f.den):Nat)≠0:=by
  have:=Ù (by omega:0 < F.b) (by omega:0 < (G.b * (f.den:Int)).fdiv (Int.gcd F.b (G.b * f.den):Nat));omega
 unfold m8;rw[Lw c0,Lv c0,A3 _ _<|Jx<|Aq hF.nd _,O8 (by omega) (by omega),O7<|Jw hF.b1 hG,Lu];rfl
theorem Rt{A X:Int}(hA:1<=A)(hX:1<=X)(h1:A∣(M:Int))(h2:X∣(M:Int)):A * X.fdiv (Int.gcd A X:Nat)∣(M:Int):=by
 have(f1,f2,f3,f4):=wK hA hX;have e:A * X.fdiv (Int.gcd A X:Nat)=(Int.lcm A X:Nat):=by
  have hg:=Int.gcd_mul_lcm A X;have Cq:((Int.gcd A X:Nat):Int) * ((Int.lcm A X:Nat):Int)=A * X:=by
   rw[<-Int.natCast_mul,hg];have:=Ù (by omega:0 < A) (by omega:0 < X)
   first|exact Int.natAbs_of_nonneg (Ö this) | (rw[<-Int.natAbs_mul]; exact Int.natAbs_of_nonneg<|Ö this)
  refine Int.eq_of_mul_eq_mul_left (a:=((Int.gcd A X:Nat):Int)) (by omega) ?_;rw[Cq,Int.mul_left_comm,Int.mul_comm _<|X.fdiv _,f2]
 rw[e];exact Int.natCast_dvd_natCast.mpr<|Int.lcm_dvd h1 h2
theorem Kt{c:Int}{p:Pq Int}{t:Qa Int×Int}(h:t∈p):(t.1,Rat.divInt t.2 c)∈bL c p:=À.mpr ⟨t,h,rfl⟩
theorem IL{A X:Int}(hF:FO n e (a+1) w F)(hG:FO n e a w G){f:Rat}(hf:f.den∣12):F.b * (G.b * (f.den:Int)).fdiv (Int.gcd F.b (G.b * f.den):Nat)∣((12^(a+1):Nat):Int):=by
 have d1:=jY f;have G1:=hG.b1;have X1:1<=G.b * (f.den:Int):=by have:=Ù (by omega:0 < G.b) (by omega:(0:Int) < f.den); omega
 refine Rt hF.b1 X1 hF.dv ?_;rw[Nat.pow_succ,Int.natCast_mul];exact Int.mul_dvd_mul hG.dv (by exact_mod_cast hf)
theorem Rr(n1:1<=n)(n3:n<=3)(w4:w<=cE n)(hF:FO n e (a+1) w F)(hG:FO n e a w G){f:Rat}(hf:Bd 12 (2^24) f):FO n (e+6) (a+1) w (m8 F G f):=by
 have d1:=jY f;have G1:=hG.b1;have A1:=hF.b1;have X1:1<=G.b * (f.den:Int):=by have:=Ù (by omega:0 < G.b) (by omega:(0:Int) < f.den); omega
 have(h1,h2,h3,h4):=wK hF.b1 X1;have c1:1<=F.b * (G.b * (f.den:Int)).fdiv (Int.gcd F.b (G.b * f.den):Nat):=by
  have:=Ù (by omega:0 < F.b) (by omega:0 < (G.b * (f.den:Int)).fdiv (Int.gcd F.b (G.b * f.den):Nat));omega
 unfold m8;refine Ku (pK _<|Aq hF.nd _) ?_ c1 (IL (A:=0) (X:=0) hF hG hf.dvd) ?_ (by have:=hF.r1; have:=hG.r1; split<;>omega)
 .refine Bq (Pk:=λk=>Ks n w k) _ (λt ht=>?_) (λt ht=>?_)
  .have(u,hu,rfl):=À.mp ht
   exact hF.ky u hu
  .have(u,hu,rfl):=À.mp ht
   exact hG.ky u hu
 .intro t ht
  have hm:=Kt (c:=F.b * (G.b * (f.den:Int)).fdiv (Int.gcd F.b (G.b * f.den):Nat)) ht;rw[Lv (by omega),O8 (by omega) (by omega),O7<|Jw hF.b1 hG.b1]at hm;have b1:PB (12^(a+1)) (2^(24 * (a+1)+e)) (bL F.b F.p):=λt ht=>by
   have(u,hu,rfl):=À.mp ht;exact hF.bd u hu
  have b2:PB (12^(a+1)) (2^(24 * (a+1)+e)) ((bL G.b G.p).map λt=>(t.1,f * t.2)):=λt ht=>by
   have(v,hv,rfl):=À.mp ht;have(u,hu,rfl):=À.mp hv;have:=hf.mul (hG.bd u hu);rw[Nat.mul_comm 12,<-Nat.pow_succ]at this;refine this.le ?_;rw[<-Nat.pow_add];exact Ç (by decide) (by omega)
  have:=uJ _ b1 b2 _ hm;refine this.le ?_;rw[List.length_map];unfold bL;rw[List.length_map];have l2:=hG.len n1 n3 w4;have e1:2^(24 * (a+1)+(e+6))=64 * 2^(24 * (a+1)+e):=by rw[show 24 * (a+1)+(e+6)=6+(24 * (a+1)+e) by omega,Nat.pow_add]
  rw[e1];have:=È (2^(24 * (a+1)+e)) l2;omega
def sh(n:Nat):Qb Nat->Qa Int->Qa Int
 | none,k=>k
 | some j,k=>bp k<|gT n j
def vj(n j:Nat):Fm:=⟨[(gT n j,1)],1,256⟩
def jj(n:Nat)(F:Fm):Qb Nat->Fm
 | none=>F
 | some j=>t8 F<|vj n j
theorem IK(p:Pq Int)(u:Qa Int):bC p [(u,1)]=p.map λt=>(bp t.1 u,t.2):=by
 unfold bC
 induction p with
 | nil=>rfl
 | cons t p ih=>
  rw[List.flatMap_cons,List.map_cons,ih];simp
theorem U8(b1:1<=F.b)(h:Qa Int->Rat):bO (t8 F<|vj n j) h=bO F λk=>h (bp k<|gT n j):=by
 unfold t8 vj;dsimp only;rw[Int.mul_one,Lw (by omega),IK,KQ (by omega),A3 _ _ B8,fA,Rat.zero_add];unfold bO bL aM;rw[List.map_map,List.map_map,List.map_map];rfl
theorem Rq(b1:1<=F.b)(l:Qb Nat)(h:Qa Int->Rat):bO (jj n F l) h=bO F λk=>h (sh n l k):=by
 cases l with
 | none=>rfl
 | some j=>exact U8 b1 h
theorem WG:(gT n j).sum=1:=by
 unfold gT;simp
theorem Kr(hj:j < n):Ks n 1 (gT n j):=⟨Ly hj,λk hk=>(WJ k hk).1,by rw[WG]; decide⟩
theorem zBK(n1:1<=n)(n3:n<=3)(w3:w+1<=cE n)(hF:FO n e a w F)(hl:∀ k,l=some k->k < n):FO n (e+6) a (w+1) (jj n F l):=by
 cases l with
 | none=>exact hF.up (by omega) (by omega)
 | some j=>
  have hj:=hl j rfl;unfold jj t8 vj;dsimp only;rw[Int.mul_one,IK];have F1:=hF.b1;refine Ku (pK _ ã) ?_ hF.b1 hF.dv ?_ (by have:=hF.r1; split<;>omega)
  .refine Bq (Pk:=λk=>Ks n (w+1) k) _ (λt ht=>by cases ht) (λt ht=>?_)
   have(u,hu,rfl):=À.mp ht;exact(hF.ky u hu).add<|Kr hj
  .intro t ht
   have hm:=Kt (c:=F.b) ht;rw[KQ (by omega)]at hm;have b2:PB (12^a) (2^(24 * a+e)) (bL F.b<|F.p.map λt=>(bp t.1<|gT n j,t.2)):=λt ht=>by
    have(v,hv,rfl):=À.mp ht;have(u,hu,rfl):=À.mp hv;exact hF.bd u hu
   have:=uJ _ (C:=0) GU b2 _ hm;refine this.le ?_;unfold bL;rw[List.length_map,List.length_map];have l2:=hF.len n1 n3 (by omega);have e1:2^(24 * a+(e+6))=64 * 2^(24 * a+e):=by rw[show 24 * a+(e+6)=6+(24 * a+e) by omega,Nat.pow_add]
   rw[e1];have:=È (2^(24 * a+e)) l2;omega
theorem zBL:FO n e a w ⟨[],1,256⟩:=⟨ã,λt h=>(by cases h),by decide,⟨_,(Int.one_mul _).symm⟩,λt h=>(by cases h),λt h=>(by cases h),by decide⟩
theorem Jv(h:Qa Int->Rat):bO ⟨[],1,256⟩ h=0:=rfl
theorem zCi:jX [(zs n,(0:Rat).num)] ((0:Rat).den:Int) 256=⟨[],1,256⟩:=rfl
theorem zCj:jX [(zs n,(1:Rat).num)] ((1:Rat).den:Int) 256=⟨[(zs n,1)],1,256⟩:=rfl
theorem P5:Rat.divInt 1 1=1:=by decide
theorem Ro:FO n 0 0 0 ⟨[(zs n,1)],1,256⟩:=by
 refine⟨DL,λt h=>?_,Ø 1,⟨_,(Int.one_mul _).symm⟩,λt h=>?_,λt h=>?_,Ø 256⟩
 .cases qp.mp h
  refine⟨Ex n,λk hk=>by rw[Ew k hk]; decide,?_⟩;unfold zs;simp
 .cases qp.mp h
  show Bd 1 1 (Rat.divInt 1 1);rw[P5];exact Bd.one
 .cases qp.mp h
  exact Int.one_ne_zero
theorem TB(h:Qa Int->Rat):bO ⟨[(zs n,1)],1,256⟩ h=h (zs n):=by
 have e:bL 1 [(zs n,1)]=[(zs n,(1:Rat))]:=by
  unfold bL;rw[List.map_cons,List.map_nil,P5]
 show aM (bL 1 [(zs n,1)]) h=_;rw[e,zC,fA];grind
end
end K46
open PySem L2
namespace K46
open PySem L2
section
variable{e a w:Nat}{F G:Fm}
theorem IJ:ui false (.d .none) (.d .none)=some (.d<|.bool true):=id rfl
theorem II{j:Int}:ui false (.d<|.int j) (.d .none)=some (.d<|.bool false):=id rfl
theorem Rn:FZ (vj n j):=⟨DL,by show(1:Nat) < 64; decide,Ø 1,by show(1:Nat) < 2^1000; exact Nat.one_lt_two_pow (by decide),λt ht=>by cases qp.mp ht; show(1:Nat) < 2^6000; exact Nat.one_lt_two_pow (by decide),Ø 256⟩
theorem zkK(n1:1<=n)(n3:n<=3)(w4:w<=cE n)(a4:a<=6)(he:e<=5000)(hF:FO n e a w F)(hl:∀ k,l=some k->k < n):
  wM [.d<|cF F,.d<|hV l,.d<|.int (n:Int)]=some (.d<|cF<|jj n F l,[.d<|cF F,.d<|hV l,.d<|.int (n:Int)]):=by
 refine zU ?_;cases l with
 | none=>
  simp![wM,Gc,hV,IJ];rfl
 | some j=>
  have hj:=hl j rfl;have t:=zjb (n:=n) (hF.fz n1 n3 w4 a4 he) (Rn (n:=n) (j:=j)) (λt ht=>(hF.ky t ht).ln) (λt ht=>by cases qp.mp ht; exact Ly hj) (by omega)
   (by show(F.b * 1).natAbs < _; rw[Int.mul_one]; exact Ä (hF.ble a4)<|qi (by decide:2985984 < 2^22)<|Ç (by decide) (by decide)) (by show F.p.length * 1 < 1000; have:=hF.len n1 n3 w4; omega)
  have l:=ziS hj n3;unfold vj at t;simp![wM,Gc,hV,l,t,II];rfl
end
def gS(A:Pq Fm)(φ:Qa Int->Qa Int->Rat):Rat:=(A.map λt=>bO t.2<|φ t.1).sum
def gf:Nat->Nat->Qa (Qa Int)
 | 0,0=>[[]]
 | 0,_+1=>[]
 | L+1,0=>gf L 0
 | L+1,k+1=>gf L (k+1)++(gf L k).map (·++[(L:Int)])
theorem Kq:∀ L∈List.range 7,∀ k∈List.range 8,(gf L k).length<=20/\∀ s∈gf L k,s.length=k:=by decide +kernel
theorem Tz:∀ L∈List.range 7,∀ k∈List.range 7,∀ s∈gf L k,∀ c∈List.range L,¬(c:Int)∈s->cJ (s++[(c:Int)])∈gf L (k+1):=by decide +kernel
theorem RS:∀ L∈List.range 7,[]∈gf L 0:=by decide +kernel
structure AO (L n e a:Nat) (A:Pq Fm):Prop where
 nd:aP A
 fo:∀ t∈A,FO n e a a t.2
 kl:∀ t∈A,t.1∈gf L a
def dI:Fm:=⟨[],1,256⟩
theorem bo(xs ys:Qa Rat):(xs++ys).sum=xs.sum+ys.sum:=by
 induction xs with
 | nil=>rw[List.nil_append,List.sum_nil,Rat.zero_add]
 | cons x xs ih=>rw[List.cons_append,List.sum_cons,List.sum_cons,ih,Rat.add_assoc]
theorem WE{A:Pq Fm}(nd:aP A){k:Qa Int}{F':Fm}{x:Rat}(h:bO F' (φ k)=bO ((look A k).getD dI) (φ k)+x):gS (bD A k F') φ=gS A φ+x:=by
 unfold bD;split
 .rename_i hk
  induction A with
  | nil=>simp at hk
  | cons t A ih=>
   have kA:aP A:=(Û.mp nd).2;have ni:t.1∉A.map (·.1):=(Û.mp nd).1
   by_cases e:t.1=k
   .have hl:look (t::A) k=some t.2:=by unfold look; rw[List.find?_cons,decide_eq_true e]; rfl
    rw[hl,Option.getD_some]at h;have e2:A.map (λt=>if t.1=k then(t.1,F')else t)=A:=by
     conv=>rhs; rw[<-List.map_id A]
     refine Ã λu hu=>?_;rw[if_neg λz=>ni (by rw[e,<-z]; exact À.mpr ⟨u,hu,rfl⟩)];rfl
    unfold gS;rw[List.map_cons,if_pos e,e2,List.map_cons,List.map_cons,List.sum_cons,List.sum_cons];dsimp only;rw[e,h];grind
   .have hl:look (t::A) k=look A k:=by unfold look; rw[List.find?_cons,decide_eq_false e]
    rw[hl]at h;rw[List.any_cons,decide_eq_false e,Bool.false_or]at hk;have:=ih kA h hk;unfold gS at this ⊢;rw[List.map_cons,if_neg e,List.map_cons,List.map_cons,List.sum_cons,List.sum_cons,this,Rat.add_assoc]
 .rename_i hk
  have hl:look A k=none:=sI.mpr (Bool.eq_false_iff.mpr hk);rw[hl,Option.getD_none,show dI=⟨[],1,256⟩ from rfl,Jv,Rat.zero_add]at h;unfold gS;rw[List.map_append,bo,List.map_cons,List.map_nil,List.sum_cons,List.sum_nil,h,Rat.add_zero]
theorem AO.get{L e a:Nat}{A:Pq Fm}(h:AO L n e a A)(k:Qa Int):FO n e a a ((look A k).getD dI):=by
 cases hl:look A k with
 | none=>exact zBL
 | some F=>exact h.fo _<|FJ hl
theorem AO.put{L e e' a:Nat}{A:Pq Fm}(h:AO L n e a A)(he:e<=e'){k:Qa Int}{F:Fm}(hF:FO n e' a a F)(hk:k∈gf L a):AO L n e' a (bD A k F):=by
 refine⟨h.nd.put k F,λt ht=>?_,λt ht=>?_⟩
 .rcases A4 ht with⟨h1,_⟩|rfl
  .exact(h.fo t h1).up he (qe _)
  .exact hF
 .rcases A4 ht with⟨h1,_⟩|rfl
  .exact h.kl t h1
  .exact hk
theorem Ls:∀ (ks:Qa Int),(ks.map PyData.int).mapM tW=some (ks.map V.int)
 | []=>rfl
 | z::zs=>by
  rw[List.map_cons,List.mapM_cons,Ls zs];rfl
theorem Ko{c:Int}:∀ {ks:Qa Int},xF (.int c) (ks.map V.int)=decide (c∈ks)
 | []=>rfl
 | k::ks=>by
  have ih:=Ko (c:=c) (ks:=ks);unfold xF at ih ⊢;rw[List.map_cons,List.any_cons,ih];have e:oV (.int k) (.int c)=decide (k=c):=by
   show(k==c)=_
   by_cases h:k=c<;>simp[h]
  rw[e]
  by_cases h:k=c
  .simp[h]
  .simp[h,Ne.symm h]
theorem Hf{neg:Bool}{c:Int}:lL neg (.d<|.int c) (.d<|aO ks)=some (.d<|.bool (if neg=true then !decide (c∈ks)else decide (c∈ks))):=by
 unfold lL;show((rC (.int c)<|ks.map PyData.int).bind _)=_;unfold rC;rw[Ls,show tW (.int c)=some (V.int c) from rfl,bd,bd,Ko,bd]
theorem OL(b:Rat):CP true [0,1] (.d<|fR b)=some (.d<|.bool (!decide (b=0))):=EZ (a:=b) (b:=0) (neg:=true)
theorem RQ(f:Rat):PyData.tuple [.int (-f.num),.int (f.den:Int)]=fR (-f):=by
 unfold fR;rw[Rat.neg_num,Rat.neg_den]
end K46
open PySem L2
namespace K46
open PySem L2
def odd(tk:Qa Int)(c:Int):Bool:=decide ((tk.filter λx=>decide<|x > c).length % 2=1)
def sg(tk:Qa Int)(c:Int):Rat:=if odd tk c=true then -1 else 1
def tm(n:Nat)(φ:Qa Int->Qa Int->Rat)(tk:Qa Int)(row:Qa Et)(c:Nat)(k:Qa Int):Rat :=
 if(c:Int)∈tk then 0 else sg tk c * (row.getD c (0,none)).1 * φ (cJ<|tk++[(c:Int)]) (sh n (row.getD c (0,none)).2 k)
def pC(n:Nat)(row:Qa Et)(φ:Qa Int->Qa Int->Rat)(tk k:Qa Int):Rat:=((List.range row.length).map λc=>tm n φ tk row c k).sum
def nO(n:Nat):Qa (Qa Et)->(Qa Int->Qa Int->Rat)->Qa Int->Qa Int->Rat
 | [],φ=>φ
 | r::rs,φ=>pC n r<|nO n rs φ
theorem MU(n:Nat)(rs:Qa (Qa Et))(r:Qa Et)(φ:Qa Int->Qa Int->Rat):nO n (rs++[r]) φ=nO n rs (pC n r φ):=by
 induction rs with
 | nil=>rfl
 | cons s rs ih=>
  show pC n s (nO n (rs++[r]) φ)=_;rw[ih];rfl
theorem WD(p:Pq Rat)(g h:Qa Int->Rat):aM p (λk=>g k+h k)=aM p g+aM p h:=by
 induction p with
 | nil=>rw[fA,fA,fA,Rat.add_zero]
 | cons t p ih=>
  rw[zC,zC,zC,ih];grind
theorem Ba(p:Pq Rat):aM p (λ_=>0)=0:=by
 induction p with
 | nil=>rfl
 | cons t p ih=>
  rw[zC,ih,Rat.mul_zero,Rat.add_zero]
theorem WC(F:Fm)(l:Qa α)(g:α->Qa Int->Rat):bO F (λk=>(l.map λc=>g c k).sum)=(l.map λc=>bO F<|g c).sum:=by
 unfold bO
 induction l with
 | nil=>exact Ba _
 | cons c l ih=>
  simp only[List.map_cons,List.sum_cons];rw[WD,ih]
theorem WB{row:Qa Et}(A:Pq Fm):gS A (pC n row φ)=(A.map λt=>((List.range row.length).map λc=>bO t.2 λk=>tm n φ t.1 row c k).sum).sum:=by
 unfold gS;congr 1;refine Ã λt _=>?_;exact WC t.2 _ _
theorem Kn{F:Fm}{tk:Qa Int}{row:Qa Et}(h:¬(c:Int)∈tk):(bO F λk=>tm n φ tk row c k)=(sg tk c * (row.getD c (0,none)).1) * bO F λk=>φ (cJ<|tk++[(c:Int)]) (sh n (row.getD c (0,none)).2 k):=by
 unfold bO;rw[<-Yw];congr 1
 funext k
 unfold tm;rw[if_neg h]
theorem WA{F:Fm}{tk:Qa Int}{row:Qa Et}(h:(c:Int)∈tk):(bO F λk=>tm n φ tk row c k)=0:=by
 unfold bO;rw[<-Ba (bL F.b F.p)];congr 1
 funext k
 unfold tm;rw[if_pos h]
def EE(k:Nat):Nat:=732 * k
theorem AO.len{L e a:Nat}{A:Pq Fm}(h:AO L n e a A)(hL:L<=6)(ha:a<=6):A.length<=20:=by
 have:=ï h.nd (l₂:=gf L a) λx hx=>by
  have(t,ht,rfl):=À.mp hx;exact h.kl t ht
 rw[List.length_map]at this;exact qx this (Kq L (Á.mpr (by omega)) a<|Á.mpr (by omega)).1
structure TO (n:Nat) (t:Qa (Qa Et)):Prop where
 l1:1<=t.length
 l4:t.length<=cE n
 sq:∀ r∈t,r.length=t.length
 en:∀ r∈t,∀ e∈r,EO n e
def lh(ns:Qa Str)(t:Qa (Qa Et)):D:=.tuple [.tuple<|ns.map .str,.tuple<|t.map cc]
theorem Ym{A:Pq Fm}(nd:aP A){k:Qa Int}{h:Qa Int->Rat}:gS A (λK=>if K=k then h else λ_=>0)=bO ((look A k).getD dI) h:=by
 induction A with
 | nil=>rfl
 | cons t A ih=>
  have kA:aP A:=(Û.mp nd).2;have ni:t.1∉A.map (·.1):=(Û.mp nd).1;have z:∀ F:Fm,(bO F λ_=>0)=0:=λF=>Ba _;have st:gS (t::A) (λK=>if K=k then h else λ_=>0)=bO t.2 (if t.1=k then h else λ_=>0)+gS A (λK=>if K=k then h else λ_=>0):=rfl;rw[st,ih kA]
  by_cases e:t.1=k
  .have hl:look (t::A) k=some t.2:=by unfold look; rw[List.find?_cons,decide_eq_true e]; rfl
   have hn:look A k=none:=sI.mpr (Bool.eq_false_iff.mpr λhh=>by
    have(u,hu,eu):=ì.mp hh;exact ni (by rw[e,<-of_decide_eq_true eu]; exact À.mpr ⟨u,hu,rfl⟩))
   rw[hl,hn,if_pos e,Option.getD_some,Option.getD_none,show dI=⟨[],1,256⟩ from rfl,Jv,Rat.add_zero]
  .have hl:look (t::A) k=look A k:=by unfold look; rw[List.find?_cons,decide_eq_false e]
   rw[hl,if_neg e,z,Rat.zero_add]
theorem Wz{ns:Qa Str}{t:Qa (Qa Et)}{Q:U×Qa U->Prop}(n1:1<=ns.length)(n3:ns.length<=3)(hT:TO ns.length t)
  (k:∀ F e a w,FO ns.length e a w F->a<=cE ns.length->w<=cE ns.length->e<=5000->(∀ h,bO F h=nO ns.length t (λK=>if K=(List.range t.length).map (λi:Nat=>(i:Int))then h else λ_=>0) [] (zs ns.length))->Q (yW<|gF<|bL F.b F.p,[.d<|lh ns t])):Wo (BA [.d<|lh ns t]) Q:=by
 have G4:=Nx (n:=ns.length) (f:=0) n3 (by decide) (by decide);have Pd:=Nx (n:=ns.length) (f:=1) n3 (by decide) (by decide);rw[zCi]at G4;rw[zCj]at Pd;unfold lh;have k0:PyData.tuple []=aO []:=rfl;have no_:(⟨[],1,256⟩:Fm)=dI:=rfl;have t4:=hT.l4;have(d4,d6):=mU (n:=ns.length);rw[no_]at G4;simp![BA,M7,fR0,PY,G4,Pd,k0];rw[show [(([]:Qa Key),cF ⟨[(zs ns.length,1)],1,256⟩)]=aJ cF [([],⟨[(zs ns.length,1)],1,256⟩)] from rfl];refine kr (λbs cs ρ=>∃ (u5:U) (A:Pq Fm) (v6 v7 v8 v9 v10 v11 hJ hE g9 g8:Qb U),ρ=[some<|U.d<|PyData.tuple [PyData.tuple<|List.map PyData.str ns,PyData.tuple<|List.map cc t],some<|U.d<|PyData.tuple<|List.map PyData.str ns,some<|U.d<|PyData.tuple<|List.map cc t,some<|U.d<|PyData.int (ns.length:Int),some<|U.d<|cF dI,some u5,v6,v7,v8,v9,v10,v11,hJ,hE,g9,g8]/\(u5=.t (aJ cF A)\/u5=.d (.dict<|aU cF A))/\AO t.length ns.length (EE bs.length) bs.length A/\∀ φ,gS A φ=nO ns.length bs φ [] (zs ns.length)) ⟨_,[([],⟨[(zs ns.length,1)],1,256⟩)],_,_,_,_,_,_,_,_,_,_,rfl,.inl rfl,?_,λφ=>?_⟩ ?_ ?_
 .refine⟨by unfold aP; simp,λs hs=>?_,λs hs=>?_⟩
  .cases qp.mp hs
   exact Ro
  .cases qp.mp hs
   exact RS _<|Á.mpr (by omega)
 .unfold gS
  rw[List.map_cons,List.map_nil,List.sum_cons,List.sum_nil,TB,Rat.add_zero];rfl
 .rintro bs r cs _ e ⟨u5,A,v6,v7,v8,v9,v10,v11,hJ,hE,g9,g8,rfl,hu,hA,Hi⟩
  have hr:r∈t:=by rw[e]; simp
  have lr:=hT.sq r hr;have lb:bs.length+cs.length+1=t.length:=by rw[e,qr,qt]; omega
  have b3:bs.length<=5:=by omega
  have ee:EE bs.length=732 * bs.length:=rfl;have hz:u5.fz=some (.dict<|aU cF A):=by
   rcases hu with rfl|rfl
   .exact nY
   .rfl
  have hA4:=hA.len (by omega) (by omega);have tA:t.length * A.length<=120:=ù (by omega:t.length<=6) hA4;have fz5:∀ ρ:En,(cD<|zi 5) ρ=(cD<|zi 5) ρ:=λ_=>rfl;simp![hz];rw[rW A];refine kr (λds es ρ=>∃ (B:Pq Fm) (v8 v9 v10 v11 hJ hE g9 g8:Qb U),ρ=[some<|U.d<|PyData.tuple [PyData.tuple<|List.map PyData.str ns,PyData.tuple<|List.map cc t],some<|U.d<|PyData.tuple<|List.map PyData.str ns,some<|U.d<|PyData.tuple<|List.map cc t,some<|U.d<|PyData.int (ns.length:Int),some<|U.d<|cF dI,some<|U.d<|PyData.dict<|aU cF A,some<|U.d<|cc r,some<|U.t<|aJ cF B,v8,v9,v10,v11,hJ,hE,g9,g8]/\AO t.length ns.length (EE bs.length+6+6 * (t.length * ds.length)) (bs.length+1) B/\B.length<=t.length * ds.length/\∀ φ,gS B φ=(ds.map λs=>((List.range r.length).map λc=>bO s.2 λk=>tm ns.length φ s.1 r c k).sum).sum) ⟨[],_,_,_,_,_,_,_,_,rfl,⟨ã,λs hs=>(by cases hs),λs hs=>(by cases hs)⟩,É _,λφ=>rfl⟩ ?_ ?_
  .rintro ds s es _ e2 ⟨B,v8,v9,v10,v11,hJ,hE,g9,g8,rfl,hB,vz,fX⟩
   have hs:s∈A:=by rw[e2]; simp
   have la:ds.length+es.length+1=A.length:=by rw[e2,qr,qt]; omega
   have hF:=hA.fo s hs;have ks:=hA.kl s hs;have kl:=(Kq _ (Á.mpr (by omega)) _<|Á.mpr (by omega)).2 _ ks;have er:cc r=.tuple (r.map cQ):=rfl;simp![er];rw[<-er];refine mG (λi ρ=>∃ (B:Pq Fm) (v10 v11 hJ hE g9 g8:Qb U),ρ=[some<|U.d<|PyData.tuple [PyData.tuple<|List.map PyData.str ns,PyData.tuple<|List.map cc t],some<|U.d<|PyData.tuple<|List.map PyData.str ns,some<|U.d<|PyData.tuple<|List.map cc t,some<|U.d<|PyData.int (ns.length:Int),some<|U.d<|cF dI,some<|U.d<|PyData.dict<|aU cF A,some<|U.d<|cc r,some<|U.t<|aJ cF B,some<|U.d<|aO s.1,some<|U.d<|cF s.2,v10,v11,hJ,hE,g9,g8]/\AO t.length ns.length (EE bs.length+6+6 * (t.length * ds.length+i)) (bs.length+1) B/\B.length<=t.length * ds.length+i/\∀ φ,gS B φ=(ds.map λs=>((List.range r.length).map λc=>bO s.2 λk=>tm ns.length φ s.1 r c k).sum).sum+((List.range i).map λc=>bO s.2 λk=>tm ns.length φ s.1 r c k).sum) ⟨B,_,_,_,_,_,_,rfl,hB,vz,λφ=>by rw[fX,List.range_zero,List.map_nil,List.sum_nil,Rat.add_zero]⟩ ?_ ?_
   .rintro i d _ hd ⟨B,v10,v11,hJ,hE,g9,g8,rfl,hB,vz,fX⟩
    have(x,hx,rfl):=wW hd;rw[List.getElem?_map]at hx;have(en,qQ,rfl):=qq.mp hx;have(f,l):=en;have oP:=hT.en r hr (f,l) (Æ qQ);have il:i < r.length:=(qk.mp qQ).1;have ge:r.getD i (0,none)=(f,l):=by rw[qA,qQ]; rfl
    rw[Nat.zero_add];have ed:cQ (f,l)=.tuple [fR f,hV l]:=rfl;have eb0:t.length * (ds.length+1)<=t.length * A.length:=Nat.mul_le_mul_left _ (by omega);rw[Nat.mul_add,Nat.mul_one]at eb0;have eb:EE bs.length+6+6 * (t.length * ds.length+i)<=5000:=by omega
    have O6:∀ φ,((List.range<|i+1).map λc=>bO s.2 λk=>tm ns.length φ s.1 r c k).sum=((List.range i).map λc=>bO s.2 λk=>tm ns.length φ s.1 r c k).sum+bO s.2 λk=>tm ns.length φ s.1 r i k:=λφ=>by
     rw[List.range_succ,List.map_append,bo,List.map_cons,List.map_nil,List.sum_cons,List.sum_nil,Rat.add_zero]
    have cK:∀ {v10 v11 hJ hE g9 g8:Qb U},(∀ φ,(bO s.2 λk=>tm ns.length φ s.1 r i k)=0)->∃ (B1:Pq Fm) (xa GB GA Gz Gy Gx:Qb U),[some<|U.d<|PyData.tuple [PyData.tuple<|List.map PyData.str ns,PyData.tuple<|List.map cc t],some<|U.d<|PyData.tuple<|List.map PyData.str ns,some<|U.d<|PyData.tuple<|List.map cc t,some<|U.d<|PyData.int (ns.length:Int),some<|U.d<|cF dI,some<|U.d<|PyData.dict<|aU cF A,some<|U.d<|cc r,some<|U.t<|aJ cF B,some<|U.d<|aO s.1,some<|U.d<|cF s.2,v10,v11,hJ,hE,g9,g8]=[some<|U.d<|PyData.tuple [PyData.tuple<|List.map PyData.str ns,PyData.tuple<|List.map cc t],some<|U.d<|PyData.tuple<|List.map PyData.str ns,some<|U.d<|PyData.tuple<|List.map cc t,some<|U.d<|PyData.int (ns.length:Int),some<|U.d<|cF dI,some<|U.d<|PyData.dict<|aU cF A,some<|U.d<|cc r,some<|U.t<|aJ cF B1,some<|U.d<|aO s.1,some<|U.d<|cF s.2,xa,GB,GA,Gz,Gy,Gx]/\AO t.length ns.length (EE bs.length+6+6 * (t.length * ds.length+(i+1))) (bs.length+1) B1/\B1.length<=t.length * ds.length+(i+1)/\∀ φ,gS B1 φ=(ds.map λs=>((List.range r.length).map λc=>bO s.2 λk=>tm ns.length φ s.1 r c k).sum).sum+((List.range<|i+1).map λc=>bO s.2 λk=>tm ns.length φ s.1 r c k).sum:=λh0=>⟨B,_,_,_,_,_,_,rfl,⟨hB.nd,λt ht=>(hB.fo t ht).up (by omega)<|qe _,hB.kl⟩,by omega,λφ=>by rw[fX,O6,h0,Rat.add_zero]⟩
    by_cases hm:(i:Int)∈s.1
    .simp![ed,Hf,hm,if_true]
     exact cK λφ=>WA hm
    .by_cases hf:f=0
     .simp![ed,Hf,hm,OL,decide_eq_true hf,if_true]
      refine cK λφ=>?_;rw[Kn hm,ge,hf,Rat.mul_zero,Rat.zero_mul]
     .have dt:kI (.d<|aO s.1)=some (s.1.map PyData.int):=rfl
      simp![ed,Hf,hm,OL,decide_eq_false hf,if_true,dt];refine Es (g:=PyData.int) (b:=λx=>decide<|x > (i:Int)) (e:=PyData.int) (as:=s.1) (by rw[kl]; show _<=16777216; omega) (λx hx ys=>?_) ?_
      .by_cases Pt:x > (i:Int)
       .simp![Pt]
       .simp![Pt]
      .have lf:=ö (λx=>decide<|x > (i:Int)) s.1
       have hK:(cJ<|s.1++[(i:Int)]).length=bs.length+1:=by rw[(F5 _).length_eq,qr,kl]; rfl
       have hM:=Tz _ (Á.mpr (by omega)) _ (Á.mpr (by omega)) _ ks i (Á.mpr (by omega)) hm;have c1:=De (a:=s.1) (b:=[(i:Int)]) (by rw[kl]; show bs.length+1<=1000; omega);have c2:=MR (ks:=s.1++[(i:Int)]) (by rw[qr,kl]; show bs.length+1 < 64; omega);have c3:=Ma (ks:=cJ (s.1++[(i:Int)])) (by rw[hK]; omega);have bl:=zkK n1 n3 (by omega) (by omega) (by omega:EE bs.length<=5000) hF oP.lt;have hFO:=zBK n1 n3 (by omega) hF oP.lt;have sz:2^22<=2^256:=Ç (by decide) (by decide);have main:∀ g:Rat,Bd 12 12000000 g->g=sg s.1 i * f->wN [.d<|cF<|(look B<|cJ<|s.1++[(i:Int)]).getD dI,.d<|cF<|jj ns.length s.2 l,.d<|fR g]=some (.d<|cF<|m8 ((look B<|cJ<|s.1++[(i:Int)]).getD dI) (jj ns.length s.2 l) g,[.d<|cF<|(look B<|cJ<|s.1++[(i:Int)]).getD dI,.d<|cF<|jj ns.length s.2 l,.d<|fR g])/\
         ∀ {v10 v11 hJ hE g9 g8:Qb U},∃ (B1:Pq Fm) (xa GB GA Gz Gy Gx:Qb U),[some<|U.d<|PyData.tuple [PyData.tuple<|List.map PyData.str ns,PyData.tuple<|List.map cc t],some<|U.d<|PyData.tuple<|List.map PyData.str ns,some<|U.d<|PyData.tuple<|List.map cc t,some<|U.d<|PyData.int (ns.length:Int),some<|U.d<|cF dI,some<|U.d<|PyData.dict<|aU cF A,some<|U.d<|cc r,some<|U.t<|aJ cF<|bD B (cJ<|s.1++[(i:Int)])<|m8 ((look B<|cJ<|s.1++[(i:Int)]).getD dI) (jj ns.length s.2 l) g,some<|U.d<|aO s.1,some<|U.d<|cF s.2,v10,v11,hJ,hE,g9,g8]=[some<|U.d<|PyData.tuple [PyData.tuple<|List.map PyData.str ns,PyData.tuple<|List.map cc t],some<|U.d<|PyData.tuple<|List.map PyData.str ns,some<|U.d<|PyData.tuple<|List.map cc t,some<|U.d<|PyData.int (ns.length:Int),some<|U.d<|cF dI,some<|U.d<|PyData.dict<|aU cF A,some<|U.d<|cc r,some<|U.t<|aJ cF B1,some<|U.d<|aO s.1,some<|U.d<|cF s.2,xa,GB,GA,Gz,Gy,Gx]/\AO t.length ns.length (EE bs.length+6+6 * (t.length * ds.length+(i+1))) (bs.length+1) B1/\B1.length<=t.length * ds.length+(i+1)/\∀ φ,gS B1 φ=(ds.map λs=>((List.range r.length).map λc=>bO s.2 λk=>tm ns.length φ s.1 r c k).sum).sum+((List.range<|i+1).map λc=>bO s.2 λk=>tm ns.length φ s.1 r c k).sum:=λg hg eg=>by
        have hg2:Bd 12 (2^24) g:=hg.le (by decide);have one:=hB.get (cJ<|s.1++[(i:Int)]);have sW:FO ns.length (EE bs.length+6+6 * (t.length * ds.length+i)) bs.length (bs.length+1) (jj ns.length s.2 l):=hFO.up (by omega) (qe _);have(gd,gn):=hg.size (by decide);have sb:=IL (A:=0) (X:=0) one sW hg.dvd;have sb2:=Int.le_of_dvd (by exact_mod_cast ó (by decide)) sb;have p4:(12:Nat)^(bs.length+1)<=12^6:=Ç (by decide) (by omega);have p5:(12:Nat)^6=2985984:=by decide
        have p6:2985984 < 2^22:=by decide
        have sF:=Rr n1 n3 (by omega) one sW hg2;have b0:=wK one.b1 (by have:=jY g; have:=Ù (by have:=sW.b1; omega:0 < (jj ns.length s.2 l).b) (by omega:(0:Int) < g.den); omega:1<=(jj ns.length s.2 l).b * (g.den:Int));have b00:=Ù (by have:=one.b1; omega:0 < ((look B<|cJ<|s.1++[(i:Int)]).getD dI).b) (by have:=b0.1; omega:0 < ((jj ns.length s.2 l).b * (g.den:Int)).fdiv (Int.gcd ((look B<|cJ<|s.1++[(i:Int)]).getD dI).b ((jj ns.length s.2 l).b * (g.den:Int)):Nat));refine⟨zme (one.fz n1 n3 (by omega) (by omega) (by omega)) (sW.fz n1 n3 (by omega) (by omega) (by omega)) (Ä gn<|qi (by decide:12000000 < 2^24)<|Ç (by decide) (by decide)) (Ä gd<|qi (by decide:12 < 2^4)<|Ç (by decide) (by decide)) (by omega),?_⟩;intro v10 v11 hJ hE g9 g8;refine⟨_,_,_,_,_,_,_,rfl,hB.put (by omega) (sF.up (by omega)<|qe _) hM,?_,λφ=>?_⟩
        .have:=E5 B (cJ<|s.1++[(i:Int)]) (m8 ((look B<|cJ<|s.1++[(i:Int)]).getD dI) (jj ns.length s.2 l) g)
         omega
        .rw[WE hB.nd<|U9 one sW.b1 _,fX,O6,Kn hm,ge,Rq<|hF.b1,<-eg,Rat.add_assoc]
       have lk:((look B<|cJ<|s.1++[(i:Int)]).map cF).getD (cF dI)=cF ((look B<|cJ<|s.1++[(i:Int)]).getD dI):=by cases look B (cJ<|s.1++[(i:Int)])<;>rfl
       have pu:∀ X:Fm,pD (.t<|aJ cF B) (aO<|cJ<|s.1++[(i:Int)]) (cF X)=some (.t<|aJ cF<|bD B (cJ<|s.1++[(i:Int)]) X):=λX=>pA (c:=cF) (by omega);simp![Ai];refine nN (λho=>?_) λho=>?_
       .have ff:odd s.1 i=true:=by
         unfold odd;rw[decide_eq_true_iff];simp only[bne_iff_ne,ne_eq]at ho;omega
        have(m1,m2):=main (-f) oP.bd.neg (by unfold sg; rw[if_pos ff]; grind);simp![Ai,c1,c2,c3,lk,bl,RQ,m1,pu];exact m2
       .have ff:¬odd s.1 i=true:=by
         unfold odd;rw[decide_eq_true_iff];simp only[bne_iff_ne,ne_eq,Decidable.not_not]at ho;omega
        have(m1,m2):=main f oP.bd (by unfold sg; rw[if_neg ff]; grind);simp![Ai,c1,c2,c3,lk,bl,m1,pu];exact m2
   .rintro _ ⟨B,v10,v11,hJ,hE,g9,g8,rfl,hB,vz,fX⟩
    rw[wU,List.length_map,lr]at hB vz fX;simp!;refine⟨B,_,_,_,_,_,_,_,_,rfl,?_,?_,λφ=>?_⟩
    .rw[Nat.mul_add,Nat.mul_one]
     exact hB
    .rw[Nat.mul_add,Nat.mul_one]
     exact vz
    .rw[fX,List.map_append,bo,List.map_cons,List.map_nil,List.sum_cons,List.sum_nil,Rat.add_zero,lr]
  .rintro _ ⟨B,v8,v9,v10,v11,hJ,hE,g9,g8,rfl,hB,vz,fX⟩
   simp!;refine⟨_,B,_,_,_,_,_,_,_,_,_,_,rfl,.inr rfl,?_,λφ=>?_⟩
   .refine⟨hB.nd,λt ht=>(hB.fo t ht).up ?_<|qe _,hB.kl⟩
    show _<=732 * (bs.length+1);omega
   .rw[fX,<-WB,Hi,MU]
 .rintro _ ⟨u5,A,v6,v7,v8,v9,v10,v11,hJ,hE,g9,g8,rfl,hu,hA,Hi⟩
  have ee:EE t.length=732 * t.length:=rfl;have hF:=hA.get ((List.range t.length).map λi:Nat=>(i:Int));have hl:∀ h:Qa Int->Rat,bO ((look A ((List.range t.length).map λi:Nat=>(i:Int))).getD dI) h=nO ns.length t (λK=>if K=(List.range t.length).map (λi:Nat=>(i:Int))then h else λ_=>0) [] (zs ns.length):=λh=>by
   rw[<-Hi,Ym hA.nd]
  have lk:((look A ((List.range t.length).map λi:Nat=>(i:Int))).map cF).getD (cF dI)=cF ((look A ((List.range t.length).map λi:Nat=>(i:Int))).getD dI):=by cases look A ((List.range t.length).map λi:Nat=>(i:Int))<;>rfl
  have fo:=zkJ (hF.fz n1 n3 t4 (by omega) (by omega));have tr:=L0 (j:=(t.length:Int)) (by omega) (by omega);rw[Int.toNat_natCast]at tr;have fin:=k _ _ _ _ hF t4 t4 (by omega) hl;rcases hu with rfl|rfl
  .simp![tr,lk,fo]
   exact fin
  .simp![tr,lk,fo]
   exact fin
end K46
open PySem L2
namespace K46
open PySem L2
abbrev Wy:=(Nat×Nat)×Et
def i3(w:Wy):D:=.tuple [.int (w.1.1:Int),.int (w.1.2:Int),cQ w.2]
def k7(ns:Qa Str)(m:Nat)(A:Qa Wy):D:=.tuple [.tuple<|ns.map .str,.int ((m+1:Nat):Int),.tuple<|A.map i3]
def Lx(u v:Wy):Prop:=u.1.1 < v.1.1\/(u.1.1=v.1.1/\u.1.2 < v.1.2)
structure Wv (n m c b e:Nat) (A:Qa Wy):Prop where
 en:∀ w∈A,EO n w.2/\w.2.1≠0
 lt:∀ w∈A,w.1.1 < w.1.2/\w.1.2<=m
 up:A.Pairwise Lx
 la:∀ w∈A,w.1.1 < b\/(w.1.1=b/\w.1.2 < e)
 ln:A.length<=c
theorem Wv.le{b e c' b' e':Nat}{A:Qa Wy}(h:Wv n m c b e A)(hc:c<=c')(hb:b < b'\/(b=b'/\e<=e')):Wv n m c' b' e' A :=
 ⟨h.en,h.lt,h.up,λw hw=>by have:=h.la w hw; omega,by have:=h.ln; omega⟩
theorem Wv.add{b e:Nat}{A:Qa Wy}{x:Et}(h:Wv n m c b e A)(hb:b < e)(he:e<=m)(hx:EO n x)(h0:x.1≠0):Wv n m (c+1) b (e+1) (A++[((b,e),x)]):=by
 have ln:=h.ln;refine⟨λw hw=>?_,λw hw=>?_,List.pairwise_append.mpr ⟨h.up,List.pairwise_singleton _ _,λu hu v hv=>?_⟩,λw hw=>?_,by rw[qr,List.length_singleton]; omega⟩
 .rcases Ì.mp hw with hw|hw
  .exact h.en w hw
  .cases qp.mp hw
   exact⟨hx,h0⟩
 .rcases Ì.mp hw with hw|hw
  .exact h.lt w hw
  .cases qp.mp hw
   exact⟨hb,he⟩
 .cases qp.mp hv
  exact h.la u hu
 .rcases Ì.mp hw with hw|hw
  .have:=h.la w hw
   omega
  .cases qp.mp hw
   exact .inr ⟨rfl,Õ _⟩
theorem IH{x:Int}{ns:Qa Str}{most:Nat}{Q:U×Qa U->Prop}(n1:1<=ns.length)(n3:ns.length<=3)(m2:5<=most)(mm:most<=cE ns.length+1)
  (k:∀ (m:Nat) (A:Qa Wy) x' y',1<=m->m<=cE ns.length->Wv ns.length m 50 m 0 A->Q (.d<|k7 ns m A,[bx x' y',.d<|.tuple<|ns.map .str,.d<|.int (most:Int)])):Wo (wV [bx x y,.d<|.tuple<|ns.map .str,.d<|.int (most:Int)]) Q:=by
 have(d4,d6):=mU (n:=ns.length);simp![wV,Nn];refine fB (by omega) (by omega) λr1 x1 y1 a1 b1=>?_;simp!;refine fB (by decide) (by decide) λr2 x2 y2 a2 b2=>?_;obtain⟨m,rfl⟩:∃ m:Nat,r1=(m:Int):=⟨r1.toNat,by omega⟩;simp!;refine DO (λi ρ=>∃ (x y:Int) (v6 v7 v8:Qb U) (A:Qa Wy),ρ=[some<|bx x y,some<|.d<|.tuple<|ns.map .str,some<|.d<|.int (most:Int),some<|.d<|.int<|2+(m:Int),some<|.d<|.int r2,some<|.l<|A.map i3,v6,v7,v8]/\Wv ns.length (m+1) (7 * i) i 0 A) ⟨_,_,_,_,_,[],rfl,(λw hw=>by cases hw),(λw hw=>by cases hw),.nil,(λw hw=>by cases hw),É _⟩ ?_ ?_
 .rintro i _ hi ⟨x,y,v6,v7,v8,A,rfl,hv⟩
  have ec:(0:Int)+(i:Nat)=(i:Int):=by omega
  rw[ec];simp!;refine mG (λj ρ=>∃ (x y:Int) (v7 v8:Qb U) (A:Qa Wy),ρ=[some<|bx x y,some<|.d<|.tuple<|ns.map .str,some<|.d<|.int (most:Int),some<|.d<|.int<|2+(m:Int),some<|.d<|.int r2,some<|.l<|A.map i3,some<|.d<|.int (i:Int),v7,v8]/\Wv ns.length (m+1) (7 * i+j) i (i+1+j) A) ?_ ?_ ?_
  .exact⟨_,_,_,_,_,rfl,hv.le (by omega)<|.inr ⟨rfl,by omega⟩⟩
  .rintro j d _ hd ⟨x,y,v7,v8,A,rfl,hv⟩
   have(hj,rfl):=vX hd;have lJ:∀ {x' y':Int} {A':Qa Wy} {v8:Qb U},Wv ns.length (m+1) (7 * i+(j+1)) i (i+1+(j+1)) A'->∃ (x y:Int) (v7 v8':Qb U) (A:Qa Wy),[some<|bx x' y',some<|.d<|.tuple<|ns.map .str,some<|.d<|.int (most:Int),some<|.d<|.int<|2+(m:Int),some<|.d<|.int r2,some<|.l<|A'.map i3,some<|.d<|.int (i:Int),some<|U.d<|.int<|(i:Int)+1+(j:Nat),v8]=[some<|bx x y,some<|.d<|.tuple<|ns.map .str,some<|.d<|.int (most:Int),some<|.d<|.int<|2+(m:Int),some<|.d<|.int r2,some<|.l<|A.map i3,some<|.d<|.int (i:Int),v7,v8']/\Wv ns.length (m+1) (7 * i+(j+1)) i (i+1+(j+1)) A:=λh=>⟨_,_,_,_,_,rfl,h⟩;simp!;refine Eu a2 b2 λch jN=>?_;have eh:∃ i:Int,ch=.int i:=by
    simp only[qu,List.not_mem_nil,or_false]at jN;rcases jN with rfl|rfl|rfl|rfl<;>exact⟨_,rfl⟩
   have(ci,rfl):=eh;simp!;refine fB (by decide) (by decide) λr3 x3 y3 a3 b3=>?_;simp!;refine nN (λc=>?_) λc=>?_
   .simp!
    refine Vc n1 n3 λe x4 y4 he h0=>?_;have wl:A.length < 16777216:=by have:=hv.ln; omega
    simp![wl];have:=lJ (x':=x4) (y':=y4) (v8:=some (.d<|.int ci)) (hv.add (by omega) (by omega) he h0);rw[List.map_append,List.map_cons,List.map_nil,show i3 ((i,i+1+j),e)=.tuple [.int (i:Int),.int<|(i:Int)+1+(j:Int),cQ e] from rfl]at this;exact this
   .simp!
    exact lJ<|hv.le (by omega)<|.inr ⟨rfl,by omega⟩
  .rintro _ ⟨x,y,v7,v8,A,rfl,hv⟩
   simp!;rw[uK]at hv;exact⟨_,_,_,_,_,_,rfl,hv.le (by omega)<|.inl (by omega)⟩
 .rintro _ ⟨x,y,v6,v7,v8,A,rfl,hv⟩
  simp!;have:=k (m+1) A x y (by omega) (by omega) (hv.le (by omega) (by omega));unfold k7 at this;rw[show((m+1+1:Nat):Int)=2+(m:Int) by omega]at this;exact this
end K46
open PySem L2
namespace K46
open PySem L2
def kw(w:Wy):Qa Int×Et:=([(w.1.1:Int),(w.1.2:Int)],w.2)
def dB(A:Qa Wy):Pq Et:=A.map kw
def f7(t:Nat):Pq Et:=(List.range t).map λi:Nat=>([1+(i:Int),1+(i:Int)],(-1,none))
def fM(A:Qa Wy)(i c:Nat):Et:=if i=c+1 then(-1,none)else(look (dB A) [(i:Int),1+(c:Int)]).getD (0,none)
def tab(A:Qa Wy)(m:Nat):Qa (Qa Et):=(List.range m).map λi=>(List.range m).map λc=>fM A i c
theorem RP{b e:Nat}{A:Qa Wy}(h:Wv n m c b e A):aP (dB A):=by
 unfold aP dB;rw[List.map_map];refine á.mpr<|h.up.imp λ{u v} q z=>?_;simp only[Function.comp,kw,List.cons.injEq,and_true]at z;unfold Lx at q;omega
theorem Wx(p q:Pq α)(k:Qa Int):look (p++q) k=(look p k).or (look q k):=by
 unfold look;rw[List.find?_append];cases p.find? λt=>decide (t.1=k)<;>rfl
theorem wu{p:Pq α}{k:Qa Int}(h:∀ t∈p,t.1≠k):look p k=none:=sI.mpr (by
 rw[List.any_eq_false];intro t ht;simpa using h t ht)
theorem DK{b e:Nat}{A:Qa Wy}(h:Wv n m c b e A):∀ t∈dB A,∃ i j:Nat,t.1=[(i:Int),(j:Int)]/\i < j/\j<=m:=λt ht=>by
 have(w,hw,rfl):=À.mp ht;have(h1,h2):=h.lt w hw;exact⟨_,_,rfl,h1,h2⟩
theorem Ju{t:Nat}:∀ u∈f7 t,∃ i:Nat,u.1=[1+(i:Int),1+(i:Int)]/\i < t:=λu hu=>by
 have(i,hi,rfl):=À.mp hu;exact⟨i,rfl,Á.mp hi⟩
theorem RO{b e t:Nat}{A:Qa Wy}(h:Wv n m c b e A):bD (dB A++f7 t) [1+(t:Int),1+(t:Int)] (-1,none)=dB A++f7 (t+1):=by
 have no:look (dB A++f7 t) [1+(t:Int),1+(t:Int)]=none:=wu λu hu z=>by
  rcases Ì.mp hu with hu|hu
  .have(i,j,e,h1,h2):=DK h u hu
   rw[e]at z;simp only[List.cons.injEq,and_true]at z;omega
  .have(i,e,h1):=Ju u hu
   rw[e]at z;simp only[List.cons.injEq,and_true]at z;omega
 unfold bD;rw[if_neg (by rw[sI.mp no]; decide),List.append_assoc];congr 1;unfold f7;rw[List.range_succ,List.map_append];rfl
theorem Ww{b e k:Nat}{A:Qa Wy}(h:Wv n m c b e A)(hi:i < m):(look (dB A++f7 (m - 1)) [(i:Int),1+(k:Int)]).getD (0,none)=fM A i k:=by
 rw[Wx];unfold fM;split
 .rename_i z
  rw[wu λu hu y=>?_]
  .have nd:aP (f7<|m - 1):=by
    unfold aP f7;rw[List.map_map];refine á.mpr<|List.nodup_range.imp λ{u v} q y=>?_;simp only[Function.comp,List.cons.injEq,and_true]at y;omega
   have hm:([(i:Int),1+(k:Int)],((-1:Rat),(none:Qb Nat)))∈f7 (m - 1):=À.mpr ⟨k,Á.mpr (by omega),by rw[show(i:Int)=1+(k:Int) by omega]⟩;rw[nV nd hm];rfl
  .have(i',j',e,h1,h2):=DK h u hu
   rw[e]at y;simp only[List.cons.injEq,and_true]at y;omega
 .rename_i z
  have no:look (f7<|m - 1) [(i:Int),1+(k:Int)]=none:=wu λu hu y=>by
   have(j,e,h1):=Ju u hu;rw[e]at y;simp only[List.cons.injEq,and_true]at y;omega
  rw[no,Option.or_none]
theorem GQ(a b:Int):PyData.tuple [.int a,.int b]=aO [a,b]:=rfl
theorem Wu{ns:Qa Str}{A:Qa Wy}(m1:1<=m)(m6:m<=6)(h:Wv ns.length m 50 m 0 A):wO [.d<|k7 ns m A]=some (.d<|lh ns<|tab A m,[.d<|k7 ns m A]):=by
 refine zU ?_;have ln:=h.ln;have qV:((m+1:Nat):Int) - 1=(m:Int):=by omega
 unfold k7;simp![wO,MM];refine wy (c:=cQ) (b:=λ_=>true) (k:=λw:Wy=>[(w.1.1:Int),(w.1.2:Int)]) (v:=λw:Wy=>w.2) (by omega) (λw hw ys=>?_) ?_
 .have e:i3 w=.tuple [.int (w.1.1:Int),.int (w.1.2:Int),cQ w.2]:=rfl
  simp![e,GQ];exact Al ys [(w.1.1:Int),(w.1.2:Int)] w.2
 .have e1:ym ((A.filter λ_=>true).map λw:Wy=>([(w.1.1:Int),(w.1.2:Int)],w.2))=dB A++f7 0:=by
   rw[List.filter_eq_self.mpr λ_ _=>rfl];show ym (dB A)=_;rw[Ej<|RP h];exact(List.append_nil _).symm
  rw[e1];simp![qV];have me:PyData.tuple [.tuple [.int (-1),.int 1],.none]=cQ (-1,none):=rfl;refine mG (λj ρ=>∃ v5,ρ=[some<|U.d<|.tuple [.tuple<|ns.map .str,.int ((m+1:Nat):Int),.tuple<|A.map i3],some<|.d<|.tuple<|ns.map .str,some<|.d<|.int ((m+1:Nat):Int),some<|.d<|.tuple<|A.map i3,some<|.t<|aJ cQ<|dB A++f7 j,v5,none,none]) ⟨_,rfl⟩ ?_ ?_
  .rintro j d _ hd ⟨v5,rfl⟩
   have(hj,rfl):=vX hd;have pl:(dB A++f7 j).length < 16777216:=by unfold dB f7; rw[qr,List.length_map,List.length_map,List.length_range]; omega
   have pu:pD (.t<|aJ cQ<|dB A++f7 j) (.tuple [.int<|1+(j:Int),.int<|1+(j:Int)]) (.tuple [.tuple [.int (-1),.int 1],.none])=some (.t<|aJ cQ<|dB A++f7 (j+1)):=by rw[GQ,me,pA pl,RO h]
   simp![pu];exact⟨_,rfl⟩
  .rintro _ ⟨v5,rfl⟩
   have e2:(eO 1 ((m:Int) - 1).toNat).length=m - 1:=by rw[uK]; omega
   rw[e2];simp![qV,Int.toNat_natCast];have em2:((m+1:Nat):Int) - 1=(m:Int):=qV;refine DO (λi ρ=>∃ v7,ρ=[some<|U.d<|.tuple [.tuple<|ns.map .str,.int ((m+1:Nat):Int),.tuple<|A.map i3],some<|.d<|.tuple<|ns.map .str,some<|.d<|.int ((m+1:Nat):Int),some<|.d<|.tuple<|A.map i3,some<|.t<|aJ cQ<|dB A++f7 (m - 1),v5,some<|.l<|((List.range i).map λi=>(List.range m).map λc=>fM A i c).map cc,v7]) ⟨_,rfl⟩ ?_ ?_
   .rintro i _ hi ⟨v7,rfl⟩
    have ei:(0:Int)+(i:Nat)=(i:Int):=by omega
    rw[ei];simp![qV,Int.toNat_natCast];refine nP (g:=λc:Nat=>PyData.int<|1+(c:Int)) (as:=List.range m) (e:=λc=>cQ<|fM A i c) (by rw[List.length_range]; omega) (λc hc ys=>?_) ?_
    .have gt:((look (dB A++f7 (m - 1)) [(i:Int),1+(c:Int)]).map cQ).getD (.tuple [aO [0,1],.none])=cQ (fM A i c):=by
      rw[<-Ww h hi];cases look (dB A++f7 (m - 1)) [(i:Int),1+(c:Int)]<;>rfl
     simp![GQ,gt]
    .have al:(List.map cc<|List.map (λi=>List.map (λc=>fM A i c)<|List.range m)<|List.range i).length < 16777216:=by rw[List.length_map,List.length_map,List.length_range]; omega
     simp![al,List.length_range];refine⟨some<|.d<|.int (i:Int),?_⟩;rw[List.range_succ,List.map_append,List.map_append];rw[show List.map cc (List.map (λi=>List.map (λc=>fM A i c)<|List.range m) [i])=[.tuple<|(List.range m).map λc=>cQ<|fM A i c] by
      rw[List.map_cons,List.map_nil,List.map_cons,List.map_nil];unfold cc;rw[List.map_map];rfl]
   .rintro _ ⟨v7,rfl⟩
    simp![List.length_range];rfl
end K46
open PySem L2
namespace K46
open PySem L2
def uk(n:Nat):Qb Nat->Qa Int
 | none=>zs n
 | some j=>gT n j
def jU(n:Nat)(e:Et):Pq Rat:=if e.1=0 then []else [(uk n e.2,e.1)]
def Ev(n:Nat)(e:Et)(g:Qa Int->Rat):Qa Int->Rat:=λk=>e.1 * g (sh n e.2 k)
theorem Km:∀ {n:Nat} {k:Qa Int},k.length=n->bp k (zs n)=k
 | 0,[],_=>rfl
 | n+1,x::k,h=>by
  show(x+0)::bp k (zs n)=_;rw[Km<|Nat.succ.inj h,Int.add_zero]
 | 0,_::_,h=>by cases h
 | _+1,[],h=>by cases h
theorem Tx{k:Qa Int}(h:k.length=n):bp k (uk n l)=sh n l k:=by
 cases l with
 | none=>exact Km h
 | some j=>rfl
theorem units:∀ n∈[1,2,3],(∀ j∈List.range n,((List.range n).map λk:Nat=>(if(k:Int)=(j:Int)then(1:Int)else 0))=gT n j)/\((List.range n).map λk:Nat=>(0:Int))=zs n:=by decide
theorem NP{e:Et}(n1:1<=n)(n3:n<=3)(he:∀ k,e.2=some k->k < n):u6 [.d<|cQ e,.d<|.int (n:Int)]=some (.t<|aJ fR<|jU n e,[.d<|cQ e,.d<|.int (n:Int)]):=by
 refine zU ?_;have(f,l):=e;have un:=units n (by rcases(by omega:n=1\/n=2\/n=3)with rfl|rfl|rfl<;>decide);have ed:cQ (f,l)=.tuple [fR f,hV l]:=rfl;unfold jU;dsimp only
 by_cases z:f=0
 .subst z
  simp![u6,Gj,ed,show((0:Rat).num=0)=True from eq_true rfl,if_true];rfl
 .simp![u6,Gj,ed,Rat.num_eq_zero,z,Int.toNat_natCast]
  cases l with
  | none=>
   refine nP (g:=λk:Nat=>PyData.int<|0+(k:Int)) (as:=List.range n) (e:=λk:Nat=>.int (0:Int)) (by rw[List.length_range]; omega) (λk hk ys=>?_) ?_
   .have q:cR false (.d<|.int<|0+(k:Int)) (.d .none)=some (.d<|.bool false):=rfl
    simp![hV,q]
   .rw[show((List.range n).map λk:Nat=>PyData.int 0)=((List.range n).map λk:Nat=>(0:Int)).map PyData.int by rw[List.map_map]; rfl,un.2]
    simp![hV,show PyData.tuple ((zs n).map PyData.int)=aO (zs n) from rfl];rfl
  | some j=>
   have hj:=he j rfl;refine nP (g:=λk:Nat=>PyData.int<|0+(k:Int)) (as:=List.range n) (e:=λk:Nat=>.int (if(k:Int)=(j:Int)then(1:Int)else 0)) (by rw[List.length_range]; omega) (λk hk ys=>?_) ?_
   .rw[Int.zero_add]
    by_cases c:(k:Int)=(j:Int)
    .simp![hV,c]
    .simp![hV,c]
   .rw[show((List.range n).map λk:Nat=>PyData.int (if(k:Int)=(j:Int)then(1:Int)else 0))=((List.range n).map λk:Nat=>if(k:Int)=(j:Int)then(1:Int)else 0).map PyData.int by rw[List.map_map]; rfl,un.1 j<|Á.mpr hj]
    simp![hV,show PyData.tuple ((gT n j).map PyData.int)=aO (gT n j) from rfl];rfl
end K46
open PySem L2
namespace K46
open PySem L2
structure PZ (n e a:Nat) (p:Pq Rat):Prop where
 pg:PG n e a p
 nz:∀ t∈p,t.2≠0
theorem OK(q:Pq Rat):∀ t∈L2.nz q,t.2≠0:=λt ht=>of_decide_eq_true (Ò.mp ht).2
theorem PZ.up{e a e' a':Nat}{p:Pq Rat}(h:PZ n e a p)(ha:a<=a')(he:e<=e'):PZ n e' a' p:=⟨h.pg.up ha he,h.nz⟩
theorem PZ.nil{e a:Nat}:PZ n e a []:=⟨⟨ã,λt h=>(by cases h),λt h=>(by cases h)⟩,λt h=>(by cases h)⟩
theorem zBO(h:∀ k,l=some k->k < n):Ks n 1 (uk n l):=by
 cases l with
 | none=>
  refine⟨Ex n,λk hk=>by rw[Ew k hk]; decide,?_⟩;unfold uk zs;simp
 | some j=>exact Kr<|h j rfl
theorem Jt{e:Et}(he:EO n e):PZ n 0 1 (jU n e):=by
 unfold jU;split
 .exact PZ.nil
 .rename_i z
  refine⟨⟨Pg,λt ht=>?_,λt ht=>?_⟩,λt ht=>?_⟩
  all_goals cases qp.mp ht
  .exact zBO he.lt
  .exact he.bd.le (by decide)
  .exact z
theorem Tw{e:Et}:(jU n e).length<=1:=by
 unfold jU;split
 .exact É _
 .exact qe _
theorem Kl:PZ n 0 0 (jt n 1):=by
 have e:jt n 1=[(zs n,1)]:=if_neg (by decide);rw[e];refine⟨⟨Pg,λt ht=>?_,λt ht=>?_⟩,λt ht=>?_⟩
 all_goals cases qp.mp ht
 .refine⟨Ex n,λk hk=>by rw[Ew k hk]; decide,?_⟩
  unfold zs;simp
 .exact Bd.one
 .exact(by decide:(1:Rat)≠0)
theorem Lr(g:Qa Int->Rat):aM (jt n 1) g=g (zs n):=by
 have e:jt n 1=[(zs n,1)]:=if_neg (by decide);rw[e,zC,fA];grind
def kJ(n:Nat)(p:Pq Rat)(e:Et):Pq Rat:=L2.nz (aR []<|bC p<|jU n e)
def m7(s:Int)(p q:Pq Rat):Pq Rat:=L2.nz (aR p<|d5 s q)
theorem Tv{e:Et}(g:Qa Int->Rat):aM (jU n e) g=e.1 * g (uk n e.2):=by
 unfold jU;split
 .rename_i z
  rw[z,fA,Rat.zero_mul]
 .rw[zC,fA,Rat.add_zero]
theorem Kk{d a:Nat}{p:Pq Rat}{e:Et}(h:PG n d a p)(g:Qa Int->Rat):aM (kJ n p e) g=aM p (Ev n e g):=by
 unfold kJ;rw[show L2.nz (aR []<|bC p<|jU n e)=(aR []<|bC p<|jU n e).filter (λt=>decide<|t.2≠0) from rfl,Er,A3 _ _ B8,fA,Rat.zero_add,UU];refine Yx λt ht=>?_;rw[Tv,Tx (h.ky t ht).ln];rfl
theorem Lq{s:Int}{p q:Pq Rat}(h:aP p)(g:Qa Int->Rat):aM (m7 s p q) g=aM p g+s * aM q g:=by
 unfold m7;rw[show L2.nz (aR p<|d5 s q)=(aR p<|d5 s q).filter (λt=>decide<|t.2≠0) from rfl,Er,A3 _ _ h];congr 1;exact Lu _ _ _
section
variable{d a:Nat}{p q:Pq Rat}{e:Et}{u1 u2:U}
theorem PZ.BX(h:PZ n d a p)(n1:1<=n)(n3:n<=3)(ha:a+1<=cE n)(he:EO n e):PZ n (d+11) (a+1) (kJ n p e):=⟨h.pg.mul (Jt he).pg n1 n3 ha,OK _⟩
theorem PZ.add(h:PZ n d a p)(h':PZ n d a q)(n1:1<=n)(n3:n<=3)(ha:a<=cE n){s:Int}(hs:s=1\/s=-1):PZ n (d+6) a (m7 s p q):=⟨h.pg.add h'.pg n1 n3 ha hs,OK _⟩
theorem DN{k:Nat}:0 < 12^k:=ó (by decide)
theorem yy{k:Nat}(h:k<=7):12^k < 2^4000:=Ä (Ç (by decide) h) (qi (by decide:12^7 < 2^26)<|Ç (by decide) (by decide))
theorem JG{Q:U×Qa U->Prop}(n1:1<=n)(n3:n<=3)(tH:u1.fz=some (.dict<|aU fR p))(qH:u2.fz=some (.dict<|aU fR<|jU n e))(hp:PZ n d a p)(ha:a+1<=cE n)(hd:d<=3000)(he:EO n e)(kq:∀ ve,Q (.t<|aJ fR<|kJ n p e,[dT p,ve])):Wo (u4 [u1,u2]) Q:=by
 have(_,d6):=mU (n:=n);have lp:=hp.pg.len n1 n3 (by omega);have le:=Tw (n:=n) (e:=e);have hq:=Jt he;have lm:p.length * (jU n e).length<=35 * 1:=ù lp le;refine zma tH qH hp.pg.nd hq.pg.nd hp.pg.bd hq.pg.bd (λt ht=>(hp.pg.ky t ht).ln) (λt ht=>(hq.pg.ky t ht).ln) (by omega) DN DN (by rw[<-Nat.pow_add]; exact yy (by omega)) (yy (by omega)) (yy (by omega)) (vJ (by omega)) (vJ (by omega)) ?_ (Nat.mul_pos (ó (by decide))<|ó (by decide)) (by omega) (by omega) (by omega) λve _=>kq ve;refine Ä (È _<|qx lm (by decide:35 * 1<=2^6)) ?_;rw[<-Nat.pow_add,<-Nat.pow_add];exact vJ (by omega)
theorem JF{s:Int}(n1:1<=n)(n3:n<=3)(tH:u1=.d (.dict<|aU fR p)\/u1=.t (aJ fR p))(qH:u2.fz=some (.dict<|aU fR q))(hs:s=1\/s=-1)(hp:PZ n d a p)(hq:PZ n d a q)(ha:a<=cE n)(hd:d<=3000):
  u3 [u1,u2,.d<|.int s]=some (.t<|aJ fR<|m7 s p q,[u1,dT q,.d<|.int s]):=by
 have(_,d6):=mU (n:=n);have lp:=hp.pg.len n1 n3 ha;have lq:=hq.pg.len n1 n3 ha;have hh:=hp.pg.hash n1 n3 ha;refine zl9 (by rcases tH with rfl|rfl; exact zBq hh; exact zBr hh) qH hs hp.pg.nd hq.pg.nd hp.pg.bd hq.pg.bd DN (yy (by omega)) ?_ (by omega) (by omega);have h1:q.length * 2^(24 * a+d)<=35 * 2^(24 * a+d):=È _ lq;have h2:2^(24 * a+d+6)=2^(24 * a+d) * 64:=Nat.pow_add _ _ _;have h3:2^(24 * a+d+6) < 2^4000:=vJ (by omega);omega
end
end K46
open PySem L2
namespace K46
open PySem L2
def pd(p:Pq Rat):D:=.dict (aU fR p)
structure WI (n m:Nat) (bs:Qa Wy) (ps:Qa (Pq Rat)):Prop where
 ln:ps.length=m+1
 pz:∀ j p,ps[j]?=some p->PZ n (17 * bs.length) j p
 eq:∀ j p,ps[j]?=some p->∀ g,aM p g=(if j=0 then g (zs n)else 0)+((bs.filter λw=>decide<|w.1.2=j).map λw=>aM (ps.getD w.1.1 [])<|Ev n w.2 g).sum
theorem IG{ps:Qa (Pq Rat)}{p:Pq Rat}(h:ps[j]?=some p):bY (ps.map pd) (j:Int)=some (pd p):=by
 have hl:=(qk.mp h).1;unfold bY eB;rw[if_pos (by omega),if_pos (by rw[List.length_map]; omega),bd,List.getElem?_map,Int.toNat_natCast,h];rfl
theorem WI.step{b e:Nat}{A bs cs:Qa Wy}{w:Wy}{ps:Qa (Pq Rat)}{p q:Pq Rat}(n1:1<=n)(n3:n<=3)(m6:m<=cE n)(h:Wv n m c b e A)(ea:A=bs++w::cs)(I:WI n m bs ps)(hp:ps[w.1.1]?=some p)(hq:ps[w.1.2]?=some q):
  WI n m (bs++[w]) (ps.set w.1.2<|m7 1 q<|kJ n p w.2):=by
 have hw:w∈A:=by rw[ea]; simp
 have(l1,l2):=h.lt w hw;have he:=(h.en w hw).1;have ln:=I.ln;have pp:=I.pz _ _ hp;have pq:=I.pz _ _ hq;have hl:w.1.2 < ps.length:=by omega
 have pr:=pp.BX n1 n3 (by omega) he;have nw:=(pq.up (qe _) (by omega:17 * bs.length<=17 * bs.length+11)).add (pr.up (a':=w.1.2) (by omega)<|qe _) n1 n3 (by omega) (.inl rfl:(1:Int)=1\/(1:Int)=-1);have bef:∀ v∈bs++[w],v.1.1≠w.1.2:=λv hv z=>by
  have up:=h.up;rw[ea]at up;rcases Ì.mp hv with hv|hv
  .have:=(List.pairwise_append.mp up).2.2 v hv w qo
   unfold Lx at this;omega
  .cases qp.mp hv
   omega
 have gd:∀ v∈bs++[w],(ps.set w.1.2<|m7 1 q<|kJ n p w.2).getD v.1.1 []=ps.getD v.1.1 []:=λv hv=>by
  rw[qA,qA,qB<|Ne.symm<|bef v hv]
 have sm:∀ (j:Nat) (g:Qa Int->Rat),(((bs++[w]).filter λw=>decide<|w.1.2=j).map λv=>aM ((ps.set w.1.2<|m7 1 q<|kJ n p w.2).getD v.1.1 [])<|Ev n v.2 g).sum=((bs.filter λw=>decide<|w.1.2=j).map λw=>aM (ps.getD w.1.1 [])<|Ev n w.2 g).sum+(if w.1.2=j then aM p (Ev n w.2 g)else 0):=λj g=>by
  rw[List.map_congr_left (g:=λv=>aM (ps.getD v.1.1 [])<|Ev n v.2 g) λv hv=>by rw[gd v (List.mem_filter.mp hv).1],List.filter_append,List.map_append,K46.bo];congr 1
  by_cases c:w.1.2=j
  .rw[List.filter_cons_of_pos (by simpa using c),if_pos c,List.filter_nil,List.map_cons,List.map_nil,List.sum_cons,List.sum_nil,Rat.add_zero,qA,hp,Option.getD_some]
  .rw[List.filter_cons_of_neg (by simpa using c),if_neg c,List.filter_nil,List.map_nil,List.sum_nil]
 refine⟨by rw[List.length_set]; exact ln,λj r hr=>?_,λj r hr g=>?_⟩
 .rw[qr,List.length_singleton]
  by_cases c:w.1.2=j
  .subst c
   rw[List.getElem?_set_self hl]at hr;cases hr;exact nw.up (qe _) (by omega)
  .rw[qB c]at hr
   exact(I.pz j r hr).up (qe _) (by omega)
 .rw[sm]
  by_cases c:w.1.2=j
  .subst c
   rw[List.getElem?_set_self hl]at hr;cases hr;rw[Lq pq.pg.nd,Kk pp.pg,I.eq _ _ hq,if_pos rfl];rw[show((1:Int):Rat)=1 from rfl];grind
  .rw[qB c]at hr
   rw[if_neg c,Rat.add_zero];exact I.eq j r hr g
theorem znK{ns:Qa Str}{A:Qa Wy}{Q:U×Qa U->Prop}(n1:1<=ns.length)(n3:ns.length<=3)(m1:1<=m)(m6:m<=cE ns.length)(h:Wv ns.length m 50 m 0 A)
   (k:∀ ps p,WI ns.length m A ps->ps[m]?=some p->Q (.d<|pd p,[.d<|k7 ns m A])):Wo (BG [.d<|k7 ns m A]) Q:=by
 have(_,d6):=mU (n:=ns.length);have qV:((m+1:Nat):Int) - 1=(m:Int):=by omega
 have pn:=Ny (n:=ns.length) (f:=1) n3;have ln:=h.ln;rw[show fR 1=.tuple [.int 1,.int 1] from rfl]at pn;unfold k7 at k ⊢;simp![BG,N9,pn,qV,Int.toNat_natCast];refine nP (g:=λc:Nat=>PyData.int<|0+(c:Int)) (as:=List.range m) (e:=λ_=>pd []) (by rw[List.length_range]; omega) (λc hc ys=>?_) ?_
 .simp!
  rfl
 .have ct:=J7 (xs:=[PyData.dict<|aU fR<|jt ns.length 1]) (ys:=(List.range m).map λ_=>pd []) (by rw[List.length_map,List.length_range]; show 1+m<=_; omega)
  rw[show [PyData.dict<|aU fR<|jt ns.length 1]++((List.range m).map λ_=>pd [])=(jt ns.length 1::(List.range m).map λ_=>[]).map pd by rw[List.map_cons,List.map_map]; rfl]at ct;simp![ct];refine kr (λbs cs ρ=>∃ (ps:Qa (Pq Rat)) (v5 v6 v7 v8:Qb U),ρ=[some<|U.d<|.tuple [.tuple<|ns.map .str,.int ((m+1:Nat):Int),.tuple<|A.map i3],some<|.d<|.tuple<|ns.map .str,some<|.d<|.int ((m+1:Nat):Int),some<|.d<|.tuple<|A.map i3,some<|.l<|ps.map pd,v5,v6,v7,v8]/\WI ns.length m bs ps) ⟨jt ns.length 1::(List.range m).map λ_=>[],_,_,_,_,rfl,?_⟩ ?_ ?_
  .refine⟨by simp,λj p hp=>?_,λj p hp g=>?_⟩
   .cases j with
    | zero=>
     cases(show some _=some p from hp);exact Kl
    | succ j=>
     rw[List.getElem?_cons_succ,List.getElem?_map]at hp;have(_,_,rfl):=qq.mp hp;exact PZ.nil
   .cases j with
    | zero=>
     cases(show some _=some p from hp);rw[Lr,if_pos rfl];exact(Rat.add_zero _).symm
    | succ j=>
     rw[List.getElem?_cons_succ,List.getElem?_map]at hp;have(_,_,rfl):=qq.mp hp;rw[if_neg (by omega),fA,List.filter_nil,List.map_nil,List.sum_nil,Rat.add_zero]
  .rintro bs w cs _ ea ⟨ps,v5,v6,v7,v8,rfl,I⟩
   have hw:w∈A:=by rw[ea]; simp
   have(l1,l2):=h.lt w hw;have he:=(h.en w hw).1;have pl:=I.ln;have lb:bs.length<=50:=by have:=congrArg List.length ea; rw[qr]at this; omega
   have hp:ps[w.1.1]?=some ps[w.1.1]:=ql (by omega);have hq:ps[w.1.2]?=some ps[w.1.2]:=ql (by omega);generalize ps[w.1.1]=p at hp;generalize ps[w.1.2]=q at hq;have st:=I.step n1 n3 m6 h ea hp hq;have pp:=I.pz _ _ hp;have pq:=I.pz _ _ hq;have ew:i3 w=.tuple [.int (w.1.1:Int),.int (w.1.2:Int),cQ w.2]:=rfl;have HV:=NP n1 n3 he.lt;have P1:∀ r:Pq Rat,pd r=.dict (aU fR r):=λ_=>rfl;simp![ew,IG hp,HV];refine JG n1 n3 rfl nY pp (by omega) (by omega) he λu2=>?_;have ad:=JF (s:=1) (u1:=.d (pd q)) (u2:=.t (aJ fR<|kJ ns.length p w.2)) n1 n3 (.inl rfl) nY (.inl rfl) (pq.up (qe _) (by omega:_<=17 * bs.length+11)) ((pp.BX n1 n3 (by omega) he).up (by omega)<|qe _) (by omega) (by omega);have ix:eB ps.length (w.1.2:Int)=some w.1.2:=by
    unfold eB;rw[if_pos (by omega),if_pos (by omega),Int.toNat_natCast]
   have ms:(ps.map pd).set w.1.2 (.dict<|aU fR<|m7 1 q<|kJ ns.length p w.2)=(ps.set w.1.2<|m7 1 q<|kJ ns.length p w.2).map pd:=List.map_set.symm;simp![IG hq,ad,ix,ms];exact⟨_,_,_,_,_,rfl,st⟩
  .rintro _ ⟨ps,v5,v6,v7,v8,rfl,I⟩
   have pl:=I.ln;have hp:ps[m]?=some ps[m]:=ql (by omega);generalize ps[m]=p at hp;have la:bY (ps.map pd) (-1)=some (pd p):=by
    unfold bY eB;rw[if_neg (by decide),if_pos (by rw[List.length_map]; omega),bd,List.length_map,show -1+((ps.length:Nat):Int)=(m:Int) by omega,List.getElem?_map,Int.toNat_natCast,hp];rfl
   simp![la];exact k ps p I hp
end K46
open PySem L2
namespace K46
open PySem L2
def cC(m x:Nat):Qa Nat:=(List.range m).filter λk=>decide<|x / 2^k % 2=1
def mO(i:Nat):Rat:=if i % 2=1 then -1 else 1
def ent(rows:Qa (Qa Et))(k c:Nat):Et:=(rows.getD k []).getD c (0,none)
def Df(n:Nat)(rows:Qa (Qa Et)):Nat->Qa Nat->(Qa Int->Rat)->Rat
 | 0,_,g=>g<|zs n
 | k+1,cs,g=>((List.range<|k+1).map λj=>mO (k - j) * Df n rows k (cs.eraseIdx j) (Ev n (ent rows k<|cs.getD j 0) g)).sum
theorem Tu:∀ m∈List.range 7,∀ x∈List.range (2^m),(cC m x).length<=m/\∀ j∈List.range (cC m x).length,(cC m x).getD j 0 < m/\2^((cC m x).getD j 0)<=x/\cC m (x - 2^((cC m x).getD j 0))=(cC m x).eraseIdx j:=by decide +kernel
theorem JE:∀ m∈List.range 7,cC m 0=[]/\cC m (2^m - 1)=List.range m:=by decide +kernel
theorem RN:∀ m∈List.range 7,∀ x∈List.range (2^m),x≠0->(cC m x).length≠0:=by decide +kernel
def kn(qs:Qa (Pq Rat)):Qa (Key×D):=(List.range qs.length).map λi:Nat=>(Sum.inl (i:Int),pd<|qs.getD i [])
theorem WO(h:i < n){p:Nat->Bool}(hp:∀ j,p j=true↔j=i):(List.range n).find? p=some i:=by
 rw[List.find?_range_eq_some];refine⟨(hp i).2 rfl,Á.mpr h,λj hj=>?_⟩;cases e:p j with
 | false=>rfl
 | true=>have:=(hp j).1 e; omega
theorem JD{qs:Qa (Pq Rat)}{q:Pq Rat}(h:qs[i]?=some q):kF (.k<|kn qs) (.d<|.int (i:Int))=some (some<|pd q):=by
 have hl:=(qk.mp h).1;show some (m5 (kn qs)<|Sum.inl (i:Int))=_;unfold m5 kn;rw[List.find?_map,WO hl λj=>?_]
 .show some (some<|pd<|qs.getD i [])=_
  rw[qA,h];rfl
 .show decide ((Sum.inl (j:Int):Key)=Sum.inl (i:Int))=true↔_
  rw[decide_eq_true_iff,Sum.inl.injEq];omega
theorem RM{qs:Qa (Pq Rat)}{q:Pq Rat}{x:Int}(h:qs.length < 1000)(hx:x=(qs.length:Int)):pD (.k<|kn qs) (.int x) (.dict<|aU fR q)=some (.k<|kn<|qs++[q]):=by
 subst hx;have no:((kn qs).any λkv=>decide<|kv.1=(Sum.inl (qs.length:Int):Key))=false:=by
  rw[List.any_eq_false];intro t ht;have(j,hj,rfl):=À.mp ht;have:=Á.mp hj;rw[decide_eq_true_iff,Sum.inl.injEq];omega
 show(if(kn qs).length < sizeLine then some (U.k<|ig (kn qs) (Sum.inl (qs.length:Int))<|pd q)else none)=_;rw[if_pos (by unfold kn; rw[List.length_map,List.length_range]; show _ < 16777216; omega)];unfold ig;rw[if_neg (by rw[no]; decide)];congr 2;unfold kn;rw[qr,List.length_singleton,List.range_succ,List.map_append,List.map_cons,List.map_nil];congr 1
 .refine Ã λj hj=>?_
  rw[qA,qA,List.getElem?_append_left<|List.mem_range.mp hj]
 .rw[qA,List.getElem?_append_right<|qe _,Nat.sub_self]
  rfl
theorem JC{f:α->D}{xs:Qa α}{x:α}(h:xs[j]?=some x):bY (xs.map f) (j:Int)=some (f x):=by
 have hl:=(qk.mp h).1;unfold bY eB;rw[if_pos (by omega),if_pos (by rw[List.length_map]; omega),bd,List.getElem?_map,Int.toNat_natCast,h];rfl
structure KI (n m:Nat) (t:Qa (Qa Et)) (qs:Qa (Pq Rat)):Prop where
 pz:∀ y q,qs[y]?=some q->PZ n (47 * (cC m y).length) (cC m y).length q
 eq:∀ y q,qs[y]?=some q->∀ g,aM q g=Df n t (cC m y).length (cC m y) g
theorem KI.snoc{t:Qa (Qa Et)}{qs:Qa (Pq Rat)}{q:Pq Rat}(h:KI n m t qs)(h1:PZ n (47 * (cC m qs.length).length) (cC m qs.length).length q)(h2:∀ g,aM q g=Df n t (cC m qs.length).length (cC m qs.length) g):KI n m t (qs++[q]):=by
 have at':∀ y r,(qs++[q])[y]?=some r->qs[y]?=some r\/(y=qs.length/\r=q):=λy r e=>by
  by_cases c:y < qs.length
  .rw[List.getElem?_append_left c]at e
   exact .inl e
  .rw[List.getElem?_append_right (by omega)]at e
   have hy:y - qs.length=0:=by
    have:=(qk.mp e).1;rw[List.length_singleton]at this;omega
   rw[hy]at e;cases(show some q=some r from e);exact .inr ⟨by omega,rfl⟩
 refine⟨λy r e=>?_,λy r e=>?_⟩
 .rcases at' y r e with e|⟨rfl,rfl⟩
  .exact h.pz y r e
  .exact h1
 .rcases at' y r e with e|⟨rfl,rfl⟩
  .exact h.eq y r e
  .exact h2
theorem zkM{ns:Qa Str}{t:Qa (Qa Et)}{Q:U×Qa U->Prop}(n1:1<=ns.length)(n3:ns.length<=3)(hT:TO ns.length t)
   (k:∀ q,PZ ns.length 300 t.length q->(∀ g,aM q g=Df ns.length t t.length (List.range t.length) g)->Q (.d<|pd q,[.d<|lh ns t])):Wo (BN [.d<|lh ns t]) Q:=by
 have(_,d6):=mU (n:=ns.length);have t4:=hT.l4;have mr:t.length∈List.range 7:=Á.mpr (by omega);have pn:=Ny (n:=ns.length) (f:=1) n3;rw[show fR 1=.tuple [.int 1,.int 1] from rfl]at pn;have sl:=Jq (n:=t.length) (by omega);have k1:∀ i:Int,lZ (.int i)=some (Sum.inl i):=λ_=>rfl;have kn0:[((Sum.inl (0:Int):Key),PyData.dict<|aU fR<|jt ns.length 1)]=kn [jt ns.length 1]:=rfl;have pw6:2^t.length<=64:=Ç (by decide) (by omega:t.length<=6);have pw1:1<=2^t.length:=ó (by decide);generalize hP:2^t.length=P at *;unfold lh at k ⊢;simp![BN,Om,pn,Int.toNat_natCast,V9,sl,k1];rw[kn0];refine mG (λi ρ=>∃ (qs:Qa (Pq Rat)) (v4 v5 v6 v7 v8 v9 v10:Qb U),ρ=[some<|U.d<|.tuple [.tuple<|ns.map .str,.tuple<|t.map cc],some<|.d<|.tuple<|ns.map .str,some<|.d<|.tuple<|t.map cc,some<|.k<|kn qs,v4,v5,v6,v7,v8,v9,v10]/\qs.length=i+1/\KI ns.length t.length t qs) ⟨_,_,_,_,_,_,_,_,rfl,rfl,?_⟩ ?_ ?_
 .have b0:=(JE _ mr).1
  have h0:KI ns.length t.length t []:=⟨λy q e=>(by cases e),λy q e=>(by cases e)⟩;refine h0.snoc (q:=jt ns.length 1) ?_ λg=>?_
  .show PZ _ (47 * (cC t.length 0).length) (cC t.length 0).length _
   rw[b0];exact Kl
  .show _=Df ns.length t (cC t.length 0).length (cC t.length 0) g
   rw[b0,Lr];rfl
 .rintro i d _ hd ⟨qs,v4,v5,v6,v7,v8,v9,v10,rfl,hq,I⟩
  have(hi,rfl):=vX hd;obtain⟨x,hx⟩:∃ x:Nat,x=qs.length:=⟨_,rfl⟩;have ex:(1:Int)+(i:Nat)=(x:Int):=by omega
  have xr:x∈List.range (2^t.length):=Á.mpr (by omega);have(bl,bj):=Tu _ mr x xr;have b1:=RN _ mr x xr (by omega);rw[ex];simp![Int.toNat_natCast];refine Es (g:=λk:Nat=>PyData.int<|0+(k:Int)) (b:=λk=>decide<|x / 2^k % 2=1) (e:=λk:Nat=>PyData.int (k:Int)) (as:=List.range t.length) (by rw[List.length_range]; show _<=16777216; omega) (λk hk ys=>?_) ?_
  .rw[Int.zero_add]
   have e2:(x:Int) / 2^k % 2=((x / 2^k % 2:Nat):Int):=by
    rw[Int.natCast_emod,Int.natCast_ediv,Int.natCast_pow];rfl
   by_cases c:x / 2^k % 2=1
   .simp![Int.toNat_natCast,e2,c,decide_eq_true_iff]
   .simp![Int.toNat_natCast,e2,decide_eq_false (show ¬((x / 2^k % 2:Nat):Int)=1 by omega),decide_eq_false c]
  .rw[show List.filter (λk=>decide<|x / 2^k % 2=1) (List.range t.length)=cC t.length x from rfl]
   simp!;obtain⟨κ,Hj⟩:∃ κ,(cC t.length x).length=κ+1:=⟨(cC t.length x).length - 1,by omega⟩;have fV:t[κ]?=some t[κ]:=ql (by omega);generalize hr:t[κ]=row at fV;have Px:row∈t:=Æ fV;have lrow:=hT.sq row Px;have ar:=JC (f:=cc) fV;refine mG (λj ρ=>∃ (p:Pq Rat) (v7 v8 v9 v10:Qb U),ρ=[some<|U.d<|.tuple [.tuple<|ns.map .str,.tuple<|t.map cc],some<|.d<|.tuple<|ns.map .str,some<|.d<|.tuple<|t.map cc,some<|.k<|kn qs,some<|.d<|.int (x:Int),some<|.d<|.list ((cC t.length x).map λk:Nat=>.int (k:Int)),some<|.t<|aJ fR p,v7,v8,v9,v10]/\PZ ns.length (47 * κ+11+6 * j) (κ+1) p/\∀ g,aM p g=((List.range j).map λj=>mO (κ - j) * Df ns.length t κ ((cC t.length x).eraseIdx j) (Ev ns.length (ent t κ<|(cC t.length x).getD j 0) g)).sum) ⟨[],_,_,_,_,rfl,PZ.nil,λg=>rfl⟩ ?_ ?_
   .rintro j d _ hd ⟨p,v7,v8,v9,v10,rfl,hp,hg⟩
    have(z,hz,rfl):=wW hd;rw[List.getElem?_map]at hz;have(c,hc,rfl):=qq.mp hz;have hj:j < (cC t.length x).length:=(qk.mp hc).1;have gc:(cC t.length x).getD j 0=c:=by rw[qA,hc]; rfl
    have(c1,c2,c3):=bj j (Á.mpr hj);rw[gc]at c1 c2 c3;have p2:0 < 2^c:=ó (by decide);have he:row[c]?=some row[c]:=ql (by omega);generalize row[c]=en at he;have qQ:=hT.en row Px en (Æ he);have ae:=JC (f:=cQ) he;have ee:ent t κ c=en:=by unfold ent; rw[qA,qA,fV,Option.getD_some,he]; rfl
    have Cj:qs[x - 2^c]?=some qs[x - 2^c]:=ql (by omega);generalize qs[x - 2^c]=q at Cj;have le:(cC t.length<|x - 2^c).length=κ:=by rw[c3,List.length_eraseIdx,if_pos hj]; omega
    have pq:=I.pz _ _ Cj;have lq:=I.eq _ _ Cj;rw[le]at pq lq;rw[c3]at lq;have sc:=Jq (n:=c) (by omega);have gq:=JD Cj;rw[show((x - 2^c:Nat):Int)=(x:Int) - ((2^c:Nat):Int) by omega]at gq;have HV:=NP n1 n3 qQ.lt;have er:cc row=.tuple (row.map cQ):=rfl;have eκ:((cC t.length x).length:Int) - 1=(κ:Int):=by omega
    obtain⟨s,hs⟩:∃ s:Int,s=1 - 2 * (((κ:Int) - (j:Int)) % 2):=⟨_,rfl⟩;have Pw:s=1\/s=-1:=by omega
    have sR:(s:Rat)=mO (κ - j):=by
     unfold mO;split
     .rw[show s=-1 by omega]; rfl
     .rw[show s=1 by omega]; rfl
    rw[Nat.zero_add];simp![eκ,ar,er,ae,HV,sc,gq,<-hs];refine JG n1 n3 rfl nY pq (by omega) (by omega) qQ λu2=>?_;have ad:=JF (s:=s) (u1:=.t (aJ fR p)) (u2:=.t (aJ fR<|kJ ns.length q en)) n1 n3 (.inr rfl) nY Pw hp ((pq.BX n1 n3 (by omega) qQ).up (qe _) (by omega)) (by omega) (by omega);simp![ad];refine⟨_,_,_,_,_,rfl,(hp.add ((pq.BX n1 n3 (by omega) qQ).up (qe _) (by omega)) n1 n3 (by omega) Pw).up (qe _) (by omega),λg=>?_⟩;rw[Lq hp.pg.nd,Kk pq.pg,hg,lq,List.range_succ,List.map_append,bo,List.map_cons,List.map_nil,List.sum_cons,List.sum_nil,Rat.add_zero,sR,gc,ee]
   .rintro _ ⟨p,v7,v8,v9,v10,rfl,hp,hg⟩
    rw[wU,List.length_map,Hj]at hp hg;have pu:=RM (qs:=qs) (q:=p) (x:=(x:Int)) (by omega) (by omega);simp![pu];refine⟨_,_,_,_,_,_,_,_,rfl,by rw[qr,List.length_singleton]; omega,I.snoc ?_ λg=>?_⟩
    .rw[<-hx,Hj]
     exact hp.up (qe _) (by omega)
    .rw[<-hx,Hj,hg]
     rfl
 .rintro _ ⟨qs,v4,v5,v6,v7,v8,v9,v10,rfl,hq,I⟩
  rw[uK]at hq;have hl:qs[P - 1]?=some qs[P - 1]:=ql (by omega);generalize qs[P - 1]=q at hl;have gq:=JD hl;rw[show((P - 1:Nat):Int)=(P:Int) - 1 by omega]at gq;have be:=(JE _ mr).2;rw[hP]at be;have pq:=I.pz _ _ hl;have lq:=I.eq _ _ hl;rw[be,List.length_range]at pq lq;simp![sl,gq];exact k q (pq.up (qe _) (by omega)) lq
abbrev T':=Qa Int->Rat
section
variable{t:Qa (Qa Et)}
theorem Lp(a:Rat)(f h:α->Rat):∀ l:Qa α,(l.map λx=>a * f x+h x).sum=a * (l.map f).sum+(l.map h).sum
 | []=>by simp only[List.map_nil,List.sum_nil]; grind
 | x::l=>by
  rw[List.map_cons,List.sum_cons,Lp a f h l,List.map_cons,List.map_cons,List.sum_cons,List.sum_cons];grind
theorem RL(e:Et)(a:Rat)(g h:T'):Ev n e (λx=>a * g x+h x)=λx=>a * Ev n e g x+Ev n e h x:=by
 funext x
 unfold Ev;grind
theorem Ap(a:Rat):∀ (k:Nat) (cs:Qa Nat) (g h:T'),Df n t k cs (λx=>a * g x+h x)=a * Df n t k cs g+Df n t k cs h
 | 0,cs,g,h=>rfl
 | k+1,cs,g,h=>by
  unfold Df;rw[<-Lp];congr 1;refine Ã λj _=>?_;rw[RL,Ap a k];grind
theorem Ff(k:Nat)(cs:Qa Nat):Df n t k cs (λ_=>0)=0:=by
 have:=Ap (n:=n) (t:=t) (-1) k cs (λ_=>0) (λ_=>0);rw[show(λx:Qa Int=>(-1:Rat) * 0+0)=λ_=>0 by funext x; grind]at this;grind
theorem RK(k:Nat)(cs:Qa Nat)(g:T'):Df n t k cs (λx=>-1 * g x)=-Df n t k cs g:=by
 have:=Ap (n:=n) (t:=t) (-1) k cs g (λ_=>0);rw[show(λx:Qa Int=>(-1:Rat) * g x+0)=λx=>-1 * g x by funext x; grind,Ff]at this;grind
theorem JB(k:Nat)(cs:Qa Nat)(a:α->Rat)(g:α->T'):∀ l:Qa α,Df n t k cs (λx=>(l.map λc=>a c * g c x).sum)=(l.map λc=>a c * Df n t k cs (g c)).sum
 | []=>Ff k cs
 | c::l=>by
  simp only[List.map_cons,List.sum_cons];rw[Ap,JB k cs a g l]
theorem FF(F:β->Rat)(f:α->Qa β):∀ l:Qa α,((l.flatMap f).map F).sum=(l.map λx=>((f x).map F).sum).sum
 | []=>rfl
 | x::l=>by rw[List.flatMap_cons,List.map_append,bo,FF F f l]; rfl
theorem WN{xs ys:Qa Rat}(h:xs.Perm ys):xs.sum=ys.sum:=by
 induction h with
 | nil=>rfl
 | cons x _ ih=>rw[List.sum_cons,List.sum_cons,ih]
 | swap x y l=>rw[List.sum_cons,List.sum_cons,List.sum_cons,List.sum_cons]; grind
 | trans _ _ a b=>exact a.trans b
def toN(s:Qa Int):Qa Nat:=s.map Int.toNat
def IF(m i:Nat):Qa (Bool×Qa Nat×Nat×Qa Int):=(gf m i).flatMap λs=>((List.range m).filter λc:Nat=>!decide ((c:Int)∈s)).map λc:Nat=>(odd s c,toN s,c,cJ<|s++[(c:Int)])
def IE(m i:Nat):Qa (Bool×Qa Nat×Nat×Qa Int):=(gf m<|i+1).flatMap λs=>(List.range<|i+1).map λj=>(decide<|(i - j) % 2=1,(toN s).eraseIdx j,(toN s).getD j 0,s)
theorem Yl:∀ m∈List.range 7,∀ i∈List.range m,(IF m i).Perm (IE m i):=by decide +kernel
theorem JA:∀ m∈List.range 7,gf m 0=[[]]/\gf m m=[(List.range m).map λi:Nat=>(i:Int)]/\toN ((List.range m).map λi:Nat=>(i:Int))=List.range m:=by decide +kernel
theorem Lo(p:α->Bool)(f:α->Rat):∀ l:Qa α,(l.map λx=>if p x=true then f x else 0).sum=((l.filter p).map f).sum
 | []=>rfl
 | x::l=>by
  rw[List.map_cons,List.sum_cons,Lo p f l,List.filter_cons];split
  .rfl
  .rw[Rat.zero_add]
theorem Kj(hT:TO n t)(hm:t.length<=6):∀ i,i<=t.length->∀ φ:Qa Int->T',nO n (t.take i) φ [] (zs n)=((gf t.length i).map λs=>Df n t i (toN s)<|φ s).sum
 | 0,_,φ=>by
  rw[(JA _<|List.mem_range.mpr (by omega)).1];show φ [] (zs n)=_;rw[List.map_cons,List.map_nil,List.sum_cons,List.sum_nil,Rat.add_zero];rfl
 | i+1,hi,φ=>by
  have fV:t[i]?=some t[i]:=ql (by omega);generalize t[i]=row at fV;have lr:=hT.sq row (Æ fV);rw[List.take_add_one,fV,Option.toList_some,MU,Kj hT hm i (by omega)];have e1:∀ s,Df n t i (toN s) (pC n row φ s)=((((List.range t.length).filter λc:Nat=>!decide ((c:Int)∈s)).map λc:Nat=>(odd s c,toN s,c,cJ<|s++[(c:Int)])).map λx:Bool×Qa Nat×Nat×Qa Int=>(if x.1=true then(-1:Rat)else 1) * Df n t i x.2.1 (Ev n (ent t i x.2.2.1)<|φ x.2.2.2)).sum:=λs=>by
   rw[List.map_map];have e3:pC n row φ s=λk=>(((List.range t.length).filter λc:Nat=>!decide ((c:Int)∈s)).map λc:Nat=>sg s c * Ev n (ent t i c) (φ<|cJ<|s++[(c:Int)]) k).sum:=by
    funext k
    unfold pC;rw[lr,<-Lo];congr 1;refine Ã λc _=>?_;have ee:ent t i c=row.getD c (0,none):=by unfold ent; rw[show t.getD i []=row by rw[qA,fV]; rfl]
    unfold tm Ev;rw[ee]
    by_cases c1:(c:Int)∈s
    .rw[if_pos c1,if_neg (by simp[c1])]
    .rw[if_neg c1,if_pos (by simp[c1])]
     grind
   rw[e3,JB];rfl
  rw[show((gf t.length i).map λs=>Df n t i (toN s)<|pC n row φ s)=(gf t.length i).map λs=>((((List.range t.length).filter λc:Nat=>!decide ((c:Int)∈s)).map λc:Nat=>(odd s c,toN s,c,cJ<|s++[(c:Int)])).map λx:Bool×Qa Nat×Nat×Qa Int=>(if x.1=true then(-1:Rat)else 1) * Df n t i x.2.1 (Ev n (ent t i x.2.2.1)<|φ x.2.2.2)).sum from Ã λs _=>e1 s];rw[<-FF];show((IF t.length i).map _).sum=_;rw[WN<|(Yl _ (List.mem_range.mpr (by omega)) i<|List.mem_range.mpr (by omega)).map _];unfold IE;rw[FF];congr 1;refine Ã λs _=>?_;rw[List.map_map];show _=((List.range<|i+1).map λj=>mO (i - j) * Df n t i ((toN s).eraseIdx j) (Ev n (ent t i<|(toN s).getD j 0)<|φ s)).sum;congr 1;refine Ã λj _=>?_;show(if decide ((i - j) % 2=1)=true then(-1:Rat)else 1) * _=mO (i - j) * _;unfold mO;simp only[decide_eq_true_eq]
theorem Yk(hT:TO n t)(hm:t.length<=6)(h:T'):nO n t (λK=>if K=(List.range t.length).map (λi:Nat=>(i:Int))then h else λ_=>0) [] (zs n)=Df n t t.length (List.range t.length) h:=by
 have:=Kj hT hm t.length (qe _) (λK=>if K=(List.range t.length).map (λi:Nat=>(i:Int))then h else λ_=>0);rw[List.take_length]at this;have(_,s1,s2):=JA _ (Á.mpr (by omega:t.length < 7));rw[this,s1,List.map_cons,List.map_nil,List.sum_cons,List.sum_nil,Rat.add_zero,if_pos rfl,s2]
end
section
variable{b e:Nat}{A:Qa Wy}
theorem FE{f:α->Rat}:∀ {l:Qa α},(∀ x∈l,f x=0)->(l.map f).sum=0
 | [],_=>rfl
 | x::l,h=>by rw[List.map_cons,List.sum_cons,h x qo,FE λy hy=>h y<|qm x hy,Rat.add_zero]
theorem Fe{f:Nat->Rat}{b:Nat}:∀ {j:Nat},b < j->(∀ i,i < j->i≠b->f i=0)->((List.range j).map f).sum=f b
 | 0,h,_=>by omega
 | j+1,h,z=>by
  rw[List.range_succ,List.map_append,bo,List.map_cons,List.map_nil,List.sum_cons,List.sum_nil,Rat.add_zero]
  by_cases q:b=j
  .subst q
   rw[FE λx hx=>z x (by have:=List.mem_range.mp hx; omega) (by have:=List.mem_range.mp hx; omega),Rat.zero_add]
  .rw[Fe (by omega) λi hi hb=>z i (by omega) hb,z j (by omega)<|Ne.symm q,Rat.add_zero]
theorem Ki{f g:Nat->Rat}:∀ {l:Qa Nat},(l.map λx=>f x+g x).sum=(l.map f).sum+(l.map g).sum
 | []=>by simp only[List.map_nil,List.sum_nil]; grind
 | x::l=>by
  simp only[List.map_cons,List.sum_cons];rw[Ki];grind
theorem Lm{F:Nat->Et->Rat}:∀ {A:Qa Wy},A.Pairwise Lx->(∀ w∈A,w.1.1 < w.1.2)->((A.filter λw=>decide<|w.1.2=j).map λw=>F w.1.1 w.2).sum=((List.range j).map λi:Nat=>((look (dB A) [(i:Int),(j:Int)]).map<|F i).getD 0).sum
 | [],_,_=>(FE λx _=>rfl).symm
 | w::A,up,lt=>by
  have ih:=Lm (F:=F) (Î.mp up).2 λv hv=>lt v<|qm w hv;have hl:∀ i:Nat,look (dB<|w::A) [(i:Int),(j:Int)]=if w.1.1=i/\w.1.2=j then some w.2 else look (dB A) [(i:Int),(j:Int)]:=λi=>by
   show((kw w::dB A).find? _).map _=_
   by_cases q:w.1.1=i/\w.1.2=j
   .rw[if_pos q,List.find?_cons_of_pos (by simp[kw,q.1,q.2])]
    rfl
   .rw[if_neg q,List.find?_cons_of_neg (by
     simp only[kw,decide_eq_true_eq,List.cons.injEq,and_true];omega)]
    rfl
  by_cases q:w.1.2=j
  .rw[List.filter_cons_of_pos (by simpa using q),List.map_cons,List.sum_cons,ih]
   have no:look (dB A) [(w.1.1:Int),(j:Int)]=none:=wu λu hu z=>by
    have(v,hv,rfl):=À.mp hu;have:=(Î.mp up).1 v hv;simp only[kw,List.cons.injEq,and_true]at z;unfold Lx at this;omega
   have e1:((List.range j).map λi:Nat=>((look (dB<|w::A) [(i:Int),(j:Int)]).map<|F i).getD 0)=(List.range j).map λi:Nat=>(if w.1.1=i then F w.1.1 w.2 else 0)+((look (dB A) [(i:Int),(j:Int)]).map<|F i).getD 0:=by
    refine Ã λi _=>?_;rw[hl]
    by_cases y:w.1.1=i
    .rw[if_pos ⟨y,q⟩,if_pos y,<-y,no]
     show F w.1.1 w.2=F w.1.1 w.2+0;rw[Rat.add_zero]
    .rw[if_neg λz=>y z.1,if_neg y,Rat.zero_add]
   rw[e1,Ki,Fe (b:=w.1.1) (by have:=lt w qo; omega) λi _ hb=>if_neg<|Ne.symm hb,if_pos rfl]
  .rw[List.filter_cons_of_neg (by simpa using q),ih]
   congr 1;refine Ã λi _=>?_;rw[hl,if_neg λz=>q z.2]
def Wk(ps:Qa (Pq Rat))(j:Nat)(g:T'):Rat:=aM (ps.getD j []) g
theorem zBP(p:Pq Rat):aM p (λ_=>0)=0:=Ba p
theorem OJ(g:T'):Ev n (0,l) g=λ_=>0:=by
 funext k
 unfold Ev;rw[Rat.zero_mul]
theorem zCk{ps:Qa (Pq Rat)}(h:Wv n m c b e A)(I:WI n m A ps)(g:T'):Wk ps 0 g=g (zs n):=by
 have ln:=I.ln;have hp:ps[0]?=some ps[0]:=ql (by omega);unfold Wk;rw[qA,hp,Option.getD_some,I.eq 0 _ hp,if_pos rfl];rw[show(A.filter λw=>decide<|w.1.2=0)=[] from List.filter_eq_nil_iff.mpr λw hw=>by
  have:=(h.lt w hw).1;simp;omega]
 exact Rat.add_zero _
theorem zCl{ps:Qa (Pq Rat)}(h:Wv n m c b e A)(I:WI n m A ps)(hj:j < m)(g:T'):Wk ps (j+1) g=((List.range<|j+1).map λi=>Wk ps i<|Ev n (fM A i j) g).sum:=by
 have ln:=I.ln;have hp:ps[j+1]?=some ps[j+1]:=ql (by omega);unfold Wk;rw[qA,hp,Option.getD_some,I.eq _ _ hp,if_neg (by omega),Rat.zero_add];rw[Lm (F:=λi en=>aM (ps.getD i [])<|Ev n en g) h.up λw hw=>(h.lt w hw).1];congr 1;refine Ã λi hi=>?_;have:=Á.mp hi;unfold fM;rw[if_neg (by omega),show((j+1:Nat):Int)=1+(j:Int) by omega];cases look (dB A) [(i:Int),1+(j:Int)]with
 | some en=>rfl
 | none=>
  show(0:Rat)=aM _ (Ev n (0,none) g);rw[OJ,zBP]
theorem Fd{k:Nat}(hi:i < m)(hk:k < m):ent (tab A m) i k=fM A i k:=by
 unfold ent tab;rw[qA,qA,List.getElem?_map,List.getElem?_range hi,Option.map_some,Option.getD_some,List.getElem?_map,List.getElem?_range hk];rfl
theorem znL{r k:Nat}:(List.range r++[k]).eraseIdx r=List.range r:=by
 rw[List.eraseIdx_append_of_length_le (by rw[List.length_range]; exact qe _),List.length_range,Nat.sub_self];exact List.append_nil _
theorem znM{r k:Nat}:(List.range (r+1)++[k]).eraseIdx r=List.range r++[k]:=by
 rw[List.range_succ,List.append_assoc,List.eraseIdx_append_of_length_le (by rw[List.length_range]; exact qe _),List.length_range,Nat.sub_self];rfl
theorem Ll{r k:Nat}(h:j < r):(List.range r++[k]).getD j 0=j:=by
 rw[qA,List.getElem?_append_left (by rw[List.length_range]; exact h),List.getElem?_range h];rfl
theorem Vv{r k:Nat}:(List.range r++[k]).getD r 0=k:=by
 rw[qA,List.getElem?_append_right (by rw[List.length_range]; exact qe _),List.length_range,Nat.sub_self];rfl
theorem Jn{ps:Qa (Pq Rat)}(h:Wv n m c b e A){r:Nat}(hA:∀ g,Df n (tab A m) r (List.range r) g=Wk ps r g)
  (ih:∀ s,r=s+1->∀ k,s<=k->k < m->∀ g,Df n (tab A m) (s+1) (List.range s++[k]) g=((List.range<|s+1).map λi=>Wk ps i<|Ev n (fM A i k) g).sum) (hr:r < m) {k:Nat} (hk:r<=k) (hm:k < m) (g:T'):
  Df n (tab A m) (r+1) (List.range r++[k]) g=((List.range<|r+1).map λi=>Wk ps i<|Ev n (fM A i k) g).sum:=by
 show((List.range<|r+1).map λj=>mO (r - j) * Df n (tab A m) r ((List.range r++[k]).eraseIdx j) (Ev n (ent (tab A m) r<|(List.range r++[k]).getD j 0) g)).sum=_;rw[List.range_succ,List.map_append,List.map_append,bo,bo];congr 1
 .cases r with
  | zero=>rfl
  | succ r=>
   rw[Fe (b:=r) (by omega) λj hj hb=>?_]
   .have s1:mO (r+1 - r)=-1:=by rw[Nat.add_sub_cancel_left]; rfl
    have e1:fM A (r+1) r=(-1,none):=if_pos rfl;have e2:Ev n ((-1:Rat),none) g=λx=>-1 * g x:=rfl;rw[s1,znM,Ll (by omega),Fd (by omega) (by omega),e1,e2,RK,ih r rfl k (by omega) hm];grind
   .have e1:fM A (r+1) j=(0,none):=by
     unfold fM;rw[if_neg (by omega),wu λu hu z=>?_]
     .rfl
     .have(i',j',e,h1,h2):=DK h u hu
      rw[e]at z;simp only[List.cons.injEq,and_true]at z;omega
    rw[Ll hj,Fd (by omega) (by omega),e1,OJ,Ff,Rat.mul_zero]
 .rw[List.map_cons,List.map_nil,List.map_cons,List.map_nil,Nat.sub_self,znL,Vv,Fd (by omega) hm,hA,show mO 0=1 from rfl,Rat.one_mul]
theorem zCm{ps:Qa (Pq Rat)}(h:Wv n m c b e A)(I:WI n m A ps)(r:Nat):(r<=m->∀ g,Df n (tab A m) r (List.range r) g=Wk ps r g)/\(r < m->∀ k,r<=k->k < m->∀ g,Df n (tab A m) (r+1) (List.range r++[k]) g=((List.range<|r+1).map λi=>Wk ps i<|Ev n (fM A i k) g).sum):=by
 induction r with
 | zero=>
  have hA:∀ g,Df n (tab A m) 0 (List.range 0) g=Wk ps 0 g:=λg=>(zCk h I g).symm;exact⟨λ_=>hA,λhr k hk hm g=>Jn h hA (λs z=>by omega) hr hk hm g⟩
 | succ r ih=>
  have hA:r+1<=m->∀ g,Df n (tab A m) (r+1) (List.range<|r+1) g=Wk ps (r+1) g:=λhr g=>by
   rw[List.range_succ,ih.2 (by omega) r (qe _) (by omega),zCl h I (by omega)]
  exact⟨hA,λhr k hk hm g=>Jn h (hA (by omega)) (λs z=>by cases z; exact ih.2 (by omega)) hr hk hm g⟩
theorem Yj{ps:Qa (Pq Rat)}{p:Pq Rat}(h:Wv n m c b e A)(I:WI n m A ps)(hp:ps[m]?=some p)(g:T'):Df n (tab A m) m (List.range m) g=aM p g:=by
 rw[(zCm h I m).1<|qe _];unfold Wk;rw[qA,hp];rfl
end
end K46
open PySem L2
namespace K46
open PySem L2
theorem Kh{neg:Bool}{d:D}{k:Nat}(h:fJ k M d)(hk:k<=64):jZ neg (.d d) (.d d)=some (.d<|.bool (!neg)):=by
 rw[h.eqD h hk hk,PySem.SeqAt.eqv_refl d h.lay];cases neg<;>rfl
theorem znN{r:Rat}(hr:Bd 12 12000000 r):BP [.d<|fR r]=some (.d<|.bool true,[.d<|fR r]):=by
 refine zU ?_;have(gd,gn):=hr.size (by decide);have d1:=jY r;have lf:=wY (n:=r.num) (d:=(r.den:Int)) (by omega) (CW d1 (by omega));rw[Rat.num_divInt_den]at lf;have er:fR r=.tuple [.int r.num,.int (r.den:Int)]:=rfl;simp![BP,Og,er];refine mG (λi ρ=>∃ v1,ρ=[some<|U.d<|.tuple [.int r.num,.int (r.den:Int)],v1]) ⟨_,rfl⟩ ?_ ?_
 .rintro i d _ hd ⟨v1,rfl⟩
  obtain⟨z,rfl⟩:∃ z:Int,d=.int z:=by
   have hm:=Æ hd;simp only[qu,List.not_mem_nil,or_false]at hm;rcases hm with rfl|rfl<;>exact⟨_,rfl⟩
  simp!;exact⟨_,rfl⟩
 .rintro _ ⟨v1,rfl⟩
  rw[<-er];have eq:=EZ (a:=r) (b:=r) (neg:=false);have Hd:bg (.d<|fR r) (.d<|.int 0)=some (.d<|.int r.num):=rfl;have Hc:bg (.d<|fR r) (.d<|.int 1)=some (.d<|.int (r.den:Int)):=rfl;simp![lf,eq,Hd,Hc,show((0:Int) < (r.den:Int))=True from eq_true (by omega),if_true]
theorem zmp{e:Et}(he:EO n e):BH [.d<|cQ e,.d<|.int (n:Int),.d<|.bool true]=some (.d<|.bool true,[.d<|cQ e,.d<|.int (n:Int),.d<|.bool true]):=by
 refine zU ?_;have fo:=znN he.bd;have(f,l):=e;have ed:cQ (f,l)=.tuple [fR f,hV l]:=rfl;simp![BH,Ob,ed,fo];refine WM (λc=>zU ?_) ?_
 .simp!
 cases l with
 | none=>simp![hV,IJ]
 | some j=>
  have hj:j < n:=he.lt j rfl;simp![hV,II,show((0:Int)<=(j:Int))=True from eq_true (by omega),if_true,show decide ((j:Int) < (n:Int))=true from decide_eq_true (by omega)]
theorem zBR{f:Rat}(h:Bd 12 12000000 f):fJ 1 31 (fR f):=(RF (n:=8) (Ä (h.size (by decide)).2 (by decide))<|Ä (h.size (by decide)).1 (by decide)).mono (qe _) (by decide)
theorem RJ{e:Et}(n3:n<=3)(he:EO n e):fJ 2 100 (cQ e):=by
 refine(uN (n:=2) (k:=1) (M:=31) (λd hd=>?_)<|qe _).mono (qe _) (by decide);simp only[qu,List.not_mem_nil,or_false]at hd;rcases hd with rfl|rfl
 .exact zBR he.bd
 .cases q:e.2 with
  | none=>exact W3.mono (by decide) (by decide)
  | some j=>exact(E8 (n:=1) (by have:=he.lt j q; show j < 10; omega)).mono (by decide) (by decide)
theorem Jm{ns:Qa Str}(n3:ns.length<=3)(ha:∀ z∈ns,br 10 z):fJ 1 400 (.tuple<|ns.map .str):=by
 refine(uN (n:=3) (k:=0) (M:=102) (λd hd=>?_) (by rw[List.length_map]; exact n3)).mono (qe _) (by decide);have(z,hz,rfl):=À.mp hd;exact U3<|ha z hz
theorem Ts{ns:Qa Str}{t:Qa (Qa Et)}(n3:ns.length<=3)(ha:∀ z∈ns,br 10 z)(hT:TO ns.length t):fJ 5 12000 (.tuple [.tuple<|ns.map .str,.tuple<|t.map cc]):=by
 have(_,d6):=mU (n:=ns.length);have t4:=hT.l4;refine(uN (n:=2) (k:=4) (M:=5000) (λd hd=>?_)<|qe _).mono (qe _) (by decide);simp only[qu,List.not_mem_nil,or_false]at hd;rcases hd with rfl|rfl
 .exact(Jm n3 ha).mono (by decide) (by decide)
 .refine(uN (n:=6) (k:=3) (M:=700) (λd hd=>?_) (by rw[List.length_map]; omega)).mono (qe _) (by decide)
  have(r,hr,rfl):=À.mp hd;refine(uN (n:=6) (k:=2) (M:=100) (λd hd=>?_) (by rw[List.length_map,hT.sq r hr]; omega)).mono (qe _) (by decide);have(e,he,rfl):=À.mp hd;exact RJ n3<|hT.en r hr e he
theorem zBS(xs:Qa α):CQ (.l<|xs.map λ_=>PyData.bool true)=some (.d<|.bool true):=by
 have e:∀ xs:Qa α,(xs.map λ_=>PyData.bool true).mapM Cz=some (xs.map λ_=>true):=λxs=>by
  induction xs with
  | nil=>rfl
  | cons x xs ih=>
   rw[List.map_cons,List.mapM_cons,ih];rfl
 show((xs.map λ_=>PyData.bool true).mapM Cz).bind _=_;rw[e];show some (U.d<|.bool<|(xs.map λ_=>true).all id)=_;rw[List.all_map];simp
theorem zmq{ns:Qa Str}{t:Qa (Qa Et)}(n1:1<=ns.length)(n3:ns.length<=3)(ha:∀ z∈ns,br 10 z)(hT:TO ns.length t):BF [.d<|lh ns t,.d<|.tuple<|ns.map .str,.d<|.int (t.length:Int)]=some (.d<|.bool true,[.d<|lh ns t,.d<|.tuple<|ns.map .str,.d<|.int (t.length:Int)]):=by
 refine zU ?_;have(_,d6):=mU (n:=ns.length);have t4:=hT.l4;have eq:=Kh (neg:=true) (Jm n3 ha) (by decide);unfold lh;simp![BF,N7,eq];refine kr (λbs cs ρ=>∃ v3,ρ=[some<|U.d<|.tuple [.tuple<|ns.map .str,.tuple<|t.map cc],some<|.d<|.tuple<|ns.map .str,some<|.d<|.int (t.length:Int),v3]) ⟨_,rfl⟩ ?_ ?_
 .rintro bs r cs _ ea ⟨v3,rfl⟩
  have hr:r∈t:=by rw[ea]; simp
  have lr:=hT.sq r hr;have er:cc r=.tuple (r.map cQ):=rfl;have eo:∀ e∈r,_:=λe he=>zmp<|hT.en r hr e he;simp![er,lr];refine nP (e:=λ_=>.bool true) (by omega) (λe he ys=>?_) ?_
  .simp![eo e he]
  .simp![zBS]
   exact⟨_,rfl⟩
 .rintro _ ⟨v3,rfl⟩
  simp!
end K46
open PySem L2
namespace K46
open PySem L2
def mQ(p:Pq Rat):jV:=p.map λt=>(kL t.1,[.inl t.2.num,.inl (t.2.den:Int)])
theorem DH:∀ p:Pq Rat,qF (aJ fR p)=some (mQ p)
 | []=>rfl
 | t::p=>by
  show(cO<|fR t.2).bind (λv=>(qF<|aJ fR p).bind λr=>some<|(kL t.1,v)::r)=_;rw[DH p];rfl
theorem zBT{a b:Qa Int}(h:kL a=kL b):a=b:=(List.map_inj_right λx y e=>by cases e; rfl).mp h
theorem Vu{p q:Pq Rat}(hp:p.Perm q)(nd:aP q):jg (mQ p) (mQ q)=true:=by
 unfold jg;rw[show((mQ p).length==(mQ q).length)=true by unfold mQ; rw[List.length_map,List.length_map,hp.length_eq]; exact beq_self_eq_true _,Bool.true_and];refine ä.mpr λx hx=>?_;have(t,ht,rfl):=À.mp hx;have(j,hj):=List.mem_iff_getElem?.mp (hp.mem_iff.mp ht);refine decide_eq_true<|LZ ?_ (j:=j) ?_
 .unfold mQ
  rw[List.map_map];show(q.map λt=>kL t.1).Nodup;exact á.mpr<|(á.mp nd).imp λh e=>h<|zBT e
 .unfold mQ
  rw[List.getElem?_map,hj];rfl
theorem RI{w:Bool}{u v:U}{p q:Pq Rat}(hu:tY u=some (aJ fR p))(hv:tY v=some (aJ fR q))(hp:p.Perm q)(nd:aP q):Ab w u v=some (.d<|.bool w):=by
 unfold Ab;rw[hu,hv];show(qF<|aJ fR p).bind (λf=>(qF<|aJ fR q).bind λg=>some<|U.d<|.bool<|jg f g==w)=_;rw[DH,DH];show some (U.d<|.bool<|jg (mQ p) (mQ q)==w)=_;rw[Vu hp nd];cases w<;>rfl
theorem Jl:∀ p:Pq Rat,PyData.canLayAll0 (fe fR p)=true/\PyData.depthAll (fe fR p)<=2
 | []=>⟨by simp[fe,PyData.canLayAll0],by simp[fe,PyData.depthAll]⟩
 | t::p=>by
  have(h1,h2):=Jl p;have e:fe fR (t::p)=.tuple [aO t.1,fR t.2]::fe fR p:=rfl;have a1:=PyProof.Rows.canLayAll_ints t.1;have a2:=PyProof.Rows.depthAll_ints t.1;rw[e];constructor
  .simp[PyData.canLayAll0,PyData.canLay0,aO,fR,h1,a1]
  .simp[PyData.depthAll,PyData.depth,aO,fR,a2]
   omega
theorem Yi(p:Pq Rat):SeqAt.shaped (.tuple<|fe fR p)=true:=by
 have(h1,h2):=Jl p;unfold SeqAt.shaped;simp[PyData.canLay0,PyData.depth,h1];omega
theorem Tr{a b:U}{x:D}(ha:a.py=some x)(hb:b.py=some x)(hs:SeqAt.shaped x=true):jZ true a b=some (.d<|.bool false):=by
 unfold jZ;rw[ha,bd,hb,bd,if_pos ⟨hs,hs⟩,if_pos rfl,SeqAt.eqv_refl x<|SeqAt.canLay_of_shaped hs];rfl
theorem Vt{p q:Pq Rat}(n1:aP p)(z1:∀ t∈p,t.2≠0)(n2:aP q)(z2:∀ t∈q,t.2≠0)(h:∀ g,aM p g=aM q g):p.Perm q:=by
 have e:gF p=gF q:=E3 ⟨uS n1,λt ht=>z1 t<|(jE p).mem_iff.mp ht⟩ ⟨uS n2,λt ht=>z2 t<|(jE q).mem_iff.mp ht⟩ λg=>by rw[Bp<|jE p,Bp<|jE q,h]
 exact(jE p).symm.trans<|e▸jE q
theorem Tq{p:Pq Int}(b1:1<=b)(h:∀ t∈p,t.2≠0):∀ t∈bL b p,t.2≠0:=λs hs=>by
 have(u,hu,rfl):=À.mp hs;intro z;have z:Rat.divInt u.2 b=0:=z;rw[Rat.divInt_eq_div]at z;have hb:(b:Rat)≠0:=λq=>by
  have q:b=0:=by exact_mod_cast q
  omega
 have z2:(u.2:Rat)=0:=by grind
 exact h u hu (by exact_mod_cast z2)
theorem Jk(p:Pq Rat):tY (dT p)=some (aJ fR p):=by
 show(if hU (aU fR p)=true then rG (aU fR p)else none)=_;rw[if_pos<|rV p,FH]
theorem zAa{A:Qa Wy}(m1:1<=m)(m6:m<=cE n)(h:Wv n m 50 m 0 A):TO n (tab A m):=by
 have tl:(tab A m).length=m:=by unfold tab; rw[List.length_map,List.length_range]
 refine⟨by omega,by omega,λr hr=>?_,λr hr e he=>?_⟩
 .have(i,hi,rfl):=À.mp hr
  rw[List.length_map,List.length_range,tl]
 .have(i,hi,rfl):=À.mp hr
  have(c,hc,rfl):=À.mp he;unfold fM;split
  .exact⟨(kK (n:=1) (d:=1) (by decide) (by decide) (by decide)).neg,λk hk=>by cases hk⟩
  .cases hl:look (dB A) [(i:Int),1+(c:Int)]with
   | none=>exact⟨Bd.zero,λk hk=>by cases hk⟩
   | some en=>
    have(w,hw,e):=À.mp (FJ hl);have:=(h.en w hw).1;have e2:w.2=en:=congrArg Prod.snd e;rw[e2]at this;exact this
def Wb(d:D):Prop:=∃ ns m A,d=k7 ns m A/\1<=ns.length/\ns.length<=3/\(∀ z∈ns,br 10 z)/\1<=m/\m<=cE ns.length/\Wv ns.length m 50 m 0 A
theorem zBU(ns:Qa Int)(hl:ns.length<=63):Wo (uz [.d<|.list<|ns.map .int]) λo=>o=(.d<|.bool true,[.d<|.list<|ns.map .int]):=by
 simp![uz,IP,List.length_map];refine mG (λi ρ=>∃ (ts:Qa D) (o2 o3 o4 o5 o6 o7:Qb U),ρ=[some<|.d<|.list<|ns.map .int,some<|.l ts,o2,o3,o4,o5,o6,o7]/\ts.length=i/\∀ d∈ts,Wb d) ⟨_,_,_,_,_,_,_,rfl,rfl,λd hd=>by cases hd⟩ ?_ ?_
 .rintro i d _ hd ⟨ts,o2,o3,o4,o5,o6,o7,rfl,ht,eX⟩
  have(hi,rfl):=FT hd;have hi4:i < 4:=by
   refine qi hi ?_;split<;>split<;>omega
  simp!;refine zBF (by omega) λx y=>?_;simp!;refine fB (by decide) (by decide) λr x1 y1 r0 r1=>?_;simp!;refine Vd (by omega) (by omega) λls x2 y2 hls ha=>?_;have l1:1<=ls.length:=by omega
  have l3:ls.length<=3:=by omega
  simp!;refine fB (by decide) (by decide) λr' x3 y3 r0' r1'=>?_;simp!;have lJ:∀ {d:D},Wb d->(ts++[d]).length=i+1/\∀ z∈ts++[d],Wb z:=λ{d} hd=>⟨by simp[ht],λz hz=>by
   rcases Ì.mp hz with hz|hz
   .exact eX z hz
   .cases qp.mp hz
    exact hd⟩
  by_cases c:r'=0
  .obtain⟨z,zs,rfl⟩:∃ z zs,ls=z::zs:=by
    cases ls with
    | nil=>simp at l1
    | cons z zs=>exact⟨z,zs,rfl⟩
   have ec:ie (List.map PyData.str<|z::zs) none (some 1)=[z].map PyData.str:=rfl;simp![c];rw[show ie (PyData.str z::List.map PyData.str zs) none (some 1)=[z].map PyData.str from rfl];refine IH (most:=7) (by show 1<=1; decide) (by show 1<=3; decide) (by decide) (by show 7<=cE 1+1; decide) λm A x4 y4 m1 m6 hv=>?_;simp!;exact⟨_,_,_,_,_,_,_,rfl,lJ ⟨[z],m,A,rfl,by show 1<=1; decide,by show 1<=3; decide,λy hy=>ha y (by cases qp.mp hy; exact qo),m1,m6,hv⟩⟩
  .have d4:=(mU (n:=ls.length)).1
   simp![c];refine IH (most:=5) l1 l3 (by decide) (by omega) λm A x4 y4 m1 m6 hv=>?_;simp!;exact⟨_,_,_,_,_,_,_,rfl,lJ ⟨ls,m,A,rfl,l1,l3,ha,m1,m6,hv⟩⟩
 .rintro _ ⟨ts,o2,o3,o4,o5,o6,o7,rfl,ht,eX⟩
  have l4:ts.length<=4:=by
   rw[ht,F7];split<;>split<;>omega
  have lc:=U4 ts none (some 1);simp!;refine mG (λi ρ=>∃ (o1 o5 o6 o7:Qb U),ρ=[some<|.d<|.list<|ns.map .int,o1,o2,o3,o4,o5,o6,o7]) ⟨_,_,_,_,rfl⟩ ?_ ?_
  .rintro i d _ hd ⟨o1,o5,o6,o7,rfl⟩
   have qR:Wb d:=by
    rcases Ì.mp (Æ hd)with h|h
    .exact eX d h
    .exact eX d (U5 h)
   have(ls,m,A,rfl,l1,l3,ha,m1,m6,hv):=qR;have hT:=zAa m1 m6 hv;have d6:=(mU (n:=ls.length)).2;have tl:(tab A m).length=m:=by unfold tab; rw[List.length_map,List.length_range]
   have tok:=Wu m1 (by omega) hv;have gJ:=zmq l1 l3 ha hT;rw[tl]at gJ;have Hd:bg (.d<|k7 ls m A) (.d<|.int 0)=some (.d<|.tuple<|ls.map .str):=rfl;have Hc:bg (.d<|k7 ls m A) (.d<|.int 1)=some (.d<|.int ((m+1:Nat):Int)):=rfl;have qV:((m+1:Nat):Int) - 1=(m:Int):=by omega
   have eqT:=Kh (neg:=true) (d:=lh ls (tab A m)) (Ts l3 ha hT) (by decide);simp![tok,Hd,Hc,qV,gJ,eqT];refine znK l1 l3 m1 m6 hv λps p I hp=>?_;simp!;refine zkM l1 l3 hT λq hq hql=>?_;have pz:=I.pz _ _ hp;have an:=hv.ln;have lp:=pz.pg.len l1 l3 m6;have tw:=Yj hv I hp;have pq:q.Perm p:=Vt hq.pg.nd hq.nz pz.pg.nd pz.nz λg=>by rw[hql,tl,tw]
   have eqP:=RI (w:=false) (Jk q) (Jk p) pq pz.pg.nd;have P1:∀ p,pd p=.dict (aU fR p):=λ_=>rfl;simp![P1,eqP];refine Wz l1 l3 hT λF e a w hF a4 w4 he hFl=>?_;have GD:=Vb (u:=.d (.dict<|aU fR p)) rfl pz.pg.nd (by omega);have nfF:Nf (gF<|bL F.b F.p):=⟨uS<|Jx hF.nd,λs hs=>Tq hF.b1 hF.nz s<|(jE _).mem_iff.mp hs⟩;have nfp:Nf (gF p):=⟨uS pz.pg.nd,λs hs=>pz.nz s<|(jE _).mem_iff.mp hs⟩;have same:gF (bL F.b F.p)=gF p:=E3 nfF nfp λg=>by
    rw[Bp<|jE _,Bp<|jE _];show bO F g=_;rw[hFl,Yk hT (by omega),tl,tw]
   have eq:=Tr (a:=yW (gF p)) (b:=yW (gF p)) rfl rfl (Yi _);rw[same];simp![GD,eq];exact⟨_,_,_,_,rfl⟩
  .rintro _ ⟨o1,o5,o6,o7,rfl⟩
   simp!
theorem zAb(ns:Qa Int)(hl:ns.length<=63):∃ outs,uz [.d<|.list<|ns.map .int]=some (.d<|.bool true,outs):=⟨_,zU<|zBU ns hl⟩
abbrev Jj(K:qc):Sp:=p7 K 1 uz
theorem all_mk{l:PySem.W.OpenLaw}{fa:Qg}(X:K.In h)(G:h.Ns mainGlobals mg)(hfa:mg "law"=some (.ref fa)){jn:Tok}{bI lT bf fZ:Qg}{jI sY oA pb:Qb Qg}{cA fU:Array Qc}{gH qD:Nat}{jG sO oh:Array (Qb Qc)}{oB oH oX om jh oY:Qc}
  (a0:cx K "common_factor" Oe)
  (a1:cx K "fraction" MQ)
  (a2:cx K "powers_plus" NM)
  (a3:cx K "settled" Mx)
  (a4:cx K "form_sum" MP)
  (a5:cx K "number_by_powers" Oz)
  (a6:cx K "letter_by_powers" Oy)
  (a7:cx K "times_by_powers" OD)
  (a8:cx K "fractions_of" NB)
  (a9:cx K "by_letter" Nu)
  (QH:cx K "signed_sum" Nd)
  (QD:cx K "table_of" MN)
  (QC:cx K "_law_box" Nt)
  (QB:cx K "_law_take" Nb)
  (Qz:cx K "_law_names" NL)
  (Qy:cx K "_law_fraction" N0)
  (Qx:cx K "_law_plus" Na)
  (Qw:cx K "_law_times" NK)
  (Qv:cx K "_law_poly_add" NZ)
  (Qu:cx K "_law_poly_mult" OC)
  (Qt:cx K "_law_poly_told" OB)
  (Qs:cx K "_law_poly_number" Oj)
  (Qr:cx K "_law_multiple" NY)
  (Qq:cx K "_law_entry" NJ)
  (Qp:cx K "_law_web" Nr)
  (Qo:cx K "_law_entry_poly" Ox)
  (Qn:cx K "_law_web_poly" NX)
  (Qm:cx K "_law_is_fraction" Oi)
  (Ql:cx K "_law_is_entry" NW)
  (Qk:cx K "_law_is_table" NV)
  (Qj:cx K "_law_signed_sum" Ov)
  (Qi:cx K "law" IQ)
  (z0:PySem.W.nsIn K mainGlobals "abs"=some none)
  (z1:PySem.W.nsIn K mainGlobals "tuple"=some none)
  (z2:PySem.W.nsIn K mainGlobals "zip"=some none)
  (z3:PySem.W.nsIn K mainGlobals "max"=some none)
  (z4:PySem.W.nsIn K mainGlobals "sorted"=some none)
  (z5:PySem.W.nsIn K mainGlobals "len"=some none)
  (z6:PySem.W.nsIn K mainGlobals "enumerate"=some none)
  (z7:PySem.W.nsIn K mainGlobals "range"=some none)
  (z8:PySem.W.nsIn K mainGlobals "int"=some none)
  (z9:PySem.W.nsIn K mainGlobals "dict"=some none)
  (Gu:PySem.W.nsIn K mainGlobals "isinstance"=some none)
  (Gs:PySem.W.nsIn K mainGlobals "bool"=some none)
  (Gr:PySem.W.nsIn K mainGlobals "all"=some none)
  (Gq:PySem.W.nsIn K mainGlobals "min"=some none)
  (Gv:CS K OO O1=true)
  (iM:PySem.W.nsIn K mainGlobals "ROOM"=some (some<|.int 256 jn))
  (eY:PySem.W.nsIn K mainGlobals "NOUGHT"=some (some<|.ref bI))
  (eW:K.lookup bI=some ⟨.type "tuple",jI,.seq cA gH,jG⟩)
  (eS:zM [.int<|0,.int<|1] cA.toList)
  (eR:cA.size<=sizeLine)
  (lR:PySem.W.nsIn K mainGlobals "ONE"=some (some<|.ref lT))
  (lD:K.lookup lT=some ⟨.type "tuple",sY,.seq fU qD,sO⟩)
  (k8:zM [.int<|1,.int<|1] fU.toList)
  (kZ:fU.size<=sizeLine)
  (f9:PySem.W.nsIn K mainGlobals "Form"=some (some<|.ref bf))
  (iD:PySem.W.keepIn K (.ref bf)=true)
  (iz:PySem.W.makesIn K bf=true)
  (eA:PySem.W.plainGet K bf Str.empty=true)
  (eE:PySem.W.hasDictIn K bf=true)
  (d9:PySem.W.plainOver K bf=true)
  (d0:PySem.W.findIn K (.ref bf) "__setattr__"=some (some<|.builtin "object.__setattr__"))
  (aS:PySem.W.findIn K (.ref bf) "numbers"=some none)
  (aT:PySem.W.findIn K (.ref bf) "beneath"=some none)
  (bF:PySem.W.findIn K (.ref bf) "room"=some none)
  (iE:PySem.W.findIn K (.ref bf) "__init__"=some (some<|.ref fZ))
  (iC:K.lookup fZ=some ⟨oB,oA,.func<|PySem.W.fnOf "__init__" "Form.__init__" (sD wx) (kY wx) (zX wx) .none oH oX om pb jh oY,oh⟩)
  (iL:PySem.W.codeIn K jh "Form.__init__"=true)
  (fS:PySem.W.keepIn K (.ref fZ)=true)
  (fY:PySem.W.isFn K (.ref fZ)=true)
  : ∃ fd:FuncData,(∀ (s:Qd) (v:Qc),BindsTo s fd ⟨[v],[]⟩ [("_law_script",v)])/\∀ base:Heap,K.In base->base.Ns mainGlobals mg->cw l.prog w K mg base iR 7 fa fd ["_law_script"] (p7 K 1 uz):=by
 have(_,fd,F,g):=Qi;cases hfa.symm.trans (ý X G g);refine⟨fd,λs v=>by have(_,_,_,_,_,_,_,_,_,rfl,_):=F.ex; exact .of_eq rfl,λbase _ _=>?_⟩;have hB:Bl mg ["abs", "tuple", "zip", "max", "sorted", "len", "enumerate", "range", "int", "dict", "isinstance", "bool", "all", "min"]:=Bl.cons (Ë X G z0) (Bl.cons (Ë X G z1)<|Bl.cons (Ë X G z2)<|Bl.cons (Ë X G z3)<|Bl.cons (Ë X G z4)<|Bl.cons (Ë X G z5)<|Bl.cons (Ë X G z6)<|Bl.cons (Ë X G z7)<|Bl.cons (Ë X G z8)<|Bl.cons (Ë X G z9)<|Bl.cons (Ë X G Gu)<|Bl.cons (Ë X G Gs)<|Bl.cons (Ë X G Gr)<|Bl.cons (Ë X G Gq)<|Bl.nil);have hT:=zBk Gv;have cL:=ý X G iM;have bP:=ý X G eY;have bq:mZ K bI [0,1]:=⟨_,cA,gH,eW,rfl,rfl,eR,eS⟩;have lK:=ý X G lR;have iJ:mZ K lT [1,1]:=⟨_,fU,qD,lD,rfl,rfl,kZ,k8⟩;have tT:=ý X G f9;have lU:=J4 (st:=wx) iC iL fS;have ai:t6 l.prog w K mg base "Form" bf ["numbers", "beneath", "room"]:=⟨f9,⟨eA,eE,d9,d0⟩,na3 aS aT bF,tT,_,_,["self", "numbers", "beneath", "room"],⟨iz,iE,fY,iD⟩,lU.binds (λ_ _ _ _ _ _ us hl=>by have(_,_,_,_,rfl):=OE hl; rfl),lU.ok (k:=0) V8 (λvs H Q E h=>UP h) λbG A outer s H vs Q E hr mR=>⟨_,FP (ED (pv 0) (pv 1) rfl)<|FP (ED (pv 0) (pv 2) rfl)<|Ld<|ED (pv 0) (pv 3) rfl,W9 ⟨eA,eE,d9,d0⟩ aS aT bF (by decide) (by decide) (by decide) mR⟩⟩
 let Z:Zs:=⟨l.prog,w,K,mg,base⟩
 have B:Bs Z:=⟨hB,hT,⟨_,cL⟩,⟨_,bP,bq⟩,⟨_,lK,iJ⟩,⟨_,ai⟩⟩;have C0:=zhk B (a0.z X G);have C1:=znF B (a1.z X G) C0;have C2:=zi6 B (a2.z X G);have C3:=Yn B (a3.z X G) C0;have C4:=znG B (a4.z X G) C0 C3;have C5:=zfv B (a5.z X G) C3;have C6:=zfu B (a6.z X G);have C7:=zgi B (a7.z X G) C2 C3;have C8:=ziN B (a8.z X G) C1;have C9:=zl8 B (a9.z X G) C6 C7;have C10:=zkE B (QH.z X G) C4 C5 C8 C9;have C11:=znE B (QD.z X G);have C12:=zl6 B (QC.z X G);have yx:=zkC B (QB.z X G);have C14:=zi7 B (Qz.z X G) yx;have CK:=zgI B (Qy.z X G);have Q3:=zkD B (Qx.z X G) CK;have C17:=zi8 B (Qw.z X G) CK;have Q2:=zgK B (Qv.z X G) Q3;have Q1:=zgh B (Qu.z X G) Q3 C17;have C20:=zgf B (Qt.z X G);have Q0:=zeD B (Qs.z X G);have C22:=zgJ B (Qr.z X G) yx CK;have C23:=zi9 B (Qq.z X G) yx C22;have C24:=zl7 B (Qp.z X G) yx C23;have QZ:=zft B (Qo.z X G);have C26:=zgM B (Qn.z X G) Q2 Q1 Q0 QZ;have C27:=zeE B (Qm.z X G) CK;have C28:=zgL B (Ql.z X G) C27;have C29:=zgN B (Qk.z X G) C28;have C30:=zfw B (Qj.z X G) Q2 Q1 Q0 QZ;exact Rz (Z:=Z) B F C10 C11 C12 yx C14 C20 C24 C26 C29 C30
theorem walk{l:PySem.W.OpenLaw}{q:Qe}{loose:Qa Str}{XP:(Str->Qb Qc)->Heap->Prop}{YP:Qh->Heap->Prop}{d:DefRec}{K:Params->qc}(hn:l.most=some 63)(xV:d.params.defaults=[])
  (hY:∀ (w:Qh) (h:Heap),YP w h->(K w.params).In h)
  (F:∀ (w:Qh) (mg:Str->Qb Qc) (fa:Qg) (h:Heap),(K w.params).In h->h.Ns mainGlobals mg->mg d.name=some (.ref fa)->
   ∃ fd:FuncData,(∀ (s:Qd) (u:Qc),BindsTo s fd ⟨[u],[]⟩ [("_law_script",u)])/\∀ base:Heap,(K w.params).In base->base.Ns mainGlobals mg->cw l.prog w (K w.params) mg base iR 7 fa fd ["_law_script"] (Jj<|K w.params)):
  PySem.W.WalkO q loose XP YP l.row.toRowW d [] (λf vs=>PySem.call f vs):=
 L2.n9 (n:=63) (k:=7) (x := "_law_script") (CX:=λ_=>iR) (sp:=λw=>Jj<|K w.params) hn (by decide) xV ⟨rfl,by decide,by decide,rfl⟩ hY F (λw H a ns hl hO hS=>Sd hO hS<|zAb ns hl) λ_ _ _ _ _ z=>z
end K46
namespace PySem.W.Fast
def tw1105163346600359908:=()
def tw2644489985102953364:=()
def tw11685166853108964077:=()
def tw11242411876138352781:=()
def tw2941173052831732335:=()
def tw4757604137107605188:=()
def tw6110993358048480315:=()
def tw8122642149855805496:=()
def tw4893133745221898271:=()
def tw10871599115629266534:=()
def tw11642609833577438447:=()
def tw17484775320513609082:=()
def tw14593783630747633917:=()
def tw12900573629226861952:=()
def tw6077069065672279176:=()
def tw4801435728760740640:=()
def tw7545690134927667830:=()
def tw4346200428769176515:=()
def tw4713731604530538107:=()
def tw11552268165842925448:=()
def tw18339893264744696898:=()
def tw546741615107632436:=()
def tw5384353797345942449:=()
def tw9545477157793535556:=()
def tw16132786163062726304:=()
def tw1949894416706515934:=()
def tw3509167274834062814:=()
def tw2574050235924317704:=()
def tw9738209792680834881:=()
def tw14422294900053120909:=()
def tw7396986363744842538:=()
def tw9235312106580310161:=()
def tw13308104489222192767:=()
def tw1922085461342587621:=()
def tw9659965517589231973:=()
def tw10832336649601418622:=()
def tw3769321916400624396:=()
def tw11916114112322555223:=()
def tw11709693388423946786:=()
def tw7014360898147339690:=()
def tw6999314303074703167:=()
def tw3235690732849209286:=()
def tw14141467429620744203:=()
def tw7584868801412151028:=()
def tw8603677616817300802:=()
def tw8686576893308761237:=()
def tw1415352828508645533:=()
def tw3319593408109596185:=()
def tw17252758051837022178:=()
def tw17256502190939550809:=()
def tw14552716640275884053:=()
def tw5620334649868977300:=()
def tw12654877230409367380:=()
def tw13397059593333590386:=()
def tw4933956239526504316:=()
def tw11604995263271689408:=()
def tw2047383326560162682:=()
def tw17290636314406430397:=()
def tw16129235383480105602:=()
def tw17077101127803069484:=()
def tw16699669648966901830:=()
def tw17936751856935300887:=()
def tw84700110409659141:=()
def tw4896330966990237257:=()
def tw2255932410441866671:=()
def tw10285124073394812716:=()
def tw16680014842795496649:=()
def tw8423842922608311352:=()
def tw7073040769465669178:=()
def tw17687494516443007991:=()
def tw245493925737076953:=()
def tw12983662665756202455:=()
def tw18293602408699159453:=()
def tw4394639597470593006:=()
def tw16480946561431570053:=()
def tw14547270866751667997:=()
def tw5616507101458598328:=()
def tw14979734828331115340:=()
def tw16736202970369791658:=()
def tw10484218016737252459:=()
def tw16743181053918672625:=()
def tw18430695332914928009:=()
def tw14507007022473834941:=()
def tw1889477009223575560:=()
def tw6538564898355580272:=()
def tw14262332032689720448:=()
def tw12929596052088045180:=()
def tw2035767184753601309:=()
def tw10006544561482741573:=()
def tw16666227417464394088:=()
def tw14262815017727561649:=()
def tw11825862163581066116:=()
def tw12533559587926078056:=()
def tw11062984526084955313:=()
def tw2854935749286465345:=()
def tw15322661719811790863:=()
def tw15400164244458086981:=()
def tw12682326757585727029:=()
def tw1246852212017726268:=()
def tw13526646183327578266:=()
def tw212736945761088158:=()
def tw13416626218428080832:=()
def tw6829253144768649375:=()
def tw1902428147268364881:=()
def tw13312414267748328239:=()
def tw17841089323094465533:=()
def tw3912945653027123444:=()
def tw10917838171855833542:=()
def tw13319594246560520525:=()
def tw13202702800748516562:=()
def tw15000933299561100779:=()
def tw1514513951166034269:=()
def tw5430414968565710373:=()
def tw5773737489908772494:=()
def tw7754727825389446208:=()
def tw15850357024962253979:=()
def tw4799274670619023676:=()
def tw6360781951365307223:=()
def tw1467427179629797309:=()
def tw15090545438135966282:=()
def tw13195263884268903580:=()
def tw4347373928709038909:=()
def tw8046401287202714107:=()
def tw16879941727183528420:=()
def tw2507841533184094659:=()
def tw13811725946910072373:=()
def tw12442721684581444884:=()
def tw15318358901553330339:=()
def tw12320061750395547744:=()
def tw13220616045401978795:=()
def tw1965923396138693008:=()
def tw10501781835636424023:=()
def tw17001340901049218710:=()
def tw450138438794334482:=()
def tw2673656869594862098:=()
def tw11813423185131183478:=()
def tw13169250896343643138:=()
def tw3398056764197616172:=()
def tw10108615126077785630:=()
def tw481731788989651622:=()
def tw15052857695565274622:=()
def tw4835732612485252592:=()
def tw1198074062665935136:=()
def tw1144493358973456398:=()
def tw4979582463562587547:=()
def tw16165118294706096207:=()
def tw3398299572901454480:=()
def tw5886495192781412964:=()
end PySem.W.Fast
open PySem PySem.W PyProof.Rows
set_option maxRecDepth 100000 in
set_option maxHeartbeats 0 in
theorem PySem.Challenge.cw_undivide_k46_whole_tables_of_webs_holds : PySem.Challenge.rw_undivide_k46_whole_tables_of_webs.Holds := by
 w_on; o_law; k_head; (case hw=>w_witness2)
 k_fill
 refine K46.walk (l:=PySem.Challenge.rw_undivide_k46_whole_tables_of_webs) rfl rfl (λw h Y=>PySem.W.kIn_of Y) ?F
 case F=>
  intro w mg fa h KX G xM;refine' K46.all_mk KX G xM ?a0 ?a1 ?a2 ?a3 ?a4 ?a5 ?a6 ?a7 ?a8 ?a9 ?QH ?QD ?QC ?QB ?Qz ?Qy ?Qx ?Qw ?Qv ?Qu ?Qt ?Qs ?Qr ?Qq ?Qp ?Qo ?Qn ?Qm ?Ql ?Qk ?Qj ?Qi ?z0 ?z1 ?z2 ?z3 ?z4 ?z5 ?z6 ?z7 ?z8 ?z9 ?Gu ?Gs ?Gr ?Gq ?Gv ?iM ?eY ?eW ?eS ?eR ?lR ?lD ?k8 ?kZ ?f9 ?iD ?iz ?eA ?eE ?d9 ?d0 ?aS ?aT ?bF ?iE ?iC ?iL ?fS ?fY
  any_goals (refine' L2.fnK ?_ ?_ ?_ ?_<;>try k_is)
  (case z0=>k_is)
  (case z1=>k_is)
  (case z2=>k_is)
  (case z3=>k_is)
  (case z4=>k_is)
  (case z5=>k_is)
  (case z6=>k_is)
  (case z7=>k_is)
  (case z8=>k_is)
  (case z9=>k_is)
  (case Gu=>k_is)
  (case Gs=>k_is)
  (case Gr=>k_is)
  (case Gq=>k_is)
  (case Gv=>kernel_rfl)
  (case iM=>k_is)
  (case eY=>k_is)
  (case eW=>k_is)
  (case eS=>(repeat (first|exact .nil|refine .cons ⟨_,rfl⟩ ?_)))
  (case eR=>exact by decide)
  (case lR=>k_is)
  (case lD=>k_is)
  (case k8=>(repeat (first|exact .nil|refine .cons ⟨_,rfl⟩ ?_)))
  (case kZ=>exact by decide)
  (case f9=>k_is)
  (case iD=>k_is)
  (case iz=>k_is)
  (case eA=>k_is)
  (case eE=>k_is)
  (case d9=>k_is)
  (case d0=>k_is)
  (case aS=>k_is)
  (case aT=>k_is)
  (case bF=>k_is)
  (case iE=>k_is)
  (case iC=>k_is)
  (case iL=>k_is)
  (case fS=>k_is)
  (case fY=>k_is)
