import PyProof.Rows.All
import Wide.All
import OpenK.AllK
import Wide.FinOn
import Lean
import PyProof.EqAt
import PyProof.EqKinds
import PyProof.TupleCall
import PySem.Challenge.RW_undivide_k34_shares
set_option Elab.async false
set_option linter.all false
set_option maxRecDepth 100000
set_option compiler.extract_closed false
local macro_rules | `(tactic| omega)=> `(tactic| lia)
noncomputable section
namespace L2
open PySem PySem.Spec PyProof.Rows
abbrev À:=@PySem.F.slot_list_append
abbrev Á:=@PySem.F.type_list_append
abbrev Â:=@PySem.F.plainAttrs_list
abbrev Ã.{u,v}:=@List.mem_map.{u,v}
abbrev Ä:=@Nat.lt_of_le_of_lt
abbrev Å:=@PySem.boot_len
abbrev Æ:=@Nat.mul_le_mul_right
abbrev Ç:=@PySem.W.mg_none_of
abbrev È:=@Nat.zero_le
abbrev É:=@PySem.Heap.SameBut.update
abbrev Ê:=@List.mem_range
abbrev Ë:=@PySem.Heap.get?_update_self
abbrev Ì:=@Nat.lt_irrefl
abbrev Í.{u}:=@List.mem_append.{u}
abbrev Î.{u,v}:=@List.length_map.{u,v}
abbrev Ï.{u}:=@List.pairwise_cons.{u}
abbrev Ð:=@PyProof.Rows.boot_tuple
abbrev Ñ:=@PySem.Heap.get?_update_other
abbrev Ò.{u}:=@List.mem_append_left.{u}
abbrev Ó:=@PySem.W.kia_one
abbrev Ô:=@Nat.lt_trans
abbrev Õ:=@PySem.Obj.data_mapFields
abbrev Ö:=@PySem.F.slot_dict_itemiterator_next
abbrev Ø.{u,v}:=@List.map_congr_left.{u,v}
abbrev Ù:=@PySem.Obj.isFreed_of_fields
abbrev Ú.{u}:=@List.mem_filter.{u}
abbrev Û:=@PyProof.Rows.callWith_type1
abbrev Ü:=@Nat.lt_succ_self
abbrev Ý:=@Nat.pow_le_pow_right
abbrev Þ:=@Nat.pow_lt_pow_right
abbrev ß.{u}:=@List.nodup_nil.{u}
abbrev à:=@Int.le_refl
abbrev á:=@PySem.F.slot_dict_valueiterator_next
abbrev â:=@Int.le_of_lt
abbrev ã:=@PySem.F.called_set
abbrev ä:=@Int.mul_pos
abbrev å.{u}:=@List.mem_of_getElem?.{u}
abbrev æ:=@PySem.F.slot_dict_keyiterator_next
abbrev ç:=@Nat.lt_succ_of_lt
abbrev è:=@Nat.lt_or_ge
abbrev é.{u}:=@List.pairwise_iff_getElem.{u}
abbrev ê:=@Int.emod_nonneg
abbrev ë.{u}:=@List.eq_nil_of_length_eq_zero.{u}
abbrev ì:=@Nat.mul_le_mul_left
abbrev í:=@PySem.Calls.callWith_builtin
abbrev î:=@Int.dvd_gcd_mul_iff_dvd_mul
abbrev ï:=@Int.emod_lt_of_pos
abbrev ð.{u}:=@List.nodup_cons.{u}
abbrev ñ:=@Nat.le_succ
abbrev ò:=@Nat.pow_pos
abbrev ó:=@Nat.mul_le_mul
abbrev ô:=@Int.mul_ediv_cancel_left
abbrev õ:=@PySem.mem_of_lookup
abbrev ö.{u}:=@List.getElem_of_mem.{u}
abbrev ø:=@Int.eq_ofNat_of_zero_le
abbrev ù:=@Int.natCast_dvd_natCast
abbrev ú.{u}:=@List.getElem?_set_self.{u}
abbrev û:=@Nat.mul_pos
abbrev ü:=@Nat.ne_of_gt
abbrev ý:=@Nat.le_of_eq
abbrev þ:=@PySem.Heap.size_push
abbrev ÿ:=@Int.le_trans
abbrev Ā.{u}:=@List.length_filter_le.{u}
abbrev ā:=@Int.gcd_pos_of_ne_zero_right
abbrev Ă:=@PyProof.Rows.boot_int
abbrev ă:=@PyProof.Rows.boot_abs
abbrev Ą:=@PyProof.Rows.boot_isinstance
abbrev ą.{u}:=@List.getElem_mem.{u}
abbrev Ć.{u}:=@List.any_eq_true.{u}
abbrev ć.{u}:=@List.all_eq_true.{u}
abbrev Ĉ:=@Int.eq_of_mul_eq_mul_right
abbrev ĉ:=@PySem.W.mg_of
abbrev Ċ:=@Nat.not_lt_zero
abbrev ċ:=@Nat.le_of_lt
abbrev Č:=@Int.mul_nonneg
abbrev Qa.{u}:=@List.{u}
abbrev Qb.{u}:=@Option.{u}
abbrev Qc:=Value
abbrev Qd:=Shared
abbrev Qe:=Program
abbrev Qf:=Around
abbrev Qg:=Addr
abbrev Qh:=World
abbrev qc:=@wpAny_bind
abbrev qd:=@wpAny_pure
abbrev qe:=PySem.W.Frag
abbrev qf:=@Heap.get?_push_of_some
abbrev qg:=@Nat.le_refl
abbrev qh:=@Bool.false_ne_true
abbrev qi:=@Heap.get?_push_size
abbrev qj:=@Heap.lt_size
abbrev qk:=@Nat.lt_of_lt_of_le
abbrev ql:=@Nat.ne_of_lt
abbrev qm.{u}:=@List.getElem?_eq_some_iff.{u}
abbrev qo.{u}:=@List.getElem?_eq_getElem.{u}
abbrev qp.{u}:=@List.mem_cons_of_mem.{u}
abbrev qq.{u}:=@List.mem_cons_self.{u}
abbrev qr.{u}:=@List.mem_singleton.{u}
abbrev qu.{u,v}:=@Option.map_eq_some_iff.{u,v}
abbrev qv.{u}:=@List.length_append.{u}
abbrev qw.{u}:=@List.length_cons.{u}
abbrev qx.{u}:=@List.mem_cons.{u}
abbrev qy.{u}:=@List.mem_append_right.{u}
abbrev qA.{u}:=@Option.some.inj.{u}
abbrev qB:=@Nat.le_trans
abbrev qC:=@wpAny_newObj_type
abbrev qD.{u}:=@List.getD_eq_getElem?_getD.{u}
abbrev qE.{u}:=@List.getElem?_set_ne.{u}
abbrev Key:=Sum Int Str
def uq:Key->Qc->Bool
 | .inl k,v=>Value.isInt k v
 | .inr x,v=>Value.isStrOf x v
def Pg(w:Qh):Key->Int
 | .inl k=>hashInt k
 | .inr x=>hashStr w x
theorem nX:∀ {k:Key} {v:Qc},uq k v=true->(∃ i t,k=Sum.inl i/\v=Value.int i t)\/(∃ x t,k=Sum.inr x/\v=Value.str x t)
 | .inl i,v,h=>by
  obtain⟨t,e⟩:=Value.isInt_shape (k:=i) (v:=v) h;exact .inl ⟨i,t,rfl,e⟩
 | .inr x,v,h=>by
  obtain⟨t,e⟩:=Value.isStrOf_shape (x:=x) (v:=v) h;exact .inr ⟨x,t,rfl,e⟩
theorem ZW(i:Int)(t:Tok):uq (.inl i) (.int i t)=true:=by simp[uq,Value.isInt]
theorem ZV(x:Str)(t:Tok):uq (.inr x) (.str x t)=true:=by simp[uq,Value.isStrOf]
theorem UI(a b:Int):decide ((Sum.inl a:Key)=Sum.inl b)=(a==b):=by
 by_cases e:a=b
 .subst e; simp
 .have h:¬(Sum.inl a:Key)=Sum.inl b:=λq=>e (Sum.inl.inj q)
  rw[decide_eq_false h];exact(beq_eq_false_iff_ne.mpr e).symm
theorem UH(a b:Str):decide ((Sum.inr a:Key)=Sum.inr b)=decide (a=b):=by
 by_cases e:a=b
 .subst e; simp
 .have h:¬(Sum.inr a:Key)=Sum.inr b:=λq=>e (Sum.inr.inj q)
  rw[decide_eq_false h,decide_eq_false e]
theorem UG(a:Int)(b:Str):decide ((Sum.inl a:Key)=Sum.inr b)=false:=decide_eq_false (λq=>nomatch q)
theorem UE(a:Str)(b:Int):decide ((Sum.inr a:Key)=Sum.inl b)=false:=decide_eq_false (λq=>nomatch q)
def e9(prog:Qe)(w:Qh):PySem.KeyKind prog w Key where
 is:=uq
 hash:=Pg w
 inj:=λv a b ha hb=>by
  rcases nX ha with⟨i,t,rfl,rfl⟩|⟨x,t,rfl,rfl⟩
  .rcases nX hb with⟨j,u,rfl,e⟩|⟨y,u,rfl,e⟩
   .injection e with e1 _; rw[e1]
   .exact nomatch e
  .rcases nX hb with⟨j,u,rfl,e⟩|⟨y,u,rfl,e⟩
   .exact nomatch e
   .injection e with e1 _; rw[e1]
 byValue:=λk v h=>by
  rcases nX h with⟨i,t,rfl,rfl⟩|⟨x,t,rfl,rfl⟩<;>rfl
 pyHash:=λhv h=>by
  rcases nX hv with⟨i,t,rfl,rfl⟩|⟨x,t,rfl,rfl⟩
  .exact wpAny_pyHash_int h
  .exact wpAny_pyHash_str h
 eqBool:=λhu hv h=>by
  rcases nX hu with⟨i,t,rfl,rfl⟩|⟨x,t,rfl,rfl⟩
  .rcases nX hv with⟨j,u,rfl,rfl⟩|⟨y,u,rfl,rfl⟩
   .rw[UI]at h; exact wpAny_eqBool_int h
   .rw[UG]at h; exact SeqAt.EqAt.int_str i t y u _ _ _ _ h
  .rcases nX hv with⟨j,u,rfl,rfl⟩|⟨y,u,rfl,rfl⟩
   .rw[UE]at h; exact SeqAt.EqAt.str_int x t j u _ _ _ _ h
   .rw[UH]at h; exact wpAny_eqBool_str h
 «strs»:=λk x t v h=>by
  rcases nX h with⟨i,u,rfl,e⟩|⟨y,u,rfl,e⟩
  .exact nomatch e
  .injection e with e1 _
   subst e1;cases v<;>rfl
theorem zld(prog:Qe)(w:Qh)(i:Int)(t:Tok):(e9 prog w).is (.inl i) (.int i t)=true:=ZW i t
theorem zle(prog:Qe)(w:Qh)(x:Str)(t:Tok):(e9 prog w).is (.inr x) (.str x t)=true:=ZV x t
inductive V where
 | aN|bl (b:Bool) | int (i:Int) | str (x:Str) | jf (b:Array UInt8) | tW (b:UInt64) | ref (a:Qg) | ty (n:String)
 deriving DecidableEq
def zY:V->Qc->Prop
 | .aN,u=>u=Value.none
 | .bl b,u=>u=Value.bool b
 | .int i,u=>∃ t,u=Value.int i t
 | .str x,u=>∃ t,u=Value.str x t
 | .jf b,u=>∃ t,u=Value.bytes b t
 | .tW b,u=>∃ t,u=Value.float b t
 | .ref a,u=>u=Value.ref a
 | .ty n,u=>u=Value.type n
abbrev zV:Qa V->Qa Qc->Prop:=Paired zY
theorem zV.length{xs:Qa V}{us:Qa Qc}(r:zV xs us):xs.length=us.length:=Paired.length r
theorem zV.get:∀ {xs:Qa V} {us:Qa Qc} {i:Nat} {x:V},zV xs us->xs[i]?=some x->∃ u,us[i]?=some u/\zY x u
 | _,_,_,_,.nil,e=>by simp at e
 | _,_,0,_,.cons r _,e=>by simp at e; subst e; exact⟨_,rfl,r⟩
 | _,_,i+1,x,.cons _ t,e=>by
  obtain⟨u,h1,h2⟩:=zV.get (i:=i) (x:=x) t (by simpa using e);exact⟨u,by simpa using h1,h2⟩
theorem zV.set{x:V}{u:Qc}(r:zY x u):∀ {xs:Qa V} {us:Qa Qc} (i:Nat),zV xs us->zV (xs.set i x) (us.set i u)
 | _,_,_,.nil=>.nil
 | _,_,0,.cons _ t=>.cons r t
 | _,_,i+1,.cons q t=>.cons q (zV.set r i t)
theorem zV.append:∀ {xs ys:Qa V} {us ws:Qa Qc},zV xs us->zV ys ws->zV (xs++ys) (us++ws)
 | _,_,_,_,.nil,s=>s
 | _,_,_,_,.cons r t,s=>.cons r (zV.append t s)
theorem zV.take:∀ {xs:Qa V} {us:Qa Qc} (n:Nat),zV xs us->zV (xs.take n) (us.take n)
 | _,_,0,_=>.nil
 | _,_,_+1,.nil=>.nil
 | _,_,n+1,.cons r t=>.cons r (zV.take n t)
theorem zV.drop:∀ {xs:Qa V} {us:Qa Qc} (n:Nat),zV xs us->zV (xs.drop n) (us.drop n)
 | _,_,0,r=>r
 | _,_,_+1,.nil=>.nil
 | _,_,n+1,.cons _ t=>zV.drop n t
def ie:Qb V->Qb Qc->Prop
 | some v,some u=>zY v u
 | none,none=>True
 | _,_=>False
def KV{κ:Type}:Qa (κ×V)->Qa (κ×Qc)->Prop:=Paired λ(p:κ×V) (q:κ×Qc)=>p.1=q.1/\zY p.2 q.2
def kV:Key->V
 | .inl i=>.int i
 | .inr x=>.str x
inductive HO where
 | lst (xs:Qa V)
 | tup (xs:Qa V)
 | dK (kvs:Qa (Key×V)) | dT (kvs:Qa (Qa Key×V))
 | set (S:Int->Bool) (n:Nat)
 | ins (C dx:Qg) (fs:Qa (Str×V))
 | own (x:Qg)
 | xd (fs:Qa (Str×V))
 | met (f x:Qg)
 | Hc (lo hi:Int)
 | aS (o:Obj) (u:HO)
 | sS (ps:Array Qc)
 | ext (φ:Heap->Prop)
abbrev Hp:=Qg->Qb HO
def upd(H:Hp)(a:Qg)(o:HO):Hp:=λb=>if b=a then some o else H b
theorem zx{H:Hp}{a:Qg}{o:HO}:upd H a o a=some o:=by unfold upd; rw[if_pos rfl]
theorem zH{H:Hp}{a b:Qg}{o:HO}(h:b≠a):upd H a o b=H b:=by unfold upd; rw[if_neg h]
theorem AZ{H:Hp}{a:Qg}{o u:HO}:upd (upd H a o) a u=upd H a u:=by
 funext b; unfold upd; split<;>rfl
theorem nM{H:Hp}{a b:Qg}{o u:HO}(h:H a=some o)(h':H b=some u)(d:o≠u):a≠b:=by
 intro e; subst e; rw[h]at h'; exact d (qA h')
theorem jz{H:Hp}{a b:Qg}{o:HO}(h:H a=some o)(h':H b=none):a≠b:=by
 intro e; subst e; rw[h]at h'; cases h'
def zB6(K:qe)(a:Qg)(xs:Qa V):Prop:=∃ (o:Obj) (ah:Array Qc) (n:Nat),K.lookup a=some o/\o.cls=.type "tuple"/\o.data=.seq ah n/\ah.size<=sizeLine/\zV xs ah.toList/\∃ i r,xs=.int i::r
def aT(K:qe)(H:Hp)(a:Qg)(xs:Qa V):Prop:=H a=some (.tup xs)\/zB6 K a xs
theorem aT.keeps{K:qe}{H H':Hp}{a:Qg}{xs:Qa V}(h:aT K H a xs)(ht:∀ b ys,H b=some (.tup ys)->H' b=some (.tup ys)):aT K H' a xs:=h.imp (ht _ _) id
def mN(h:Heap)(a:Qg)(items:Array Qc):Prop:=∃ o,h.get? a=some o/\o.cls=.type "tuple"/\(∃ n,o.data=.seq items n)/\(o.dict=none\/∃ i t r,items.toList=.int i t::r)
theorem mN.tup{h:Heap}{a:Qg}{items:Array Qc}(x:mN h a items):IsTup h a items:=let ⟨o,e,c,d,_⟩:=x; ⟨o,e,c,d⟩
theorem mN.lt{h:Heap}{a:Qg}{items:Array Qc}(x:mN h a items):a < h.objs.size:=x.tup.lt
theorem mN.new(h:Heap)(items:Array Qc):mN (h.push {cls:=.type "tuple",data:=.seq items}) h.objs.size items:=⟨_,qi _ rfl,rfl,⟨_,rfl⟩,.inl rfl⟩
section
variable(P:Qe)(w:Qh)(K:qe)
def bT(H:Hp)(h:Heap)(a:Qg):HO->Prop
 | .lst xs=>xs.length<=sizeLine/\∃ (ah:Qa Qc) (n:Nat),zV xs ah/\h.get? a=some {cls:=.type "list",data:=.seq ah.toArray n}
 | .tup xs=>xs.length<=sizeLine/\∃ ah:Qa Qc,zV xs ah/\mN h a ah.toArray
 | .dK kvs=>kvs.length<=sizeLine/\(a==sysModules)=false/\∃ vs,KV kvs vs/\h.DictOf (e9 P w) a vs
 | .dT kvs=>kvs.length<=sizeLine/\(a==sysModules)=false/\∃ xs:Qa (Qa Key×Qg×Qc),
   Paired (λ(p:Qa Key×V) (q:Qa Key×Qg×Qc)=>p.1=q.1/\aT K H q.2.1 (p.1.map kV)/\zY p.2 q.2.2) kvs xs/\
   ∃ o es ep,h.get? a=some o/\o.ExactDict/\o.data=.dict es ep/\es.toList=xs.map (entryOfKey (tupleKind (e9 P w)))/\(xs.map (·.1)).Nodup
 | .set S n=>h.SetOf (intKind P w) a S n
 | .ins C dx fs=>H dx=some (.own a)/\fs.length<=1000/\dx≠a/\h.get? a=some (PySem.W.instObj C dx)/\
   ∃ mA,h.Ns1 dx mA/\(∀ f,ie (fs.lookup f) (mA f))/\PySem.Within mA (fs.map (·.1))
 | .own _=>∃ o,h.get? a=some o
 | .xd fs=>∃ mA,h.Ns1 a mA/\∀ f,ie (fs.lookup f) (mA f)
 | .Hc lo hi=>∃ t u v,h.get? a=some {cls:=.type "range",data:=.fields #[.int lo t,.int hi u,.int 1 v]}
 | .aS o u=>h.get? a=some o/\bT H h a u
 | .sS ps=>h.get? a=some {cls:=.none,data:=.fields ps}
 | .met f x=>h.get? a=some (PySem.W.methodObj (.ref f) (.ref x))
 | .ext φ=>φ h/\(∃ o,h.get? a=some o)/\∀ h1 h2:Heap,φ h1->(∀ o,h1.get? a=some o->h2.get? a=some o)->φ h2
def cI(H:Hp)(h:Heap):Prop:=∀ a o,H a=some o->bT P w K H h a o
end
section
variable{P:Qe}{w:Qh}{K:qe}{H H':Hp}{h h':Heap}{a:Qg}{o:HO}
theorem bT.lt(x:bT P w K H h a o):a < h.objs.size:=by
 cases o with
 | lst xs=>obtain⟨_,_,_,_,e⟩:=x; exact qj e
 | tup xs=>obtain⟨_,_,_,p⟩:=x; exact p.lt
 | dK kvs=>obtain⟨_,_,_,_,o,_,_,e,_⟩:=x; exact qj e
 | dT kvs=>obtain⟨_,_,_,_,o,_,_,e,_⟩:=x; exact qj e
 | set S n=>obtain⟨o,_,_,_,e,_⟩:=x; exact qj e
 | ins C dx fs=>obtain⟨_,_,_,e,_⟩:=x; exact qj e
 | own y=>obtain⟨_,e⟩:=x; exact qj e
 | xd fs=>obtain⟨_,⟨_,_,_,e,_⟩,_⟩:=x; exact qj e
 | Hc lo hi=>obtain⟨_,_,_,e⟩:=x; exact qj e
 | aS ob u=>obtain⟨e,_⟩:=x; exact qj e
 | sS ps=>exact qj (show h.get? a=some _ from x)
 | met f y=>exact qj (show h.get? a=some _ from x)
 | ext φ=>obtain⟨_,⟨_,e⟩,_⟩:=x; exact qj e
theorem Paired.oC{α β:Type}{F G:α->β->Prop}:∀ {xF:Qa α} {l₂:Qa β},Paired F xF l₂->(∀ a b,F a b->G a b)->Paired G xF l₂
 | _,_,.nil,_=>.nil
 | _,_,.cons r t,f=>.cons (f _ _ r) (Paired.oC t f)
theorem bT.d9(x:bT P w K H h a o)(k:∀ b u,(b=a\/H b=some (.own a))->h.get? b=some u->h'.get? b=some u)
  (ho:∀ b,H b=some (.own a)->H' b=some (.own a)) (ht:∀ b xs,H b=some (.tup xs)->H' b=some (.tup xs)):bT P w K H' h' a o:=by
 induction o with
 | lst xs=>obtain⟨z,ah,n,r,e⟩:=x; exact⟨z,ah,n,r,k _ _ (.inl rfl) e⟩
 | tup xs=>obtain⟨z,ah,r,ob,e,c⟩:=x; exact⟨z,ah,r,ob,k _ _ (.inl rfl) e,c⟩
 | dK kvs=>obtain⟨z,y,vs,r,ob,es,ep,e,c⟩:=x; exact⟨z,y,vs,r,ob,es,ep,k _ _ (.inl rfl) e,c⟩
 | dT kvs=>
  obtain⟨z,y,xs,r,ob,es,ep,e,c⟩:=x;exact⟨z,y,xs,Paired.oC r λp q z=>⟨z.1,z.2.1.keeps ht,z.2.2⟩,ob,es,ep,k _ _ (.inl rfl) e,c⟩
 | set S n=>obtain⟨ob,es,ep,t,e,c⟩:=x; exact⟨ob,es,ep,t,k _ _ (.inl rfl) e,c⟩
 | ins C dx fs=>
  obtain⟨d,z,ne,e,mA,⟨od,es,ep,e2,c⟩,r⟩:=x;exact⟨ho _ d,z,ne,k _ _ (.inl rfl) e,mA,⟨od,es,ep,k _ _ (.inr d) e2,c⟩,r⟩
 | own y=>obtain⟨ob,e⟩:=x; exact⟨ob,k _ _ (.inl rfl) e⟩
 | xd fs=>obtain⟨mA,⟨od,es,ep,e,c⟩,r⟩:=x; exact⟨mA,⟨od,es,ep,k _ _ (.inl rfl) e,c⟩,r⟩
 | Hc lo hi=>obtain⟨t,u,v,e⟩:=x; exact⟨t,u,v,k _ _ (.inl rfl) e⟩
 | aS ob u ih=>obtain⟨e,q⟩:=x; exact⟨k _ _ (.inl rfl) e,ih q⟩
 | sS ps=>
  have e:h.get? a=some {cls:=.none,data:=.fields ps}:=x;show h'.get? a=some {cls:=.none,data:=.fields ps};exact k a _ (.inl rfl) e
 | met f y=>
  have e:h.get? a=some (PySem.W.methodObj (.ref f) (.ref y)):=x;show h'.get? a=some (PySem.W.methodObj (.ref f) (.ref y));exact k a _ (.inl rfl) e
 | ext φ=>obtain⟨p,⟨o,e⟩,st⟩:=x; exact⟨st _ _ p λo q=>k _ _ (.inl rfl) q,⟨o,k _ _ (.inl rfl) e⟩,st⟩
theorem cI.lt(x:cI P w K H h)(e:H a=some o):a < h.objs.size:=(x a o e).lt
theorem cI.fresh(x:cI P w K H h)(e:h.objs.size<=a):H a=none:=by
 cases q:H a with
 | none=>rfl
 | some u=>exact absurd (qk (x.lt q) e) (Ì _)
theorem cI.kept(x:cI P w K H h)(k:∀ b u,h.get? b=some u->h'.get? b=some u):cI P w K H h':=λa o e=>
 (x a o e).d9 (λb u _ q=>k b u q) (λ_ q=>q) λ_ _ q=>q
theorem cI.laid(x:cI P w K H h)(k:∀ b u,h.get? b=some u->h'.get? b=some u)(hp:h.objs.size<=a)(new:bT P w K (upd H a o) h' a o):cI P w K (upd H a o) h':=λb u e=>by
 have hn:=x.fresh hp
 by_cases hb:b=a
 .subst hb; rw[zx]at e; cases e; exact new
 .rw[zH hb]at e
  exact(x b u e).d9 (λc v _ q=>k c v q) (λc q=>by rw[zH (jz q hn)]; exact q) λc xs q=>by rw[zH (jz q hn)]; exact q
end
def Rd(H:Hp)(a:Qg)(u:HO):Prop:=H a=some u\/∃ o,H a=some (.aS o u)
theorem Rd.ok{P:Qe}{w:Qh}{K:qe}{H:Hp}{h:Heap}{a:Qg}{u:HO}(r:Rd H a u)(x:cI P w K H h):bT P w K H h a u:=by
 rcases r with r|⟨o,r⟩
 .exact x a u r
 .obtain⟨_,q⟩:=x a _ r
  exact q
def yq:Qb HO->Prop
 | some (.lst _)=>True
 | some (.dK _)=>True
 | some (.dT _)=>True
 | some (.set _ _)=>True
 | some (.ins _ _ _)=>True
 | some (.ext _)=>True
 | _=>False
section
variable{P:Qe}{w:Qh}{K:qe}{H:Hp}{h h':Heap}{x e:Qg}{o':HO}
theorem cI.write(ok:cI P w K H h)(mu:yq (H x))(he:e=x\/H e=some (.own x))(k:∀ b u,b≠e->h.get? b=some u->h'.get? b=some u)(vF:∃ u,h'.get? e=some u)
  (new:bT P w K (upd H x o') h' x o'):cI P w K (upd H x o') h':=λb u q=>by
 have xB:∀ c y,H c=some (.own y)->c≠x:=λc y r z=>by subst z; rw[r]at mu; exact mu
 have Hn:∀ c xs,H c=some (.tup xs)->c≠x:=λc xs r z=>by subst z; rw[r]at mu; exact mu
 by_cases hb:b=x
 .subst hb; rw[zx]at q; cases q; exact new
 .rw[zH hb]at q
  by_cases tQ:b=e
  .have q':H b=some (.own x):=by
    rcases he with z|z
    .exact absurd (tQ.trans z) hb
    .rw[tQ]; exact z
   rw[q]at q'; cases q';obtain⟨v,hv⟩:=vF;exact⟨v,by rw[tQ]; exact hv⟩
  .refine(ok b u q).d9 (λc v hc r=>k c v ?_ r) (λc r=>by rw[zH (xB c b r)]; exact r) λc xs r=>by rw[zH (Hn c xs r)]; exact r
   rcases hc with rfl|hc
   .exact tQ
   .rintro rfl
    rcases he with z|z
    .exact xB c b hc z
    .rw[hc]at z; cases z; exact hb rfl
end
structure Un (fs ex:Qa Qg) (H H':Hp) (h h':Heap):Prop where
 keep:∀ b o,h.get? b=some o->H b=none->b∉fs->b∉ex->h'.get? b=some o
 slot:∀ b o,h.get? b=some o->H b=none->b∈fs->b∉ex->∃ sl,h'.get? b=some {o with slots:=sl}
 free:∀ b o,h.get? b=some o->H b=none->b∉ex->H' b=none
 there:∀ b o,h.get? b=some o->b∉ex->∃ o',h'.get? b=some o'
 fq:∀ b xs,H b=some (.tup xs)->H' b=some (.tup xs)
 eA:∀ b o u,H b=some (.aS o u)->H' b=some (.aS o u)
 fO:∀ b ps,H b=some (.sS ps)->∃ more,H' b=some (.sS (ps++more))
section
variable{fs fs' ex ex':Qa Qg}{H H1 H2:Hp}{h h1 h2 h':Heap}{a x e:Qg}{o:HO}
theorem Un.any(u:Un fs ex H H1 h h1){b:Qg}{ob:Obj}(q:h.get? b=some ob)(n:H b=none)(hx:b∉ex):∃ sl,h1.get? b=some {ob with slots:=sl}:=by
 by_cases hb:b∈fs
 .exact u.slot b ob q n hb hx
 .exact⟨ob.slots,u.keep b ob q n hb hx⟩
theorem Un.kept(k:∀ b u,h.get? b=some u->h'.get? b=some u):Un fs ex H H h h' :=
 ⟨λb ob q _ _ _=>k b ob q,λb ob q _ _ _=>⟨ob.slots,k b ob q⟩,λ_ _ _ n _=>n,λb ob q _=>⟨ob,k b ob q⟩,λ_ _ q=>q,λ_ _ _ q=>q,λ_ ps q=>⟨#[],by rw[q]; simp⟩⟩
theorem Un.refl:Un fs ex H H h h:=Un.kept λ_ _ q=>q
theorem Un.laid(k:∀ b u,h.get? b=some u->h'.get? b=some u)(hp:h.objs.size<=a)(hn:H a=none):Un fs ex H (upd H a o) h h' where
 keep:=λb u q _ _ _=>k b u q
 slot:=λb u q _ _ _=>⟨u.slots,k b u q⟩
 free:=λb u q n _=>by rw[zH (ql (qk (qj q) hp))]; exact n
 there:=λb u q _=>⟨u,k b u q⟩
 fq:=λb xs q=>by rw[zH (jz q hn)]; exact q
 eA:=λb u xs q=>by rw[zH (jz q hn)]; exact q
 fO:=λb ps q=>⟨#[],by rw[zH (jz q hn),q]; simp⟩
theorem Un.write(mu:yq (H x))(he:e=x\/H e=some (.own x))(k:∀ b u,b≠e->h.get? b=some u->h'.get? b=some u)(vF:∃ u,h'.get? e=some u):Un fs ex H (upd H x o) h h':=by
 have hx:∀ b,H b=none->b≠x:=λb n z=>by subst z; rw[n]at mu; exact mu
 have hb:∀ b,H b=none->b≠e:=λb n z=>by
  subst z;rcases he with r|r
  .exact hx b n r
  .rw[n]at r; cases r
 have hm:∀ b u,H b=some u->¬yq (some u)->b≠x:=λb u q nm z=>by subst z; rw[q]at mu; exact nm mu
 refine⟨λb u q n _ _=>k b u (hb b n) q,λb u q n _ _=>⟨u.slots,k b u (hb b n) q⟩,λb u q n _=>by rw[zH (hx b n)]; exact n,λb u q _=>?_,
  λb xs q=>by rw[zH (hm b _ q λz=>z)]; exact q,λb u xs q=>by rw[zH (hm b _ q λz=>z)]; exact q,λb ps q=>⟨#[],by rw[zH (hm b _ q λz=>z),q]; simp⟩⟩
 by_cases tQ:b=e
 .subst tQ; exact vF
 .exact⟨u,k b u tQ q⟩
end
def BV(h:Heap)(H:Hp):Qa Qg:=(List.range h.objs.size).filter λa=>(H a).isSome
def nI(h:Heap)(H:Hp):Heap:=PySem.W.hideAll h (BV h H)
theorem ZU(h:Heap)(H:Hp):(nI h H).objs.size=h.objs.size:=PySem.W.hideAll_size _ _
theorem Zl{h:Heap}{H:Hp}{b:Qg}{o:Obj}(e:h.get? b=some o)(n:H b=none):(nI h H).get? b=some o :=
 PySem.W.hideAll_get _ e λhm=>by
  have q:(H b).isSome=true:=(Ú.mp hm).2;rw[n]at q; simp at q
theorem WU{h:Heap}{H:Hp}{b:Qg}{o:Obj}(e:(nI h H).get? b=some o):h.get? b=some o/\H b=none:=by
 have e':h.get? b=some o:=PySem.W.of_hideAll (BV h H) e;refine⟨e',?_⟩;cases q:H b with
 | none=>rfl
 | some x=>
  have hm:b∈BV h H:=Ú.mpr ⟨Ê.mpr (qj e'),by simp[q]⟩;have z:(nI h H).get? b=none:=PySem.W.hideAll_none (BV h H) hm;rw[z]at e; cases e
def WS(g h:Heap)(L:Qg):Qa (Qg×Obj):=(List.range h.objs.size).filterMap λa=>if a=L\/(g.get? a).isSome=true then none else(h.get? a).map λo=>(a,o)
def eJ(g h:Heap)(L d:Qg):Qa (Qg×Obj):=(WS g h L).filter λp=>decide (p.1≠d)
structure Mod (K:qe) (mg:Str->Qb Qc) (base:Heap):Prop where
 jK:K.In base
 glob:base.Ns mainGlobals mg
 blt:∃ mb,base.Ns builtinsNs mb/\∀ x:Str,x ≠ "__name__"->mb x=bootBuiltins x
 nolimit:base.NoLimit
structure Cx where
 prog:Qe
 w:Qh
 K:qe
 mg:Str->Qb Qc
 base:Heap
 A:Qf
 N:Qa Str
 be:Qd
 aA:Hp
 env:Env
 outer:Qa Env
 stack:Qa Env
 ex:Qa Qg
 fn:Str->Bool
 calm:Bool
 pn:Qa (Qg×Obj)
 xe:Qc->Qd->Prop
def jP(l:Qa Env):Qa Qg:=l.filterMap (·.frame)
abbrev Cx.fs(X:Cx):Qa Qg:=jP X.outer
def CB(sc:Scope)(x:Str):Prop:=sc.names.lookup x=some .local\/sc.names.lookup x=some .cell\/sc.names.lookup x=some .free
def Loc(sc:Scope)(x:Str):Prop:=sc.names.lookup x=some .local\/sc.names.lookup x=some .cell
def zB7(env:Env)(h:Heap)(m:Str->Qb Qc)(x:Str)(u:Qc):Prop :=
 (env.kindOf x=some .local/\m x=some u)\/((env.kindOf x=some .cell\/env.kindOf x=some .free)/\∃ c,env.cells.lookup x=some c/\h.IsCell c (some u))
structure Cx.Ok (X:Cx):Prop where
 mod:Mod X.K X.mg X.base
 kind:X.env.scope.kind=.function
 glob:X.env.globals=mainGlobals
 blt:X.env.builtins=builtinsNs
 above:X.be.heap.objs.size<=X.env.locals
 inj:∀ x y c,X.env.cells.lookup x=some c->X.env.cells.lookup y=some c->x=y
 has:∀ x,(X.env.kindOf x=some .cell\/X.env.kindOf x=some .free)->∃ c,X.env.cells.lookup x=some c
 vK:∀ x c,X.fn x=true->X.env.cells.lookup x=some c->X.be.heap.objs.size<=c
 hd:X.calm=true->X.A.handled=none
 frames:X.A.frames=some X.stack
 xp:X.stack=X.outer\/(X.stack=X.env::X.outer/\X.env.frame=some X.env.locals)
 yk:∀ b∈X.ex,b≠X.env.locals/\∀ x c,X.env.cells.lookup x=some c->c≠b
 bs:∀ b o,X.base.get? b=some o->X.be.heap.get? b=some o/\X.aA b=none
 ni:X.base.objs.size<=X.be.heap.objs.size
 jF:∀ b o,X.base.get? b=some o->b∉X.ex
 lO:∀ b∈X.ex,b∉X.fs
 dM:X.be.heap.FunFrames X.base X.outer
 qZ:∀ b∈X.fs,X.aA b=none
structure Inv (X:Cx) (pins:Qa (Qg×Obj)) (σ:Qa (Qb V)) (H:Hp) (s:Qd):Prop where
 ok:X.Ok
 os:s.os=X.be.os
 bare:AllBare s.gens
 base:Un X.fs X.ex X.aA H X.be.heap s.heap
 loc:∃ m,s.heap.Ns X.env.locals m/\∀ (i:Nat) (x:Str) (v:V),X.N[i]?=some x->σ[i]?=some (some v)->CB X.env.scope x->∃ u,zY v u/\zB7 X.env s.heap m x u
 cell:∀ x c,X.env.cells.lookup x=some c->∃ v,s.heap.IsCell c v
 free:H X.env.locals=none
 bD:∀ x c,X.env.cells.lookup x=some c->H c=none
 pin:∀ p∈X.pn++pins,s.heap.get? p.1=some p.2/\H p.1=none/\p.1≠X.env.locals/\p.1∉X.fs/\∀ v,p.2.data≠.cell v
 aD:cI X.prog X.w X.K H s.heap
 len:σ.length=X.N.length
section
variable{X:Cx}{pins:Qa (Qg×Obj)}{σ:Qa (Qb V)}{H H':Hp}{s:Qd}{h':Heap}
theorem Cx.Ok.Hq(ok:X.Ok){b:Qg}{o:Obj}(e:X.base.get? b=some o):b∉X.fs:=λhb=>by
 have:=(ok.dM.mem hb).1;rw[e]at this; cases this
theorem Inv.bs(I:Inv X pins σ H s):∀ b o,X.base.get? b=some o->s.heap.get? b=some o/\H b=none:=λb o e=>
 ⟨I.base.keep b o (I.ok.bs b o e).1 (I.ok.bs b o e).2 (I.ok.Hq e) (I.ok.jF b o e),I.base.free b o (I.ok.bs b o e).1 (I.ok.bs b o e).2 (I.ok.jF b o e)⟩
theorem Inv.bk(I:Inv X pins σ H s):∀ b o,X.base.get? b=some o->s.heap.get? b=some o:=λb o e=>(I.bs b o e).1
theorem Inv.mod(I:Inv X pins σ H s):Mod X.K X.mg X.base:=I.ok.mod
theorem Inv.bZ(I:Inv X pins σ H s):X.K.In s.heap:=I.ok.mod.jK.keeps I.bk
theorem Inv.fr(I:Inv X pins σ H s):∃ m,Fr X.base X.env.locals s.heap m :=
 let ⟨m,hn,_⟩:=I.loc
 ⟨m,hn,I.bk,qB I.ok.ni I.ok.above⟩
theorem Inv.lt(I:Inv X pins σ H s):X.env.locals < s.heap.objs.size:=let ⟨_,hn,_⟩:=I.loc; hn.lt
theorem Inv.sz(I:Inv X pins σ H s):X.be.heap.objs.size<=s.heap.objs.size:=qB I.ok.above (ċ I.lt)
theorem Inv.Ho(I:Inv X pins σ H s){a:Qg}(h:s.heap.objs.size<=a):a∉X.fs:=λhb=>by
 obtain⟨_,o,ho,_⟩:=I.ok.dM.mem hb;exact absurd (qk (qj ho) (qB I.sz h)) (Ì _)
theorem Inv.nh(I:Inv X pins σ H s):∀ x c,X.env.cells.lookup x=some c->c≠X.env.locals:=λx c e z=>by
 obtain⟨v,o,ho,hd⟩:=I.cell x c e;obtain⟨m,⟨o',es,ep,ja,vH,_⟩,_⟩:=I.loc;rw[z,ja]at ho; cases ho; rw[vH]at hd; cases hd
theorem Inv.dM(I:Inv X pins σ H s):s.heap.FunFrames X.base X.outer:=by
 have all:∀ (l:Qa Env),(∀ b∈jP l,b∈X.fs)->X.be.heap.FunFrames X.base l->s.heap.FunFrames X.base l:=by
  intro l
  induction l with
  | nil=>intro _ _; trivial
  | cons env r ih=>
   intro hs hl;obtain⟨hk,⟨L,o,hf,hn,ho,hd⟩,hr⟩:=hl;have hL:L∈X.fs:=hs L (by unfold jP; rw[List.filterMap_cons,hf]; exact qq);obtain⟨sl,e⟩:=I.base.slot L o ho (I.ok.qZ L hL) hL λz=>I.ok.lO L z hL;exact⟨hk,⟨L,_,hf,hn,e,hd⟩,ih (λb hb=>hs b (by unfold jP; rw[List.filterMap_cons,hf]; exact qp _ hb)) hr⟩
 exact all X.outer (λ_ hb=>hb) I.ok.dM
theorem Inv.stack(I:Inv X pins σ H s):s.heap.FunFrames X.base X.stack:=by
 rcases I.ok.xp with e|⟨e,hf⟩
 .rw[e]; exact I.dM
 .rw[e]
  obtain⟨m,hn,_⟩:=I.loc;refine .cons (by rw[I.ok.kind]; decide) hf hn ?_ I.dM;exact Heap.get?_none_of_le (qB I.ok.ni I.ok.above)
theorem Inv.ft(I:Inv X pins σ H s):∀ b∈jP X.stack,b∈X.env.locals::X.fs:=λb hb=>by
 rcases I.ok.xp with e|⟨e,hf⟩
 .rw[e]at hb; exact qp _ hb
 .rw[e]at hb
  unfold jP at hb;rw[List.filterMap_cons,hf]at hb;exact hb
theorem Inv.i3(I:Inv X pins σ H s):∀ b∈jP X.stack,H b=none:=λb hb=>by
 rcases qx.mp (I.ft b hb)with e|hb
 .rw[e]; exact I.free
 .obtain⟨_,o,ho,_⟩:=I.ok.dM.mem hb
  exact I.base.free b o ho (I.ok.qZ b hb) λz=>I.ok.lO b z hb
theorem Inv.step{g':Array GenState}{t':Nat}{d':Drawn}{ch:Qa Qg}(I:Inv X pins σ H s)
  (mY:∀ b∈ch,(b∈X.ex\/X.be.heap.objs.size<=b)/\b≠X.env.locals/\(∀ x c,X.env.cells.lookup x=some c->c≠b)/\∀ p∈X.pn++pins,p.1≠b)
  (keep:∀ b o,b≠X.env.locals->b∉X.fs->b∉ch->s.heap.get? b=some o->H b=none->h'.get? b=some o)
  (slot:∀ b o,b≠X.env.locals->b∈X.fs->b∉ch->s.heap.get? b=some o->H b=none->∃ sl,h'.get? b=some {o with slots:=sl}) (free:∀ b o,b∉ch->s.heap.get? b=some o->H b=none->H' b=none)
  (there:∀ b o,b∉ch->s.heap.get? b=some o->∃ o',h'.get? b=some o')
  (fq:∀ b xs,H b=some (.tup xs)->H' b=some (.tup xs)) (eA:∀ b o u,H b=some (.aS o u)->H' b=some (.aS o u)) (fO:∀ b ps,H b=some (.sS ps)->∃ more,H' b=some (.sS (ps++more)))
  (ns:∀ m,s.heap.Ns X.env.locals m->h'.Ns X.env.locals m) (aD:cI X.prog X.w X.K H' h') (hg:AllBare g'):
  Inv X pins σ H' {s with heap:=h',gens:=g',drawn:=d',toks:=t'}:=by
 have P1:∀ b o,X.be.heap.get? b=some o->b≠X.env.locals:=λb o e=>ql (qk (qj e) I.ok.above);have B7:∀ b o,X.be.heap.get? b=some o->b∉X.ex->b∉ch:=λb o e hx hb=>by
  rcases(mY b hb).1 with z|z
  .exact hx z
  .exact absurd (qk (qj e) z) (Ì _)
 have cellK:∀ x c,X.env.cells.lookup x=some c->∀ v,s.heap.IsCell c v->h'.IsCell c v:=λx c e v ⟨o,ho,hd⟩=>by
  have xE:c∉ch:=λz=>(mY c z).2.2.1 x c e rfl
  by_cases hc:c∈X.fs
  .obtain⟨sl,q⟩:=slot c o (I.nh x c e) hc xE ho (I.bD x c e)
   exact⟨_,q,hd⟩
  .exact⟨o,keep c o (I.nh x c e) hc xE ho (I.bD x c e),hd⟩
 refine⟨I.ok,I.os,hg,⟨λb o e n hb hx=>?_,λb o e n hb hx=>?_,λb o e n hx=>?_,λb o e hx=>?_,λb xs e=>fq b xs (I.base.fq b xs e),λb o xs e=>eA b o xs (I.base.eA b o xs e),λb ps e=>?_⟩,?_,λx c e=>?_,?_,λx c e=>?_,λp hp=>?_,aD,I.len⟩
 .exact keep b o (P1 b o e) hb (B7 b o e hx) (I.base.keep b o e n hb hx) (I.base.free b o e n hx)
 .obtain⟨sl,e1⟩:=I.base.slot b o e n hb hx
  obtain⟨sl',e2⟩:=slot b _ (P1 b o e) hb (B7 b o e hx) e1 (I.base.free b o e n hx);exact⟨sl',e2⟩
 .obtain⟨o',e1⟩:=I.base.there b o e hx
  exact free b o' (B7 b o e hx) e1 (I.base.free b o e n hx)
 .obtain⟨o',e1⟩:=I.base.there b o e hx
  exact there b o' (B7 b o e hx) e1
 .obtain⟨m1,e1⟩:=I.base.fO b ps e
  obtain⟨m2,e2⟩:=fO b _ e1;exact⟨m1++m2,by rw[e2,Array.append_assoc]⟩
 .obtain⟨m,hn,hl⟩:=I.loc
  refine⟨m,ns m hn,λi x v e1 e2 e3=>?_⟩;obtain⟨u,r,l⟩:=hl i x v e1 e2 e3;refine⟨u,r,?_⟩;rcases l with l|⟨k,c,e,z⟩
  .exact .inl l
  .exact .inr ⟨k,c,e,cellK x c e _ z⟩
 .obtain⟨v,z⟩:=I.cell x c e
  exact⟨v,cellK x c e v z⟩
 .obtain⟨m,⟨o,_,_,ho,_⟩,_⟩:=I.loc
  exact free _ o (λz=>(mY _ z).2.1 rfl) ho I.free
 .obtain⟨v,o,ho,hd⟩:=I.cell x c e
  exact free c o (λz=>(mY c z).2.2.1 x c e rfl) ho (I.bD x c e)
 .obtain⟨e,n,ne,nf,d⟩:=I.pin p hp
  have xE:p.1∉ch:=λz=>(mY p.1 z).2.2.2 p hp rfl;exact⟨keep p.1 p.2 ne nf xE e n,free p.1 p.2 xE e n,ne,nf,d⟩
theorem Inv.un{t':Nat}(I:Inv X pins σ H s)(u:Un X.fs [] H H' s.heap h')(aD:cI X.prog X.w X.K H' h'):Inv X pins σ H' {s with heap:=h',toks:=t'}:=by
 obtain⟨m,⟨o,es,ep,ho,r⟩,_⟩:=id I.loc;obtain⟨sl,hL⟩:=u.any ho I.free (by simp);exact I.step (g':=s.gens) (d':=s.drawn) (ch:=[]) (λ_ z=>nomatch z) (λb o _ hb _ e n=>u.keep b o e n hb (by simp)) (λb o _ hb _ e n=>u.slot b o e n hb (by simp)) (λb o _ e n=>u.free b o e n (by simp)) (λb o _ e=>u.there b o e (by simp)) u.fq u.eA u.fO (λm' hm=>by
  obtain⟨o',fB,fH,ja,r'⟩:=hm;rw[ho]at ja; cases ja;exact⟨_,fB,fH,hL,r'⟩) aD I.bare
theorem Inv.call{g':Array GenState}{t':Nat}{d':Drawn}{ch:Qa Qg}(I:Inv X pins σ H s)(u:Un (jP X.stack) ch H H' s.heap h')(aD:cI X.prog X.w X.K H' h')(hg:AllBare g')
  (mY:∀ b∈ch,(b∈X.ex\/X.be.heap.objs.size<=b)/\b≠X.env.locals/\(∀ x c,X.env.cells.lookup x=some c->c≠b)/\∀ p∈X.pn++pins,p.1≠b):
  Inv X pins σ H' {s with heap:=h',gens:=g',drawn:=d',toks:=t'}:=by
 obtain⟨m,⟨o,es,ep,ho,r⟩,_⟩:=id I.loc;obtain⟨sl,hL⟩:=u.any ho I.free λz=>(mY _ z).2.1 rfl;exact I.step (ch:=ch) mY (λb o hL hb hc e n=>u.keep b o e n (λz=>(qx.mp (I.ft b z)).elim hL hb) hc) (λb o _ _ hc e n=>u.any e n hc) (λb o hc e n=>u.free b o e n hc) (λb o hc e=>u.there b o e hc) u.fq u.eA u.fO (λm' hm=>by
  obtain⟨o',fB,fH,ja,r'⟩:=hm;rw[ho]at ja; cases ja;exact⟨_,fB,fH,hL,r'⟩) aD hg
theorem Inv.turned{t':Nat}{it:Qg}(I:Inv X pins σ H s)(k:∀ b o,b≠it->s.heap.get? b=some o->h'.get? b=some o)(hn:H it=none)(hL:it≠X.env.locals)
  (h1:it∈X.ex\/X.be.heap.objs.size<=it) (h2:∀ x c,X.env.cells.lookup x=some c->c≠it) (h3:∀ p∈X.pn++pins,p.1≠it):Inv X pins σ H {s with heap:=h',toks:=t'}:=by
 have jH:∀ b u,H b=some u->b≠it:=λb u e z=>by rw[z,hn]at e; cases e
 refine I.step (g':=s.gens) (d':=s.drawn) (ch:=[it]) (λb hb=>?_) (λb o _ _ hc e _=>k b o (λz=>hc (by simp[z])) e) (λb o _ _ hc e _=>⟨o.slots,k b o (λz=>hc (by simp[z])) e⟩) (λ_ _ _ _ n=>n)
  (λb o hc e=>⟨o,k b o (λz=>hc (by simp[z])) e⟩) (λ_ _ e=>e) (λ_ _ _ e=>e) (λb ps e=>⟨#[],by rw[e]; simp⟩) (λm hm=>?_) (λb u e=>?_) I.bare
 .have e:b=it:=by simpa using hb
  subst e;exact⟨h1,hL,h2,h3⟩
 .obtain⟨o,es,ep,ho,r⟩:=hm
  exact⟨o,es,ep,k _ o (Ne.symm hL) ho,r⟩
 .refine(I.aD b u e).d9 (λc v hc q=>k c v ?_ q) (λ_ q=>q) λ_ _ q=>q
  rcases hc with z|z
  .rw[z]; exact jH b u e
  .exact jH c _ z
theorem Inv.tok(I:Inv X pins σ H s)(t:Nat):Inv X pins σ H {s with toks:=t}:=I.un (h':=s.heap) (t':=t) Un.refl I.aD
theorem Inv.kept{t':Nat}(I:Inv X pins σ H s)(k:∀ b u,s.heap.get? b=some u->h'.get? b=some u):Inv X pins σ H {s with heap:=h',toks:=t'}:=I.un (Un.kept k) (I.aD.kept k)
theorem Inv.laid{a:Qg}{o:HO}{t':Nat}(I:Inv X pins σ H s)(k:∀ b u,s.heap.get? b=some u->h'.get? b=some u)(hp:s.heap.objs.size<=a)(new:bT X.prog X.w X.K (upd H a o) h' a o):
  Inv X pins σ (upd H a o) {s with heap:=h',toks:=t'}:=I.un (Un.laid k hp (I.aD.fresh hp)) (I.aD.laid k hp new)
theorem Inv.write{x e:Qg}{o:HO}{t':Nat}(I:Inv X pins σ H s)(mu:yq (H x))(he:e=x\/H e=some (.own x))(k:∀ b u,b≠e->s.heap.get? b=some u->h'.get? b=some u)(vF:∃ u,h'.get? e=some u)
  (new:bT X.prog X.w X.K (upd H x o) h' x o):Inv X pins σ (upd H x o) {s with heap:=h',toks:=t'}:=I.un (Un.write mu he k vF) (I.aD.write mu he k vF new)
theorem Inv.weak{aG:Qa (Qb V)}(I:Inv X pins σ H s)(hl:aG.length=σ.length)(w:∀ (i:Nat) v,aG[i]?=some (some v)->σ[i]?=some (some v)):Inv X pins aG H s :=
 ⟨I.ok,I.os,I.bare,I.base,let ⟨m,hn,hl'⟩:=I.loc; ⟨m,hn,λi x v e1 e2 e3=>hl' i x v e1 (w i v e2) e3⟩,I.cell,I.free,I.bD,I.pin,I.aD,hl.trans I.len⟩
theorem Inv.cZ{qI:Qa (Qg×Obj)}(I:Inv X pins σ H s)(h:∀ p∈qI,s.heap.get? p.1=some p.2/\H p.1=none/\p.1≠X.env.locals/\p.1∉X.fs/\∀ v,p.2.data≠.cell v):Inv X qI σ H s :=
 ⟨I.ok,I.os,I.bare,I.base,I.loc,I.cell,I.free,I.bD,λp hp=>(Í.mp hp).elim (λz=>I.pin p (Ò _ z)) (h p),I.aD,I.len⟩
theorem Md{N:Qa Str}(hN:N.Nodup){i j:Nat}{x:Str}(a:N[i]?=some x)(b:N[j]?=some x):i=j:=by
 obtain⟨h1,e1⟩:=qm.mp a;obtain⟨h2,e2⟩:=qm.mp b;exact(List.getElem_inj hN).mp (e1.trans e2.symm)
theorem F8{M:Model}{A:Qf}{E:Qc->Qd->Prop}{i:Nat}{x:Str}{v:V}{u:Qc}{Q:Unit->Qd->Prop}(I:Inv X pins σ H s)(hN:X.N.Nodup)(hi:X.N[i]?=some x)(hx:Loc X.env.scope x)(r:zY v u)
  (h:∀ s',Inv X pins (σ.set i (some v)) H s'->(∃ a,Heap.SameBut a s.heap s'.heap/\(a=X.env.locals\/X.env.cells.lookup x=some a))->Q () s') (hf:X.fn x=true\/X.env.scope.names.lookup x=some .local:=by first|exact .inl rfl|exact .inr rfl|assumption):wpAny M A (storeName X.env x u) Q E s:=by
 obtain⟨m,hn,hl⟩:=id I.loc;have H0:(X.env.scope.kind==.class || (X.env.scope.kind==.module && X.env.locals != X.env.globals))=false:=by rw[I.ok.kind]; rfl
 have xX:i < σ.length:=by rw[I.len]; exact(qm.mp hi).1
 have nh:=I.nh;have tracked:∀ {a:Qg} {h':Heap},(∃ o,s.heap.get? a=some o/\H a=none)->Heap.SameBut a s.heap h'->cI X.prog X.w X.K H h':=λ{a h'} ha hs b ob e=>by
  obtain⟨_,_,qV⟩:=ha;refine(I.aD b ob e).d9 (λc w' hc q=>(hs.2 c ?_).trans q) (λ_ q=>q) λ_ _ q=>q;rintro rfl;rcases hc with rfl|hc
  .rw[qV]at e; cases e
  .rw[qV]at hc; cases hc
 rcases hx with hk|hk
 .refine wpAny_storeName_local hk hn (λh' hn' hs=>?_) H0
  obtain⟨oL,_,_,oK,_⟩:=id hn;refine h _ ⟨I.ok,I.os,I.bare,⟨λb o e n hb hx=>?_,λb o e n hb hx=>?_,I.base.free,λb o e hx=>?_,I.base.fq,I.base.eA,I.base.fO⟩,⟨_,hn',λj y v' e1 e2 e3=>?_⟩,λy c e=>?_,I.free,I.bD,λp hp=>?_,tracked ⟨oL,oK,I.free⟩ hs,by simpa using I.len⟩ ⟨_,hs,.inl rfl⟩
  .exact(hs.2 b (ql (qk (qj e) I.ok.above))).trans (I.base.keep b o e n hb hx)
  .obtain⟨sl,e1⟩:=I.base.slot b o e n hb hx
   exact⟨sl,(hs.2 b (ql (qk (qj e) I.ok.above))).trans e1⟩
  .obtain⟨o',e1⟩:=I.base.there b o e hx
   exact⟨o',(hs.2 b (ql (qk (qj e) I.ok.above))).trans e1⟩
  .by_cases hj:j=i
   .subst hj
    rw[hi]at e1; cases e1;rw[List.getElem?_set_self xX]at e2;cases e2;exact⟨u,r,.inl ⟨hk,by simp⟩⟩
   .rw[qE (Ne.symm hj)]at e2
    obtain⟨u',r',q⟩:=hl j y v' e1 e2 e3;refine⟨u',r',?_⟩;rcases q with⟨k,e⟩|⟨k,c,e,z⟩
    .refine .inl ⟨k,?_⟩
     have:y≠x:=λe=>hj (Md hN e1 (e▸hi));simp[this,e]
    .exact .inr ⟨k,c,e,z.sameBut hs (nh y c e)⟩
  .obtain⟨w',z⟩:=I.cell y c e
   exact⟨w',z.sameBut hs (nh y c e)⟩
  .obtain⟨e,n,ne,nf,d⟩:=I.pin p hp
   exact⟨(hs.2 p.1 ne).trans e,n,ne,nf,d⟩
 .have HY:X.fn x=true:=by
   rcases hf with z|z
   .exact z
   .rw[z]at hk; cases hk
  obtain⟨c,hc⟩:=I.ok.has x (.inl hk);obtain⟨w',z⟩:=I.cell x c hc;refine wpAny_storeName_cell I.ok.kind hk hc z (λh' jO hs=>?_);obtain⟨oc,Qr,HR⟩:=id z;refine h {s with heap:=h'} ⟨I.ok,I.os,I.bare,⟨λb o e n hb hx=>?_,λb o e n hb hx=>?_,I.base.free,λb o e hx=>?_,I.base.fq,I.base.eA,I.base.fO⟩,⟨m,hn.sameBut hs (Ne.symm (nh x c hc)),λj y v' e1 e2 e3=>?_⟩,λy c' e=>?_,I.free,I.bD,λp hp=>?_,tracked ⟨oc,Qr,I.bD x c hc⟩ hs,by simpa using I.len⟩ ⟨c,hs,.inr hc⟩
  .exact(hs.2 b (ql (qk (qj e) (I.ok.vK x c HY hc)))).trans (I.base.keep b o e n hb hx)
  .obtain⟨sl,e1⟩:=I.base.slot b o e n hb hx
   exact⟨sl,(hs.2 b (ql (qk (qj e) (I.ok.vK x c HY hc)))).trans e1⟩
  .obtain⟨o',e1⟩:=I.base.there b o e hx
   exact⟨o',(hs.2 b (ql (qk (qj e) (I.ok.vK x c HY hc)))).trans e1⟩
  .by_cases hj:j=i
   .subst hj
    rw[hi]at e1; cases e1;rw[List.getElem?_set_self xX]at e2;cases e2;exact⟨u,r,.inr ⟨.inl hk,c,hc,jO⟩⟩
   .rw[qE (Ne.symm hj)]at e2
    obtain⟨u',r',q⟩:=hl j y v' e1 e2 e3;refine⟨u',r',?_⟩;rcases q with q|⟨k,c',e,z'⟩
    .exact .inl q
    .refine .inr ⟨k,c',e,z'.sameBut hs ?_⟩
     rintro rfl;exact hj (Md hN e1 (I.ok.inj _ _ _ e hc▸hi))
  .by_cases QH:c'=c
   .subst QH; exact⟨_,jO⟩
   .obtain⟨w2,z2⟩:=I.cell y c' e
    exact⟨w2,z2.sameBut hs QH⟩
  .obtain⟨e,n,ne,nf,d⟩:=I.pin p hp
   refine⟨(hs.2 p.1 ?_).trans e,n,ne,nf,d⟩;intro q;rw[q,Qr]at e;have q':oc=p.2:=qA e;exact d w' (by rw[<-q']; exact HR)
theorem Bc{M:Model}{A:Qf}{E:Qc->Qd->Prop}{i:Nat}{x:Str}{v:V}{u:Qc}{Q:Unit->Qd->Prop}(I:Inv X pins σ H s)(hN:X.N.Nodup)(hi:X.N[i]?=some x)(hx:Loc X.env.scope x)(r:zY v u)
  (h:∀ s',Inv X pins (σ.set i (some v)) H s'->Q () s') (hf:X.fn x=true\/X.env.scope.names.lookup x=some .local:=by first|exact .inl rfl|exact .inr rfl|assumption):wpAny M A (storeName X.env x u) Q E s :=
 F8 I hN hi hx r (λs' I' _=>h s' I') hf
theorem Inv.rl{s':Qd}{ch:Qa Qg}(I:Inv X pins σ H s)(ho:s'.os=s.os)(u:Un (jP X.stack) ch H H' s.heap s'.heap)(aD:cI X.prog X.w X.K H' s'.heap)(hg:AllBare s'.gens)
  (mY:∀ b∈ch,(b∈X.ex\/X.be.heap.objs.size<=b)/\b≠X.env.locals/\(∀ x c,X.env.cells.lookup x=some c->c≠b)/\∀ p∈X.pn++pins,p.1≠b):Inv X pins σ H' s':=by
 obtain⟨h',g',d',t',o'⟩:=s';have e:o'=s.os:=ho;subst e;exact I.call (g':=g') (t':=t') (d':=d') u aD hg mY
end
abbrev XK:=Qc->Qb Qg->Hp->Prop
abbrev St:=Qa (Qb V)
abbrev VK:=V->Hp->Prop
abbrev TE:=St->Hp->VK->Prop
abbrev TT:=St->Hp->(Bool->Hp->Prop)->Prop
abbrev TA:=St->Hp->(Qa V->Hp->Prop)->Prop
structure Ends where
 nx:St->Hp->Prop
 rt:VK
 bk:St->Hp->Prop:=λ_ _=>False
 ct:St->Hp->Prop:=λ_ _=>False
abbrev TS:=Ends->St->Hp->Prop
def EP(X:Cx)(pins:Qa (Qg×Obj))(σ:St)(Q:VK)(u:Qc)(s':Qd):Prop:=∃ v H',Inv X pins σ H' s'/\zY v u/\Q v H'
def TP(X:Cx)(pins:Qa (Qg×Obj))(σ:St)(Q:Bool->Hp->Prop)(b:Bool)(s':Qd):Prop:=∃ H',Inv X pins σ H' s'/\Q b H'
def AP(X:Cx)(pins:Qa (Qg×Obj))(σ:St)(Q:Qa V->Hp->Prop)(us:Qa Qc)(s':Qd):Prop:=∃ vs H',Inv X pins σ H' s'/\zV vs us/\Q vs H'
def SP(X:Cx)(pins:Qa (Qg×Obj))(D:Ends)(f:Flow)(s':Qd):Prop :=
 match f with
 | .next=>∃ aG H',Inv X pins aG H' s'/\D.nx aG H'
 | .brk=>∃ aG H',Inv X pins aG H' s'/\D.bk aG H'
 | .cont=>∃ aG H',Inv X pins aG H' s'/\D.ct aG H'
 | .ret u=>∃ v aG H',Inv X pins aG H' s'/\zY v u/\D.rt v H'
def PE(X:Cx)(e:Expr)(t:TE):Prop :=
 ∀ (pins:Qa (Qg×Obj)) (s:Qd) (σ:St) (H:Hp) (Q:VK),Inv X pins σ H s->t σ H Q->wpAny (model X.prog X.w) X.A (eval e X.env) (EP X pins σ Q) X.xe s
def PT(X:Cx)(e:Expr)(t:TT):Prop :=
 ∀ (pins:Qa (Qg×Obj)) (s:Qd) (σ:St) (H:Hp) (Q:Bool->Hp->Prop),Inv X pins σ H s->t σ H Q->wpAny (model X.prog X.w) X.A (isTrue e X.env (eval e X.env)) (TP X pins σ Q) X.xe s
def PW(X:Cx)(e:Expr)(t:TT):Prop :=
 ∀ (whole:Sem Qc) (pins:Qa (Qg×Obj)) (s:Qd) (σ:St) (H:Hp) (Q:Bool->Hp->Prop),Inv X pins σ H s->t σ H Q->wpAny (model X.prog X.w) X.A (isTrue e X.env whole) (TP X pins σ Q) X.xe s
theorem PW.pt{X:Cx}{e:Expr}{t:TT}(h:PW X e t):PT X e t:=h _
def PA(X:Cx)(es:Qa Expr)(t:TA):Prop :=
 ∀ (pos:Pos) (pins:Qa (Qg×Obj)) (s:Qd) (σ:St) (H:Hp) (Q:Qa V->Hp->Prop),Inv X pins σ H s->t σ H Q->wpAny (model X.prog X.w) X.A (spliced (backTo pos (starEach es X.env))) (AP X pins σ Q) X.xe s
def PS(X:Cx)(st:Stmt)(t:TS):Prop :=
 ∀ (pins:Qa (Qg×Obj)) (s:Qd) (σ:St) (H:Hp) (D:Ends),Inv X pins σ H s->t D σ H->wpAny (model X.prog X.w) X.A (exec st X.env) (SP X pins D) X.xe s
def eU(X:Cx)(st:Qa Stmt)(t:TS):Prop :=
 ∀ (pins:Qa (Qg×Obj)) (s:Qd) (σ:St) (H:Hp) (D:Ends),Inv X pins σ H s->t D σ H->wpAny (model X.prog X.w) X.A (execs st X.env) (SP X pins D) X.xe s
theorem aI{α:Type}{t:Sem α}{Q Q':α->Qd->Prop}{M:Model}{A:Qf}{E:Qc->Qd->Prop}{s:Qd}(h:wpAny M A t Q E s)(hQ:∀ a s,Q a s->Q' a s):wpAny M A t Q' E s:=wpAny_mono h hQ λ_ _ x=>x
section
variable{X:Cx}
theorem bin{a b:Expr}{ta tb:TE}(ha:PE X a ta)(hb:PE X b tb){pins:Qa (Qg×Obj)}{s:Qd}{σ:St}{H:Hp}{R:V->V->Hp->Prop}(I:Inv X pins σ H s)(h:ta σ H λx H1=>tb σ H1 λy H2=>R x y H2)
  {α:Type} {Q:α->Qd->Prop} {f:Qc->Qc->Sem α}
  (hf:∀ v u s2 x y H2,Inv X pins σ H2 s2->zY x v->zY y u->R x y H2->wpAny (model X.prog X.w) X.A (f v u) Q X.xe s2):
  wpAny (model X.prog X.w) X.A (eval a X.env) (λv aF=>wpAny (model X.prog X.w) X.A (eval b X.env) (λu fP=>wpAny (model X.prog X.w) X.A (f v u) Q X.xe fP) X.xe aF) X.xe s:=by
 refine aI (ha pins s σ H _ I h) λv s1 ⟨x,H1,I1,r1,q1⟩=>?_;refine aI (hb pins s1 σ H1 _ I1 q1) λu s2 ⟨y,H2,I2,r2,q2⟩=>?_;exact hf v u s2 x y H2 I2 r1 r2 q2
def ic(i:Nat):TE:=λσ H Q=>∃ v,σ[i]?=some (some v)/\Q v H
def tC(v:V):TE:=λ_ H Q=>Q v H
theorem UD{i:Nat}{x:Str}{pos:Pos}(hN:X.N[i]?=some x)(hv:CB X.env.scope x)(hd:(x==("__debug__":Str))=false:=by decide)(jN:(x==("__classdict__":Str))=false:=by decide):PE X (.Name x pos) (ic i):=by
 intro pins s σ H Q I h;obtain⟨v,e,h⟩:=h;obtain⟨m,hn,hl⟩:=I.loc;obtain⟨u,r,l⟩:=hl i x v hN e hv;have fin:EP X pins σ Q u s:=⟨v,H,I,r,h⟩;rcases l with⟨hk,hm⟩|⟨hk,c,hc,qX⟩
 .exact wpAny_Name (wpAny_loadName_local I.ok.kind hk hn hm fin) hd
 .rcases hk with hk|hk
  .exact wpAny_Name (wpAny_loadName_cell I.ok.kind hk hc qX fin) hd
  .exact wpAny_Name (wpAny_loadName_free I.ok.kind hk hc qX fin jN) hd
theorem UC{i j pos}:PE X (.Constant (.int i) j pos) (tC (.int i)):=λ_ _ _ H _ I h=>wpAny_Constant_int ⟨.int i,H,I.tok _,⟨_,rfl⟩,h⟩
theorem zAp{b j pos}:PE X (.Constant (.bool b) j pos) (tC (.bl b)):=λ_ _ _ H _ I h=>Constant_bool ⟨.bl b,H,I,rfl,h⟩
theorem UB{j pos}:PE X (.Constant .none j pos) (tC .aN):=λ_ _ _ H _ I h=>Constant_none ⟨.aN,H,I,rfl,h⟩
theorem UA{x j pos}:PE X (.Constant (.str x) j pos) (tC (.str x)):=λ_ _ _ H _ I h=>Calls.Constant_str ⟨.str x,H,I.tok _,⟨_,rfl⟩,h⟩
def Gl(X:Cx)(x:Str):Prop:=X.env.kindOf x=some .globalImplicit
theorem E9{E:Qc->Qd->Prop}{pins:Qa (Qg×Obj)}{s:Qd}{σ:St}{H:Hp}{x:Str}{u:Qc}{pos:Pos}{Q:Qc->Qd->Prop}(I:Inv X pins σ H s)(hg:Gl X x)(hm:X.mg x=some u)(h:Q u s)
  (hd:(x==("__debug__":Str))=false:=by decide):wpAny (model X.prog X.w) X.A (eval (.Name x pos) X.env) Q E s :=
 Calls.Name_function_global I.ok.kind hg (Calls.loadGlobal_global (by rw[I.ok.glob]; exact I.mod.glob.keeps I.bk) hm h) hd
theorem pO{E:Qc->Qd->Prop}{pins:Qa (Qg×Obj)}{s:Qd}{σ:St}{H:Hp}{x:Str}{u:Qc}{pos:Pos}{Q:Qc->Qd->Prop}(I:Inv X pins σ H s)(hg:Gl X x)(hm:X.mg x=none)(hv:bootBuiltins x=some u)(h:Q u s)
  (hn:x ≠ "__name__":=by decide) (hd:(x==("__debug__":Str))=false:=by decide):wpAny (model X.prog X.w) X.A (eval (.Name x pos) X.env) Q E s:=by
 obtain⟨mb,h1,h2⟩:=I.mod.blt;exact Calls.Name_function_global I.ok.kind hg (Calls.loadGlobal_builtin (by rw[I.ok.glob]; exact I.mod.glob.keeps I.bk) hm (by rw[I.ok.blt]; exact h1.keeps I.bk) ((h2 x hn).trans hv) h) hd
theorem WR{x:Str}{v:V}{u:Qc}{pos:Pos}(hg:Gl X x)(hm:X.mg x=some u)(r:zY v u)(hd:(x==("__debug__":Str))=false:=by decide):PE X (.Name x pos) (tC v):=
 λ_ _ _ H _ I h=>E9 I hg hm ⟨v,H,I,r,h⟩ hd
theorem WQ{x:Str}{v:V}{u:Qc}{pos:Pos}(hg:Gl X x)(hm:X.mg x=none)(hv:bootBuiltins x=some u)(r:zY v u)(hn:x ≠ "__name__":=by decide)(hd:(x==("__debug__":Str))=false:=by decide):PE X (.Name x pos) (tC v):=
 λ_ _ _ H _ I h=>pO I hg hm hv ⟨v,H,I,r,h⟩ hn hd
variable{a b:Expr}{ta tb:TE}{pos:Pos}
def PC(X:Cx)(op:CmpOp)(a b:Expr)(t:TE):Prop :=
 ∀ (pins:Qa (Qg×Obj)) (s:Qd) (σ:St) (H:Hp) (Q:VK),Inv X pins σ H s->t σ H Q->
  wpAny (model X.prog X.w) X.A (eval a X.env) (λv aF=>wpAny (model X.prog X.w) X.A (eval b X.env) (λu fP=>wpAny (model X.prog X.w) X.A (compareOp op v u) (EP X pins σ Q) X.xe fP) X.xe aF) X.xe s
theorem Zk(b:Expr){op:CmpOp}(h:op≠.In)(h2:op≠.NotIn):behindInMarks op b=false:=by
 have e1:(op==CmpOp.In)=false:=by cases op<;>first|rfl|exact absurd rfl h
 have e2:(op==CmpOp.NotIn)=false:=by cases op<;>first|rfl|exact absurd rfl h2
 cases b<;>simp[behindInMarks,e1,e2]
def tB(t:TE):TT:=λσ H Q=>t σ H λx H1=>∃ c,x=.bl c/\Q c H1
theorem zB8{op:CmpOp}{t:TE}(h:PC X op a b t)(h1:behindInMarks op b=false:=by first|exact Zk _ (by decide) (by decide) | rfl):PT X (.Compare a [op] [b] pos) (tB t):=by
 intro pins s σ H Q I hw;refine wpAny_isTrue_Compare1 (aI (h pins s σ H _ I hw) λv s1 h1=>aI h1 λu s2 h2=>aI h2 λc s3 ⟨x,H1,I1,r1,q1⟩=>?_) h1;obtain⟨d,rfl,q⟩:=q1;cases r1;exact wpAny_truthy_bool ⟨H1,I1,q⟩
theorem Uz{e:Expr}{t:TE}(h:PE X e t)(he:∀ whole,isTrue e X.env whole=(do let v <-whole; standAt e.pos; holding [v] (truthy v)):=by intro _; rfl):PT X e (tB t):=by
 intro pins s σ H Q I hw;refine isTrue_plain (aI (h pins s σ H _ I hw) λv s1 ⟨x,H1,I1,r1,q1⟩=>?_) (he _);obtain⟨d,rfl,q⟩:=q1;cases r1;exact wpAny_truthy_bool ⟨H1,I1,q⟩
variable{tA mP:TT}{eJ:Qa Expr}
def Dy(t u:TT):TT:=λσ H Q=>t σ H λc H1=>if c=true then u σ H1 Q else Q false H1
def G4(t u:TT):TT:=λσ H Q=>t σ H λc H1=>if c=true then Q true H1 else u σ H1 Q
def Di(t:TT):TT:=λσ H Q=>t σ H λc H1=>Q (!c) H1
theorem WO(ha:PT X a tA):PW X (.BoolOp .And [a] pos) tA:=by
 intro wh pins s σ H Q I h;refine isTrue_and (aI (ha pins s σ H Q I h) λc s1 e=>?_);cases c with
 | true=>exact isTrue_and_nil e
 | false=>exact e
theorem Th(ha:PT X a tA):PW X (.BoolOp .Or [a] pos) tA:=by
 intro wh pins s σ H Q I h;refine isTrue_or (aI (ha pins s σ H Q I h) λc s1 e=>?_);cases c with
 | false=>exact isTrue_or_nil e
 | true=>exact e
theorem Tg(ha:PT X a tA)(hb:PW X (.BoolOp .And (b::eJ) pos) mP):PW X (.BoolOp .And (a::b::eJ) pos) (Dy tA mP):=by
 intro wh pins s σ H Q I h;refine isTrue_and (aI (ha pins s σ H _ I h) λc s1 ⟨H1,I1,q1⟩=>?_);cases c with
 | true=>exact hb wh pins s1 σ H1 Q I1 q1
 | false=>exact⟨H1,I1,q1⟩
theorem zAq(ha:PT X a tA)(hb:PW X (.BoolOp .Or (b::eJ) pos) mP):PW X (.BoolOp .Or (a::b::eJ) pos) (G4 tA mP):=by
 intro wh pins s σ H Q I h;refine isTrue_or (aI (ha pins s σ H _ I h) λc s1 ⟨H1,I1,q1⟩=>?_);cases c with
 | true=>exact⟨H1,I1,q1⟩
 | false=>exact hb wh pins s1 σ H1 Q I1 q1
theorem Tf(ha:PT X a tA):PT X (.UnaryOp .Not a pos) (Di tA):=by
 intro pins s σ H Q I h;exact isTrue_not (ha pins s σ H (λc H1=>Q (!c) H1) I h)
def Ec(ta tb:TE):TE:=λσ H Q=>ta σ H λx H1=>∃ c,x=.bl c/\if c=true then tb σ H1 Q else Q (.bl false) H1
def Eb(ta:TE):TE:=λσ H Q=>ta σ H λx H1=>∃ c,x=.bl c/\Q (.bl (!c)) H1
theorem Te{op}{t:TE}(h:PE X a t):PE X (.BoolOp op [a] pos) t:=λpins s σ H Q I hw=>BoolOp_one (h pins s σ H Q I hw)
theorem Td(ha:PE X a ta)(hb:PE X (.BoolOp .And (b::eJ) pos) tb):PE X (.BoolOp .And (a::b::eJ) pos) (Ec ta tb):=by
 intro pins s σ H Q I h;refine BoolOp_and (aI (ha pins s σ H _ I h) λv s1 ⟨x,H1,I1,r1,q1⟩=>?_);obtain⟨c,rfl,q1⟩:=q1;cases r1;refine wpAny_truthy_bool ?_;cases c with
 | true=>exact hb pins s1 σ H1 Q I1 q1
 | false=>exact⟨.bl false,H1,I1,rfl,q1⟩
theorem Tc(ha:PE X a ta):PE X (.UnaryOp .Not a pos) (Eb ta):=by
 intro pins s σ H Q I h;refine UnaryOp_ (aI (ha pins s σ H _ I h) λv s1 ⟨x,H1,I1,r1,q1⟩=>?_);obtain⟨c,rfl,q1⟩:=q1;cases r1;exact not_of (wpAny_truthy_bool ⟨.bl (!c),H1,I1,rfl,q1⟩)
end
def bo(K:qe)(H:Hp)(a:Qg)(xs:Qa V):Prop :=
 Rd H a (.lst xs)\/
  ∃ (o:Obj) (ah:Array Qc) (n:Nat),K.lookup a=some o/\o.cls=.type "list"/\o.dict=none/\o.data=.seq ah n/\ah.size<=sizeLine/\zV xs ah.toList
def bt(K:qe)(H:Hp)(a:Qg)(xs:Qa V):Prop :=
 Rd H a (.tup xs)\/
  ∃ (o:Obj) (ah:Array Qc) (n:Nat),K.lookup a=some o/\o.cls=.type "tuple"/\o.data=.seq ah n/\ah.size<=sizeLine/\zV xs ah.toList
def zB9:Qc->Qb V
 | .none=>some .aN
 | .bool b=>some (.bl b)
 | .int i _=>some (.int i)
 | .str x _=>some (.str x)
 | .bytes b _=>some (.jf b)
 | .float b _=>some (.tW b)
 | .ref a=>some (.ref a)
 | .type n=>some (.ty n)
 | _=>none
theorem zY.abs{x:V}{u:Qc}(r:zY x u):zB9 u=some x:=by
 cases x with
 | aN=>cases r; rfl
 | bl _=>cases r; rfl
 | int _=>obtain⟨t,rfl⟩:=r; rfl
 | str _=>obtain⟨t,rfl⟩:=r; rfl
 | jf _=>obtain⟨t,rfl⟩:=r; rfl
 | tW _=>obtain⟨t,rfl⟩:=r; rfl
 | ref _=>cases r; rfl
 | ty _=>cases r; rfl
theorem zY.inj{x y:V}{u:Qc}(r:zY x u)(q:zY y u):x=y:=qA (r.abs.symm.trans q.abs)
theorem zV.inj:∀ {xs ys:Qa V} {us:Qa Qc},zV xs us->zV ys us->xs=ys
 | _,_,_,.nil,.nil=>rfl
 | _,_,_,.cons r t,.cons r' t'=>by rw[r.inj r',zV.inj t t']
section
variable{X:Cx}{pins:Qa (Qg×Obj)}{σ:St}{H:Hp}{s:Qd}{a:Qg}{xs ys:Qa V}
theorem bo.of{K:qe}(h:H a=some (.lst xs)):bo K H a xs:=.inl (.inl h)
theorem Inv.list(I:Inv X pins σ H s)(h:bo X.K H a xs):∃ ah:Qa Qc,zV xs ah/\PlainL s.heap a ah.toArray/\xs.length<=sizeLine:=by
 rcases h with h|⟨o,ah,n,hk,hc,hd,hs,hz,r⟩
 .obtain⟨z,ah,n,r,e⟩:=h.ok I.aD
  exact⟨ah,r,⟨_,n,e,rfl,rfl,rfl⟩,z⟩
 .refine⟨ah.toList,r,⟨o,n,I.bZ a o hk,hc,hd,by simpa using hs⟩,?_⟩
  have e:=r.length;simp only[Array.length_toList]at e;omega
theorem Inv.tuple(I:Inv X pins σ H s)(h:bt X.K H a xs):∃ ah:Qa Qc,zV xs ah/\IsTup s.heap a ah.toArray/\xs.length<=sizeLine:=by
 rcases h with h|⟨o,ah,n,hk,hc,hs,hz,r⟩
 .obtain⟨z,ah,r,p⟩:=h.ok I.aD
  exact⟨ah,r,p.tup,z⟩
 .refine⟨ah.toList,r,⟨o,I.bZ a o hk,hc,n,by simpa using hs⟩,?_⟩
  have e:=r.length;simp only[Array.length_toList]at e;omega
theorem Inv.lC(I:Inv X pins σ H s)(h:bo X.K H a xs)(h':bo X.K H a ys):xs=ys:=by
 obtain⟨ah,r,⟨o,n,e,_,_,d⟩,_⟩:=I.list h;obtain⟨its',r',⟨o',n',e',_,_,d'⟩,_⟩:=I.list h';rw[e]at e'; cases e';rw[d]at d';injection d' with d1 _;have:ah=its':=by simpa using congrArg Array.toList d1
 subst this;exact r.inj r'
theorem Inv.cE(I:Inv X pins σ H s)(h:bt X.K H a xs)(h':bt X.K H a ys):xs=ys:=by
 obtain⟨ah,r,⟨o,e,_,n,d⟩,_⟩:=I.tuple h;obtain⟨its',r',⟨o',e',_,n',d'⟩,_⟩:=I.tuple h';rw[e]at e'; cases e';rw[d]at d';injection d' with d1 _;have:ah=its':=by simpa using congrArg Array.toList d1
 subst this;exact r.inj r'
end
abbrev Cx.fN(X:Cx)(E:Qc->Qd->Prop):Cx:={X with xe:=E}
abbrev Cx.tj(X:Cx):Cx:=X.fN λ_ _=>False
theorem Cx.Ok.fN{X:Cx}(ok:X.Ok)(E:Qc->Qd->Prop):(X.fN E).Ok :=
 ⟨ok.mod,ok.kind,ok.glob,ok.blt,ok.above,ok.inj,ok.has,ok.vK,ok.hd,ok.frames,ok.xp,ok.yk,ok.bs,ok.ni,ok.jF,ok.lO,ok.dM,ok.qZ⟩
theorem Cx.Ok.cy{X:Cx}{E:Qc->Qd->Prop}(ok:(X.fN E).Ok):X.Ok :=
 ⟨ok.mod,ok.kind,ok.glob,ok.blt,ok.above,ok.inj,ok.has,ok.vK,ok.hd,ok.frames,ok.xp,ok.yk,ok.bs,ok.ni,ok.jF,ok.lO,ok.dM,ok.qZ⟩
section
variable{X:Cx}{pins:Qa (Qg×Obj)}{σ:St}{H:Hp}{s:Qd}{E:Qc->Qd->Prop}
theorem Inv.fN(I:Inv X pins σ H s)(E:Qc->Qd->Prop):Inv (X.fN E) pins σ H s:=⟨I.ok.fN E,I.os,I.bare,I.base,I.loc,I.cell,I.free,I.bD,I.pin,I.aD,I.len⟩
theorem Inv.cy(I:Inv (X.fN E) pins σ H s):Inv X pins σ H s:=⟨I.ok.cy,I.os,I.bare,I.base,I.loc,I.cell,I.free,I.bD,I.pin,I.aD,I.len⟩
theorem SP.cy{D:Ends}{f:Flow}{s':Qd}(h:SP (X.fN E) pins D f s'):SP X pins D f s':=by
 cases f with
 | next=>obtain⟨aG,H',I,q⟩:=h; exact⟨aG,H',I.cy,q⟩
 | brk=>obtain⟨aG,H',I,q⟩:=h; exact⟨aG,H',I.cy,q⟩
 | cont=>obtain⟨aG,H',I,q⟩:=h; exact⟨aG,H',I.cy,q⟩
 | ret u=>obtain⟨v,aG,H',I,r,q⟩:=h; exact⟨v,aG,H',I.cy,r,q⟩
theorem eU.tj{st:Qa Stmt}{t:TS}(h:eU X.tj st t):eU X st t:=λpins s σ H D I hw=>
 wpAny_mono (h pins s σ H D (I.fN _) hw) (λ_ _ q=>q.cy) λ_ _ z=>False.elim z
end
section
variable{X:Cx}{st:Stmt}{eJ:Qa Stmt}{t u:TS}{e:Expr}{te:TE}{pos:Pos}
def Ea:TS:=λD σ H=>D.nx σ H
def vY(t u:TS):TS:=λD σ H=>t {D with nx:=u D} σ H
theorem WN:eU X [] Ea:=λ_ _ σ H _ I h=>wpAny_execs_nil ⟨σ,H,I,h⟩
theorem FH(h1:PS X st t)(h2:eU X eJ u):eU X (st::eJ) (vY t u):=by
 intro pins s σ H D I h;refine wpAny_execs_cons (aI (h1 pins s σ H {D with nx:=u D} I h) λf s1 q=>?_);cases f with
 | next=>
  obtain⟨aG,H',I',q⟩:=q;exact h2 pins s1 aG H' D I' q
 | ret v=>exact q
 | brk=>exact q
 | cont=>exact q
theorem LG(h1:PS X st t):eU X [st] t:=by
 intro pins s σ H D I h;refine wpAny_execs_cons (aI (h1 pins s σ H D I h) λf s1 q=>?_);cases f with
 | next=>exact wpAny_execs_nil q
 | ret v=>exact q
 | brk=>exact q
 | cont=>exact q
def Ei:TS:=λD σ H=>D.ct σ H
theorem zlg:PS X (.Continue pos) Ei:=λ_ _ σ H _ I h=>wpAny_Continue ⟨σ,H,I,h⟩
theorem Inv.quiet{pins:Qa (Qg×Obj)}{σ:St}{H:Hp}{s:Qd}(I:Inv X pins σ H s):interactive X.env=false:=by simp[interactive,I.ok.kind]
def Eh(te:TE):TS:=λD σ H=>te σ H λ_ H1=>D.nx σ H1
theorem WM(he:PE X e te)(hs:swapsWith e none pos.line X.env=pure false:=by rfl):PS X (.Expr e pos) (Eh te):=by
 intro pins s σ H D I h;exact wpAny_Expr_any (aI (he pins s σ H _ I h) λv s1 ⟨x,H1,I1,r1,q1⟩=>⟨σ,H1,I1,q1⟩) I.quiet hs
def yW(te:TE):TS:=λD σ H=>te σ H D.rt
theorem Tb(he:PE X e te):PS X (.Return (some e) pos) (yW te):=by
 intro pins s σ H D I h;exact wpAny_Return_some (aI (he pins s σ H _ I h) λv s1 ⟨x,H1,I1,r1,q1⟩=>⟨x,σ,H1,I1,r1,q1⟩)
def Dh(c:TT)(t u:TS):TS:=λD σ H=>c σ H λb H1=>if b=true then t D σ H1 else u D σ H1
theorem zAr{c:Expr}{a b:Qa Stmt}{tc:TT}(hc:PT X c tc)(ha:eU X a t)(hb:eU X b u):PS X (.If c a b pos) (Dh tc t u):=by
 intro pins s σ H D I h;refine wpAny_If (aI (hc pins s σ H _ I h) λd s1 ⟨H1,I1,q1⟩=>?_);cases d with
 | true=>exact ha pins s1 σ H1 D I1 q1
 | false=>exact hb pins s1 σ H1 D I1 q1
end
abbrev TG:=V->St->Hp->(St->Hp->Prop)->Prop
abbrev h9:=Qa V->St->Hp->(St->Hp->Prop)->Prop
def PG(X:Cx)(target:Expr)(t:TG):Prop :=
 ∀ (pins:Qa (Qg×Obj)) (s:Qd) (σ:St) (H:Hp) (v:V) (u:Qc) (Q:St->Hp->Prop),Inv X pins σ H s->zY v u->t v σ H Q->
  wpAny (model X.prog X.w) X.A (assign target X.env u) (λ_ s'=>∃ aG H',Inv X pins aG H' s'/\Q aG H') X.xe s
def rn(X:Cx)(ts:Qa Expr)(t:h9):Prop :=
 ∀ (pins:Qa (Qg×Obj)) (s:Qd) (σ:St) (H:Hp) (vs:Qa V) (us:Qa Qc) (Q:St->Hp->Prop),Inv X pins σ H s->zV vs us->t vs σ H Q->
  wpAny (model X.prog X.w) X.A (assignInOrder ((assignEach ts X.env).map (·.2)) us) (λ_ s'=>∃ aG H',Inv X pins aG H' s'/\Q aG H') X.xe s
abbrev yV:=V->V->V->Hp->(Hp->Prop)->Prop
def Dg(X:Cx)(t:yV):Prop :=
 ∀ (pins:Qa (Qg×Obj)) (s:Qd) (σ:St) (H:Hp) (o i v:V) (ov iv u:Qc) (Q:Hp->Prop),Inv X pins σ H s->zY o ov->zY i iv->zY v u->t o i v H Q->
  wpAny (model X.prog X.w) X.A (setItem ov iv u) (λ_ s'=>∃ H',Inv X pins σ H' s'/\Q H') X.xe s
section
variable{X:Cx}{pos:Pos}
def jt(i:Nat):TG:=λv σ H Q=>Q (σ.set i (some v)) H
theorem WL{i:Nat}{x:Str}(hN:X.N.Nodup)(hi:X.N[i]?=some x)(hx:Loc X.env.scope x)(hf:X.fn x=true\/X.env.scope.names.lookup x=some .local:=by first|exact .inl rfl|exact .inr rfl|assumption):PG X (.Name x pos) (jt i):=by
 intro pins s σ H v u Q I r h;exact wpAny_assign_Name (Bc I hN hi hx r (λs' I'=>⟨_,H,I',h⟩) hf)
def yU:h9:=λvs σ H Q=>vs=[]/\Q σ H
def wj(t:TG)(u:h9):h9:=λvs σ H Q=>∃ v r,vs=v::r/\t v σ H λaG H'=>u r aG H' Q
theorem WK:rn X [] yU:=by
 intro pins s σ H vs us Q I r h;obtain⟨e,h⟩:=h;subst e;cases r;exact assignInOrder_nil ⟨σ,H,I,h⟩
theorem ZH{e:Expr}{es:Qa Expr}{t:TG}{u:h9}(h1:PG X e t)(h2:rn X es u)
  (hs:(assignEach (e::es) X.env).map (·.2)=assign e X.env::(assignEach es X.env).map (·.2):=by rfl):rn X (e::es) (wj t u):=by
 intro pins s σ H vs us Q I r h;obtain⟨v,vr,e1,h⟩:=h;subst e1;cases r with
 | cons r rr=>
  rw[hs];refine assignInOrder_cons (aI (h1 pins s σ H _ _ _ I r h) λ_ s1 ⟨eC,H1,I1,q1⟩=>?_);exact h2 pins s1 eC H1 _ _ Q I1 rr q1
def yT(K:qe)(n:Nat)(t:h9):TG:=λv σ H Q=>∃ a xs,v=.ref a/\bt K H a xs/\xs.length=n/\t xs σ H Q
theorem Ta{es:Qa Expr}{k:Nat}{t:h9}{n:Nat}(hc:X.calm=true)(h:rn X es t)
  (hn:(assignEach es X.env).length=n:=by rfl) (vD:(assignEach es X.env).findIdx? (·.1)=none:=by rfl):PG X (.Tuple es k pos) (yT X.K n t):=by
 intro pins s σ H v u Q I r hw;obtain⟨a,xs,e1,hq,hl,hw⟩:=hw;subst e1;cases r;obtain⟨ah,rv,ht,hz⟩:=I.tuple hq;refine assign_Tuple_tuple (I.ok.hd hc) ht (by simp[hn,<-hl,rv.length]) vD λh' hx=>?_;have I1:Inv X pins σ H {s with heap:=h'}:=I.kept (t':=s.toks) λb o e=>hx b o (ql (qj e)) e;exact h pins _ σ H xs _ Q I1 (by simpa using rv) hw
def Df(to ti:TE)(t:yV):TG:=λv σ H Q=>to σ H λo H1=>ti σ H1 λi H2=>t o i v H2 λH3=>Q σ H3
theorem S9{o i:Expr}{to ti:TE}{t:yV}(ho:PE X o to)(hi:PE X i ti)(hs:Dg X t)
  (ha:∀ v,assign (.Subscript o i pos) X.env v=(do
   let ov <-holding [v] (eval o X.env)
   let iv <-holding [v,ov] (eval i X.env)
   standAt pos
   holding [v,ov,iv] (setItem ov iv v)
   release [v,ov,iv] []):=by intro _; rfl):PG X (.Subscript o i pos) (Df to ti t):=by
 intro pins s σ H v u Q I r h;rw[ha];refine qc (wpAny_holding (aI (ho pins s σ H _ I h) λov s1 ⟨x,H1,I1,r1,q1⟩=>?_));refine qc (wpAny_holding (aI (hi pins s1 σ H1 _ I1 q1) λiv s2 ⟨y,H2,I2,r2,q2⟩=>?_));refine qc (wpAny_standAt (qc (wpAny_holding (aI (hs pins s2 σ H2 x y v ov iv u _ I2 r1 r2 r q2) λ_ s3 ⟨H3,I3,q3⟩=>?_))));exact wpAny_release ⟨σ,H3,I3,q3⟩
def nC(te:TE)(g:TG):TS:=λD σ H=>te σ H λx H1=>g x σ H1 D.nx
theorem S8{tg e:Expr}{te:TE}{g:TG}(he:PE X e te)(hg:PG X tg g)(hs:swapsWithSole [tg] e pos.line X.env=pure false:=by rfl)(hw:swappedStores [tg] e X.env=pure none:=by rfl)
  (h1:(assignEach [tg] X.env).map (·.2)=[assign tg X.env]:=by rfl):PS X (.Assign [tg] e pos) (nC te g):=by
 intro pins s σ H D I h;refine wpAny_Assign_stores (aI (he pins s σ H _ I h) λv s1 ⟨x,H1,I1,r1,q1⟩=>?_) hs hw;rw[h1];exact aI (hg pins s1 σ H1 x v _ I1 r1 q1) λ_ s2 q=>q
theorem S7{i:Nat}{x:Str}{e:Expr}{te:TE}{pos':Pos}(hN:X.N.Nodup)(hi:X.N[i]?=some x)(hx:Loc X.env.scope x)(he:PE X e te)(hs:swapsWith e (some (.Name x pos')) pos.line X.env=pure false:=by rfl)(hf:X.fn x=true\/X.env.scope.names.lookup x=some .local:=by first|exact .inl rfl|exact .inr rfl|assumption):
  PS X (.Assign [.Name x pos'] e pos) (nC te (jt i)):=by
 intro pins s σ H D I h;refine wpAny_Assign_Name (aI (he pins s σ H _ I h) λv s1 ⟨y,H1,I1,r1,q1⟩=>?_) hs;exact Bc I1 hN hi hx r1 (λs2 I2=>⟨_,H1,I2,q1⟩) hf
def De(i j:Nat)(ta:TA):TS:=λD σ H=>ta σ H λvs H1=>∃ v w,vs=[v,w]/\D.nx ((σ.set i (some v)).set j (some w)) H1
theorem S6{i j:Nat}{x y:Str}{a b:Expr}{ta:TA}{px py pt:Pos}{kt k2 sW}(hc:X.calm=true)(hN:X.N.Nodup)(hi:X.N[i]?=some x)(hj:X.N[j]?=some y)(dU:i≠j)
  (hx:X.env.scope.names.lookup x=some .local) (hy:X.env.scope.names.lookup y=some .local) (ha:PA X [a,b] ta)
  (hw:swappedStores [.Tuple [.Name x px,.Name y py] kt pt] (.Tuple [a,b] k2 sW) X.env=pure (some [x,y]))
  (hs:swapsWithSole [.Tuple [.Name x px,.Name y py] kt pt] (.Tuple [a,b] k2 sW) pos.line X.env=pure false:=by rfl):
  PS X (.Assign [.Tuple [.Name x px,.Name y py] kt pt] (.Tuple [a,b] k2 sW) pos) (De i j ta):=by
 intro pins s σ H D I h;rw[exec_Assign_arm];refine qc (wpAny_standAt ?_);rw[hs];refine qc (qd ?_);rw[if_neg (by decide)];refine qc (Tuple_ (aI (ha _ pins s σ H _ I h) λus s1 ⟨vs,H1,I1,r1,q1⟩=>?_));obtain⟨v,w,e1,q1⟩:=q1;subst e1;obtain⟨u1,u2,rfl,rv,jC⟩:∃ u1 u2,us=[u1,u2]/\zY v u1/\zY w u2:=by
  cases r1 with
  | cons p q=>
   cases q with
   | cons p' q'=>
    cases q';exact⟨_,_,rfl,p,p'⟩
 refine qC ?_ (by show 2<=sizeLine; decide);have I2:Inv X pins σ H1 {s1 with heap:=s1.heap.push {cls:=.type "tuple",data:=.seq [u1,u2].toArray}}:=I1.kept (t':=s1.toks) λb o e=>qf _ e;rw[hw];refine qc (qd ?_);show wpAny (model X.prog X.w) X.A (do rule "assign.swapped-stores"; let items <-unpackItems (.ref s1.heap.objs.size) 2 none; assignInOrder [λv=>bindName X.env y v,λv=>bindName X.env x v] items.reverse; pure Flow.next) _ _ _;refine qc (wpAny_rule (qc (unpackItems_tuple (items:=#[u1,u2]) (I.ok.hd hc) (IsTup.new s1.heap _) λh' vA=>?_)));have I3:=I2.kept (h':=h') (t':=s1.toks) λb o e=>vA b o (ql (qj e)) e;show wpAny _ _ (assignInOrder [λv=>bindName X.env y v,λv=>bindName X.env x v] [u2,u1] >>= λ_=>pure Flow.next) _ _ _;refine qc (assignInOrder_cons (wpAny_bindName (Bc I3 hN hj (.inl hy) jC (λs2 I4=>?_) (.inr hy))));refine assignInOrder_cons (wpAny_bindName (Bc I4 hN hi (.inl hx) rv (λs3 I5=>assignInOrder_nil (qd ?_)) (.inr hx)));rw[List.set_comm _ _ (Ne.symm dU)]at I5;exact⟨_,H1,I5,q1⟩
end
section
variable{X:Cx}{pos:Pos}
def EM(c:TT)(tb:TS):TS:=λD σ H=>∃ W:Nat->St->Hp->Prop,(∃ m,W m σ H)/\∀ m σ H,W m σ H->
 c σ H λb H1=>if b=true then ∃ N:St->Hp->Prop,(∀ aG H',N aG H'->∃ m',m' < m/\W m' aG H')/\tb {D with nx:=N,ct:=N,bk:=D.nx} σ H1 else D.nx σ H1
theorem ZG{c:Expr}{body:Qa Stmt}{tc:TT}{tb:TS}(hp:PassesOwn (model X.prog X.w) X.A X.env X.xe)(hc:PT X c tc)(hb:eU X body tb):PS X (.While c body [] pos) (EM tc tb):=by
 intro pins s σ H D I h;obtain⟨W,⟨m0,w0⟩,turn⟩:=h;refine wpAny_While (codeAny_whileLoop (λn s'=>∃ aG H',Inv X pins aG H' s'/\W n aG H') ?_ m0 ⟨σ,H,I,w0⟩);rintro n s1 ⟨eC,H1,I1,w1⟩;refine wpAny_passesOwn hp (aI (hc pins s1 eC H1 _ I1 (turn n eC H1 w1)) λb s2 ⟨H2,I2,q2⟩=>?_);cases b with
 | true=>
  obtain⟨N,hN,q2⟩:=q2;rw[if_pos rfl];refine wpAny_passesOwn hp (aI (hb pins s2 eC H2 _ I2 q2) λf s3 q3=>?_);cases f with
  | next=>
   obtain⟨cP,H3,I3,n3⟩:=q3;obtain⟨m',hm,w3⟩:=hN cP H3 n3;exact⟨m',hm,cP,H3,I3,w3⟩
  | cont=>
   obtain⟨cP,H3,I3,n3⟩:=q3;obtain⟨m',hm,w3⟩:=hN cP H3 n3;exact⟨m',hm,cP,H3,I3,w3⟩
  | brk=>exact q3
  | ret v=>exact q3
 | false=>
  rw[if_neg qh];exact wpAny_execs_nil ⟨eC,H2,I2,q2⟩
end
structure It where
 go:Nat->Hp->Prop
 vg:Nat->Hp->V->Hp->Prop
 stop:Nat->Hp->Prop
def fU(X:Cx)(pins:Qa (Qg×Obj))(H:Hp)(b:Qg):Prop :=
 H b=none/\b≠X.env.locals/\b∉X.fs/\(b∈X.ex\/X.be.heap.objs.size<=b)/\(∀ x c,X.env.cells.lookup x=some c->c≠b)/\∀ p∈X.pn++pins,p.1≠b
theorem Inv.cS{X:Cx}{pins:Qa (Qg×Obj)}{σ:St}{H H':Hp}{s:Qd}{b:Qg}(I:Inv X pins σ H s)(hb:s.heap.objs.size<=b)(hn:H' b=none):fU X pins H' b:=by
 refine⟨hn,ü (qk I.lt hb),I.Ho hb,.inr (qB I.sz hb),λx c e z=>?_,λp hp z=>?_⟩
 .obtain⟨v,q⟩:=I.cell x c e
  exact absurd (qk q.lt (by rw[z]; exact hb)) (Ì _)
 .exact absurd (qk (qj (I.pin p hp).1) (by rw[z]; exact hb)) (Ì _)
structure Turn (P:Qe) (w:Qh) (K:qe) (tg:Expr) (J:It) (fp:Qa Qg) (it:Qg) (tn:Nat->Heap->Prop):Prop where
 mem:it∈fp
 obj:∀ i h,tn i h->∀ b∈fp,∃ o,h.get? b=some o/\∀ v,o.data≠.cell v
 keep:∀ i h h',tn i h->(∀ b∈fp,∀ o,h.get? b=some o->h'.get? b=some o)->tn i h'
 item:∀ (X:Cx),X.prog=P->X.w=w->X.K=K->X.calm=true->∀ (i:Nat) (pins:Qa (Qg×Obj)) (s:Qd) (σ:St) (H:Hp) (E:Qc->Qd->Prop),Inv X pins σ H s->(∀ b∈fp,fU X pins H b)->tn i s.heap->J.go i H->
  wpAny (model P w) X.A (pyNext (.ref it)) (λr s1=>∃ u,r=some u/\
   wpAny (model P w) X.A (letOwnedTupleGo tg (.ref it) u) (λ_ s2=>∃ x H',Inv X pins σ H' s2/\zY x u/\J.vg i H x H'/\tn (i+1) s2.heap/\∀ b∈fp,H' b=none) E s1) E s
 done:∀ (X:Cx),X.prog=P->X.w=w->X.K=K->X.calm=true->∀ (i:Nat) (pins:Qa (Qg×Obj)) (s:Qd) (σ:St) (H:Hp) (E:Qc->Qd->Prop),Inv X pins σ H s->(∀ b∈fp,fU X pins H b)->tn i s.heap->J.stop i H->
  wpAny (model P w) X.A (pyNext (.ref it)) (λr s1=>r=none/\Inv X pins σ H s1) E s
 self:∀ (A:Qf) (i:Nat) (s:Qd) (Q:Qc->Qd->Prop) (E:Qc->Qd->Prop),tn i s.heap->Q (.ref it) s->wpAny (model P w) A (pyIter (.ref it)) Q E s
abbrev TI:=St->Hp->(It->Hp->Prop)->Prop
def CI(X:Cx)(pins:Qa (Qg×Obj))(σ:St)(tg:Expr)(R:It->Hp->Prop)(xM:Qc)(s2:Qd):Prop :=
 ∃ (it:Qg) (fp:Qa Qg) (tn:Nat->Heap->Prop) (J:It) (H':Hp),xM=.ref it/\Inv X pins σ H' s2/\Turn X.prog X.w X.K tg J fp it tn/\tn 0 s2.heap/\(∀ b∈fp,fU X pins H' b)/\R J H'
def PI(X:Cx)(tg iter:Expr)(wi:TI):Prop :=
 ∀ (pins:Qa (Qg×Obj)) (s:Qd) (σ:St) (H:Hp) (R:It->Hp->Prop),Inv X pins σ H s->wi σ H R->
  wpAny (model X.prog X.w) X.A (eval iter X.env) (λv s1=>wpAny (model X.prog X.w) X.A (pyIter v) (CI X pins σ tg R) X.xe s1) X.xe s
theorem uo{M:Model}{A:Qf}{E:Qc->Qd->Prop}{s:Qd}{tg:Expr}{it:Qg}{u:Qc}{o:Obj}{n:String}{vs:Array Qc}{Q:Unit->Qd->Prop}(ho:s.heap.get? it=some o)(hc:o.cls=.type n)(hd:o.data=.fields vs)
  (hn:["enumerate", "zip", "dict_itemiterator", "dict_reverseitemiterator", "odict_iterator", "itertools.zip_longest", "itertools.pairwise"].contains n=false) (hQ:Q () s):wpAny M A (letOwnedTupleGo tg (.ref it) u) Q E s:=by
 unfold letOwnedTupleGo;cases tg<;>first
  | exact qd hQ
  | (cases u<;>first
    | exact qd hQ
    | (refine qc (wpAny_load ho ?_)
       rw[hc,hd];show wpAny M A (if(["enumerate", "zip", "dict_itemiterator", "dict_reverseitemiterator", "odict_iterator", "itertools.zip_longest", "itertools.pairwise"].contains n && vs[0]?==some (rawInt _))=true then _ else _) Q E s;rw[if_neg (by intro h; rw[hn,Bool.false_and]at h; cases h)];exact qd hQ))
def IP(K:qe)(a:Qg):It :=
 ⟨λi H=>∃ xs x,bo K H a xs/\xs[i]?=some x,λi H x H'=>H'=H/\∀ xs,bo K H a xs->xs[i]?=some x,λi H=>∃ xs,bo K H a xs/\xs.length<=i⟩
def IM(K:qe)(a:Qg):It :=
 ⟨λi H=>∃ xs x,bt K H a xs/\xs[i]?=some x,λi H x H'=>H'=H/\∀ xs,bt K H a xs->xs[i]?=some x,λi H=>∃ xs,bt K H a xs/\xs.length<=i⟩
def yr(lo:Int)(n:Nat):It:=⟨λi _=>i < n,λi H x H'=>H'=H/\x=.int (lo+i),λi _=>n<=i⟩
theorem My{P:Qe}{w:Qh}{K:qe}{tg:Expr}(a it:Qg):Turn P w K tg (IP K a) [it] it (λi h=>h.IsListIter it a i) where
 mem:=by simp
 obj:=λi h st b hb=>by
  have e:b=it:=by simpa using hb
  subst e;obtain⟨o,e,c,d⟩:=st;exact⟨o,e,λv z=>by rw[d]at z; cases z⟩
 keep:=λi h h' st k=>st.at λo e=>k it (by simp) o e
 item:=by
  intro X hP hw hK hc i pins s σ H E I hf st hg;subst hP hw hK;obtain⟨xs,x,hq,hx⟩:=hg;obtain⟨ah,rv,p,hz⟩:=I.list hq;obtain⟨u,hu,ru⟩:=rv.get hx;obtain⟨f0,f1,f2,f3,f4,f5⟩:=hf it (by simp);refine wpAny_pyNext_list_item st p.isList (x:=u) (by simpa using hu) λh' dR sb=>?_;have I1:Inv X pins σ H {s with heap:=h'}:=I.turned (t':=s.toks) (λb o hb e=>(sb.2 b hb).trans e) f0 f1 f3 f4 f5;obtain⟨o,e,c,d⟩:=id dR;exact⟨u,rfl,uo (s:={s with heap:=h'}) e c d (by decide) ⟨x,H,I1,ru,⟨rfl,λys hy=>by rw[I.lC hy hq]; exact hx⟩,dR,λb hb=>(hf b hb).1⟩⟩
 done:=by
  intro X hP hw hK hc i pins s σ H E I hf st hg;subst hP hw hK;obtain⟨xs,hq,hx⟩:=hg;obtain⟨ah,rv,p,hz⟩:=I.list hq;obtain⟨f0,f1,f2,f3,f4,f5⟩:=hf it (by simp);have hl:=rv.length;exact wpAny_pyNext_list_end (I.ok.hd hc) st p.isList (by simp; omega) λh' eb=>⟨rfl,I.turned (t':=s.toks) (λb o hb e=>eb b o hb e) f0 f1 f3 f4 f5⟩
 self:=λ_ _ _ _ _ st h=>wpAny_pyIter_listiter st h
theorem Na{P:Qe}{w:Qh}{K:qe}{tg:Expr}(a it:Qg):Turn P w K tg (IM K a) [it] it (λi h=>h.IsTupleIter it a i) where
 mem:=by simp
 obj:=λi h st b hb=>by
  have e:b=it:=by simpa using hb
  subst e;obtain⟨o,e,c,d⟩:=st;exact⟨o,e,λv z=>by rw[d]at z; cases z⟩
 keep:=λi h h' st k=>st.at λo e=>k it (by simp) o e
 item:=by
  intro X hP hw hK hc i pins s σ H E I hf st hg;subst hP hw hK;obtain⟨xs,x,hq,hx⟩:=hg;obtain⟨ah,rv,p,hz⟩:=I.tuple hq;obtain⟨u,hu,ru⟩:=rv.get hx;obtain⟨f0,f1,f2,f3,f4,f5⟩:=hf it (by simp);refine wpAny_pyNext_tuple_item st (show s.heap.IsTuple a ah.toArray from p) (x:=u) (by simpa using hu) λh' dR sb=>?_;have I1:Inv X pins σ H {s with heap:=h'}:=I.turned (t':=s.toks) (λb o hb e=>(sb.2 b hb).trans e) f0 f1 f3 f4 f5;obtain⟨o,e,c,d⟩:=id dR;exact⟨u,rfl,uo (s:={s with heap:=h'}) e c d (by decide) ⟨x,H,I1,ru,⟨rfl,λys hy=>by rw[I.cE hy hq]; exact hx⟩,dR,λb hb=>(hf b hb).1⟩⟩
 done:=by
  intro X hP hw hK hc i pins s σ H E I hf st hg;subst hP hw hK;obtain⟨xs,hq,hx⟩:=hg;obtain⟨ah,rv,p,hz⟩:=I.tuple hq;obtain⟨f0,f1,f2,f3,f4,f5⟩:=hf it (by simp);have hl:=rv.length;exact wpAny_pyNext_tuple_end (I.ok.hd hc) st (show s.heap.IsTuple a ah.toArray from p) (by simp; omega) λh' eb=>⟨rfl,I.turned (t':=s.toks) (λb o hb e=>eb b o hb e) f0 f1 f3 f4 f5⟩
 self:=λ_ _ _ _ _ st h=>wpAny_pyIter_tupleiter st h
theorem zmQ{P:Qe}{w:Qh}{K:qe}{tg:Expr}(it:Qg)(lo:Int)(n:Nat):Turn P w K tg (yr lo n) [it] it (λi h=>IsRangeIter h it (lo+(i:Nat) * 1) ((n:Int) - (i:Nat)) 1) where
 mem:=by simp
 obj:=λi h st b hb=>by
  have e:b=it:=by simpa using hb
  subst e;exact⟨_,st,λv z=>by
   have z':Data.fields _=Data.cell v:=z;cases z'⟩
 keep:=λi h h' st k=>k it (by simp) _ st
 item:=by
  intro X hP hw hK hc i pins s σ H E I hf st hg;subst hP hw hK;obtain⟨f0,f1,f2,f3,f4,f5⟩:=hf it (by simp);have W:=Walks.range (prog:=X.prog) (w:=X.w) (I.ok.hd hc) it lo 1 n;refine W.item i s _ _ hg st λv h' tk hv dR kk=>?_;obtain⟨t,rfl⟩:=hv;have I1:Inv X pins σ H {s with heap:=h',toks:=tk}:=I.turned (λb o hb e=>kk b o (by simpa using hb) e) f0 f1 f3 f4 f5;refine⟨_,rfl,uo (s:={s with heap:=h',toks:=tk}) (n := "range_iterator") dR rfl rfl (by decide) ⟨.int (lo+i),H,I1,⟨t,?_⟩,⟨rfl,rfl⟩,dR,λb hb=>(hf b hb).1⟩⟩;rw[Int.mul_one]
 done:=by
  intro X hP hw hK hc i pins s σ H E I hf st hg;subst hP hw hK;obtain⟨f0,f1,f2,f3,f4,f5⟩:=hf it (by simp);exact wpAny_pyNext_range_end (I.ok.hd hc) st (by have:n<=i:=hg; omega) λh' eb=>⟨rfl,I.turned (t':=s.toks) (λb o hb e=>eb b o hb e) f0 f1 f3 f4 f5⟩
 self:=λ_ _ _ _ _ st h=>wpAny_pyIter_rangeiter st h
section
variable{X:Cx}{tg:Expr}
def Eg(K:qe)(tl:TE):TI:=λσ H R=>tl σ H λx H1=>∃ a,x=.ref a/\(∃ xs,bo K H1 a xs)/\R (IP K a) H1
def Dd(K:qe)(tl:TE):TI:=λσ H R=>tl σ H λx H1=>∃ a,x=.ref a/\(∃ xs,bt K H1 a xs)/\R (IM K a) H1
theorem WJ{l:Expr}{tl:TE}(hl:PE X l tl):PI X tg l (Eg X.K tl):=by
 intro pins s σ H R I h;refine aI (hl pins s σ H _ I h) λv s1 ⟨x,H1,I1,r1,q1⟩=>?_;obtain⟨a,e,⟨xs,hq⟩,q⟩:=q1;subst e;cases r1;obtain⟨ah,rv,p,hz⟩:=I1.list hq;refine wpAny_pyIter_list p.isList ?_;refine⟨s1.heap.objs.size,[s1.heap.objs.size],_,_,H1,rfl,I1.kept (t':=s1.toks) λb o e=>qf _ e,My a _,⟨_,qi _ rfl,rfl,rfl⟩,λb hb=>?_,q⟩;have e:b=s1.heap.objs.size:=by simpa using hb
 subst e;exact I1.cS (qg _) (I1.aD.fresh (qg _))
theorem S5{l:Expr}{tl:TE}(hl:PE X l tl):PI X tg l (Dd X.K tl):=by
 intro pins s σ H R I h;refine aI (hl pins s σ H _ I h) λv s1 ⟨x,H1,I1,r1,q1⟩=>?_;obtain⟨a,e,⟨xs,hq⟩,q⟩:=q1;subst e;cases r1;obtain⟨ah,rv,p,hz⟩:=I1.tuple hq;refine wpAny_pyIter_tuple (show s1.heap.IsTuple a ah.toArray from p) ?_;refine⟨s1.heap.objs.size,[s1.heap.objs.size],_,_,H1,rfl,I1.kept (t':=s1.toks) λb o e=>qf _ e,Na a _,⟨_,qi _ rfl,rfl,rfl⟩,λb hb=>?_,q⟩;have e:b=s1.heap.objs.size:=by simpa using hb
 subst e;exact I1.cS (qg _) (I1.aD.fresh (qg _))
theorem Mc{pins:Qa (Qg×Obj)}{σ:St}{H:Hp}{s:Qd}{R:It->Hp->Prop}{E:Qc->Qd->Prop}{lo hi:Int}{t u v:Tok}{tk:Nat}(I:Inv X pins σ H s)(h1:-(2^62)<=lo)(h2:lo < 2^62)(h3:-(2^62)<=hi)(h4:hi < 2^62)
  (q:R (yr lo (hi - lo).toNat) H):wpAny (model X.prog X.w) X.A (pyIter (.ref s.heap.objs.size)) (CI X pins σ tg R) E {s with heap:=s.heap.push {cls:=.type "range",data:=.fields #[.int lo t,.int hi u,.int 1 v]},toks:=tk}:=by
 refine wpAny_pyIter_range (IsRange.new ..) (small_one h1 h2 h3 h4) ?_;have I1:Inv X pins σ H {s with heap:=s.heap.push {cls:=.type "range",data:=.fields #[.int lo t,.int hi u,.int 1 v]},toks:=tk}:=I.kept λb o e=>qf _ e;refine⟨(s.heap.push {cls:=.type "range",data:=.fields #[.int lo t,.int hi u,.int 1 v]}).objs.size,[(s.heap.push {cls:=.type "range",data:=.fields #[.int lo t,.int hi u,.int 1 v]}).objs.size],_,_,H,rfl,
  I1.kept (t':=tk) λb o e=>qf _ e,zmQ _ lo (hi - lo).toNat,?_,λb hb=>?_,q⟩
 .have e1:lo+((0:Nat):Int) * 1=lo:=by simp
  have e2:(((hi - lo).toNat:Nat):Int) - ((0:Nat):Int)=Builtin.Range.rangeSize lo hi 1:=by rw[rangeSize_one]; split<;>omega
  show IsRangeIter _ _ (lo+((0:Nat):Int) * 1) ((((hi - lo).toNat:Nat):Int) - ((0:Nat):Int)) 1;rw[e1,e2];exact qi _ rfl
 .have e:b=(s.heap.push {cls:=.type "range",data:=.fields #[.int lo t,.int hi u,.int 1 v]}).objs.size:=by simpa using hb
  subst e;exact I1.cS (qg _) (I1.aD.fresh (qg _))
def Ef(ta:TA):TI:=λσ H R=>ta σ H λvs H1=>∃ j:Int,vs=[.int j]/\-(2^62)<=j/\j < 2^62/\R (yr 0 j.toNat) H1
def Ee(ta:TA):TI:=λσ H R=>ta σ H λvs H1=>∃ i j:Int,vs=[.int i,.int j]/\(-(2^62)<=i/\i < 2^62/\-(2^62)<=j/\j < 2^62)/\R (yr i (j - i).toNat) H1
theorem Z8{a:Expr}{ta:TA}{p pos:Pos}(hg:Gl X "range")(hm:X.mg "range"=none)(ha:PA X [a] ta)(hs:starEach [a] X.env=[(false,eval a X.env)]:=by rfl):PI X tg (.Call (.Name "range" p) [a] [] pos) (Ef ta):=by
 intro pins s σ H R I h;refine Call_ (pO I hg hm boot_range (Û (aI (ha pos pins s σ H _ I h) λus s1 ⟨vs,H1,I1,r1,q1⟩=>?_) hs rfl));obtain⟨j,e,q1,q2,q⟩:=q1;subst e;cases r1 with
 | cons r rr=>
  cases rr;obtain⟨t,rfl⟩:=r;exact call_range_1 (Mc I1 (by omega) (by omega) q1 q2 (by simpa using q))
theorem Z7{a b:Expr}{ta:TA}{p pos:Pos}(hg:Gl X "range")(hm:X.mg "range"=none)(ha:PA X [a,b] ta)(hs:starEach [a,b] X.env=[(false,eval a X.env),(false,eval b X.env)]:=by rfl)(mV:starEach [b] X.env=[(false,eval b X.env)]:=by rfl):
  PI X tg (.Call (.Name "range" p) [a,b] [] pos) (Ee ta):=by
 intro pins s σ H R I h;refine Call_ (pO I hg hm boot_range (Û (aI (ha pos pins s σ H _ I h) λus s1 ⟨vs,H1,I1,r1,q1⟩=>?_) (by rw[hs,mV]) (by rw[mV]; rfl)));obtain⟨i,j,e,⟨q1,q2,q3,q4⟩,q⟩:=q1;subst e;cases r1 with
 | cons r rr=>
  cases rr with
  | cons r' rr=>
   cases rr;obtain⟨t,rfl⟩:=r;obtain⟨t',rfl⟩:=r';exact call_range_2 (Mc I1 q1 q2 q3 q4 q)
def yS(wi:TI)(g:TG)(tb:TS):TS:=λD σ H=>wi σ H λJ H1=>∃ W:Nat->Nat->St->Hp->Prop,(∃ m,W 0 m σ H1)/\∀ i m σ H,W i m σ H->
 (J.stop i H/\D.nx σ H)\/(J.go i H/\∃ N:St->Hp->Prop,(∀ aG H',N aG H'->∃ m',m' < m/\W (i+1) m' aG H')/\∀ x H',J.vg i H x H'->g x σ H' λeW H2=>tb {D with nx:=N,ct:=N,bk:=D.nx} eW H2)
def uN(fp:Qa Qg)(h:Heap):Qa (Qg×Obj):=fp.filterMap λb=>(h.get? b).map λo=>(b,o)
theorem va{fp:Qa Qg}{h:Heap}{b:Qg}{o:Obj}(hb:b∈fp)(e:h.get? b=some o):(b,o)∈uN fp h:=List.mem_filterMap.mpr ⟨b,hb,by rw[e]; rfl⟩
theorem Z6{fp:Qa Qg}{h:Heap}{p:Qg×Obj}(hp:p∈uN fp h):p.1∈fp/\h.get? p.1=some p.2:=by
 obtain⟨b,hb,e⟩:=List.mem_filterMap.mp hp;cases q:h.get? b with
 | none=>rw[q]at e; cases e
 | some o=>
  rw[q]at e;have e':(b,o)=p:=qA e;subst e';exact⟨hb,q⟩
theorem Inv.pinned{pins:Qa (Qg×Obj)}{σ:St}{H:Hp}{s:Qd}{fp:Qa Qg}(I:Inv X pins σ H s)(hf:∀ b∈fp,fU X pins H b)(ho:∀ b∈fp,∃ o,s.heap.get? b=some o/\∀ v,o.data≠.cell v):Inv X (pins++uN fp s.heap) σ H s :=
 I.cZ λp hp=>(Í.mp hp).elim (λz=>I.pin p (qy _ z)) λz=>by
  obtain⟨hb,e⟩:=Z6 z;obtain⟨f0,f1,f2,_⟩:=hf p.1 hb;obtain⟨o,e',d⟩:=ho p.1 hb;rw[e]at e'; cases e';exact⟨e,f0,f1,f2,d⟩
theorem Inv.fm{pins pl:Qa (Qg×Obj)}{σ:St}{H:Hp}{s:Qd}(I:Inv X (pins++pl) σ H s):Inv X pins σ H s:=I.cZ λp hp=>I.pin p (qy _ (Ò _ hp))
theorem S4{iter:Expr}{body:Qa Stmt}{wi:TI}{g:TG}{tb:TS}{pos:Pos}(hp:PassesOwn (model X.prog X.w) X.A X.env X.xe)(hc:X.calm=true)(hi:PI X tg iter wi)(hg:PG X tg g)(hb:eU X body tb)
  (hs:∀ x,foldedSetIterable iter X.env x=pure x:=by intro _; rfl):PS X (.For tg iter body [] pos) (yS wi g tb):=by
 intro pins s σ H D I h;refine wpAny_For (aI (hi pins s σ H _ I h) λv s1 h1=>aI h1 λxM s2 h2=>?_) hs;obtain⟨it,fp,tn,J,H2,e,I2,T,jY,f2,W,⟨m0,w0⟩,turn⟩:=h2;subst e;have sT:∀ {H':Hp},(∀ b∈fp,H' b=none)->∀ b∈fp,fU X pins H' b:=λhn b hb=>⟨hn b hb,(f2 b hb).2⟩;refine codeAny_forLoop_any (λn s'=>∃ i aG H',Inv X pins aG H' s'/\tn i s'.heap/\(∀ b∈fp,H' b=none)/\W i n aG H') ?_ m0 ⟨0,σ,H2,I2,jY,λb hb=>(f2 b hb).1,w0⟩;rintro n s3 ⟨i,cP,H3,I3,qF,q5,w3⟩;rcases turn i n cP H3 w3 with⟨stop,qn⟩|⟨go,N,hN,step⟩
 .refine wpAny_passesOwn hp (aI (T.done X rfl rfl rfl hc i pins s3 cP H3 X.xe I3 (sT q5) qF stop) λr s4 ⟨hr,I4⟩=>?_)
  subst hr;exact wpAny_execs_nil ⟨cP,H3,I4,qn⟩
 .refine wpAny_passesOwn hp (aI (T.item X rfl rfl rfl hc i pins s3 cP H3 X.xe I3 (sT q5) qF go) λr s4 ⟨u,hr,h4⟩=>?_)
  subst hr;refine wpAny_passesOwn hp (aI h4 λ_ s5 ⟨x,H5,I5,r5,y5,kZ,yi⟩=>?_);have yt:=I5.pinned (sT yi) (T.obj _ _ kZ);refine wpAny_passesOwn hp (aI (hg _ s5 cP H5 x u _ yt r5 (step x H5 y5)) λ_ s6 ⟨lX,H6,I6,q6⟩=>?_);refine wpAny_passesOwn hp (aI (hb _ s6 lX H6 _ I6 q6) λf s7 q7=>?_);have again:∀ {j8:St} {H7:Hp},Inv X (pins++uN fp s5.heap) j8 H7 s7->N j8 H7->∃ m,m < n/\∃ i aG H',Inv X pins aG H' s7/\tn i s7.heap/\(∀ b∈fp,H' b=none)/\W i m aG H':=λ{j8 H7} I7 n7=>by
   obtain⟨m',hm,w7⟩:=hN j8 H7 n7;refine⟨m',hm,i+1,j8,H7,I7.fm,T.keep _ _ _ kZ λb hb o e=>(I7.pin (b,o) (qy _ (qy _ (va hb e)))).1,λb hb=>?_,w7⟩;obtain⟨o,e,d⟩:=T.obj _ _ kZ b hb;exact(I7.pin (b,o) (qy _ (qy _ (va hb e)))).2.1
  cases f with
  | next=>obtain⟨j8,H7,I7,n7⟩:=q7; exact again I7 n7
  | cont=>obtain⟨j8,H7,I7,n7⟩:=q7; exact again I7 n7
  | brk=>obtain⟨j8,H7,I7,q7⟩:=q7; exact⟨j8,H7,I7.fm,q7⟩
  | ret v=>obtain⟨x7,j8,H7,I7,r7,q7⟩:=q7; exact⟨x7,j8,H7,I7.fm,r7,q7⟩
end
abbrev R2:=V->V->Hp->VK->Prop
def cv(X:Cx)(f:Qc->Qc->Sem Qc)(r:R2):Prop :=
 ∀ (pins:Qa (Qg×Obj)) (s:Qd) (σ:St) (H:Hp) (x y:V) (v u:Qc) (Q:VK),Inv X pins σ H s->zY x v->zY y u->r x y H Q->
  wpAny (model X.prog X.w) X.A (f v u) (EP X pins σ Q) X.xe s
def CD(X:Cx)(f:Qc->Sem Qc)(r:V->Hp->VK->Prop):Prop :=
 ∀ (pins:Qa (Qg×Obj)) (s:Qd) (σ:St) (H:Hp) (x:V) (v:Qc) (Q:VK),Inv X pins σ H s->zY x v->r x H Q->
  wpAny (model X.prog X.w) X.A (f v) (EP X pins σ Q) X.xe s
def e8(X:Cx)(f:Qc)(r:Qa V->Hp->VK->Prop):Prop :=
 ∀ (pins:Qa (Qg×Obj)) (s:Qd) (σ:St) (H:Hp) (xs:Qa V) (us:Qa Qc) (Q:VK),Inv X pins σ H s->zV xs us->r xs H Q->
  wpAny (model X.prog X.w) X.A (call f us) (EP X pins σ Q) X.xe s
def zCa(X:Cx)(r:V->Hp->(Bool->Hp->Prop)->Prop):Prop :=
 ∀ (pins:Qa (Qg×Obj)) (s:Qd) (σ:St) (H:Hp) (x:V) (v:Qc) (Q:Bool->Hp->Prop),Inv X pins σ H s->zY x v->r x H Q->
  wpAny (model X.prog X.w) X.A (truthy v) (TP X pins σ Q) X.xe s
def n9(r:R2)(ta tb:TE):TE:=λσ H Q=>ta σ H λx H1=>tb σ H1 λy H2=>r x y H2 Q
def BX(r:V->Hp->VK->Prop)(ta:TE):TE:=λσ H Q=>ta σ H λx H1=>r x H1 Q
def rI(C:Int->Int->Prop)(g:Int->Int->V):R2:=λx y H Q=>∃ i j,x=.int i/\y=.int j/\C i j/\Q (g i j) H
def iz(g:Int->Int->V):R2:=λx y H Q=>∃ i j,x=.int i/\y=.int j/\Q (g i j) H
def rU(g:Int->V):V->Hp->VK->Prop:=λx H Q=>∃ i,x=.int i/\Q (g i) H
section
variable{X:Cx}{a b c:Expr}{ta tb tc:TE}{pos:Pos}
theorem Dc(ha:PE X a ta)(hb:PE X b tb){pins:Qa (Qg×Obj)}{s:Qd}{σ:St}{H:Hp}{R:V->V->Hp->Prop}(I:Inv X pins σ H s)
  (h:ta σ H λx H1=>tb σ H1 λy H2=>R x y H2) {Q:Qc->Qd->Prop} {f:Qc->Qc->Sem Qc}
  (hf:∀ v u s2 x y H2,Inv X pins σ H2 s2->zY x v->zY y u->R x y H2->wpAny (model X.prog X.w) X.A (f v u) Q X.xe s2):
  wpAny (model X.prog X.w) X.A (eval a X.env) (λv aF=>wpAny (model X.prog X.w) X.A (eval b X.env) (λu fP=>wpAny (model X.prog X.w) X.A (f v u) Q X.xe fP) X.xe aF) X.xe s:=by
 refine aI (ha pins s σ H _ I h) λv s1 ⟨x,H1,I1,r1,q1⟩=>?_;refine aI (hb pins s1 σ H1 _ I1 q1) λu s2 ⟨y,H2,I2,r2,q2⟩=>?_;exact hf v u s2 x y H2 I2 r1 r2 q2
theorem zAs{op:Operator}{r:R2}(ho:cv X (binaryOp op) r)(ha:PE X a ta)(hb:PE X b tb):PE X (.BinOp a op b pos) (n9 r ta tb):=by
 intro pins s σ H Q I h;exact wpAny_BinOp (Dc ha hb I h λv u s2 x y H2 I2 rx ry q=>ho pins s2 σ H2 x y v u Q I2 rx ry q)
theorem zAt{op:UnaryOp}{r:V->Hp->VK->Prop}(ho:CD X (unaryOp op) r)(ha:PE X a ta):PE X (.UnaryOp op a pos) (BX r ta):=by
 intro pins s σ H Q I h;exact UnaryOp_ (aI (ha pins s σ H _ I h) λv s1 ⟨x,H1,I1,r1,q1⟩=>ho pins s1 σ H1 x v Q I1 r1 q1)
theorem vm{f:Qc->Qc->Sem Qc}{C:Int->Int->Prop}{g:Int->Int->Int}
  (rule:∀ (i j:Int) (t u:Tok) (s:Qd) (Q:Qc->Qd->Prop) (E:Qc->Qd->Prop),C i j->Q (.int (g i j) s.toks) {s with toks:=s.toks+1}->wpAny (model X.prog X.w) X.A (f (.int i t) (.int j u)) Q E s):
  cv X f (rI C λi j=>.int (g i j)):=by
 intro pins s σ H x y v u Q I rx ry h;obtain⟨i,j,rfl,rfl,hc,q⟩:=h;obtain⟨t,rfl⟩:=rx;obtain⟨t',rfl⟩:=ry;exact rule i j t t' s _ _ hc ⟨.int (g i j),H,I.tok _,⟨_,rfl⟩,q⟩
theorem Pf{f:Qc->Qc->Sem Qc}{g:Int->Int->Int}
  (rule:∀ (i j:Int) (t u:Tok) (s:Qd) (Q:Qc->Qd->Prop) (E:Qc->Qd->Prop),Q (.int (g i j) s.toks) {s with toks:=s.toks+1}->wpAny (model X.prog X.w) X.A (f (.int i t) (.int j u)) Q E s):
  cv X f (iz λi j=>.int (g i j)):=by
 intro pins s σ H x y v u Q I rx ry h;obtain⟨i,j,rfl,rfl,q⟩:=h;obtain⟨t,rfl⟩:=rx;obtain⟨t',rfl⟩:=ry;exact rule i j t t' s _ _ ⟨.int (g i j),H,I.tok _,⟨_,rfl⟩,q⟩
theorem yR{f:Qc->Qc->Sem Qc}{g:Int->Int->Bool}
  (rule:∀ (i j:Int) (t u:Tok) (s:Qd) (Q:Qc->Qd->Prop) (E:Qc->Qd->Prop),Q (.bool (g i j)) s->wpAny (model X.prog X.w) X.A (f (.int i t) (.int j u)) Q E s):
  cv X f (iz λi j=>.bl (g i j)):=by
 intro pins s σ H x y v u Q I rx ry h;obtain⟨i,j,rfl,rfl,q⟩:=h;obtain⟨t,rfl⟩:=rx;obtain⟨t',rfl⟩:=ry;exact rule i j t t' s _ _ ⟨.bl (g i j),H,I,rfl,q⟩
def yQ(i j:Int):Prop:=0<=j/\j<=1000000/\i.natAbs < 2^64
def um(i j:Int):Prop:=(-(2^64) < i/\i < 2^64)\/(-(2^64) < j/\j < 2^64)
theorem um.ok{i j:Int}(h:um i j):IntMulOk i j:=by
 rcases h with⟨h1,h2⟩|⟨h1,h2⟩
 .exact .of_left (intBits_le_64 h1 h2)
 .exact .of_right (intBits_le_64 h1 h2)
theorem dz:cv X (binaryOp .Add) (iz λi j=>.int (i+j)):=Pf λ_ _ _ _ _ _ _ q=>add_int q
theorem nV:cv X (binaryOp .Sub) (iz λi j=>.int (i - j)):=Pf λ_ _ _ _ _ _ _ q=>sub_int q
theorem kF:cv X (binaryOp .Mult) (rI um λi j=>.int (i * j)):=vm λ_ _ _ _ _ _ _ hc q=>mul_int q hc.ok
theorem kP:cv X (binaryOp .Mod) (rI (λ_ j=>0 < j) λi j=>.int (i % j)):=vm λi j _ _ _ _ _ hc q=>by
 have h1:(0:Int) < j:=hc;exact mod_int' (by omega) (by rw[Int.fmod_eq_emod_of_nonneg i (by omega)]; exact q)
theorem S3:cv X (binaryOp .Pow) (rI yQ λi j=>.int (i^j.toNat)):=vm λ_ _ _ _ _ _ _ hc q=>pow_int_small hc.1 hc.2.1 hc.2.2 q
theorem unI{f:Qc->Sem Qc}{g:Int->Int}
  (rule:∀ (i:Int) (t:Tok) (s:Qd) (Q:Qc->Qd->Prop) (E:Qc->Qd->Prop),Q (.int (g i) s.toks) {s with toks:=s.toks+1}->wpAny (model X.prog X.w) X.A (f (.int i t)) Q E s):
  CD X f (rU λi=>.int (g i)):=by
 intro pins s σ H x v Q I rx h;obtain⟨i,rfl,q⟩:=h;obtain⟨t,rfl⟩:=rx;exact rule i t s _ _ ⟨.int (g i),H,I.tok _,⟨_,rfl⟩,q⟩
theorem rZ:CD X (unaryOp .USub) (rU λi=>.int (-i)):=unI λ_ _ _ _ _ q=>neg_int q
end
def CZ:V->V->Bool
 | .aN,.aN=>true | .aN,.int _=>true | .int _,.aN=>true | .aN,.bl _=>true | .bl _,.aN=>true | .aN,.str _=>true | .str _,.aN=>true
 | .int _,.int _=>true | .bl _,.bl _=>true | .str _,.str _=>true | .jf _,.jf _=>true
 | .int _,.str _=>true | .str _,.int _=>true | .bl _,.str _=>true | .str _,.bl _=>true
 | _,_=>false
def PX:R2:=λx y H Q=>CZ x y=true/\Q (.bl (decide (x=y))) H
def PV:R2:=λx y H Q=>CZ x y=true/\Q (.bl (!decide (x=y))) H
theorem LF{i j:Int}:decide (V.int i=V.int j)=(i==j):=by
 rw[Bool.eq_iff_iff];simp
theorem Kx{i j:Bool}:decide (V.bl i=V.bl j)=(i==j):=by
 rw[Bool.eq_iff_iff];simp
theorem Lr{i j:Str}:decide (V.str i=V.str j)=(i==j):=by
 rw[Bool.eq_iff_iff];simp
theorem Lq{i j:Array UInt8}:decide (V.jf i=V.jf j)=(i.toList==j.toList):=by
 rw[Bool.eq_iff_iff];cases i;cases j;simp
section
variable{X:Cx}{a b c:Expr}{ta tb tc:TE}{pos:Pos}
theorem cU{pins:Qa (Qg×Obj)}{σ:St}{H:Hp}{s:Qd}{Q:VK}{k k':Bool}(I:Inv X pins σ H s)(q:Q (.bl k) H)(e:k=k'):EP X pins σ Q (.bool k') s:=by
 subst e;exact⟨.bl k,H,I,rfl,q⟩
theorem dH:cv X (compareOp .Eq) PX:=by
 intro pins s σ H x y v u Q I rx ry h;obtain⟨hs,q⟩:=h;cases x with
 | aN=>
  cases rx;cases y with
  | aN=>cases ry; exact PySem.EqNone.eq_none_none (cU I q (by simp))
  | bl j=>cases ry; exact PySem.EqNone.eq_none_bool (cU I q (by simp))
  | int j=>obtain⟨t',rfl⟩:=ry; exact PySem.EqNone.eq_none_int (cU I q (by simp))
  | str j=>obtain⟨t',rfl⟩:=ry; exact PySem.EqNone.eq_none_str (cU I q (by simp))
  | _=>exact absurd (show false=true from hs) qh
 | bl i=>
  cases rx;cases y with
  | aN=>cases ry; exact PySem.EqNone.eq_bool_none (cU I q (by simp))
  | bl j=>cases ry; exact eq_bool (cU I q Kx)
  | str j=>obtain⟨t',rfl⟩:=ry; exact PySem.EqMixed.eq_bool_str (cU I q (by simp))
  | _=>exact absurd (show false=true from hs) qh
 | int i=>
  obtain⟨t,rfl⟩:=rx;cases y with
  | aN=>cases ry; exact PySem.EqNone.eq_int_none (cU I q (by simp))
  | int j=>obtain⟨t',rfl⟩:=ry; exact eq_int (cU I q LF)
  | str j=>obtain⟨t',rfl⟩:=ry; exact PySem.EqMixed.eq_int_str (cU I q (by simp))
  | _=>exact absurd (show false=true from hs) qh
 | str i=>
  obtain⟨t,rfl⟩:=rx;cases y with
  | aN=>cases ry; exact PySem.EqNone.eq_str_none (cU I q (by simp))
  | bl j=>cases ry; exact PySem.EqMixed.eq_str_bool (cU I q (by simp))
  | int j=>obtain⟨t',rfl⟩:=ry; exact PySem.EqMixed.eq_str_int (cU I q (by simp))
  | str j=>obtain⟨t',rfl⟩:=ry; exact eq_str (cU I q Lr)
  | _=>exact absurd (show false=true from hs) qh
 | jf i=>
  obtain⟨t,rfl⟩:=rx;cases y with
  | jf j=>obtain⟨t',rfl⟩:=ry; exact PySem.W.eq_bytes (cU I q Lq)
  | _=>exact absurd (show false=true from hs) qh
 | _=>cases y<;>exact absurd (show false=true from hs) qh
theorem wg:cv X (compareOp .NotEq) PV:=by
 intro pins s σ H x y v u Q I rx ry h;obtain⟨hs,q⟩:=h;cases x with
 | aN=>
  cases rx;cases y with
  | aN=>cases ry; exact PySem.EqNone.ne_none_none (cU I q (by simp))
  | bl j=>cases ry; exact PySem.EqNone.ne_none_bool (cU I q (by simp))
  | int j=>obtain⟨t',rfl⟩:=ry; exact PySem.EqNone.ne_none_int (cU I q (by simp))
  | str j=>obtain⟨t',rfl⟩:=ry; exact PySem.EqNone.ne_none_str (cU I q (by simp))
  | _=>exact absurd (show false=true from hs) qh
 | bl i=>
  cases rx;cases y with
  | aN=>cases ry; exact PySem.EqNone.ne_bool_none (cU I q (by simp))
  | bl j=>cases ry; exact ne_bool (cU I q (congrArg not Kx))
  | str j=>obtain⟨t',rfl⟩:=ry; exact PySem.EqMixed.ne_bool_str (cU I q (by simp))
  | _=>exact absurd (show false=true from hs) qh
 | int i=>
  obtain⟨t,rfl⟩:=rx;cases y with
  | aN=>cases ry; exact PySem.EqNone.ne_int_none (cU I q (by simp))
  | int j=>obtain⟨t',rfl⟩:=ry; exact ne_int (cU I q (congrArg not LF))
  | str j=>obtain⟨t',rfl⟩:=ry; exact PySem.EqMixed.ne_int_str (cU I q (by simp))
  | _=>exact absurd (show false=true from hs) qh
 | str i=>
  obtain⟨t,rfl⟩:=rx;cases y with
  | aN=>cases ry; exact PySem.EqNone.ne_str_none (cU I q (by simp))
  | bl j=>cases ry; exact PySem.EqMixed.ne_str_bool (cU I q (by simp))
  | int j=>obtain⟨t',rfl⟩:=ry; exact PySem.EqMixed.ne_str_int (cU I q (by simp))
  | str j=>obtain⟨t',rfl⟩:=ry; exact ne_str (cU I q (congrArg not Lr))
  | _=>exact absurd (show false=true from hs) qh
 | jf i=>
  obtain⟨t,rfl⟩:=rx;cases y with
  | jf j=>obtain⟨t',rfl⟩:=ry; exact PySem.W.ne_bytes (cU I q (congrArg not Lq))
  | _=>exact absurd (show false=true from hs) qh
 | _=>cases y<;>exact absurd (show false=true from hs) qh
theorem nO:cv X (compareOp .Lt) (iz λi j=>.bl (decide (i < j))):=yR λ_ _ _ _ _ _ _ q=>lt_int q
theorem JD:cv X (compareOp .LtE) (iz λi j=>.bl (decide (i<=j))):=yR λ_ _ _ _ _ _ _ q=>le_int q
theorem Ed:cv X (compareOp .Gt) (iz λi j=>.bl (decide (j < i))):=yR λ_ _ _ _ _ _ _ q=>gt_int q
theorem zAv:cv X (compareOp .GtE) (iz λi j=>.bl (decide (j<=i))):=yR λ_ _ _ _ _ _ _ q=>ge_int q
theorem Kj(b:Expr){op:CmpOp}(h:op≠.In:=by decide)(h2:op≠.NotIn:=by decide):behindInMarks op b=false:=by
 have e1:(op==CmpOp.In)=false:=by cases op<;>first|rfl|exact absurd rfl h
 have e2:(op==CmpOp.NotIn)=false:=by cases op<;>first|rfl|exact absurd rfl h2
 cases b<;>simp[behindInMarks,e1,e2]
theorem WI{op:CmpOp}{r:R2}(ho:cv X (compareOp op) r)(ha:PE X a ta)(hb:PE X b tb)(hm:behindInMarks op b=false):PE X (.Compare a [op] [b] pos) (n9 r ta tb):=by
 intro pins s σ H Q I h;exact wpAny_Compare1 (Dc ha hb I h λv u s2 x y H2 I2 rx ry q=>ho pins s2 σ H2 x y v u Q I2 rx ry q) hm
def D1(t:TE):TT:=λσ H Q=>t σ H λx H'=>∃ k,x=.bl k/\Q k H'
theorem WH{op:CmpOp}{r:R2}(ho:cv X (compareOp op) r)(ha:PE X a ta)(hb:PE X b tb)(hm:behindInMarks op b=false):PT X (.Compare a [op] [b] pos) (D1 (n9 r ta tb)):=by
 intro pins s σ H Q I h;refine wpAny_isTrue_Compare1 (aI (ha pins s σ H _ I h) λv s1 ⟨x,H1,I1,r1,q1⟩=>aI (hb pins s1 σ H1 _ I1 q1) λu s2 ⟨y,H2,I2,r2,q2⟩=>
  aI (ho pins s2 σ H2 x y v u _ I2 r1 r2 q2) λc s3 ⟨z,H3,I3,r3,k,e,q3⟩=>?_) hm
 subst e;cases r3;exact wpAny_truthy_bool ⟨H3,I3,q3⟩
def CY(K:qe)(x:V)(H:Hp)(k:Bool):Prop :=
 match x with
 | .aN=>k=false
 | .bl b=>k=b
 | .int i=>k=(i != 0)
 | .str y=>y.length<=sizeLine/\k=((y.length:Int) != 0)
 | .jf y=>y.size<=sizeLine/\k=((y.size:Int) != 0)
 | .ref p=>(∃ xs,bo K H p xs/\k=!xs.isEmpty)\/(∃ xs,bt K H p xs/\k=!xs.isEmpty)\/∃ kvs,H p=some (.dK kvs)/\k=!kvs.isEmpty
 | _=>False
theorem zmR{κ:Type}{kvs:Qa (κ×V)}{vs:Qa (κ×Qc)}(r:KV kvs vs):(!vs.isEmpty)=!kvs.isEmpty:=by
 cases r<;>rfl
theorem M9{xs:Qa V}{ah:Qa Qc}(r:zV xs ah):(!ah.toArray.isEmpty)=!xs.isEmpty:=by
 cases r<;>simp
theorem uM:(sizeLine:Nat) < 2^63:=by rw[sizeLine_eq]; decide
theorem S0:zCa X (λx H Q=>∃ k,CY X.K x H k/\Q k H):=by
 intro pins s σ H x v Q I rx h;obtain⟨k,e,q⟩:=h;have hl:=uM;have hs:sizeLine=16777216:=sizeLine_eq;cases x with
 | aN=>
  cases rx;have e':k=false:=e;subst e';exact truthy_none ⟨H,I,q⟩
 | bl b=>
  cases rx;have e':k=b:=e;subst e';exact wpAny_truthy_bool ⟨H,I,q⟩
 | int i=>
  obtain⟨t,rfl⟩:=rx;have e':k=(i != 0):=e;subst e';exact PySem.P.truthy_int ⟨H,I,q⟩
 | str y=>
  obtain⟨t,rfl⟩:=rx;obtain⟨hy,e'⟩:y.length<=sizeLine/\k=((y.length:Int) != 0):=e;subst e';exact PySem.P.truthy_str (by omega) ⟨H,I.tok _,q⟩
 | jf y=>
  obtain⟨t,rfl⟩:=rx;obtain⟨hy,e'⟩:y.size<=sizeLine/\k=((y.size:Int) != 0):=e;subst e';exact PySem.W.truthy_bytes (by omega) ⟨H,I.tok _,q⟩
 | ref p=>
  cases rx;have e':(∃ xs,bo X.K H p xs/\k=!xs.isEmpty)\/(∃ xs,bt X.K H p xs/\k=!xs.isEmpty)\/∃ kvs,H p=some (.dK kvs)/\k=!kvs.isEmpty:=e;rcases e' with⟨xs,hx,e'⟩|⟨xs,hx,e'⟩|⟨kvs,hx,e'⟩
  .subst e'
   obtain⟨ah,r,pl,hz⟩:=I.list hx;have hlen:=r.length;exact wpAny_truthy_list pl.isList (by simp only[List.size_toArray]; omega) ⟨H,I.tok _,by rw[M9 r]; exact q⟩
  .subst e'
   obtain⟨ah,r,pl,hz⟩:=I.tuple hx;have hlen:=r.length;exact truthy_tuple pl (by simp only[List.size_toArray]; omega) ⟨H,I.tok _,by rw[M9 r]; exact q⟩
  .subst e'
   obtain⟨hz,hS,vs,r,m⟩:kvs.length<=sizeLine/\(p==sysModules)=false/\∃ vs,KV kvs vs/\s.heap.DictOf (e9 X.prog X.w) p vs:=I.aD p _ hx;have hlen:kvs.length=vs.length:=Paired.length r;exact wpAny_truthy_dict hS m (by omega) ⟨H,I.tok _,by rw[zmR r]; exact q⟩
 | _=>exact(show False from e).elim
theorem YM(ha:PE X a ta)(he:∀ whole,isTrue a X.env whole=(do let v <-whole; standAt a.pos; holding [v] (truthy v))):
  PT X a (λσ H Q=>ta σ H λx H'=>∃ k,CY X.K x H' k/\Q k H'):=by
 intro pins s σ H Q I h;exact isTrue_plain (aI (ha pins s σ H _ I h) λv s1 ⟨x,H1,I1,r1,q1⟩=>S0 pins s1 σ H1 x v Q I1 r1 q1) (he _)
theorem Bv:cv X (binaryOp .Add) (λx y H Q=>∃ i j,x=.str i/\y=.str j/\i.length+j.length<=sizeLine/\Q (.str (i++j)) H):=by
 intro pins s σ H x y v u Q I rx ry h;obtain⟨i,j,rfl,rfl,hz,q⟩:=h;obtain⟨t,rfl⟩:=rx;obtain⟨t',rfl⟩:=ry;exact add_str (λt' tk=>⟨.str (i++j),H,I.tok _,⟨_,rfl⟩,q⟩) hz
theorem jr{x:V}{us:Qa Qc}(r:zV [x] us):∃ u,us=[u]/\zY x u:=by
 cases r with
 | cons r1 r2=>cases r2; exact⟨_,rfl,r1⟩
theorem D0{x y:V}{us:Qa Qc}(r:zV [x,y] us):∃ u w',us=[u,w']/\zY x u/\zY y w':=by
 cases r with
 | cons r1 r2=>
  cases r2 with
  | cons r3 r4=>cases r4; exact⟨_,_,rfl,r1,r3⟩
theorem Bi:e8 X (.builtin "abs") (λxs H Q=>∃ i,xs=[.int i]/\Q (.int (if i < 0 then -i else i)) H):=by
 intro pins s σ H xs us Q I r h;obtain⟨i,rfl,q⟩:=h;obtain⟨u,rfl,t,rfl⟩:=jr r;exact call_abs_int λu tk=>⟨.int (if i < 0 then -i else i),H,I.tok _,⟨_,rfl⟩,q⟩
theorem F7(hc:X.calm=true):e8 X (.builtin "max") (λxs H Q=>∃ i j,xs=[.int i,.int j]/\Q (.int (if j > i then j else i)) H):=by
 intro pins s σ H xs us Q I r h;obtain⟨i,j,rfl,q⟩:=h;obtain⟨u,w',rfl,⟨t,rfl⟩,⟨t',rfl⟩⟩:=D0 r;refine max_two_ints (I.ok.hd hc) λh' tk k=>⟨_,H,I.kept k,?_,q⟩
 by_cases hj:j > i
 .rw[if_pos hj,if_pos hj]; exact⟨_,rfl⟩
 .rw[if_neg hj,if_neg hj]; exact⟨_,rfl⟩
theorem F6:e8 X (.type "int") (λxs H Q=>(∃ i,xs=[.int i]/\Q (.int i) H)\/∃ k,xs=[.bl k]/\Q (.int (if k then 1 else 0)) H):=by
 intro pins s σ H xs us Q I r h;rcases h with⟨i,rfl,q⟩|⟨k,rfl,q⟩
 .obtain⟨u,rfl,t,rfl⟩:=jr r
  exact call_int_int ⟨.int i,H,I,⟨_,rfl⟩,q⟩
 .obtain⟨u,rfl,r1⟩:=jr r
  cases r1;exact call_int_bool ⟨.int (if k then 1 else 0),H,I.tok _,⟨_,rfl⟩,q⟩
end
structure iQ (h:Heap) (x dx C:Qg) (mA:Str->Qb Qc):Prop where
 obj:h.get? x=some (PySem.W.instObj C dx)
 ns:h.Ns1 dx mA
 ne:dx≠x
theorem Z5{h:Heap}{dx:Qg}{mA:Str->Qb Qc}(n:h.Ns1 dx mA):∃ od,h.get? dx=some od/\∀ name,PySem.W.lookIn name od=some (mA name):=by
 obtain⟨o,es,ep,ho,hd,hk,_,hm⟩:=n;refine⟨o,ho,λname=>?_⟩;have e:=hm name;unfold nsFind findBy at e;rw[<-Array.find?_toList]at e;unfold PySem.W.lookIn;rw[hd];dsimp only;split
 .rename_i y q
  rw[q]at e;exact congrArg some e
 .rename_i q
  rw[q]at e;have a:es.toList.any (·.refKey)=false:=by
   rw[List.any_eq_false];intro y hy;obtain⟨z,t,HW⟩:=hk y (Array.mem_toList_iff.mp hy);simp[DictEntry.refKey,HW]
  have a':¬es.toList.any (·.refKey)=true:=by rw[a]; exact qh
  rw[if_neg a'];exact congrArg some e
theorem iQ.look{h:Heap}{x dx C:Qg}{mA:Str->Qb Qc}(I:iQ h x dx C mA):∃ od,PySem.W.InstAt h x (PySem.W.instObj C dx) C (some od)/\∀ name,PySem.W.lookIn name od=some (mA name):=
 let ⟨od,ho,hl⟩:=Z5 I.ns
 ⟨od,⟨I.obj,rfl,rfl,ho⟩,hl⟩
section
variable{prog:Qe}{w:Qh}{A:Qf}{E:Qc->Qd->Prop}{s:Qd}{K:qe}{x dx C f:Qg}{mA:Str->Qb Qc}{name:Str}{v:Qc}
theorem WG{expr:Bool}{Q:Qc->Qd->Prop}(X:K.In s.heap)(I:iQ s.heap x dx C mA)(hg:PySem.W.plainGet K C name=true)(hh:PySem.W.hasDictIn K C=true)
  (ha:PySem.W.findIn K (.ref C) name=some none) (hv:mA name=some v) (HI:PySem.W.handedIn v=true) (h:Q v {s with toks:=s.toks+1}):
  wpAny (model prog w) A (getAttr (.ref x) name expr) Q E s:=by
 obtain⟨od,J,hl⟩:=I.look;exact PySem.W.get_value X J (PySem.W.plainGet_of hg).1 (PySem.W.findObj_own hh ha rfl (by rw[hl,hv])) HI h
theorem W6{ns:Qa Str}{Q:Unit->Qd->Prop}(X:K.In s.heap)(I:iQ s.heap x dx C mA)
  (hs:PySem.W.findIn K (.ref C) "__setattr__"=some (some (.builtin "object.__setattr__"))) (hp:PySem.W.plainOver K C=true) (ht:PySem.W.takerIn K C name=some none) (hh:PySem.W.hasDictIn K C=true)
  (hw:PySem.Within mA ns) (hsz:ns.length<=sizeLine)
  (h:∀ h',iQ h' x dx C (λy=>if y=name then some v else mA y)->Heap.SameBut dx s.heap h'->Q () {s with heap:=h',toks:=s.toks+2}):
  wpAny (model prog w) A (setAttr (.ref x) name v) Q E s:=by
 obtain⟨od,J,hl⟩:=I.look;refine PySem.W.set_plain X J hs (PySem.W.osa_open (s:={s with toks:=s.toks+1}) (r:=none) X J hp ht λb=>?_);obtain⟨cd,hc,vH⟩:=PySem.W.any_some hh;have hx:s.heap.get? x=some ⟨.ref C,some dx,.plain,#[]⟩:=I.obj;refine qc (qd (qc (qc (wpAny_loadPart hx (qc (PySem.W.Looks.here (s:={s with toks:=s.toks+1}) (PySem.W.looks_clsIn X hc) ?_))))));rw[vH];refine qd (a:=some dx) (qc (qd (qc ?_)));refine wpAny_nsSet1 (s:={s with toks:=s.toks+1}) I.ns λh' Cj mV=>?_;obtain⟨oD,esD,epD,hoD,hdD,hcD⟩:=Cj.count (PySem.Within.cons name v hw);refine qc (wpAny_lookBehind hoD (by rw[hdD]; exact pastItsLine_dict (qB hcD (by rw[qw]; omega))) ?_);exact qd (h _ ⟨(mV.2 _ (Ne.symm I.ne)).trans I.obj,Cj,I.ne⟩ mV)
theorem YL{R:Result->Qd->Prop}{vs:Qa Qc}{kw:Qa (Str×Qc)}(X:K.In s.heap)(hm:PySem.W.makesIn K C=true)
  (hi:PySem.W.findIn K (.ref C) "__init__"=some (some (.ref f))) (hf:PySem.W.typeIn K (.ref f)=some (.type "function"))
  (h:codeAny (model prog w) (A.under (.builtin "type.__call__" ⟨.ref C::vs,kw⟩)) (.call (.ref f) ⟨.ref (s.heap.objs.size+1)::vs,kw⟩) (PySem.W.InitBack (s.heap.objs.size+1) R)
   {s with heap:=(s.heap.push PySem.W.emptyDict).push (PySem.W.instObj C s.heap.objs.size)}):
  codeAny (model prog w) A (.call (.ref C) ⟨vs,kw⟩) R s:=by
 obtain⟨hh,g,d,t,os⟩:=s;exact PySem.W.make_core (PySem.W.makes_of X hm) (PySem.W.looks_findIn X hi) (λself=>PySem.W.bind_fn X self hf) (.inl rfl) h
end
def eY(f:Str)(v:V):Qa (Str×V)->Qa (Str×V)
 | []=>[(f,v)]
 | (g,x)::r=>if g=f then(g,v)::r else(g,x)::eY f v r
theorem NM(f g:Str)(v:V):∀ fs:Qa (Str×V),(eY f v fs).lookup g=if g=f then some v else fs.lookup g
 | []=>by
  show List.lookup g [(f,v)]=_
  by_cases h:g=f
  .have hb:(g==f)=true:=beq_iff_eq.mpr h
   simp only[List.lookup,hb,if_pos h]
  .have hb:(g==f)=false:=beq_eq_false_iff_ne.mpr h
   simp only[List.lookup,hb,if_neg h]
 | (k,x)::r=>by
  have ih:=NM f g v r;rw[show eY f v ((k,x)::r)=(if k=f then(k,v)::r else(k,x)::eY f v r) from rfl]
  by_cases hk:k=f
  .rw[if_pos hk]
   by_cases h:g=k
   .have hb:(g==k)=true:=beq_iff_eq.mpr h
    simp only[List.lookup,hb,if_pos (h.trans hk)]
   .have hb:(g==k)=false:=beq_eq_false_iff_ne.mpr h
    simp only[List.lookup,hb,if_neg (λe:g=f=>h (e.trans hk.symm))]
  .rw[if_neg hk]
   by_cases h:g=k
   .have hb:(g==k)=true:=beq_iff_eq.mpr h
    simp only[List.lookup,hb,if_neg (λe:g=f=>hk (h.symm.trans e))]
   .have hb:(g==k)=false:=beq_eq_false_iff_ne.mpr h
    simp only[List.lookup,hb];exact ih
theorem F5(f:Str)(v:V):∀ fs:Qa (Str×V),f∈(eY f v fs).map (·.1)/\∀ g,g∈fs.map (·.1)->g∈(eY f v fs).map (·.1)
 | []=>⟨by simp[eY],λg h=>by simp at h⟩
 | (k,x)::r=>by
  obtain⟨i1,i2⟩:=F5 f v r;rw[show eY f v ((k,x)::r)=(if k=f then(k,v)::r else(k,x)::eY f v r) from rfl]
  by_cases hk:k=f
  .rw[if_pos hk]
   subst hk;exact⟨by simp,λg h=>by simpa using h⟩
  .rw[if_neg hk]
   refine⟨?_,λg h=>?_⟩
   .rw[List.map_cons]
    exact qp _ i1
   .rw[List.map_cons]at h ⊢
    rcases qx.mp h with e|e
    .exact qx.mpr (.inl e)
    .exact qp _ (i2 g e)
theorem NL(f:Str)(v:V):∀ fs:Qa (Str×V),(eY f v fs).length<=fs.length+1
 | []=>by simp[eY]
 | (k,x)::r=>by
  have ih:=NL f v r;rw[show eY f v ((k,x)::r)=(if k=f then(k,v)::r else(k,x)::eY f v r) from rfl]
  by_cases hk:k=f
  .rw[if_pos hk,qw,qw]; omega
  .rw[if_neg hk,qw,qw]; omega
theorem ie.some_of{v:V}{o:Qb Qc}(r:ie (some v) o):∃ u,o=some u/\zY v u:=by
 cases o with
 | none=>exact(show False from r).elim
 | some u=>exact⟨u,rfl,r⟩
theorem Z4{v:V}{u:Qc}(r:zY v u):PySem.W.handedIn u=true:=by
 cases v with
 | aN=>cases(show u=Value.none from r); rfl
 | bl b=>cases(show u=Value.bool b from r); rfl
 | int i=>obtain⟨t,e⟩:=(show ∃ t,u=Value.int i t from r); cases e; rfl
 | str x=>obtain⟨t,e⟩:=(show ∃ t,u=Value.str x t from r); cases e; rfl
 | jf b=>obtain⟨t,e⟩:=(show ∃ t,u=Value.bytes b t from r); cases e; rfl
 | tW b=>obtain⟨t,e⟩:=(show ∃ t,u=Value.float b t from r); cases e; rfl
 | ref a=>cases(show u=Value.ref a from r); rfl
 | ty n=>cases(show u=Value.type n from r); rfl
section
variable{P:Qe}{w:Qh}{K:qe}{H H':Hp}{h h':Heap}{a C dx:Qg}{fs fs':Qa (Str×V)}
theorem Lp(aD:cI P w K H h)(e:H a=some (.ins C dx fs)):∃ mA,iQ h a dx C mA/\(∀ f,ie (fs.lookup f) (mA f))/\PySem.Within mA (fs.map (·.1))/\fs.length<=1000/\H dx=some (.own a):=by
 obtain⟨d,z,ne,ob,mA,n,r,q⟩:=(show bT P w K H h a (.ins C dx fs) from aD a _ e);exact⟨mA,⟨ob,n,ne⟩,r,q,z,d⟩
end
structure nj (K:qe) (C:Qg):Prop where
 pg:PySem.W.plainGet K C Str.empty=true
 hd:PySem.W.hasDictIn K C=true
 po:PySem.W.plainOver K C=true
 sa:PySem.W.findIn K (.ref C) "__setattr__"=some (some (.builtin "object.__setattr__"))
theorem nj.get{K:qe}{C:Qg}(c:nj K C)(f:Str):PySem.W.plainGet K C f=true:=c.pg
def hV(K:qe)(C:Qg)(f:Str):Prop:=PySem.W.findIn K (.ref C) f=some none
theorem hV.xl{K:qe}{C:Qg}{f:Str}(n:hV K C f):PySem.W.takerIn K C f=some none:=by
 unfold PySem.W.takerIn;rw[show PySem.W.findIn K (.ref C) f=some none from n];rfl
section
variable{X:Cx}{pins:Qa (Qg×Obj)}{σ:St}{H:Hp}{s:Qd}{a C dx:Qg}{fs:Qa (Str×V)}{f:Str}{v:V}{A:Qf}{E:Qc->Qd->Prop}
theorem zmS{y:V}{u:Qc}{Q:Unit->Qd->Prop}(I:Inv X pins σ H s)(e:H a=some (.ins C dx fs))(c:nj X.K C)(n:hV X.K C f)(hl:fs.length < 1000)(ry:zY y u)
  (h:∀ s',Inv X pins σ (upd H a (.ins C dx (eY f y fs))) s'->Q () s'):wpAny (model X.prog X.w) A (setAttr (.ref a) f u) Q E s:=by
 obtain⟨mA,O,r,wi,_,ho⟩:=Lp I.aD e;have hz:(fs.map (·.1)).length<=sizeLine:=by rw[List.length_map,sizeLine_eq]; omega
 refine W6 I.bZ O c.sa c.po n.xl c.hd wi hz λh' O' sb=>h _ ?_;have hd:∃ o,h'.get? dx=some o:=let ⟨o,_,_,e',_⟩:=O'.ns; ⟨o,e'⟩;refine I.write (x:=a) (e:=dx) (by rw[e]; exact True.intro) (.inr ho) (λb q hb z=>(sb.2 b hb).trans z) hd ?_;refine⟨by rw[zH O.ne]; exact ho,?_,O.ne,O'.obj,_,O'.ns,λg=>?_,λg hg=>?_⟩
 .have:=NL f y fs; omega
 .show ie ((eY f y fs).lookup g) (if g=f then some u else mA g)
  rw[NM]
  by_cases q:g=f
  .rw[if_pos q,if_pos q]; exact ry
  .rw[if_neg q,if_neg q]; exact r g
 .by_cases q:g=f
  .rw[q]; exact(F5 f y fs).1
  .refine(F5 f y fs).2 g (wi g λz=>hg ?_)
   show(if g=f then some u else mA g)=none;rw[if_neg q]; exact z
theorem Inv.made(I:Inv X pins σ H s):Inv X pins σ (upd (upd H s.heap.objs.size (.own (s.heap.objs.size+1))) (s.heap.objs.size+1) (.ins C s.heap.objs.size []))
  {s with heap:=(s.heap.push PySem.W.emptyDict).push (PySem.W.instObj C s.heap.objs.size)}:=by
 have e1:(s.heap.push PySem.W.emptyDict).get? s.heap.objs.size=some PySem.W.emptyDict:=qi s.heap rfl;have e2:((s.heap.push PySem.W.emptyDict).push (PySem.W.instObj C s.heap.objs.size)).get? (s.heap.objs.size+1)=some (PySem.W.instObj C s.heap.objs.size):=by
  have:=qi (s.heap.push PySem.W.emptyDict) (o:=PySem.W.instObj C s.heap.objs.size) rfl
  rwa[Heap.size_push]at this
 have e3:(s.heap.push PySem.W.emptyDict).Ns s.heap.objs.size (λ_=>none):=⟨PySem.W.emptyDict,#[],_,e1,rfl,(λe he=>absurd he (by simp)),λ_=>rfl⟩;have I1:=I.laid (a:=s.heap.objs.size) (o:=.own (s.heap.objs.size+1)) (h':=s.heap.push PySem.W.emptyDict) (t':=s.toks) (λb u q=>qf _ q) (qg _) ⟨_,e1⟩;refine I1.laid (a:=s.heap.objs.size+1) (o:=.ins C s.heap.objs.size []) (t':=s.toks) (λb u q=>qf _ q) (ý (þ _ _)) ?_;have ne:s.heap.objs.size≠s.heap.objs.size+1:=ql (Ü _);refine⟨by rw[zH ne,zx],È _,ne,e2,λ_=>none,(Heap.Ns1.of_empty e3).at λo q=>qf _ q,λ_=>True.intro,λy hy=>absurd rfl hy⟩
theorem W5{prog:Qe}{w:Qh}{env:Env}{e:Expr}{f:Str}{pos:Pos}{s:Qd}{Q:Qc->Qd->Prop}(hb:attributeBase e f env (eval e env)=eval e env)
  (h:wpAny (model prog w) A (eval e env) (λo aF=>wpAny (model prog w) A (getAttr o f true) Q E aF) E s):wpAny (model prog w) A (eval (.Attribute e f pos) env) Q E s :=
 Attribute_any_ h (by rw[arm_eval_Attribute,hb])
end
def yX(K:qe)(ta tv:TE)(f:Str):TS:=λD σ H=>tv σ H λy H1=>ta σ H1 λx H2=>∃ a C dx fs,x=.ref a/\H2 a=some (.ins C dx fs)/\nj K C/\hV K C f/\fs.length < 1000/\
 D.nx σ (upd H2 a (.ins C dx (eY f y fs)))
section
variable{X:Cx}{o e value:Expr}{f:Str}{pos pos' n8:Pos}{ta tv:TE}
theorem EL(ha:PE X o ta)(hv:PE X value tv)(hs:swapsWith value (some (.Attribute o f pos')) pos.line X.env=pure false):PS X (.Assign [.Attribute o f pos'] value pos) (yX X.K ta tv f):=by
 intro pins s σ H D I h;refine plainObj_wpAny_Assign_Attribute (aI (hv pins s σ H _ I h) λu s1 ⟨y,H1,I1,ry,q⟩=>aI (ha pins s1 σ H1 _ I1 q) λov s2 ⟨x,H2,I2,rx,a,C,dx,fs,ex,ea,c,n,l,q2⟩=>?_) hs;subst ex;obtain rfl:ov=Value.ref a:=rx;exact zmS I2 ea c n l ry λs3 I3=>⟨σ,_,I3,q2⟩
end
section
variable{X:Cx}{pins:Qa (Qg×Obj)}{σ:St}{H:Hp}{s:Qd}{A:Qf}{E:Qc->Qd->Prop}{Q:Qc->Qd->Prop}{c:Qc}{b:Bool}
inductive dh (K:qe) (H:Hp):V->Qc->Prop where
 | aN:dh K H .aN (.type "NoneType")
 | bl (x:Bool):dh K H (.bl x) (.type "bool")
 | int (i:Int):dh K H (.int i) (.type "int")
 | str (x:Str):dh K H (.str x) (.type "str")
 | tW (x:UInt64):dh K H (.tW x) (.type "float")
 | lst {a:Qg} {xs:Qa V} (e:H a=some (.lst xs)):dh K H (.ref a) (.type "list")
 | aS {a:Qg} {o:Obj} {xs:Qa V} (e:H a=some (.aS o (.lst xs))):dh K H (.ref a) (.type "list")
 | tup {a:Qg} {xs:Qa V} (e:aT K H a xs):dh K H (.ref a) (.type "tuple")
 | dK {a:Qg} {kvs:Qa (Key×V)} (e:H a=some (.dK kvs)):dh K H (.ref a) (.type "dict")
 | dT {a:Qg} {kvs:Qa (Qa Key×V)} (e:H a=some (.dT kvs)):dh K H (.ref a) (.type "dict")
 | ins {a C dx:Qg} {fs:Qa (Str×V)} (e:H a=some (.ins C dx fs)) (cl:nj K C) (ha:PySem.W.findIn K (.ref C) "__class__"=some (some (.builtin "object.__class__")))
   (hn:PySem.W.specialIn K (.builtin "object.__class__") "__get__"=some (some (.builtin "getset_descriptor.__get__"))) (Qo:PySem.W.takesIn K (.builtin "object.__class__")=some true)
   (hm:PySem.W.mroIn K C (.type "object")=some true):dh K H (.ref a) (.ref C)
theorem Z3{x:V}{u t:Qc}(I:Inv X pins σ H s)(rx:zY x u)(ty:dh X.K H x t)(e:PySem.W.kitOne X.K t c=some b)(h:∀ tk,Q (.bool b) {s with toks:=tk}):
  wpAny (model X.prog X.w) A (call (.builtin "isinstance") [u,c]) Q E s:=by
 cases ty with
 | aN=>cases(show u=Value.none from rx); exact Ó PySem.W.kitx_none I.bZ True.intro e (λz=>nomatch z) h
 | bl y=>cases(show u=Value.bool y from rx); exact Ó PySem.W.kitx_bool I.bZ True.intro e (λz=>nomatch z) h
 | int i=>obtain⟨t,q⟩:=(show ∃ t,u=Value.int i t from rx); cases q; exact Ó PySem.W.kitx_int I.bZ True.intro e (λz=>nomatch z) h
 | str y=>obtain⟨t,q⟩:=(show ∃ t,u=Value.str y t from rx); cases q; exact Ó PySem.W.kitx_str I.bZ True.intro e (λz=>nomatch z) h
 | tW y=>obtain⟨t,q⟩:=(show ∃ t,u=Value.float y t from rx); cases q; exact Ó PySem.W.kitx_float I.bZ True.intro e (λz=>nomatch z) h
 | @lst a xs ea=>
  cases(show u=Value.ref a from rx);obtain⟨_,_,n,_,h1⟩:=(show bT X.prog X.w X.K H s.heap a (.lst xs) from I.aD a _ ea);exact Ó PySem.W.kitx_list I.bZ ⟨_,h1,rfl⟩ e (λz=>nomatch z) h
 | @aS a ob xs ea=>
  cases(show u=Value.ref a from rx);obtain⟨_,_,_,n,_,h1⟩:=(show bT X.prog X.w X.K H s.heap a (.aS ob (.lst xs)) from I.aD a _ ea);exact Ó PySem.W.kitx_list I.bZ ⟨_,h1,rfl⟩ e (λz=>nomatch z) h
 | @tup a xs ea=>
  cases(show u=Value.ref a from rx);rcases ea with ea|⟨o,ah,n,hk,hc,_⟩
  case inr=>exact Ó PySem.W.kitx_tuple I.bZ ⟨o,I.bZ a o hk,hc⟩ e (λz=>nomatch z) h
  obtain⟨_,_,_,p⟩:=(show bT X.prog X.w X.K H s.heap a (.tup xs) from I.aD a _ ea);obtain⟨o,h1,h2,_⟩:=p;exact Ó PySem.W.kitx_tuple I.bZ ⟨o,h1,h2⟩ e (λz=>nomatch z) h
 | @dK a kvs ea=>
  cases(show u=Value.ref a from rx);obtain⟨_,_,vs,_,p⟩:=(show bT X.prog X.w X.K H s.heap a (.dK kvs) from I.aD a _ ea);obtain⟨o,es,ep,h1,h2,_⟩:=p;exact Ó PySem.W.kitx_dict I.bZ ⟨o,h1,h2.1⟩ e (λz=>nomatch z) h
 | @dT a kvs ea=>
  cases(show u=Value.ref a from rx);obtain⟨_,_,xs,_,o,es,ep,h1,h2,_⟩:=(show bT X.prog X.w X.K H s.heap a (.dT kvs) from I.aD a _ ea);exact Ó PySem.W.kitx_dict I.bZ ⟨o,h1,h2.1⟩ e (λz=>nomatch z) h
 | @ins a C dx fs ea cl ha hn Qo hm=>
  cases(show u=Value.ref a from rx);obtain⟨mA,O,_⟩:=Lp I.aD ea;obtain⟨od,J,_⟩:=O.look;exact Ó (PySem.W.kitx_own (cl.get _) cl.hd ha hn Qo hm) I.bZ J e (λz=>nomatch z) h
end
structure aK (k:Nat) (A:Qf):Prop where
 hd:A.handled=none
 dp:A.depth+3 * k+5 < recursionLimit
 un:A.units+16 * k+200 < cLine
 gd:A.guards=some []
theorem aK.mono{j k:Nat}{A:Qf}(r:aK k A)(h:j<=k):aK j A:=⟨r.hd,by have:=r.dp; omega,by have:=r.un; omega,r.gd⟩
theorem aK.deeper{k:Nat}{A:Qf}(r:aK (k+1) A)(env:Env):aK k (A.deeper env):=
 ⟨r.hd,by have:=r.dp; show A.depth+1+3 * k+5 < _; omega,by have:=r.un; show A.units+3+16 * k+200 < _; omega,r.gd⟩
theorem zmU{A:Qf}{C:Qg}{us:Qa Qc}{kw:Qa (Str×Qc)}:(A.under (.builtin "type.__call__" ⟨.ref C::us,kw⟩)).depth=A.depth+1:=by
 first|rfl|simp[Around.under,Code.weight,Code.isCreation,Code.isGuard,Code.isCaller,Code.frames,Code.isFrame,guardIds]
theorem zmV{A:Qf}{C:Qg}{us:Qa Qc}{kw:Qa (Str×Qc)}:(A.under (.builtin "type.__call__" ⟨.ref C::us,kw⟩)).units=A.units+1:=by
 first|rfl|simp[Around.under,Code.cUnits,Code.frames,Code.isFrame]
theorem aK.make{k:Nat}{A:Qf}(r:aK (k+1) A)(C:Qg)(us:Qa Qc)(kw:Qa (Str×Qc)):aK k (A.under (.builtin "type.__call__" ⟨.ref C::us,kw⟩)):=
 ⟨r.hd,by have:=r.dp; rw[zmU]; omega,by have:=r.un; rw[zmV]; omega,by have:=r.gd; first|exact this|simpa [Around.under,Code.isGuard,guardIds] using this⟩
theorem aK.depth{k:Nat}{A:Qf}(r:aK k A):A.depth < recursionLimit:=by have:=r.dp; omega
theorem aK.units{k:Nat}{A:Qf}(r:aK k A):A.units+64 < cLine:=by have:=r.un; omega
def pe:TA:=λ_ H Q=>Q [] H
def mF(ta:TE)(tr:TA):TA:=λσ H Q=>ta σ H λx H1=>tr σ H1 λxs H2=>Q (x::xs) H2
section
variable{X:Cx}{e:Expr}{es:Qa Expr}{te:TE}{t:TA}{pos:Pos}
theorem SY:PA X [] pe:=λ_ _ _ _ H Q I h=>Calls.spliced_nil ⟨[],H,I,.nil,h⟩
theorem W4(ha:PE X e te)(hr:PA X es t)(hs:starEach (e::es) X.env=(false,eval e X.env)::starEach es X.env:=by rfl):PA X (e::es) (mF te t):=by
 intro pos pins s σ H Q I h;rw[hs];show wpAny _ _ (spliced ((false,eval e X.env)::backTo pos (starEach es X.env))) _ _ s;refine Calls.spliced_cons (aI (ha pins s σ H _ I h) λu s1 ⟨x,H1,I1,r1,q1⟩=>?_);exact aI (hr pos pins s1 σ H1 _ I1 q1) λus s2 ⟨xs,H2,I2,r2,q2⟩=>⟨x::xs,H2,I2,.cons r1 r2,q2⟩
def Dv(t:TA):TE:=λσ H Q=>t σ H λxs H1=>xs.length<=sizeLine/\∀ p,H1 p=none->Q (.ref p) (upd H1 p (.tup xs))
def Du(t:TA):TE:=λσ H Q=>t σ H λxs H1=>xs.length<=sizeLine/\∀ p,H1 p=none->Q (.ref p) (upd H1 p (.lst xs))
theorem TF{x1}(h:PA X es t):PE X (.Tuple es x1 pos) (Dv t):=by
 intro pins s σ H Q I hq;refine wpAny_Tuple_spliced (aI (h pos pins s σ H _ I hq) λus s1 ⟨xs,H1,I1,r,z,q⟩=>⟨by rw[<-r.length]; exact z,?_⟩);have hf:H1 s1.heap.objs.size=none:=I1.aD.fresh (qg _);refine⟨.ref s1.heap.objs.size,upd H1 s1.heap.objs.size (.tup xs),I1.laid (t':=s1.toks) (λb u e=>qf _ e) (qg _) ?_,rfl,q _ hf⟩;exact⟨z,us,r,⟨_,qi _ rfl,rfl,⟨_,rfl⟩,.inl rfl⟩⟩
theorem TC(h:PA X es t):PE X (.List es pos) (Du t):=by
 intro pins s σ H Q I hq;refine wpAny_List_spliced (aI (h pos pins s σ H _ I hq) λus s1 ⟨xs,H1,I1,r,z,q⟩=>⟨by rw[<-r.length]; exact z,?_⟩);have hf:H1 s1.heap.objs.size=none:=I1.aD.fresh (qg _);refine⟨.ref s1.heap.objs.size,upd H1 s1.heap.objs.size (.lst xs),I1.laid (t':=s1.toks) (λb u e=>qf _ e) (qg _) ?_,rfl,q _ hf⟩;exact⟨z,us,0,r,qi _ rfl⟩
end
abbrev Sp:=Qa V->Hp->VK->XK->Prop
abbrev jj:=Qa Env->Hp->Qd->XK->Qc->Qd->Prop
structure iR (P:Qe) (w:Qh) (K:qe) (mg:Str->Qb Qc) (base:Heap) (A:Qf) (outer:Qa Env) (s:Qd) (H:Hp):Prop where
 frames:A.frames=some outer
 mod:Mod K mg base
 bs:∀ b o,base.get? b=some o->s.heap.get? b=some o/\H b=none
 ni:base.objs.size<=s.heap.objs.size
 dM:s.heap.FunFrames base outer
 qZ:∀ b∈jP outer,H b=none
 aD:cI P w K H s.heap
 bare:AllBare s.gens
def CE(outer:Qa Env)(P:Qe)(w:Qh)(K:qe)(H:Hp)(s:Qd)(Q:VK)(u:Qc)(s':Qd):Prop :=
 ∃ v H',s'.os=s.os/\AllBare s'.gens/\Un (jP outer) [] H H' s.heap s'.heap/\cI P w K H' s'.heap/\zY v u/\Q v H'
def CR(CX:jj)(outer:Qa Env)(P:Qe)(w:Qh)(K:qe)(H:Hp)(s:Qd)(Q:VK)(E:XK)(r:Result)(s':Qd):Prop :=
 match r with
 | .ok (.ret u)=>CE outer P w K H s Q u s'
 | .ok _=>False
 | .error e=>CX outer H s E e s'
structure cD (P:Qe) (w:Qh) (K:qe) (mg:Str->Qb Qc) (base:Heap) (CX:jj) (k:Nat) (f:Qg) (fd:FuncData) (ps:Qa Str) (sp:Sp):Prop where
 len:∀ vs H Q E,sp vs H Q E->vs.length=ps.length
 run:∀ (A:Qf) (outer:Qa Env) (s:Qd) (H:Hp) (args:Args) (us:Qa Qc) (vs:Qa V) (Q:VK) (E:XK),aK k A->iR P w K mg base A outer s H->BindsTo s fd args (ps.zip us)->zV vs us->sp vs H Q E->
  codeAny (model P w) A (.call (.ref f) args) (CR CX outer P w K H s Q E) s
theorem iR.make{P:Qe}{w:Qh}{K:qe}{mg:Str->Qb Qc}{base:Heap}{A:Qf}{outer:Qa Env}{s:Qd}{H:Hp}(e:iR P w K mg base A outer s H)(C:Qg)(us:Qa Qc)(kw:Qa (Str×Qc)):
  iR P w K mg base (A.under (.builtin "type.__call__" ⟨.ref C::us,kw⟩)) outer s H:=⟨by first|exact e.frames | (simpa [Around.under,Code.envs,Code.isFrame,pushEnvs] using e.frames),e.mod,e.bs,e.ni,e.dM,e.qZ,e.aD,e.bare⟩
section
variable{X:Cx}{pins:Qa (Qg×Obj)}{σ:St}{H:Hp}{s s':Qd}
theorem Inv.yn(I:Inv X pins σ H s):iR X.prog X.w X.K X.mg X.base X.A X.stack s H :=
 ⟨I.ok.frames,I.ok.mod,I.bs,qB I.ok.ni I.sz,I.stack,I.i3,I.aD,I.bare⟩
theorem Inv.after{Q:VK}{u:Qc}(I:Inv X pins σ H s)(h:CE X.stack X.prog X.w X.K H s Q u s'):EP X pins σ Q u s':=by
 obtain⟨v,H',os,bare,un,aD,r,q⟩:=h;obtain⟨hh,g,d,t,mQ⟩:=s';obtain rfl:mQ=s.os:=os;exact⟨v,H',I.call (h':=hh) (g':=g) (d':=d) (t':=t) (ch:=[]) un aD bare (λb z=>absurd z (by simp)),r,q⟩
end
def zAw(sp:Sp)(dvs:Qa V)(E:XK)(t:TA):TE:=λσ H Q=>t σ H λvs H1=>sp (vs++dvs) H1 Q E
def JC(C:Qg)(sp:Sp)(dvs:Qa V)(E:XK)(t:TA):TE:=λσ H Q=>t σ H λvs H1=>∀ x dx,H1 x=none->H1 dx=none->dx≠x->
 sp (.ref x::(vs++dvs)) (upd (upd H1 dx (.own x)) x (.ins C dx [])) (λv H2=>v=.aN/\Q (.ref x) H2) E
def mE(K:qe)(fd:FuncData)(ps:Qa Str)(ds:Qa Qc):Prop :=
 ∀ (s:Qd) (us:Qa Qc),K.In s.heap->(us++ds).length=ps.length->BindsTo s fd ⟨us,[]⟩ (ps.zip (us++ds))
theorem mE.all{K:qe}{fd:FuncData}{ps:Qa Str}(h:∀ us:Qa Qc,us.length=ps.length->bindArgs fd ⟨us,[]⟩=pure (ps.zip us)):mE K fd ps []:=λs us _ hl=>by
 rw[List.append_nil]at hl ⊢;exact .of_eq (h us hl)
def wy(CX:jj)(X:Cx)(E:XK):Prop:=∀ (pins:Qa (Qg×Obj)) (σ:St) (H:Hp) (s:Qd) (e:Qc) (s':Qd),Inv X pins σ H s->CX X.stack H s E e s'->X.xe e s'
section
variable{X:Cx}{CX:jj}{k:Nat}{f C:Qg}{fd:FuncData}{ps:Qa Str}{sp:Sp}{dvs:Qa V}{ds:Qa Qc}{E:XK}{x m:Str}{p pos apos:Pos}{e o:Expr}{es:Qa Expr}{ta:TE}{t:TA}
theorem TB{pins:Qa (Qg×Obj)}{σ:St}{H:Hp}{s:Qd}{Q:VK}{us:Qa Qc}{vs:Qa V}(F:cD X.prog X.w X.K X.mg X.base CX k f fd ps sp)(hr:aK k X.A)(hb:mE X.K fd ps ds)(hd:zV dvs ds)(hx:wy CX X E)
  (I:Inv X pins σ H s) (r:zV vs us) (h:sp (vs++dvs) H Q E):wpAny (model X.prog X.w) X.A (call (.ref f) us) (EP X pins σ Q) X.xe s:=by
 have r2:zV (vs++dvs) (us++ds):=r.append hd;have hl:(us++ds).length=ps.length:=by rw[<-r2.length]; exact F.len _ _ _ _ h
 refine wpAny_call (codeAny_mono (F.run X.A X.stack s H ⟨us,[]⟩ (us++ds) (vs++dvs) Q E hr I.yn (hb s us I.bZ hl) r2 h) λr s' hq=>?_);cases r with
 | error e=>exact hx pins σ H s e s' I hq
 | ok fl=>
  cases fl with
  | ret u=>exact I.after hq
  | next=>exact False.elim hq
  | brk=>exact False.elim hq
  | cont=>exact False.elim hq
theorem W3(F:cD X.prog X.w X.K X.mg X.base CX k f fd ps sp)(hr:aK k X.A)(hg:Gl X x)(hm:X.mg x=some (.ref f))(hk:PySem.W.keepIn X.K (.ref f)=true)(hb:mE X.K fd ps ds)(hd:zV dvs ds)(hx:wy CX X E)
  (ha:PA X (e::es) t) (fQ:(x==("__debug__":Str))=false:=by decide) (he:starEach (e::es) X.env=(false,eval e X.env)::starEach es X.env:=by rfl) (eQ:(backTo pos (starEach es X.env)).any (·.1)=false:=by rfl):
  PE X (.Call (.Name x p) (e::es) [] pos) (zAw sp dvs E t):=by
 intro pins s σ H Q I h;refine wpAny_Call_Name_kw (E9 I hg hm ?_ fQ);refine PySem.W.callWith_K (h₀:=X.base) I.ok.mod.jK hk (aI (ha pos pins s σ H _ I h) λus s1 ⟨vs,H1,I1,r,q⟩=>⟨I1.bZ,?_⟩) he eQ;exact TB F hr hb hd hx I1 r q
structure Mk (K:qe) (C f:Qg):Prop where
 makes:PySem.W.makesIn K C=true
 init:PySem.W.findIn K (.ref C) "__init__"=some (some (.ref f))
 fn:PySem.W.isFn K (.ref f)=true
 kp:PySem.W.keepIn K (.ref C)=true
theorem YK{pins:Qa (Qg×Obj)}{σ:St}{H:Hp}{s:Qd}{Q:VK}{us:Qa Qc}{vs:Qa V}(M:Mk X.K C f)(F:cD X.prog X.w X.K X.mg X.base CX k f fd ps sp)(hr:aK (k+1) X.A)(hb:mE X.K fd ps ds)(hd:zV dvs ds)
  (hx:wy CX X E) (I:Inv X pins σ H s) (r:zV vs us)
  (h:∀ x dx,H x=none->H dx=none->dx≠x->sp (.ref x::(vs++dvs)) (upd (upd H dx (.own x)) x (.ins C dx [])) (λv H2=>v=.aN/\Q (.ref x) H2) E):
  wpAny (model X.prog X.w) X.A (call (.ref C) us) (EP X pins σ Q) X.xe s:=by
 have hq:=h (s.heap.objs.size+1) s.heap.objs.size (I.aD.fresh (ñ _)) (I.aD.fresh (qg _)) (ql (Ü _));have I2:=Inv.made (C:=C) I;have r2:zV (V.ref (s.heap.objs.size+1)::(vs++dvs)) (Value.ref (s.heap.objs.size+1)::(us++ds)):=.cons rfl (r.append hd);have hl:(Value.ref (s.heap.objs.size+1)::us++ds).length=ps.length:=by
  have e:=r2.length;rw[F.len _ _ _ _ hq]at e;exact e.symm
 refine wpAny_call (YL (f:=f) I.bZ M.makes M.init (beq_iff_eq.mp M.fn) (codeAny_mono (F.run _ X.stack _ _ ⟨Value.ref (s.heap.objs.size+1)::us,[]⟩ (Value.ref (s.heap.objs.size+1)::(us++ds)) _ _ E (hr.make C us [])
  (I2.yn.make C us []) (hb _ (Value.ref (s.heap.objs.size+1)::us) I2.bZ hl) r2 hq) λr s' tH=>?_))
 cases r with
 | error e=>exact hx pins σ _ _ e s' I2 tH
 | ok fl=>
  cases fl with
  | ret u=>
   obtain⟨v,H',I3,rv,ev,q3⟩:=I2.after tH;subst ev;exact⟨rv,⟨V.ref (s.heap.objs.size+1),H',I3,rfl,q3⟩⟩
  | next=>exact False.elim tH
  | brk=>exact False.elim tH
  | cont=>exact False.elim tH
theorem W2(M:Mk X.K C f)(F:cD X.prog X.w X.K X.mg X.base CX k f fd ps sp)(hr:aK (k+1) X.A)(hg:Gl X x)(hm:X.mg x=some (.ref C))(hb:mE X.K fd ps ds)(hd:zV dvs ds)(hx:wy CX X E)
  (ha:PA X (e::es) t) (fQ:(x==("__debug__":Str))=false:=by decide) (he:starEach (e::es) X.env=(false,eval e X.env)::starEach es X.env:=by rfl) (eQ:(backTo pos (starEach es X.env)).any (·.1)=false:=by rfl):
  PE X (.Call (.Name x p) (e::es) [] pos) (JC C sp dvs E t):=by
 intro pins s σ H Q I h;refine wpAny_Call_Name_kw (E9 I hg hm ?_ fQ);refine PySem.W.callWith_K (h₀:=X.base) I.ok.mod.jK M.kp (aI (ha pos pins s σ H _ I h) λus s1 ⟨vs,H1,I1,r,q⟩=>⟨I1.bZ,?_⟩) he eQ;exact YK M F hr hb hd hx I1 r q
end
section
variable{X:Cx}{CX:jj}{k:Nat}{f C:Qg}{fd:FuncData}{ps ks:Qa Str}{sp:Sp}{E:XK}{x m:Str}{p pos apos kpos:Pos}{e o:Expr}{es:Qa Expr}{kws:Qa Keyword}{te ta:TE}{t tk:TA}{nm:Qb Str}
variable{g:Qa Qc->Qa Qc->Qa Qc}{gV:Qa V->Qa V->Qa V}
end
structure bH (N P:Qa Str) (sc:Scope):Prop where
 kind:sc.kind=.function
 co:sc.isCoroutine=false
 gen:sc.isGenerator=false
 nd:N.Nodup
 pre:N.take P.length=P
 par:∀ x∈P,sc.names.lookup x=some .local\/sc.names.lookup x=some .cell
 tw:∀ y∈sc.names,y.2≠.free
theorem Mx{kindOf:Str->Qb NameKind}{x:Str}:∀ {binds:Qa (Str×Qc)} {m:Str->Qb Qc},(∀ v,(x,v)∉binds)->bindL kindOf binds m x=m x
 | [],_,_=>rfl
 | (n,v)::r,m,h=>by
  unfold bindL;rw[Mx λw hw=>h w (qp _ hw)];split
  .have:x≠n:=by rintro rfl; exact h v qq
   simp[this]
  .rfl
theorem MQ{kindOf:Str->Qb NameKind}{x:Str}:∀ {binds:Qa (Str×Qc)} {m:Str->Qb Qc},(∀ v,(x,v)∉binds)->bindC kindOf binds m x=m x
 | [],_,_=>rfl
 | (n,v)::r,m,h=>by
  unfold bindC;rw[MQ λw hw=>h w (qp _ hw)];split
  .rfl
  .have:x≠n:=by rintro rfl; exact h v qq
   simp[this]
theorem MP{kindOf:Str->Qb NameKind}{x:Str}{v:Qc}:∀ {P:Qa Str} {vs:Qa Qc} {i:Nat} {m:Str->Qb Qc},P.Nodup->P[i]?=some x->vs[i]?=some v->kindOf x=some .local->
  bindL kindOf (P.zip vs) m x=some v
 | [],_,_,_,_,h,_,_=>by simp at h
 | _::_,[],_,_,_,_,h,_=>by simp at h
 | p::P,w::vs,0,m,nd,h1,h2,hk=>by
  simp at h1 h2; subst h1; subst h2;show bindL kindOf ((p,w)::P.zip vs) m p=_;unfold bindL;rw[Mx λv hv=>(List.nodup_cons.mp nd).1 (List.of_mem_zip hv).1,if_pos hk];simp
 | p::P,w::vs,i+1,m,nd,h1,h2,hk=>by
  show bindL kindOf ((p,w)::P.zip vs) m x=_;unfold bindL;exact MP (i:=i) (ð.mp nd).2 (by simpa using h1) (by simpa using h2) hk
theorem MN{kindOf:Str->Qb NameKind}{x:Str}{v:Qc}:∀ {P:Qa Str} {vs:Qa Qc} {i:Nat} {m:Str->Qb Qc},P.Nodup->P[i]?=some x->vs[i]?=some v->kindOf x≠some .local->
  bindC kindOf (P.zip vs) m x=some v
 | [],_,_,_,_,h,_,_=>by simp at h
 | _::_,[],_,_,_,_,h,_=>by simp at h
 | p::P,w::vs,0,m,nd,h1,h2,hk=>by
  simp at h1 h2; subst h1; subst h2;show bindC kindOf ((p,w)::P.zip vs) m p=_;unfold bindC;rw[MQ λv hv=>(List.nodup_cons.mp nd).1 (List.of_mem_zip hv).1,if_neg hk];simp
 | p::P,w::vs,i+1,m,nd,h1,h2,hk=>by
  show bindC kindOf ((p,w)::P.zip vs) m x=_;unfold bindC;exact MN (i:=i) (ð.mp nd).2 (by simpa using h1) (by simpa using h2) hk
def gI(N:Qa Str)(vs:Qa V):St:=vs.map some++List.replicate (N.length - vs.length) none
def nB(CX:jj)(P:Qe)(w:Qh)(K:qe)(mg:Str->Qb Qc)(base:Heap)(N:Qa Str)(qual:Str)(scope:Scope)(f:Qg)(cd:Qc)(A:Qf)(outer:Qa Env)(s:Qd)(H:Hp)(E:XK):Cx where
 prog:=P
 w:=w
 K:=K
 mg:=mg
 base:=base
 A:=A.deeper (envOfC qual scope s.heap.objs.size f cd)
 N:=N
 be:=s
 aA:=H
 env:=envOfC qual scope s.heap.objs.size f cd
 outer:=outer
 stack:=envOfC qual scope s.heap.objs.size f cd::outer
 ex:=[]
 calm:=true
 fn:=λ_=>true
 pn:=[]
 xe:=λe s'=>wpAny (model P w) (A.deeper (envOfC qual scope s.heap.objs.size f cd)) (leaving (envOfC qual scope s.heap.objs.size f cd) e) (λ_ xq=>CX outer H s E e xq) (λe' xq=>CX outer H s E e' xq) s'
theorem Mb{sc:Scope}{n:Nat}{x:Str}(h:sc.names.lookup x=some .cell):∃ c,(cellsFrom n sc.names []).lookup x=some c:=by
 have q:=PySem.W.cellsFrom_some sc.names n [] (.inl h);exact Option.isSome_iff_exists.mp q
theorem Z2{CX:jj}{P:Qe}{w:Qh}{K:qe}{mg:Str->Qb Qc}{base:Heap}{N ps:Qa Str}{qual:Str}{scope:Scope}{f:Qg}{cd:Qc}{A:Qf}{outer:Qa Env}{s s1:Qd}{H:Hp}{E:XK}{us:Qa Qc}{vs:Qa V}
  (S:bH N ps scope) (hd:A.handled=none) (e0:iR P w K mg base A outer s H) (hl:vs.length=ps.length) (r:zV vs us)
  (x:InCallC s s.heap.objs.size (bindL (envOfC qual scope s.heap.objs.size f cd).kindOf (ps.zip us) λ_=>none) (cellsFrom (s.heap.objs.size+1) scope.names []) (bindC (envOfC qual scope s.heap.objs.size f cd).kindOf (ps.zip us) λ_=>none) s1):
  Inv (nB CX P w K mg base N qual scope f cd A outer s H E) [] (gI N vs) H s1:=by
 have eQ:ps.length<=N.length:=by have:=congrArg List.length S.pre; rw[List.length_take]at this; omega
 obtain⟨h1,tk,rfl,hk⟩:=x.done;have xD:∀ b:Qg,b∉(nB CX P w K mg base N qual scope f cd A outer s H E).ex:=λb z=>absurd (show b∈([]:Qa Qg) from z) (by simp);refine⟨⟨e0.mod,S.kind,rfl,rfl,qg _,λy z c h1 h2=>?_,λy hy=>?_,λy c _ h=>?_,λ_=>hd,Around.frames_deeper e0.frames,.inr ⟨rfl,rfl⟩,λb z=>absurd z (xD b),e0.bs,e0.ni,λb _ _=>xD b,λb z=>absurd z (xD b),e0.dM,e0.qZ⟩,
  rfl,e0.bare,Un.kept hk,⟨_,x.toInCall.ns,λi y v h1 h2 h3=>?_⟩,λy c h=>⟨_,x.cell y c h⟩,e0.aD.fresh (qg _),λy c h=>?_,λp hp=>absurd (show p∈([]:Qa (Qg×Obj)) from hp) (by simp),e0.aD.kept hk,?_⟩
 .exact name_of_addr x.apart (õ h1) (õ h2)
 .have hy:scope.names.lookup y=some .cell\/scope.names.lookup y=some .free:=hy
  rcases hy with hy|hy
  .exact Mb hy
  .exact absurd rfl (S.tw _ (õ hy))
 .exact ċ (x.above y c (õ h))
 .have hi:i < vs.length:=by
   unfold gI at h2
   by_cases hi:i < vs.length
   .exact hi
   .rw[List.getElem?_append_right (by simpa using hi)]at h2
    rw[List.getElem?_replicate]at h2;split at h2<;>cases h2
  have ha:vs[i]?=some v:=by
   unfold gI at h2;rw[List.getElem?_append_left (by simpa using hi),List.getElem?_map]at h2;cases e:vs[i]? with
   | none=>rw[e]at h2; cases h2
   | some a=>rw[e]at h2; cases h2; rfl
  obtain⟨u,hu,rv⟩:=r.get ha;have hp:ps[i]?=some y:=by
   rw[<-S.pre,List.getElem?_take_of_lt (by omega)]; exact h1
  have P4:ps.Nodup:=by rw[<-S.pre]; exact S.nd.sublist (List.take_sublist _ _)
  refine⟨u,rv,?_⟩;rcases S.par y (å hp)with k|k
  .exact .inl ⟨k,MP P4 hp hu k⟩
  .obtain⟨c,e⟩:=Mb (n:=s.heap.objs.size+1) k
   refine .inr ⟨.inl k,c,e,?_⟩;have q:=x.cell y c e;rw[MN P4 hp hu (by show scope.names.lookup y≠_; rw[k]; decide)]at q;exact q
 .exact e0.aD.fresh (ċ (x.above y c (õ h)))
 .unfold gI
  show _=N.length;rw[qv,List.length_map,List.length_replicate];omega
theorem zAx{CX:jj}{P:Qe}{w:Qh}{K:qe}{mg:Str->Qb Qc}{base:Heap}{k:Nat}{f:Qg}{name qual:Str}{params:Arguments}{body:Qa Stmt}{scope:Scope}{dV kV doc pm bE ct oc:Qc}{an od:Qb Qg}
  {lB:Array (Qb Qc)} {N ps:Qa Str} {sp:Sp} (lk:K.lookup f=some ⟨oc,od,.func (PySem.W.fnOf name qual params body scope dV kV doc pm an bE ct),lB⟩) (jN:PySem.W.codeIn K bE qual=true) (S:bH N ps scope)
  (len:∀ vs H Q E,sp vs H Q E->vs.length=ps.length)
  (cA:∀ (A:Qf) (outer:Qa Env) (s:Qd) (H:Hp) (vs:Qa V) (Q:VK) (E:XK),aK k (A.deeper (envOfC qual scope s.heap.objs.size f bE))->sp vs H Q E->
   ∃ t,eU (nB CX P w K mg base N qual scope f bE A outer s H E) body t/\t {nx:=λ_ H'=>Q .aN H',rt:=Q} (gI N vs) H):
  cD P w K mg base CX (k+1) f (PySem.W.fnOf name qual params body scope dV kV doc pm an bE ct) ps sp:=by
 refine⟨len,λA outer s H args us vs Q E hr e0 hb r mU=>?_⟩;have hl:=len _ _ _ _ mU;have KX:K.In s.heap:=e0.mod.jK.keeps λb o e=>(e0.bs b o e).1;have lim:s.heap.NoLimit:=e0.mod.nolimit.keeps λb o e=>(e0.bs b o e).1;have xU:∀ y∈ps.zip us,scope.names.lookup y.1=some .local\/(scope.names.lookup y.1=some .cell/\((cellsFrom (s.heap.objs.size+1) scope.names []).lookup y.1).isSome=true):=λ⟨n,v⟩ hy=>by
  rcases S.par n (List.of_mem_zip hy).1 with q|q
  .exact .inl q
  .exact .inr ⟨q,PySem.W.cellsFrom_some _ _ _ (.inl q)⟩
 refine codeAny_call_function hr.depth (KX _ _ lk) rfl S.co S.gen rfl (PySem.W.codeRec_of KX jN) (hb _ _ _ _ ?_);refine wpAny_newFunctionEnv_cells S.kind xU λenv he s1 x=>?_;subst he;refine⟨lim.keeps x.toInCall.keep,codeAny_func ?_⟩;obtain⟨t,ht,hq⟩:=cA A outer s H vs Q E (hr.deeper _) mU;have I:Inv (nB CX P w K mg base N qual scope f bE A outer s H E) [] (gI N vs) H s1:=Z2 S hr.hd e0 hl r x;refine wpAny_mono (ht [] s1 (gI N vs) H _ I hq) (λfl s' hs=>?_) λe s' hs=>hs;have fin:∀ {aG:St} {H':Hp} {v:V} {u:Qc},Inv (nB CX P w K mg base N qual scope f bE A outer s H E) [] aG H' s'->zY v u->Q v H'->CE outer P w K H s Q u s' :=
  λ{aG H' v u} J rv q=>⟨v,H',J.os,J.bare,J.base,J.aD,rv,q⟩
 cases fl with
 | ret u=>
  obtain⟨v,aG,H',J,rv,q⟩:=hs;exact fin J rv q
 | next=>
  obtain⟨aG,H',J,q⟩:=hs;exact fin (v:=V.aN) (u:=Value.none) J rfl q
 | brk=>
  obtain⟨_,_,_,q⟩:=hs;exact False.elim q
 | cont=>
  obtain⟨_,_,_,q⟩:=hs;exact False.elim q
section
variable{X:Cx}{x:Str}{p pos:Pos}{e:Expr}{es:Qa Expr}{t:TA}{id T:String}{r:Qa V->Hp->VK->Prop}
def mO(r:Qa V->Hp->VK->Prop)(t:TA):TE:=λσ H Q=>t σ H λvs H1=>r vs H1 Q
theorem YJ(hc:e8 X (.builtin id) r)(hg:Gl X x)(hm:X.mg x=none)(hv:bootBuiltins x=some (.builtin id))(ha:PA X (e::es) t)(hn:x ≠ "__name__":=by decide)(fQ:(x==("__debug__":Str))=false:=by decide)
  (he:starEach (e::es) X.env=(false,eval e X.env)::starEach es X.env:=by rfl) (eQ:(backTo pos (starEach es X.env)).any (·.1)=false:=by rfl):PE X (.Call (.Name x p) (e::es) [] pos) (mO r t):=by
 intro pins s σ H Q I h;refine wpAny_Call_Name_kw (pO I hg hm hv ?_ hn fQ);exact PyProof.Rows.callWith_builtin1 (aI (ha pos pins s σ H _ I h) λus s1 ⟨vs,H1,I1,r1,q1⟩=>hc pins s1 σ H1 vs us Q I1 r1 q1) he eQ
theorem Z1(hc:e8 X (.type T) r)(hg:Gl X x)(hm:X.mg x=none)(hv:bootBuiltins x=some (.type T))(ha:PA X (e::es) t)(hn:x ≠ "__name__":=by decide)(fQ:(x==("__debug__":Str))=false:=by decide)
  (he:starEach (e::es) X.env=(false,eval e X.env)::starEach es X.env:=by rfl) (eQ:(backTo pos (starEach es X.env)).any (·.1)=false:=by rfl):PE X (.Call (.Name x p) (e::es) [] pos) (mO r t):=by
 intro pins s σ H Q I h;refine wpAny_Call_Name_kw (pO I hg hm hv ?_ hn fQ);exact Û (aI (ha pos pins s σ H _ I h) λus s1 ⟨vs,H1,I1,r1,q1⟩=>hc pins s1 σ H1 vs us Q I1 r1 q1) he eQ
end
end L2
variable{E:L2.Qc->L2.Qd->Prop}{K:L2.qe}{H:L2.Hp}{α:Type}{pins:L2.Qa (L2.Qg×Obj)}{i:Nat}{s:L2.Qd}{Q:L2.Qc->L2.Qd->Prop}{n:Nat}{w:L2.Qh}{A:L2.Qf}{pos:Pos}{js:L2.Qa Nat}{nt:Nat}{σ:L2.St}{R:Result->L2.Qd->Prop}{p:Array Nat}{prog:L2.Qe}{kvs:L2.Qa (L2.Qa L2.Key×L2.V)}{a:L2.Qg}{x:Str}{pn:L2.Qa Nat}{e:Expr}{b:Int}{H':L2.Hp}{es:Array DictEntry}{v:L2.V}{j:Nat}{te:L2.TE}{β:Type}{xs:L2.Qa L2.V}{hs:L2.Qa Int}{cl:L2.Qa (Str×L2.Qg)}{ps:L2.Qa Str}{tg:Expr}{r:L2.Qa L2.V->L2.Hp->L2.VK->Prop}{mg:Str->L2.Qb L2.Qc}{fd:FuncData}{P:L2.Qe}{ns:L2.Qa Int}{ifs elts:L2.Qa Expr}{h:Heap}{vs:L2.Qa L2.V}{ta:L2.TE}{g:L2.TG}{G:Array GenState->Array GenState->Prop}{M:Nat}{o:Expr}{st:Stmt}{T:String}{N:L2.Qa Str}{tab:L2.Qa (Str×L2.Qa Str)}{fl:L2.Qa Str}{f:Rat}{iter:Expr}{m ep:Nat}{y:Int}{B:Nat}{u:L2.Qc}{tv:L2.TE}{scope:Scope}{it:L2.Qg}{tt:L2.TT}{td:L2.TE}{apos:Pos}{tn:Nat->Heap->Prop}{RR:L2.Qc->L2.Qg->Result->L2.Qd->Prop}{dp:Nat}{sp:L2.Sp}{h':Heap}{aZ n8:Pos}{env:Env}{pos':Pos}{c:Int}{ty:L2.TE}{fp:L2.Qa L2.Qg}{wi:L2.TI}{cmp:Nat->Nat->(Bool->L2.Qd->Prop)->L2.Qd->Prop}{qual:Str}{ks:L2.Qa Int}{l:PySem.W.OpenLaw}{κ:Type}{ws:L2.Qa (κ×L2.V)}{elt:Expr}{ao:L2.St}{aA aC:L2.Hp}{as:L2.Qa α}{tk:L2.TE}{lB:Array (L2.Qb L2.Qc)}{wr:L2.Qa L2.Qg}{sl:Array (L2.Qb L2.Qc)}
namespace HT
open PySem PyProof.Rows
section
open PySem.SeqAt
open PySem.AutoSeq1 (wpAny_loadPart')
open PySem.MeetsSeq PySem.MeetsSeq2 PySem.MeetsSeq3
end
section
variable{prog:Program} {w:World} {A:Around} {E:Value->Shared->Prop} {s:Shared}
theorem oU{t b:Addr}{vs ws:List Value}{Q:Value->Shared->Prop}(ht:IsTup s.heap t vs.toArray)(hb:IsTup s.heap b ws.toArray)(hv:vs≠[])
  (h1:ws=[]->Q (.ref t) s) (h2:ws≠[]->Q (.ref s.heap.objs.size) {s with heap:=s.heap.push {cls:=.type "tuple",data:=.seq (vs++ws).toArray}})
  (hsz:vs.length+ws.length<=sizeLine):wpAny (model prog w) A (binaryOp .Add (.ref t) (.ref b)) Q E s:=by
 obtain⟨⟨cls,dd,data,sl⟩,ho,hc,n,hd⟩:=id ht;obtain⟨⟨IF,vJ,data2,vi⟩,mW,yb,n2,hd2⟩:=id hb;simp only at hc hd yb hd2;subst hc hd yb hd2;have e:vs.toArray++ws.toArray=(vs++ws).toArray:=by simp
 by_cases hw:ws=[]
 .exact concat_meets ⟨_,ho,rfl⟩ ⟨_,mW,rfl⟩ noFill_tuple_add seq_tuple_add PySem.F.slot_tuple_add PySem.F.entry_tuple_add (PySem.F.args_tuple_add_2 _ _)
   (tuple_addW1 t b vs.toArray ws.toArray n n2 dd vJ sl vi (by simpa using hv) (by simp[hw])) ⟨ho,mW,h1 hw⟩
 .refine concat_meets ⟨_,ho,rfl⟩ ⟨_,mW,rfl⟩ noFill_tuple_add seq_tuple_add PySem.F.slot_tuple_add PySem.F.entry_tuple_add (PySem.F.args_tuple_add_2 _ _)
   (tuple_addW2 t b vs.toArray ws.toArray n n2 dd vJ sl vi (by simpa using hv) (by simpa using hw) (by rw[List.size_toArray,List.size_toArray]; exact hsz)) ⟨ho,mW,?_⟩
  rw[e];exact h2 hw
def aP(n d:Nat):Option Int->Nat
 | none=>d
 | some v=>if v < 0 then(v+(n:Int)).toNat else min v.toNat n
theorem k9(n d:Nat):aP n d none=d:=rfl
theorem gf(n d k:Nat):aP n d (some (k:Int))=min k n:=by
 show(if(k:Int) < 0 then((k:Int)+(n:Int)).toNat else min (k:Int).toNat n)=min k n;rw[if_neg (by omega),Int.toNat_natCast]
theorem Tz(n d:Nat)(hd:d<=n)(o:Option Int):aP n d o<=n:=by
 cases o with
 | none=>exact hd
 | some v=>
  show(if v < 0 then(v+(n:Int)).toNat else min v.toNat n)<=n
  by_cases hv:v < 0
  .rw[if_pos hv]; omega
  .rw[if_neg hv]; exact Nat.min_le_right _ _
theorem Lo(v:Int)(n d:Nat):(if v < 0 then max (v+(n:Int)) 0 else min v (n:Int))=((aP n d (some v):Nat):Int):=by
 show(if v < 0 then max (v+(n:Int)) 0 else min v (n:Int))=(((if v < 0 then(v+(n:Int)).toNat else min v.toNat n):Nat):Int)
 by_cases hv:v < 0
 .simp only[if_pos hv]; omega
 .simp only[if_neg hv]; omega
theorem zmW(lo hi:Option Int)(n:Nat):Builtin.Slice.sliceAdjust lo hi 1 (n:Int)=(((aP n 0 lo:Nat):Int),((aP n n hi:Nat):Int)):=by
 have h1:¬((1:Int) < 0):=by omega
 unfold Builtin.Slice.sliceAdjust;simp only[h1,if_false];refine Prod.ext ?_ ?_
 .cases lo with
  | none=>rfl
  | some v=>exact Lo v n 0
 .cases hi with
  | none=>rfl
  | some v=>exact Lo v n n
theorem zmX(i j:Nat):Builtin.Slice.slicePlaces (i:Int) (j:Int) 1=j - i:=by
 unfold Builtin.Slice.slicePlaces;have h1:(1:Int) > 0:=by omega
 simp only[h1,if_true,Int.ediv_one];split<;>omega
theorem M8{v:Value}{o:Option Int}{Q:Option Int->Shared->Prop}(p:IsPart v o)(h:Q o s):wpAny (model prog w) A (Builtin.Slice.slicePartIndex v) Q E s:=by
 cases p with
 | none=>exact slicePart_none h
 | int i t=>exact slicePart_int h
theorem OD{sl:Addr}{vl vu:Value}{lo hi:Option Int}{n:Nat}{Q:Int×Int×Nat->Shared->Prop}(hs:s.heap.IsSliceOf sl vl vu .none)(pl:IsPart vl lo)(pu:IsPart vu hi)
  (h:Q (((aP n 0 lo:Nat):Int),1,aP n n hi - aP n 0 lo) s):wpAny (model prog w) A (Builtin.Slice.sliceApplied (.ref sl) (pure (n:Int))) Q E s:=by
 obtain⟨os,tJ,Cp,xZ⟩:=id hs;unfold Builtin.Slice.sliceApplied Builtin.Slice.sliceFields;refine wpAny_bind (wpAny_bind (wpAny_field tJ xZ (x:=vl) rfl (wpAny_bind (wpAny_field tJ xZ (x:=vu) rfl (wpAny_bind (wpAny_field tJ xZ (x:=.none) rfl (wpAny_pure ?_)))))));refine wpAny_bind (slicePart_none ?_);show wpAny _ _ (if((1:Int)==0)=true then _ else _) _ _ s;rw[if_neg (by decide)];refine wpAny_bind (M8 pl (wpAny_bind (M8 pu (wpAny_bind (wpAny_pure ?_)))));show wpAny _ _ (match Builtin.Slice.sliceAdjust lo hi 1 (n:Int)with | (lo,hi)=>pure (lo,(1:Int),Builtin.Slice.slicePlaces lo hi 1)) _ _ s;rw[zmW lo hi n];show wpAny _ _ (pure (((aP n 0 lo:Nat):Int),(1:Int),Builtin.Slice.slicePlaces ((aP n 0 lo:Nat):Int) ((aP n n hi:Nat):Int) 1)) _ _ s;rw[zmX];exact wpAny_pure h
theorem YI(xs:Array Value)(i k:Nat):((List.range k).filterMap λ(m:Nat)=>xs[((i:Int)+(m:Int) * 1).toNat]?).toArray=((xs.toList.drop i).take k).toArray:=by
 have e:(λ(m:Nat)=>xs[((i:Int)+(m:Int) * 1).toNat]?)=λm=>xs[i+m]?:=by
  funext m
  have:((i:Int)+(m:Int) * 1).toNat=i+m:=by omega
  rw[this]
 rw[e];have:=pick_run xs i k;rw[List.filterMap_map]at this;have e2:((λx=>xs[x]?) ∘ λx=>i+x)=λm=>xs[i+m]?:=rfl;rw[e2]at this;rw[this]
theorem de{t sl:Addr}{items:Array Value}{vl vu:Value}{lo hi:Option Int}{Q:Value->Shared->Prop}(ht:IsTup s.heap t items)(hs:s.heap.IsSliceOf sl vl vu .none)(pl:IsPart vl lo)(pu:IsPart vu hi)
  (hw:¬(aP items.size 0 lo=0/\aP items.size items.size hi=items.size))
  (h:Q (.ref s.heap.objs.size) {s with heap:=s.heap.push {cls:=.type "tuple",data:=.seq ((items.toList.drop (aP items.size 0 lo)).take (aP items.size items.size hi - aP items.size 0 lo)).toArray}})
  (hsz:items.size<=sizeLine):wpAny (model prog w) A (getItem (.ref t) (.ref sl)) Q E s:=by
 have i9:sizeOk (.seq ((items.toList.drop (aP items.size 0 lo)).take (aP items.size items.size hi - aP items.size 0 lo)).toArray):=by
  show((items.toList.drop (aP items.size 0 lo)).take (aP items.size items.size hi - aP items.size 0 lo)).toArray.size<=sizeLine;rw[List.size_toArray,List.length_take,List.length_drop,Array.length_toList];omega
 have hj:aP items.size items.size hi<=items.size:=Tz _ _ (Nat.le_refl _) hi;obtain⟨os,tJ,Cp,xZ⟩:=id hs;have Ig:s.TypeIs (.ref sl) "slice":=⟨os,tJ,Cp⟩;unfold getItem
 try with_reducible refine wpAny_holding ?_
 first|refine wpAny_bind (wpAny_pure ?_) | skip
 refine wpAny_bind (wpAny_sequenceKey ht.typeIs (by decide) ?_);refine wpAny_bind (wpAny_callSpecial?_slot (name:=Str.ofString "__getitem__") ht.typeIs PyProof.Rows.slot_tuple_getitem
  (wpAny_call_entry PyProof.Rows.slot_tuple_getitem ht.typeIs entry_tuple_getitem ?_ (args_tuple_getitem _ _)))
 show wpAny _ _ (Builtin.Tuple.tupleItemsOf (.ref t) >>= _) _ _ s;refine wpAny_bind (tupleItemsOf_ ht ?_);refine wpAny_bind (wpAny_typeOf Ig ?_);rw[if_pos (by decide)];refine wpAny_bind (OD hs pl pu ?_);have hno:¬((((aP items.size 0 lo:Nat):Int)==0 && (1:Int)==1 && (aP items.size items.size hi - aP items.size 0 lo)==items.size)=true):=by
  intro q;rw[Bool.and_eq_true,Bool.and_eq_true]at q;have q1:((aP items.size 0 lo:Nat):Int)=0:=eq_of_beq q.1.1;have q2:aP items.size items.size hi - aP items.size 0 lo=items.size:=eq_of_beq q.2;exact hw ⟨by omega,by omega⟩
 show wpAny _ _ (if(((aP items.size 0 lo:Nat):Int)==0 && (1:Int)==1 && (aP items.size items.size hi - aP items.size 0 lo)==items.size)=true then _ else _) _ _ s;rw[if_neg hno,YI]
 first
  | exact wpAny_bind (m:=Builtin.Tuple.tupleExact _) (wpAny_newObj_type (wpAny_pure ⟨_,rfl,wpAny_pure h⟩) i9)
  | exact wpAny_bind (m:=Builtin.Tuple.tupleExact _) (wpAny_newObj_type (wpAny_bind (wpAny_pure (wpAny_pure ⟨_,rfl,wpAny_pure h⟩))) i9)
  | exact wpAny_bind (wpAny_bind (m:=Builtin.Tuple.tupleExact _) (wpAny_newObj_type (wpAny_pure (wpAny_pure ⟨_,rfl,wpAny_pure h⟩)) i9))
  | exact wpAny_bind (wpAny_bind (m:=Builtin.Tuple.tupleExact _) (wpAny_newObj_type (wpAny_pure ⟨_,rfl,wpAny_pure h⟩) i9))
end
end HT
namespace L2
open PySem PySem.Spec PyProof.Rows
abbrev TO:=St->Hp->(Qb Int->Hp->Prop)->Prop
def PO(X:Cx)(e:Qb Expr)(t:TO):Prop :=
 ∀ (pins:Qa (Qg×Obj)) (s:Qd) (σ:St) (H:Hp) (Q:Qb Int->Hp->Prop),Inv X pins σ H s->t σ H Q->
  wpAny (model X.prog X.w) X.A (evalPart e X.env) (λu s'=>∃ o H',Inv X pins σ H' s'/\IsPart u o/\Q o H') X.xe s
def E8:TO:=λ_ H Q=>Q none H
def DZ(t:TE):TO:=λσ H Q=>t σ H λx H1=>∃ i,x=.int i/\Q (some i) H1
theorem M7:∀ {us:Qa Qc},zV (ns.map V.int) us->IntsAre us ns:=by
 induction ns with
 | nil=>intro us r; rw[List.map_nil]at r; cases r; exact .nil
 | cons n ns ih=>
  intro us r;rw[List.map_cons]at r;cases r with
  | cons r1 r2=>
   obtain⟨t,e⟩:=r1;subst e;exact .cons n t (ih r2)
section
variable{X:Cx}{lo hi:Qb Expr}{tl th:TO}{p2:Pos}
theorem W1:PO X none E8:=by
 intro pins s σ H Q I h;rw[evalPart_none];exact qd ⟨none,H,I,.none,h⟩
theorem W0(h:PE X e te):PO X (some e) (DZ te):=by
 intro pins s σ H Q I hw;rw[evalPart_some];refine aI (h pins s σ H _ I hw) λu s1 ⟨x,H1,I1,r1,q1⟩=>?_;obtain⟨i,rfl,q⟩:=q1;obtain⟨t,rfl⟩:=r1;exact⟨some i,H1,I1,.int i t,q⟩
def vN(X:Cx)(r:V->Qb Int->Qb Int->Hp->VK->Prop):Prop :=
 ∀ (pins:Qa (Qg×Obj)) (s:Qd) (σ:St) (H:Hp) (x:V) (v vl vu:Qc) (lo hi:Qb Int) (sl:Qg) (Q:VK),Inv X pins σ H s->zY x v->s.heap.IsSliceOf sl vl vu .none->IsPart vl lo->IsPart vu hi->r x lo hi H Q->
  ∃ T id,typeLookup (.type T) "__getitem__"=pure (some (.builtin id))/\s.TypeIs v T/\wpAny (model X.prog X.w) X.A (getItem v (.ref sl)) (EP X pins σ Q) X.xe s
def G3(r:V->Qb Int->Qb Int->Hp->VK->Prop)(te:TE)(tl th:TO):TE:=λσ H Q=>te σ H λx H1=>tl σ H1 λl H2=>th σ H2 λu H3=>r x l u H3 Q
theorem YH{r:V->Qb Int->Qb Int->Hp->VK->Prop}(hr:vN X r)(he:PE X e te)(hl:PO X lo tl)(hu:PO X hi th):PE X (.Subscript e (.Slice lo hi none p2) pos) (G3 r te tl th):=by
 intro pins s σ H Q I h;refine Subscript_ (aI (he pins s σ H _ I h) λv s1 ⟨x,H1,I1,r1,q1⟩=>?_);refine wpAny_Slice (aI (hl pins s1 σ H1 _ I1 q1) λvl s2 ⟨l,H2,I2,pl,q2⟩=>aI (hu pins s2 σ H2 _ I2 q2) λvu s3 ⟨u,H3,I3,pu,q3⟩=>?_);rw[evalPart_none];refine qd ?_;have I4:Inv X pins σ H3 {s3 with heap:=s3.heap.push {cls:=.type "slice",data:=.fields #[vl,vu,.none]}}:=I3.kept (t':=s3.toks) λb ob q=>qf _ q;obtain⟨T,id,hT,ht,hg⟩:=hr pins {s3 with heap:=s3.heap.push {cls:=.type "slice",data:=.fields #[vl,vu,.none]}} σ H3 x v vl vu l u s3.heap.objs.size Q I4 r1 (Heap.IsSliceOf.new ..) pl pu q3;show wpAny (model X.prog X.w) X.A (subscriptTail e (.Slice lo hi none p2) v (.ref s3.heap.objs.size)) (EP X pins σ Q) X.xe {s3 with heap:=s3.heap.push {cls:=.type "slice",data:=.fields #[vl,vu,.none]}};exact tail_any (ops:=[.ref s3.heap.objs.size,v]) ht hT hg (by with_unfolding_all rfl)
def jT(xs:Qa V)(lo hi:Qb Int):Qa V:=(xs.drop (HT.aP xs.length 0 lo)).take (HT.aP xs.length xs.length hi - HT.aP xs.length 0 lo)
theorem NK(xs:Qa V)(lo hi:Qb Int):(jT xs lo hi).length<=xs.length:=by
 unfold jT;rw[List.length_take,List.length_drop];omega
def zCb(K:qe):V->Qb Int->Qb Int->Hp->VK->Prop:=λx lo hi H Q=>∃ a xs,x=.ref a/\bt K H a xs/\
 ¬(HT.aP xs.length 0 lo=0/\HT.aP xs.length xs.length hi=xs.length)/\∀ p,H p=none->Q (.ref p) (upd H p (.tup (jT xs lo hi)))
theorem Tx:vN X (zCb X.K):=by
 intro pins s σ H x v vl vu lo hi sl Q I rx hs pl pu h;obtain⟨a,xs,rfl,hx,hw,q⟩:=h;cases rx;obtain⟨ah,r,ht,hz⟩:=I.tuple hx;have hlen:ah.toArray.size=xs.length:=by rw[List.size_toArray]; exact r.length.symm
 refine⟨"tuple",_,PyProof.Rows.slot_tuple_getitem.lookup,ht.typeIs,?_⟩;refine HT.de ht hs pl pu (by rw[hlen]; exact hw) ?_ (by rw[hlen]; exact hz);rw[hlen];refine⟨.ref s.heap.objs.size,_,I.laid (t':=s.toks) (o:=.tup (jT xs lo hi)) (λb ob q=>qf _ q) (qg _) ?_,rfl,q _ (I.aD.fresh (qg _))⟩;exact⟨qB (NK xs lo hi) hz,_,(r.drop (HT.aP xs.length 0 lo)).take (HT.aP xs.length xs.length hi - HT.aP xs.length 0 lo),mN.new _ _⟩
def DY(K:qe):R2:=λx y H Q=>∃ a b xs ys,x=.ref a/\y=.ref b/\bt K H a xs/\bt K H b ys/\xs≠[]/\xs.length+ys.length<=sizeLine/\
 (ys=[]->Q (.ref a) H)/\(ys≠[]->∀ p,H p=none->Q (.ref p) (upd H p (.tup (xs++ys))))
theorem zV.gr{us:Qa Qc}(r:zV xs us):us=[]↔xs=[]:=by
 cases r with
 | nil=>simp
 | cons _ _=>simp
theorem WZ:cv X (binaryOp .Add) (DY X.K):=by
 intro pins s σ H x y v u Q I rx ry h;obtain⟨a,b,xs,ys,rfl,rfl,ha,hb,hx,hz,q1,q2⟩:=h;cases rx;cases ry;obtain⟨ah,r1,p1,_⟩:=I.tuple ha;obtain⟨dJ,r2,p2,_⟩:=I.tuple hb;refine HT.oU p1 p2 (λz=>hx (r1.gr.mp z)) (λz=>⟨.ref a,H,I,rfl,q1 (r2.gr.mp z)⟩) (λz=>?_) (by rw[<-r1.length,<-r2.length]; exact hz);refine⟨.ref s.heap.objs.size,_,I.laid (t':=s.toks) (o:=.tup (xs++ys)) (λb ob q=>qf _ q) (qg _) ?_,rfl,q2 (λw=>z (r2.gr.mpr w)) _ (I.aD.fresh (qg _))⟩;exact⟨by rw[qv]; exact hz,_,r1.append r2,mN.new _ _⟩
end
def dS(n:Nat)(i:Int):Qb Nat:=if 0<=i then(if i < n then some i.toNat else none)else if -(n:Int)<=i then some (i+n).toNat else none
def bS(xs:Qa α)(i:Int):Qb α:=(dS xs.length i).bind λj=>xs[j]?
theorem Lm{i:Int}(h:dS n i=some j):seqIndex? i n=some j/\j < n/\-(n:Int)<=i/\i < n:=by
 unfold dS at h
 by_cases h0:0<=i
 .rw[if_pos h0]at h
  by_cases h1:i < n
  .rw[if_pos h1]at h
   have e:i.toNat=j:=qA h;exact⟨by rw[seqIndex_of h0 h1,e],by omega,by omega,h1⟩
  .rw[if_neg h1]at h; cases h
 .rw[if_neg h0]at h
  by_cases h1:-(n:Int)<=i
  .rw[if_pos h1]at h
   have e:(i+n).toNat=j:=qA h;exact⟨by rw[seqIndex_neg (by omega) h1,e],by omega,h1,by omega⟩
  .rw[if_neg h1]at h; cases h
theorem E7{xs:Qa α}{i:Int}{v:α}(h:bS xs i=some v):∃ j,seqIndex? i xs.length=some j/\xs[j]?=some v/\j < xs.length/\-(xs.length:Int)<=i/\i < xs.length:=by
 unfold bS at h;cases e:dS xs.length i with
 | none=>rw[e]at h; cases h
 | some j=>
  rw[e]at h;obtain⟨h1,h2,h3,h4⟩:=Lm e;exact⟨j,h1,h,h2,h3,h4⟩
theorem WY{xs:Qa α}{v:α}(h:xs[j]?=some v):bS xs (j:Int)=some v:=by
 have hj:j < xs.length:=(qm.mp h).1;have e:dS xs.length (j:Int)=some j:=by
  unfold dS;rw[if_pos (by omega),if_pos (by omega)]; simp
 unfold bS; rw[e]; exact h
def Ll(b:Expr):Prop:=∀ o i,subscripted b false o i=operate [o,i] (getItem o i)
def t5(X:Cx)(r:R2):Prop :=
 ∀ (value slice:Expr) (pins:Qa (Qg×Obj)) (s:Qd) (σ:St) (H:Hp) (x y:V) (v u:Qc) (Q:VK),Inv X pins σ H s->zY x v->zY y u->r x y H Q->
  subscripted slice false v u=operate [v,u] (getItem v u)->wpAny (model X.prog X.w) X.A (subscriptTail value slice v u) (EP X pins σ Q) X.xe s
def RD(X:Cx)(id:String)(r:V->Qa V->Hp->VK->Prop):Prop :=
 ∀ (pins:Qa (Qg×Obj)) (s:Qd) (σ:St) (H:Hp) (x:V) (xs:Qa V) (v:Qc) (us:Qa Qc) (Q:VK),Inv X pins σ H s->zY x v->zV xs us->r x xs H Q->
  wpAny (model X.prog X.w) X.A (call (.builtin id) (v::us)) (EP X pins σ Q) X.xe s
section
variable{X:Cx}{a b:Expr}{tb:TE}
theorem zAy{r:R2}(hr:t5 X r)(ha:PE X a ta)(hb:PE X b tb)(hs:Ll b):PE X (.Subscript a b pos) (n9 r ta tb):=by
 intro pins s σ H Q I h;exact Subscript_ (Dc ha hb I h λv u s2 x y H2 I2 rx ry q=>hr a b pins s2 σ H2 x y v u Q I2 rx ry q (hs _ _))
def Dt(K:qe):R2:=λx y H Q=>∃ p xs i v,x=.ref p/\y=.int i/\bo K H p xs/\bS xs i=some v/\Q v H
def Ds(K:qe):R2:=λx y H Q=>∃ p xs i v,x=.ref p/\y=.int i/\bt K H p xs/\bS xs i=some v/\Q v H
def Pe:R2:=λx y H Q=>∃ z i c,x=.str z/\y=.int i/\z.length<=sizeLine/\bS z.cps.toList i=some c/\Q (.str ⟨#[c]⟩) H
theorem VV:t5 X (Dt X.K):=by
 intro value slice pins s σ H x y v u Q I rx ry h hs;obtain⟨p,xs,i,z,rfl,rfl,hq,he,q⟩:=h;cases rx;obtain⟨t,rfl⟩:=ry;obtain⟨ah,r,pl,hz⟩:=I.list hq;obtain⟨j,h1,h2,h3,h4,h5⟩:=E7 he;obtain⟨w,ew,jC⟩:=r.get h2;have hl:=r.length;have hn:=uM;have fin:EP X pins σ Q w s:=⟨z,H,I,jC,q⟩
 by_cases h0:0<=i
 .have hj:i.toNat=j:=by
   rw[seqIndex_of h0 h5]at h1;exact qA h1
  exact item_listR pl.isList h0 (by omega) (by rw[hj]; simpa using ew) fin hs
 .have hj:(i+(ah.toArray.size:Int)).toNat=j:=by
   rw[seqIndex_neg (by omega) h4]at h1;rw[List.size_toArray,<-hl];exact qA h1
  exact subscriptTail_builtinR (x:=w) pl.isList.typeIs slot_list_getitem.lookup
   (wpAny_getItem_list_neg (Q:=λr s'=>r=w/\EP X pins σ Q r s') pl.isList (by omega) (by rw[List.size_toArray]<;>omega) (by omega) (by rw[hj]; simpa using ew) ⟨rfl,fin⟩) hs
theorem Tw:t5 X (Ds X.K):=by
 intro value slice pins s σ H x y v u Q I rx ry h hs;obtain⟨p,xs,i,z,rfl,rfl,hq,he,q⟩:=h;cases rx;obtain⟨t,rfl⟩:=ry;obtain⟨ah,r,pl,hz⟩:=I.tuple hq;obtain⟨j,h1,h2,h3,h4,h5⟩:=E7 he;obtain⟨w,ew,jC⟩:=r.get h2;have hl:=r.length;have hn:=uM;have fin:EP X pins σ Q w s:=⟨z,H,I,jC,q⟩;exact subscriptTail_builtinR (x:=w) pl.typeIs slot_tuple_getitem.lookup
  (getItem_tuple (j:=j) (Q:=λr s'=>r=w/\EP X pins σ Q r s') pl (by omega) (by omega) (by rw[List.size_toArray,<-hl]; exact h1) (by simpa using ew) ⟨rfl,fin⟩) hs
theorem EK:t5 X Pe:=by
 intro value slice pins s σ H x y v u Q I rx ry h hs;obtain⟨z,i,c,rfl,rfl,hz,he,q⟩:=h;obtain⟨t,rfl⟩:=rx;obtain⟨t',rfl⟩:=ry;obtain⟨j,h1,h2,h3,h4,h5⟩:=E7 he;have hl:z.cps.toList.length=z.length:=by simp[Str.length]
 rw[hl]at h1 h4 h5;have hn:=uM;exact tail_any (typeIs_str s z t) slot_str_getitem.lookup (getItem_str (c:=c) (by
  have e1:decide (i < -(2^63:Int))=false:=decide_eq_false (by omega);have e2:decide (i>=2^63)=false:=decide_eq_false (by omega);rw[e1,e2,Bool.or_false]) (by rw[h1]; simpa using h2) ⟨.str ⟨#[c]⟩,H,I.tok _,⟨_,rfl⟩,q⟩) hs
theorem zmZ(ah:Qa Qc)(n j:Nat)(u:Qc):Obj.mapSeq (·.setIfInBounds j u) {cls:=.type "list",data:=.seq ah.toArray n}={cls:=.type "list",data:=.seq (ah.set j u).toArray n}:=by
 simp[Obj.mapSeq]
theorem Inv.lst{p:Qg}(I:Inv X pins σ H s)(h:H p=some (.lst xs)):
  ∃ (ah:Qa Qc) (n:Nat),zV xs ah/\s.heap.get? p=some {cls:=.type "list",data:=.seq ah.toArray n}/\xs.length<=sizeLine:=by
 obtain⟨z,ah,n,r,e⟩:=I.aD p _ h;exact⟨ah,n,r,e,z⟩
theorem Inv.tD{p:Qg}{ys:Qa V}{ah its':Qa Qc}{n':Nat}{f:Obj->Obj}(I:Inv X pins σ H s)(h:H p=some (.lst xs))
  (ho:s.heap.get? p=some {cls:=.type "list",data:=.seq ah.toArray n}) (hf:f {cls:=.type "list",data:=.seq ah.toArray n}={cls:=.type "list",data:=.seq its'.toArray n'}) (r:zV ys its') (hz:ys.length<=sizeLine) (t:Nat):
  Inv X pins σ (upd H p (.lst ys)) {s with heap:=s.heap.update p f,toks:=t}:=by
 have e:(s.heap.update p f).get? p=some {cls:=.type "list",data:=.seq its'.toArray n'}:=by
  rw[Heap.get?_update_self f ho (by rw[hf]<;>rfl),hf]
 refine I.write (x:=p) (e:=p) (by rw[h]; trivial) (.inl rfl) (λb u hb q=>(Ñ _ _ (Ne.symm hb)).trans q) ⟨_,e⟩ ?_;exact⟨hz,its',n',r,e⟩
def JB:V->V->V->Hp->(Hp->Prop)->Prop:=λo i v H Q=>∃ p xs k j,o=.ref p/\i=.int k/\H p=some (.lst xs)/\dS xs.length k=some j/\Q (upd H p (.lst (xs.set j v)))
theorem FG:Dg X JB:=by
 intro pins s σ H o i v ov iv u Q I ro ri rv h;obtain⟨p,xs,k,j,rfl,rfl,hp,hj,q⟩:=h;cases ro;obtain⟨t,rfl⟩:=ri;obtain⟨ah,n,r,ho,hz⟩:=I.lst hp;obtain⟨h1,h2,h3,h4⟩:=Lm hj;have hl:=r.length;have hn:=uM;have I':Inv X pins σ (upd H p (.lst (xs.set j v))) {s with heap:=s.heap.update p (Obj.mapSeq (·.setIfInBounds j u))}:=
  I.tD hp ho (zmZ ah n j u) (r.set rv j) (by rw[List.length_set]; exact hz) s.toks
 by_cases h0:0<=k
 .have hk:k.toNat=j:=by
   rw[seqIndex_of h0 h4]at h1;exact qA h1
  exact PySem.W.ki_setAt ho h0 (by omega) (by rw[List.size_toArray,<-hl]; exact h4) (by rw[hk]; exact⟨_,I',q⟩)
 .have hk:(k+(ah.toArray.size:Int)).toNat=j:=by
   rw[seqIndex_neg (by omega) h3]at h1;rw[List.size_toArray,<-hl];exact qA h1
  exact PySem.W.ki_setBack ho (by omega) (by rw[List.size_toArray,<-hl]; exact h3) (by omega) (by rw[hk]; exact⟨_,I',q⟩)
theorem zkf(lo hi:Qb Int)(n:Nat):(sliceBounds lo hi none n).1=((HT.aP n 0 lo:Nat):Int)/\(sliceBounds lo hi none n).2.1=((HT.aP n n hi:Nat):Int)/\(sliceBounds lo hi none n).2.2=1:=by
 refine⟨?_,?_,rfl⟩
 .cases lo with
  | none=>simp[sliceBounds,HT.aP]
  | some i=>
   simp only[sliceBounds,HT.aP,Option.getD_none,show(1:Int) > 0 by decide,if_true]
   by_cases h:i < 0
   .simp only[h,if_true]<;>omega
   .simp only[h,if_false]<;>omega
 .cases hi with
  | none=>simp[sliceBounds,HT.aP]
  | some i=>
   simp only[sliceBounds,HT.aP,Option.getD_none,show(1:Int) > 0 by decide,if_true]
   by_cases h:i < 0
   .simp only[h,if_true]<;>omega
   .simp only[h,if_false]<;>omega
theorem zjg(ah:Qa Qc)(lo hi:Qb Int):slicePick ah.toArray lo hi none=((ah.drop (HT.aP ah.length 0 lo)).take (HT.aP ah.length ah.length hi - HT.aP ah.length 0 lo)).toArray:=by
 obtain⟨h1,h2,h3⟩:=zkf lo hi ah.toArray.size;unfold slicePick;rw[h1,h2,h3];simp only[sliceRange_one,pick_run,List.size_toArray]<;>rfl
def Dr(K:qe):V->Qb Int->Qb Int->Hp->VK->Prop:=λx lo hi H Q=>∃ a xs,x=.ref a/\bo K H a xs/\∀ p,H p=none->Q (.ref p) (upd H p (.lst (jT xs lo hi)))
theorem VR:vN X (Dr X.K):=by
 intro pins s σ H x v vl vu lo hi sl Q I rx hs pl pu h;obtain⟨a,xs,rfl,hx,q⟩:=h;cases rx;obtain⟨ah,r,ht,hz⟩:=I.list hx;have hlen:=r.length;refine⟨"list",_,slot_list_getitem.lookup,ht.isList.typeIs,?_⟩;refine wpAny_getItem_list_slice ht.isList hs pl pu .none (by simp) ?_ (by rw[List.size_toArray]<;>omega);rw[zjg,<-hlen];refine⟨.ref s.heap.objs.size,_,I.laid (t':=s.toks) (o:=.lst (jT xs lo hi)) (λb ob q=>qf _ q) (qg _) ?_,rfl,q _ (I.aD.fresh (qg _))⟩;exact⟨qB (NK xs lo hi) hz,_,0,(r.drop (HT.aP xs.length 0 lo)).take (HT.aP xs.length xs.length hi - HT.aP xs.length 0 lo),qi _ rfl⟩
def mD:V->Bool
 | .aN=>true
 | .bl _=>true
 | .int _=>true
 | .str _=>true
 | _=>false
def rf:V->V->Bool
 | .aN,.aN=>true
 | .bl a,.bl b=>a==b
 | .bl a,.int b=>(if a then 1 else 0)==b
 | .int a,.bl b=>a==(if b then 1 else 0)
 | .int a,.int b=>a==b
 | .str a,.str b=>a==b
 | _,_=>false
theorem Tv{y x:V}{v:Qc}(ry:zY y u)(rx:zY x v)(fy:mD y=true)(fx:mD x=true):SeqAt.EqAt A s u v (rf y x):=by
 cases y with
 | aN=>
  cases ry;cases x with
  | aN=>cases rx; exact SeqAt.EqAt.same _
  | bl b=>cases rx; exact SeqAt.EqAt.none_bool b
  | int b=>obtain⟨t,rfl⟩:=rx; exact SeqAt.EqAt.none_int b t
  | str b=>obtain⟨t,rfl⟩:=rx; exact SeqAt.EqAt.none_str b t
  | _=>exact absurd (show false=true from fx) qh
 | bl a=>
  cases ry;cases x with
  | aN=>cases rx; exact SeqAt.EqAt.bool_none a
  | bl b=>cases rx; exact SeqAt.EqAt.bool_bool a b
  | int b=>obtain⟨t,rfl⟩:=rx; exact SeqAt.EqAt.bool_int a b t
  | str b=>obtain⟨t,rfl⟩:=rx; exact SeqAt.EqAt.bool_str a b t
  | _=>exact absurd (show false=true from fx) qh
 | int a=>
  obtain⟨t',rfl⟩:=ry;cases x with
  | aN=>cases rx; exact SeqAt.EqAt.int_none a t'
  | bl b=>cases rx; exact SeqAt.EqAt.int_bool a t' b
  | int b=>obtain⟨t,rfl⟩:=rx; exact SeqAt.EqAt.int_int a t' b t
  | str b=>obtain⟨t,rfl⟩:=rx; exact SeqAt.EqAt.int_str a t' b t
  | _=>exact absurd (show false=true from fx) qh
 | str a=>
  obtain⟨t',rfl⟩:=ry;cases x with
  | aN=>cases rx; exact SeqAt.EqAt.str_none a t'
  | bl b=>cases rx; exact SeqAt.EqAt.str_bool a t' b
  | int b=>obtain⟨t,rfl⟩:=rx; exact SeqAt.EqAt.str_int a t' b t
  | str b=>obtain⟨t,rfl⟩:=rx; exact SeqAt.EqAt.str_str a t' b t
  | _=>exact absurd (show false=true from fx) qh
 | _=>exact absurd (show false=true from fy) qh
def iK(x:V)(u:Qc):Bool:=match u with
 | .none=>rf .aN x
 | .bool b=>rf (.bl b) x
 | .int i _=>rf (.int i) x
 | .str z _=>rf (.str z) x
 | _=>false
theorem Ki{x y:V}(r:zY y u)(f:mD y=true):iK x u=rf y x:=by
 cases y with
 | aN=>cases r; rfl
 | bl b=>cases r; rfl
 | int i=>obtain⟨t,rfl⟩:=r; rfl
 | str z=>obtain⟨t,rfl⟩:=r; rfl
 | _=>exact absurd (show false=true from f) qh
theorem wL{x:V}:∀ {xs:Qa V} {us:Qa Qc},zV xs us->xs.all mD=true->us.any (iK x)=xs.any λy=>rf y x
 | _,_,.nil,_=>rfl
 | y::xs,u::us,.cons r t,f=>by
  rw[List.all_cons,Bool.and_eq_true]at f;rw[List.any_cons,List.any_cons,Ki r f.1,wL t f.2]
theorem wR{x:V}{v:Qc}(rx:zY x v)(fx:mD x=true):∀ {xs:Qa V} {us:Qa Qc},zV xs us->xs.all mD=true->∀ u∈us,SeqAt.EqAt A s u v (iK x u)
 | _,_,.nil,_=>λu hu=>by cases hu
 | y::xs,u::us,.cons r t,f=>λu' hu=>by
  rw[List.all_cons,Bool.and_eq_true]at f;rcases qx.mp hu with rfl|hu
  .rw[Ki r f.1]; exact Tv r rx f.1 fx
  .exact wR rx fx t f.2 u' hu
def Cd(x:V)(xs:Qa V):Bool:=xs.any λy=>rf y x
def xt(K:qe)(neg:Bool):R2:=λx y H Q=>∃ p xs,y=.ref p/\(bo K H p xs\/bt K H p xs)/\mD x=true/\xs.all mD=true/\Q (.bl (if neg then !Cd x xs else Cd x xs)) H
theorem Z0:cv X (compareOp .In) (xt X.K false):=by
 intro pins s σ H x y v u Q I rx ry h;obtain⟨p,xs,rfl,hq,fx,fs,q⟩:=h;cases ry;rcases hq with hq|hq
 .obtain⟨ah,r,pl,hz⟩:=I.list hq
  refine SeqAt.in_listAt (iK x) pl.isList (λw hw=>wR rx fx r fs w (by simpa using hw)) ⟨.bl _,H,I,rfl,?_⟩;rw[show ah.toArray.any (iK x)=ah.any (iK x) by simp,wL r fs];exact q
 .obtain⟨ah,r,pl,hz⟩:=I.tuple hq
  refine SeqAt.in_tupleAt (iK x) pl (λw hw=>wR rx fx r fs w (by simpa using hw)) ⟨.bl _,H,I,rfl,?_⟩;rw[show ah.toArray.any (iK x)=ah.any (iK x) by simp,wL r fs];exact q
theorem zkg:cv X (compareOp .NotIn) (xt X.K true):=by
 intro pins s σ H x y v u Q I rx ry h;obtain⟨p,xs,rfl,hq,fx,fs,q⟩:=h;cases ry;rcases hq with hq|hq
 .obtain⟨ah,r,pl,hz⟩:=I.list hq
  refine SeqAt.notIn_listAt (iK x) pl.isList (λw hw=>wR rx fx r fs w (by simpa using hw)) ⟨.bl _,H,I,rfl,?_⟩;rw[show ah.toArray.any (iK x)=ah.any (iK x) by simp,wL r fs];exact q
 .obtain⟨ah,r,pl,hz⟩:=I.tuple hq
  refine SeqAt.notIn_tupleAt (iK x) pl (λw hw=>wR rx fx r fs w (by simpa using hw)) ⟨.bl _,H,I,rfl,?_⟩;rw[show ah.toArray.any (iK x)=ah.any (iK x) by simp,wL r fs];exact q
theorem zkh:e8 X (.builtin "len") (λxs H Q=>∃ p ys,xs=[.ref p]/\(bo X.K H p ys\/bt X.K H p ys)/\Q (.int ys.length) H):=by
 intro pins s σ H xs us Q I r h;obtain⟨p,ys,rfl,hq,q⟩:=h;obtain⟨u,rfl,rx⟩:=jr r;cases rx;have hn:=uM;rcases hq with hq|hq
 .obtain⟨ah,r',pl,hz⟩:=I.list hq
  have hlen:=r'.length;exact Calls.call_len_list pl.isList (by simp only[List.size_toArray]<;>omega) ⟨.int ys.length,H,I.tok _,⟨s.toks+1,by rw[List.size_toArray,hlen]⟩,q⟩
 .obtain⟨ah,r',pl,hz⟩:=I.tuple hq
  have hlen:=r'.length;exact len_tuple pl (by simp only[List.size_toArray]<;>omega) ⟨.int ys.length,H,I.tok _,⟨s.toks+1,by rw[List.size_toArray,hlen]⟩,q⟩
theorem zki:e8 X (.type "list") (λxs H Q=>∃ p ys,xs=[.ref p]/\(bo X.K H p ys\/bt X.K H p ys)/\∀ l,H l=none->Q (.ref l) (upd H l (.lst ys))):=by
 intro pins s σ H xs us Q I r h;obtain⟨p,ys,rfl,hq,q⟩:=h;obtain⟨u,rfl,rx⟩:=jr r;cases rx;have fin:∀ (ah:Qa Qc),zV ys ah->ys.length<=sizeLine->∀ (h':Heap) (c':Nat),(∀ b o',s.heap.get? b=some o'->h'.get? b=some o')->
   h'.get? s.heap.objs.size=some {cls:=.type "list",dict:=none,data:=.seq ah.toArray c',slots:=#[]}->EP X pins σ Q (.ref s.heap.objs.size) {s with heap:=h'}:=λah r' hz h' c' kp e=>
  ⟨.ref s.heap.objs.size,_,I.laid (t':=s.toks) kp (qg _) (show bT X.prog X.w X.K _ h' _ (.lst ys) from⟨hz,ah,c',r',e⟩),rfl,q _ (I.aD.fresh (qg _))⟩
 rcases hq with hq|hq
 .obtain⟨ah,r',pl,hz⟩:=I.list hq
  have hlen:=r'.length;obtain⟨o,ho,hc,n,hd⟩:=pl.isList;exact call_list_seq p (.inl rfl) ho hc hd (λh' c' kp e=>fin ah r' hz h' c' kp e) (by simp only[List.size_toArray]<;>omega)
 .obtain⟨ah,r',pl,hz⟩:=I.tuple hq
  have hlen:=r'.length;obtain⟨o,ho,hc,n,hd⟩:=pl;exact call_list_seq p (.inr rfl) ho hc hd (λh' c' kp e=>fin ah r' hz h' c' kp e) (by simp only[List.size_toArray]<;>omega)
theorem zjh:e8 X (.type "tuple") (λxs H Q=>∃ p ys,xs=[.ref p]/\((bo X.K H p ys/\∀ l,H l=none->Q (.ref l) (upd H l (.tup ys)))\/(bt X.K H p ys/\Q (.ref p) H))):=by
 intro pins s σ H xs us Q I r h;obtain⟨p,ys,rfl,h⟩:=h;obtain⟨u,rfl,rx⟩:=jr r;cases rx;rcases h with⟨hq,q⟩|⟨hq,q⟩
 .obtain⟨ah,r',pl,hz⟩:=I.list hq
  have hlen:=r'.length;refine call_tuple_list pl.isList (λh' kp=>?_) (by simp only[List.size_toArray]<;>omega);have I1:Inv X pins σ H {s with heap:=h'}:=I.kept (t':=s.toks) kp;have I2:Inv X pins σ (upd H h'.objs.size (.tup ys)) {s with heap:=h'.push {cls:=.type "tuple",data:=.seq ah.toArray}}:=
   I1.laid (t':=s.toks) (λb o e=>qf _ e) (qg _) (show bT X.prog X.w X.K _ _ _ (.tup ys) from⟨hz,ah,r',mN.new _ _⟩)
  exact⟨.ref h'.objs.size,_,I2,rfl,q _ (I1.aD.fresh (qg _))⟩
 .obtain⟨ah,r',pl,hz⟩:=I.tuple hq
  exact call_tuple_same pl ⟨.ref p,H,I,rfl,q⟩
def xh(K:qe)(T:String)(x:V)(H:Hp):Prop:=match x with
 | .str _=>T = "str"
 | .int _=>T = "int"
 | .ref p=>(T = "list"/\∃ xs,bo K H p xs)\/(T = "tuple"/\∃ o,K.lookup p=some o/\o.cls=.type "tuple"/\o.dict=none)\/
   (T = "dict"/\((∃ kvs,H p=some (.dK kvs))\/∃ kvs,H p=some (.dT kvs)))\/(T = "set"/\∃ S n,H p=some (.set S n))
 | _=>False
theorem Kh{x:V}{v:Qc}(I:Inv X pins σ H s)(r:zY x v)(ty:xh X.K T x H):
  s.TypeIs v T/\∀ a,v=.ref a->∃ ob,s.heap.get? a=some ob/\ob.dict=none:=by
 cases x with
 | str z=>
  obtain⟨t,rfl⟩:=r;cases(show T = "str" from ty);exact⟨typeIs_str s z t,λ_ e=>nomatch e⟩
 | int i=>
  obtain⟨t,rfl⟩:=r;cases(show T = "int" from ty);exact⟨typeIs_int s i t,λ_ e=>nomatch e⟩
 | ref p=>
  cases r;rcases ty with⟨rfl,xs,hq⟩|⟨rfl,o,hk,hc,hd⟩|⟨rfl,hk⟩|⟨rfl,S,n,hk⟩
  .obtain⟨ah,_,pl,_⟩:=I.list hq
   refine⟨pl.isList.typeIs,λa e=>?_⟩;cases e;obtain⟨o,n,e,c,hd,_⟩:=pl;exact⟨o,e,hd⟩
  .refine⟨⟨o,I.bZ p o hk,hc⟩,λa e=>?_⟩
   cases e;exact⟨o,I.bZ _ o hk,hd⟩
  .have z:∃ o,s.heap.get? p=some o/\o.ExactDict:=by
    rcases hk with⟨kvs,hk⟩|⟨kvs,hk⟩
    .obtain⟨_,_,_,_,o,_,_,e,ex,_⟩:=I.aD p _ hk
     exact⟨o,e,ex⟩
    .obtain⟨_,_,_,_,o,_,_,e,ex,_⟩:=I.aD p _ hk
     exact⟨o,e,ex⟩
   obtain⟨o,e,ex⟩:=z;refine⟨⟨o,e,ex.1⟩,λa e2=>?_⟩;cases e2;exact⟨o,e,ex.2.1⟩
  .obtain⟨o,_,_,_,e,ex,_⟩:=I.aD p _ hk
   refine⟨⟨o,e,ex.1⟩,λa e2=>?_⟩;cases e2;exact⟨o,e,ex.2.1⟩
 | _=>exact False.elim ty
def Dq(K:qe)(T:String)(r:V->Qa V->Hp->VK->Prop)(to:TE):TE:=λσ H Q=>to σ H λx H1=>xh K T x H1/\r x [] H1 Q
def BY(K:qe)(T:String)(r:V->Qa V->Hp->VK->Prop)(to:TE)(t:TA):TE:=λσ H Q=>to σ H λx H1=>xh K T x H1/\t σ H1 λxs H2=>r x xs H2 Q
variable{es:Qa Expr}{to:TE}{t:TA}{name:Str}{id:String}{r:V->Qa V->Hp->VK->Prop}
theorem Tu(pa:PlainAttrs T)(slot:Slot T name id)(oH:typeOf (.builtin id)=pure (.type "method_descriptor"))(hm:RD X id r)(ho:PE X o to)
  (cB:attributeBase o name X.env (eval o X.env)=eval o X.env:=by rfl) (cz:(apos.endLine==aZ.line)=true:=by rfl):PE X (.Call (.Attribute o name apos) [] [] aZ) (Dq X.K T r to):=by
 intro pins s σ H Q I h;refine wpAny_Call_method0_late cB cz (aI (ho pins s σ H _ I h) λv s1 ⟨x,H1,I1,r1,ty,q1⟩=>?_);obtain⟨h1,h2⟩:=Kh I1 r1 ty;exact⟨T,id,pa,slot,oH,h1,h2,í rfl (PySem.evalArgs_none (hm pins s1 σ H1 x [] v [] Q I1 r1 .nil q1))⟩
theorem zAA(pa:PlainAttrs T)(slot:Slot T name id)(oH:typeOf (.builtin id)=pure (.type "method_descriptor"))(hm:RD X id r)(ho:PE X o to)(ha:PA X (e::es) t)
  (cB:attributeBase o name X.env (eval o X.env)=eval o X.env:=by rfl)
  (tN:((backTo aZ (starEach (e::es) X.env)).all (λx=>!x.1) && (backToKw aZ (keywordEach [] X.env)).all (λx=>x.1.isSome)
   && decide ((e::es).length+([]:Qa Keyword).length+(if([]:Qa Keyword).isEmpty then 0 else 1) < 30))=true:=by rfl)
  (cz:(apos.endLine==aZ.line)=true:=by rfl) (hs:starEach (e::es) X.env=(false,eval e X.env)::starEach es X.env:=by rfl) (tI:(backTo aZ (starEach es X.env)).any (·.1)=false:=by rfl):
  PE X (.Call (.Attribute o name apos) (e::es) [] aZ) (BY X.K T r to t):=by
 intro pins s σ H Q I h;refine wpAny_Call_method_late cB tN cz rfl (aI (ho pins s σ H _ I h) λv s1 ⟨x,H1,I1,r1,ty,q1⟩=>?_);obtain⟨h1,h2⟩:=Kh I1 r1 ty;refine⟨T,id,pa,slot,oH,h1,h2,?_⟩;have hA:=ha aZ pins s1 σ H1 _ I1 q1;rw[hs]at hA ⊢;refine í (by show(false || (backTo aZ (starEach es X.env)).any (·.1))=false; rw[tI]<;>rfl) (Calls.evalArgs_plain ?_);exact aI hA λus s2 ⟨vs,H2,I2,r2,q2⟩=>hm pins s2 σ H2 x vs v us Q I2 r1 r2 q2
end
def vP(X:Cx)(id:String)(r:V->Qa V->Hp->VK->Prop):Prop :=
 ∀ (pins:Qa (Qg×Obj)) (s:Qd) (σ:St) (H:Hp) (x:V) (xs:Qa V) (v:Qc) (us:Qa Qc) (Q:VK),Inv X pins σ H s->zY x v->zV xs us->r x xs H Q->
  wpAny (model X.prog X.w) X.A (call (.builtin id) (v::us)) (EP X pins σ Q) X.xe s
theorem zV.one:∀ {x:V} {us:Qa Qc},zV [x] us->∃ u,us=[u]/\zY x u
 | _,_,.cons r .nil=>⟨_,rfl,r⟩
theorem zV.two:∀ {x y:V} {us:Qa Qc},zV [x,y] us->∃ u v,us=[u,v]/\zY x u/\zY y v
 | _,_,_,.cons r (.cons q .nil)=>⟨_,_,rfl,r,q⟩
theorem zV.rep{us:Qa Qc}(h:zV xs us):∀ k:Nat,zV (List.replicate k xs).flatten (List.replicate k us).flatten
 | 0=>.nil
 | k+1=>by
  rw[List.replicate_succ,List.replicate_succ,List.flatten_cons,List.flatten_cons];exact zV.append h (zV.rep h k)
theorem F4(ah:Qa Qc):∀ (k:Nat) (acc:Qa Qc),
  List.foldl (λx1 x2=>x1++x2) acc.toArray (List.replicate k ah.toArray)=(acc++(List.replicate k ah).flatten).toArray
 | 0,acc=>by simp
 | k+1,acc=>by
  have e:acc.toArray++ah.toArray=(acc++ah).toArray:=by simp
  have e2:(acc++ah)++(List.replicate k ah).flatten=acc++(List.replicate (k+1) ah).flatten:=by
   rw[List.replicate_succ,List.flatten_cons,List.append_assoc]
  rw[<-e2,<-F4 ah k (acc++ah),<-e,List.replicate_succ,List.foldl_cons]
section
variable{X:Cx}{l b:Qg}{ys zs:Qa V}
theorem Inv.xI{ah its':Qa Qc}{f:Array Qc->Array Qc}{t':Nat}(I:Inv X pins σ H s)(hH:H l=some (.lst xs))
  (e:s.heap.get? l=some {cls:=.type "list",data:=.seq ah.toArray n}) (hf:f ah.toArray=its'.toArray) (hv:zV ys its') (hz:ys.length<=sizeLine):
  Inv X pins σ (upd H l (.lst ys)) {s with heap:=s.heap.update l (Obj.mapSeq f),toks:=t'}:=by
 have q:=PySem.IsL.update e f;rw[hf]at q;refine I.write (x:=l) (e:=l) (by rw[hH]; exact trivial) (.inl rfl) (λb' u hb hu=>(Ñ s.heap (Obj.mapSeq f) (Ne.symm hb)).trans hu) ⟨_,q⟩ ?_;exact⟨hz,its',_,hv,q⟩
theorem Inv.xJ{ah:Qa Qc}{t':Nat}(I:Inv X pins σ H s)(hv:zV ys ah)(hz:ys.length<=sizeLine):
  Inv X pins σ (upd H s.heap.objs.size (.lst ys)) {s with heap:=s.heap.push {cls:=.type "list",data:=.seq ah.toArray},toks:=t'}:=
 I.laid (λ_ _ q=>qf _ q) (qg _) ⟨hz,ah,0,hv,qi _ rfl⟩
theorem Inv.fresh(I:Inv X pins σ H s):H s.heap.objs.size=none:=I.aD.fresh (qg _)
theorem Inv.jI(I:Inv X pins σ H s)(hH:H l=some (.lst xs)):xs.length<=sizeLine/\∃ (ah:Qa Qc) (n:Nat),zV xs ah/\xs.length=ah.length/\s.heap.get? l=some {cls:=.type "list",data:=.seq ah.toArray n}:=by
 obtain⟨z,ah,n,r,e⟩:=I.aD l _ hH;exact⟨z,ah,n,r,r.length,e⟩
theorem Ma(h:n<=sizeLine):Builtin.List.listTooLong n=false:=by
 unfold Builtin.List.listTooLong;exact decide_eq_false (by omega)
end
section
variable{X:Cx}
def Lk:V->Qa V->Hp->VK->Prop:=λx vs H Q=>∃ l xs y,x=.ref l/\vs=[y]/\H l=some (.lst xs)/\xs.length < sizeLine/\Q .aN (upd H l (.lst (xs++[y])))
theorem zS:vP X "list.append" Lk:=by
 intro pins s σ H x vs v us Q I rx rv h;obtain⟨l,xs,y,rfl,rfl,hH,hz,q⟩:=h;cases rx;obtain⟨u,rfl,ru⟩:=rv.one;obtain⟨z,ah,n,r,hl,e⟩:=I.jI hH;refine call_meets F.slot_list_append ⟨_,e,rfl⟩ F.entry_list_append (F.args_list_append_2 _ _) (PySem.list_append l ah.toArray n u (by rw[List.size_toArray]; omega)) ⟨e,?_⟩;refine⟨.aN,_,I.xI (its':=ah++[u]) hH e (by simp) (r.append (.cons ru .nil)) ?_,rfl,q⟩;rw[qv,List.length_singleton];omega
def VQ:V->Qa V->Hp->VK->Prop:=λx vs H Q=>∃ l b xs zs,x=.ref l/\vs=[.ref b]/\H l=some (.lst xs)/\H b=some (.lst zs)/\xs.length+zs.length<=sizeLine/\Q .aN (upd H l (.lst (xs++zs)))
theorem zAn:vP X "list.extend" VQ:=by
 intro pins s σ H x vs v us Q I rx rv h;obtain⟨l,b,xs,zs,rfl,rfl,hH,hB,hz,q⟩:=h;cases rx;obtain⟨u,rfl,ru⟩:=rv.one;cases ru;obtain⟨z,ah,n,r,hl,e⟩:=I.jI hH;obtain⟨z2,dJ,n2,r2,hl2,e2⟩:=I.jI hB;have hsz:ah.toArray.size+dJ.toArray.size<=sizeLine:=by rw[List.size_toArray,List.size_toArray]; omega
 have lK:¬(!ah.toArray.isEmpty && Builtin.List.listTooLong (ah.toArray.size+dJ.toArray.size))=true:=by
  rw[Ma hsz,Bool.and_false];exact qh
 refine call_meets F.slot_list_extend ⟨_,e,rfl⟩ F.entry_list_extend (F.args_list_extend_2 _ _)
  (AutoSeq1.list_extend_list_list_0 l ah.toArray n b dJ.toArray n2 lK (by rw[List.size_toArray]; omega) (by omega)) ⟨e,e2,?_⟩
 refine⟨.aN,_,I.xI (its':=ah++dJ) hH e (by simp) (r.append r2) ?_,rfl,q⟩;rw[qv];omega
def Px:R2:=λx y H Q=>∃ l b xs zs,x=.ref l/\y=.ref b/\H l=some (.lst xs)/\H b=some (.lst zs)/\xs.length+zs.length<=sizeLine/\∀ p,H p=none->Q (.ref p) (upd H p (.lst (xs++zs)))
theorem EU:cv X (binaryOp .Add) Px:=by
 intro pins s σ H x y v u Q I rx ry h;obtain⟨l,b,xs,zs,rfl,rfl,hH,hB,hz,q⟩:=h;cases rx;cases ry;obtain⟨z,ah,n,r,hl,e⟩:=I.jI hH;obtain⟨z2,dJ,n2,r2,hl2,e2⟩:=I.jI hB;refine PySem.P.add_list e e2 ?_ (by rw[List.size_toArray,List.size_toArray]; omega);have ea:ah.toArray++dJ.toArray=(ah++dJ).toArray:=by simp
 rw[ea];exact⟨.ref _,_,I.xJ (t':=s.toks) (r.append r2) (by rw[qv]; omega),rfl,q _ I.fresh⟩
def Pw:R2:=λx y H Q=>∃ l k xs,x=.ref l/\y=.int k/\H l=some (.lst xs)/\-(2^63)<=k/\k < 2^63/\xs.length * k.toNat<=sizeLine/\
 ∀ p,H p=none->Q (.ref p) (upd H p (.lst (List.replicate k.toNat xs).flatten))
theorem E6(xs:Qa α)(k:Nat):(List.replicate k xs).flatten.length=k * xs.length:=by
 induction k with
 | zero=>simp
 | succ k ih=>rw[List.replicate_succ,List.flatten_cons,qv,ih,Nat.succ_mul,Nat.add_comm]
theorem Ts:cv X (binaryOp .Mult) Pw:=by
 intro pins s σ H x y v u Q I rx ry h;obtain⟨l,k,xs,rfl,rfl,hH,h1,h2,hz,q⟩:=h;cases rx;obtain⟨t,rfl⟩:=ry;obtain⟨z,ah,n,r,hl,e⟩:=I.jI hH;have hlen:ah.toArray.size * k.toNat<=sizeLine:=by rw[List.size_toArray,<-hl]; exact hz
 have Ia:¬ah.toArray.size * k.toNat > (2^63 - 1) / 8:=by
  have:(sizeLine:Nat)<=(2^63 - 1) / 8:=by decide
  omega
 have xY:¬(!Builtin.List.listFitsIndex k)=true:=by
  rw[fitsIndex_both h1 h2];exact qh
 have lK:¬Builtin.List.listTooLong (ah.toArray.size * k.toNat)=true:=by
  rw[Ma hlen];exact qh
 have HS:List.foldl (λx1 x2=>x1++x2) #[] (List.replicate (if ah.toArray.isEmpty=true then 0 else k.toNat) ah.toArray)=(List.replicate k.toNat ah).flatten.toArray:=by
  have f0:∀ m:Nat,List.foldl (λx1 x2=>x1++x2) #[] (List.replicate m ah.toArray)=(List.replicate m ah).flatten.toArray:=λm=>by
   have:=F4 ah m [];rw[List.nil_append]at this;exact this
  rw[f0];cases ah with
  | nil=>simp
  | cons a r'=>rw[if_neg (by simp)]
 refine wpAny_binaryOp_repeat_ref (T := "list") (U := "int") (by decide) ⟨_,e,rfl⟩ (λs'=>typeIs_int s' k t) noFill_list_mul F.fills_int_mul F.slot_int_rmul repeat_list F.slot_int_index.lookup
  (call_meets F.slot_int_rmul (typeIs_int s k t) F.entry_int_rmul (F.args_int_rmul_2 _ _) (int___rmul___int_list k t l ah.toArray n)
   ⟨e,rfl,⟨_,e,rfl⟩,call_meets F.slot_list_mul ⟨_,e,rfl⟩ F.entry_list_mul (F.args_list_mul_2 _ _) (AutoListH.list___mul___list_int_3 l ah.toArray n k t xY Ia lK) ⟨e,?_⟩⟩)
 rw[HS];exact⟨.ref _,_,I.xJ (t':=s.toks) (r.rep k.toNat) (by rw[E6,Nat.mul_comm]; exact hz),rfl,q _ I.fresh⟩
end
section
end
section
variable{X:Cx}
end
section
variable[DecidableEq κ]
def hE(kvs:Qa (κ×V))(k:κ):Qb V:=(kvs.find? λkv=>decide (kv.1=k)).map (·.2)
def fS(kvs:Qa (κ×V))(k:κ)(v:V):Qa (κ×V):=
 if(kvs.any λkv=>decide (kv.1=k))=true then kvs.map (λkv=>if kv.1=k then(kv.1,v)else kv)else kvs++[(k,v)]
theorem FF{p:κ×V}{r:Qa (κ×V)}{k:κ}(e:p.1=k):hE (p::r) k=some p.2:=by simp[hE,List.find?_cons,e]
theorem FE{p:κ×V}{r:Qa (κ×V)}{k:κ}(e:¬p.1=k):hE (p::r) k=hE r k:=by simp[hE,List.find?_cons,e]
theorem L9(k:κ):∀ kvs:Qa (κ×V),(kvs.any λkv=>decide (kv.1=k))=(hE kvs k).isSome
 | []=>rfl
 | p::r=>by
  rw[List.any_cons]
  by_cases e:p.1=k
  .simp only[FF e,decide_eq_true e,Bool.true_or,Option.isSome_some]
  .rw[FE e,decide_eq_false e,Bool.false_or]; exact L9 k r
theorem Gr(kvs:Qa (κ×V))(k:κ)(v:V):(fS kvs k v).length<=kvs.length+1:=by
 unfold fS;split
 .rw[List.length_map]; omega
 .rw[qv,qw,List.length_nil]; omega
theorem ie.jM{o:Qb V}{u:Qb Qc}(r:ie o u):o.isSome=u.isSome:=by
 cases o with
 | none=>cases u with
  | none=>rfl
  | some _=>exact(show False from r).elim
 | some _=>cases u with
  | none=>exact(show False from r).elim
  | some _=>rfl
theorem ie.getD{o:Qb V}{u:Qb Qc}{d:V}{d':Qc}(r:ie o u)(rd:zY d d'):zY (o.getD d) (u.getD d'):=by
 cases o with
 | none=>cases u with
  | none=>exact rd
  | some _=>exact(show False from r).elim
 | some _=>cases u with
  | none=>exact(show False from r).elim
  | some _=>exact r
theorem KV.val{kvs:Qa (κ×V)}{vs:Qa (κ×Qc)}(r:KV kvs vs)(k:κ):ie (hE kvs k) (valueAt vs k):=by
 unfold KV at r
 induction r with
 | nil=>exact True.intro
 | @cons p q ps qs h t ih=>
  obtain⟨h1,h2⟩:=h
  by_cases e:p.1=k
  .have e':q.1=k:=h1.symm.trans e
   have b:valueAt (q::qs) k=some q.2:=by simp[valueAt,List.find?_cons,e']
   rw[FF e,b]; exact h2
  .have e':¬q.1=k:=λz=>e (h1.trans z)
   have b:valueAt (q::qs) k=valueAt qs k:=by simp[valueAt,List.find?_cons,e']
   rw[FE e,b]; exact ih
theorem KV.any{kvs:Qa (κ×V)}{vs:Qa (κ×Qc)}(r:KV kvs vs)(k:κ):(kvs.any λkv=>decide (kv.1=k))=vs.any λkv=>decide (kv.1=k):=by
 unfold KV at r
 induction r with
 | nil=>rfl
 | cons h t ih=>rw[List.any_cons,List.any_cons,ih,h.1]
theorem KV.lA{kvs:Qa (κ×V)}{vs:Qa (κ×Qc)}(r:KV kvs vs)(k:κ){y:V}(ry:zY y u):
  KV (kvs.map λkv=>if kv.1=k then(kv.1,y)else kv) (vs.map λkv=>if kv.1=k then(kv.1,u)else kv):=by
 unfold KV at r ⊢
 induction r with
 | nil=>exact .nil
 | @cons p q ps qs h t ih=>
  rw[List.map_cons,List.map_cons];refine .cons ?_ ih;obtain⟨h1,h2⟩:=h
  by_cases e:p.1=k
  .rw[if_pos e,if_pos (h1.symm.trans e)]; exact⟨h1,ry⟩
  .rw[if_neg e,if_neg (λz=>e (h1.trans z))]; exact⟨h1,h2⟩
theorem KV.put{kvs:Qa (κ×V)}{vs:Qa (κ×Qc)}(r:KV kvs vs)(k:κ){y:V}(ry:zY y u):KV (fS kvs k y) (stored vs k u):=by
 unfold fS stored;rw[r.any k]
 by_cases e:(vs.any λkv=>decide (kv.1=k))=true
 .rw[if_pos e,if_pos e]; exact r.lA k ry
 .rw[if_neg e,if_neg e]; exact Paired.snoc r ⟨rfl,ry⟩
theorem KV.length{kvs:Qa (κ×V)}{vs:Qa (κ×Qc)}(r:KV kvs vs):kvs.length=vs.length:=Paired.length r
end
theorem Ai{k:Key}(r:zY (kV k) u):(e9 P w).is k u=true:=by
 cases k with
 | inl i=>obtain⟨t,e⟩:=(show ∃ t,u=Value.int i t from r); subst e; exact zld P w i t
 | inr x=>obtain⟨t,e⟩:=(show ∃ t,u=Value.str x t from r); subst e; exact zle P w x t
theorem F3:∀ {ks:Qa Key} {us:Qa Qc},zV (ks.map kV) us->ItemsAre (e9 P w) ks us
 | [],_,r=>by rw[List.map_nil]at r; cases r; exact .nil
 | k::ks,_,r=>by
  rw[List.map_cons]at r;cases r with
  | cons h t=>exact .cons (Ai h) (F3 t)
abbrev KT(K:qe)(H:Hp):Qa (Qa Key×V)->Qa (Qa Key×Qg×Qc)->Prop:=Paired λp q=>p.1=q.1/\aT K H q.2.1 (p.1.map kV)/\zY p.2 q.2.2
theorem KT.val{xs:Qa (Qa Key×Qg×Qc)}(r:KT K H kvs xs)(k:Qa Key):ie (hE kvs k) ((atKey xs k).map (·.2)):=by
 induction r with
 | nil=>exact True.intro
 | @cons p q ps qs h t ih=>
  obtain⟨h1,_,h2⟩:=h
  by_cases e:p.1=k
  .have e':q.1=k:=h1.symm.trans e
   have b:atKey (q::qs) k=some q.2:=by simp[atKey,List.find?_cons,e']
   rw[FF e,b]; exact h2
  .have e':¬q.1=k:=λz=>e (h1.trans z)
   have b:atKey (q::qs) k=atKey qs k:=by simp[atKey,List.find?_cons,e']
   rw[FE e,b]; exact ih
theorem KT.lA{xs:Qa (Qa Key×Qg×Qc)}(r:KT K H kvs xs)(k:Qa Key){y:V}(ry:zY y u):
  KT K H (kvs.map λkv=>if kv.1=k then(kv.1,y)else kv) (xs.map (putAt k u)):=by
 induction r with
 | nil=>exact .nil
 | @cons p q ps qs h t ih=>
  rw[List.map_cons,List.map_cons];refine .cons ?_ ih;obtain⟨h1,h2,h3⟩:=h;unfold putAt
  by_cases e:p.1=k
  .rw[if_pos e,if_pos (h1.symm.trans e)]; exact⟨h1,h2,ry⟩
  .rw[if_neg e,if_neg (λz=>e (h1.trans z))]; exact⟨h1,h2,h3⟩
theorem KT.put{xs:Qa (Qa Key×Qg×Qc)}(r:KT K H kvs xs)(k:Qa Key){b:Qg}{y:V}(hb:aT K H b (k.map kV))(ry:zY y u):
  KT K H (fS kvs k y) (storedH xs k b u):=by
 have e:(kvs.any λkv=>decide (kv.1=k))=(atKey xs k).isSome:=by
  rw[L9,(r.val k).jM,Option.isSome_map]
 unfold fS storedH;rw[e]
 by_cases q:(atKey xs k).isSome=true
 .rw[if_pos q,if_pos q]; exact r.lA k ry
 .rw[if_neg q,if_neg q]; exact Paired.snoc r ⟨rfl,hb,ry⟩
theorem KT.keeps{xs:Qa (Qa Key×Qg×Qc)}(r:KT K H kvs xs)(ht:∀ b ys,H b=some (.tup ys)->H' b=some (.tup ys)):KT K H' kvs xs :=
 Paired.oC r λ_ _ z=>⟨z.1,z.2.1.keeps ht,z.2.2⟩
section
theorem DX{u:HO}(ok:cI P w K H h)(e:Rd H a u):bT P w K H h a u:=e.ok ok
theorem we{kvs:Qa (Key×V)}(ok:cI P w K H h)(e:Rd H a (.dK kvs)):kvs.length<=sizeLine/\(a==sysModules)=false/\∃ vs,KV kvs vs/\h.DictOf (e9 P w) a vs :=
 show bT P w K H h a (.dK kvs) from DX ok e
theorem zAD{kvs:Qa (Key×V)}(ok:cI P w K H h)(e:H a=some (.dK kvs)):kvs.length<=sizeLine/\(a==sysModules)=false/\∃ vs,KV kvs vs/\h.DictOf (e9 P w) a vs:=we ok (.inl e)
theorem rY{ks:Qa Key}(jK:K.In h)(ok:cI P w K H h)(e:aT K H a (ks.map kV)):(tupleKind (e9 P w)).is h ks a:=by
 rcases e with e|⟨o,ah,n,hk,hc,hs,_,r,_⟩
 case inr=>exact⟨o,ah,n,jK a o hk,hc,hs,by simpa using F3 r⟩
 obtain⟨_,ah,r,o,h1,h2,⟨n,h3⟩,_⟩:=(show bT P w K H h a (.tup (ks.map kV)) from ok a _ e);exact⟨o,ah.toArray,n,h1,h2,h3,by simpa using F3 r⟩
theorem uC(jK:K.In h)(ok:cI P w K H h)(e:Rd H a (.dT kvs)):kvs.length<=sizeLine/\(a==sysModules)=false/\
  ∃ xs,KT K H kvs xs/\h.DictOfH (tupleKind (e9 P w)) a xs:=by
 obtain⟨z,y,xs,r,o,es,ep,h1,h2,h3,h4,h5⟩:=(show bT P w K H h a (.dT kvs) from DX ok e);refine⟨z,y,xs,r,o,es,ep,h1,h2,h3,h4,λx hx=>?_,h5⟩;have all:∀ {l:Qa (Qa Key×V)} {m:Qa (Qa Key×Qg×Qc)},KT K H l m->∀ x∈m,(tupleKind (e9 P w)).is h x.1 x.2.1:=by
  intro l m q
  induction q with
  | nil=>intro x hx; exact nomatch hx
  | @cons p q ps qs hq t ih=>
   intro x hx;rcases qx.mp hx with e|hx
   .subst e
    exact rY jK ok (by rw[<-hq.1]; exact hq.2.1)
   .exact ih x hx
 exact all r x hx
theorem DW(jK:K.In h)(ok:cI P w K H h)(e:H a=some (.dT kvs)):kvs.length<=sizeLine/\(a==sysModules)=false/\
  ∃ xs,KT K H kvs xs/\h.DictOfH (tupleKind (e9 P w)) a xs:=uC jK ok (.inl e)
end
def rP(K:qe)(H:Hp)(a:Qg)(y:V)(r:Qb V):Prop :=
 (∃ kvs k,Rd H a (.dK kvs)/\y=kV k/\r=hE kvs k)\/∃ kvs k b,Rd H a (.dT kvs)/\y=.ref b/\aT K H b (k.map kV)/\r=hE kvs k
def pd(K:qe)(H:Hp)(a:Qg)(y v:V)(H':Hp):Prop :=
 (∃ kvs k,H a=some (.dK kvs)/\y=kV k/\kvs.length < sizeLine/\H'=upd H a (.dK (fS kvs k v)))\/
 ∃ kvs k b,H a=some (.dT kvs)/\y=.ref b/\aT K H b (k.map kV)/\kvs.length < sizeLine/\H'=upd H a (.dT (fS kvs k v))
theorem pd.k{kvs:Qa (Key×V)}{k:Key}(e:H a=some (.dK kvs))(hl:kvs.length < sizeLine):pd K H a (kV k) v (upd H a (.dK (fS kvs k v))):=.inl ⟨kvs,k,e,rfl,hl,rfl⟩
theorem pd.t{b:Qg}{k:Qa Key}(e:H a=some (.dT kvs))(eb:aT K H b (k.map kV))(hl:kvs.length < sizeLine):
  pd K H a (.ref b) v (upd H a (.dT (fS kvs k v))):=.inr ⟨kvs,k,b,e,rfl,eb,hl,rfl⟩
section
variable{X:Cx}{y:V}{r:Qc}{o:Qb V}
theorem Inv.Cz(I:Inv X pins σ H s):sysModules < s.heap.objs.size:=by
 have h:mainGlobals < s.heap.objs.size:=(I.mod.glob.keeps I.bk).lt;exact Ô (by decide) h
theorem Zj(hu:A.units+1 < cLine)(I:Inv X pins σ H s)(g:rP X.K H a y (some v))(ry:zY y u)(h:∀ w' s',Inv X pins σ H s'->zY v w'->Q w' s'):
  wpAny (model X.prog X.w) A (getItem (.ref a) u) Q E s:=by
 rcases g with⟨kvs,k,e,ey,l⟩|⟨kvs,k,b,e,ey,eb,l⟩
 .subst ey
  obtain⟨z,hd,vs,rel,dd⟩:=we I.aD e;obtain⟨w',hw,jC⟩:=ie.some_of (v:=v) (o:=valueAt vs k) (by rw[l]; exact rel.val k);exact wpAny_getItem_of (Ai ry) dd.mapOf hw (h w' _ (I.tok _) jC)
 .subst ey
  cases(show u=Value.ref b from ry);obtain⟨z,hd,xs,rel,dd⟩:=uC I.bZ I.aD e;obtain⟨w',hw,jC⟩:=ie.some_of (v:=v) (o:=(atKey xs k).map (·.2)) (by rw[l]; exact rel.val k);obtain⟨p,hp,xQ⟩:=qu.mp hw;refine wpAny_getItem_heap (tupleKind_room_in1 hu) (rY I.bZ I.aD eb) dd hp ?_;rw[xQ];exact h w' _ (I.tok _) jC
theorem AY{t':Nat}{ob:HO}(I:Inv X pins σ H s)(mu:yq (H a))(hs:Heap.SameBut a s.heap h')(he:∃ q,h'.get? a=some q)(new:bT X.prog X.w X.K (upd H a ob) h' a ob):
  Inv X pins σ (upd H a ob) {s with heap:=h',toks:=t'}:=
 I.write (x:=a) (e:=a) mu (.inl rfl) (λb q hb z=>(hs.2 b hb).trans z) he new
theorem Tq{kvs:Qa (Key×V)}{vs:Qa (Key×Qc)}(z:kvs.length<=sizeLine)(hd:(a==sysModules)=false)(rel:KV kvs vs)(dd:h'.DictOf (e9 P w) a vs):
  bT P w K H' h' a (.dK kvs):=⟨z,hd,vs,rel,dd⟩
theorem Zi{Q:Unit->Qd->Prop}(hu:A.units+1 < cLine)(I:Inv X pins σ H s)(g:pd X.K H a y v H')(ry:zY y u)(rv:zY v r)(h:∀ s',Inv X pins σ H' s'->Q () s'):
  wpAny (model X.prog X.w) A (setItem (.ref a) u r) Q E s:=by
 rcases g with⟨kvs,k,e,ey,l,eH⟩|⟨kvs,k,b,e,ey,eb,l,eH⟩
 .subst ey eH
  obtain⟨z,hd,vs,rel,dd⟩:=zAD I.aD e;have hz:vs.length<=sizeLine:=by rw[<-rel.length]; exact z
  have hl:(fS kvs k v).length<=sizeLine:=by have:=Gr kvs k v; omega
  refine wpAny_setItem_pairs (hsz:=hz) (Ai ry) dd λh' rh hs=>h _ ?_;have he:∃ q,h'.get? a=some q:=let ⟨q,_,_,hq,_⟩:=rh; ⟨q,hq⟩;exact AY I (by rw[e]; exact True.intro) hs he (Tq hl hd (rel.put k rv) rh)
 .subst ey eH
  cases(show u=Value.ref b from ry);obtain⟨z,hd,xs,rel,dd⟩:=DW I.bZ I.aD e;have hz:xs.length<=sizeLine:=by rw[<-Paired.length rel]; exact z
  have hl:(fS kvs k v).length<=sizeLine:=by have:=Gr kvs k v; omega
  refine wpAny_setItem_heap (hsz:=hz) (tupleKind_room_in1 hu) (rY I.bZ I.aD eb) dd λh' rh hs=>h _ ?_;obtain⟨q,es,ep,hq,h2,h3,h4,_,h5⟩:=rh;refine AY I (by rw[e]; exact True.intro) hs ⟨q,hq⟩ ⟨hl,hd,_,(rel.put k eb rv).keeps λc ys ec=>?_,q,es,ep,hq,h2,h3,h4,h5⟩;rw[zH (nM ec e (λz=>nomatch z))];exact ec
end
section
variable{X:Cx}{kvs:Qa (Key×V)}{k:Key}
end
def Dp(i:Expr):Prop:=∀ ov iv,subscripted i false ov iv=operate [ov,iv] (getItem ov iv)
theorem VP{value slice:Expr}{id:String}
  (hl:typeLookup (.type T) "__getitem__"=pure (some (.builtin id))) (hs:Dp slice)
  (h:wpAny (model prog w) A (eval value env) (λo aF=>wpAny (model prog w) A (eval slice env) (λi fP=>fP.TypeIs o T/\wpAny (model prog w) A (getItem o i) Q E fP) E aF) E s):
  wpAny (model prog w) A (eval (.Subscript value slice pos) env) Q E s:=by
 refine Subscript_ (wpAny_mono h (λo aF HC=>wpAny_mono HC (λi fP tG=>?_) λ_ _ x=>x) λ_ _ x=>x);obtain⟨hT,tG⟩:=tG;unfold subscriptTail;refine qc ?_;rw[getitemInPython_of_ne hT.not_modules];refine qc (wpAny_specialOf hT hl ?_);have fin:wpAny (model prog w) A (subscripted slice false o i) (λr xo=>wpAny (model prog w) A (letTemporaryGo value o r >>= λ_=>pure r) Q E xo) E fP:=by
  rw[hs o i];exact wpAny_operating (wpAny_mono tG (λr xo HB=>qc (wpAny_letTemporaryGo (qd HB))) λ_ _ x=>x)
 first
  | exact qd (qc fin)
  | exact qc (qd (qc fin))
  | exact qc fin
theorem zlq{X:Cx}{y:V}{o:Qb V}(I:Inv X pins σ H s)(g:rP X.K H a y o):s.TypeIs (.ref a) "dict":=by
 rcases g with⟨kvs,k,e,_,_⟩|⟨kvs,k,b,e,_,_,_⟩
 .obtain⟨_,_,vs,_,dd⟩:=we I.aD e
  exact dd.typeIs
 .obtain⟨_,_,xs,_,dd⟩:=uC I.bZ I.aD e
  exact dd.typeIs
def DU(K:qe)(td ty:TE):TE:=λσ H Q=>td σ H λx H1=>ty σ H1 λy H2=>∃ a v,x=.ref a/\rP K H2 a y (some v)/\Q v H2
def DT(K:qe)(td ty tv:TE):TS:=λD σ H=>tv σ H λv H1=>td σ H1 λx H2=>ty σ H2 λy H3=>∃ a H4,x=.ref a/\pd K H3 a y v H4/\D.nx σ H4
section
variable{X:Cx}{i value:Expr}
theorem VN(hu:X.A.units+1 < cLine)(ho:PE X o td)(hi:PE X i ty)(hs:Dp i):PE X (.Subscript o i pos) (DU X.K td ty):=by
 intro pins s σ H Q I h;refine VP PySem.F.slot_dict_getitem.lookup hs (aI (ho pins s σ H _ I h) λu s1 ⟨x,H1,I1,rx,q1⟩=>aI (hi pins s1 σ H1 _ I1 q1) λiv s2 ⟨y,H2,I2,ry,a,v,ex,g,q2⟩=>?_);subst ex;obtain rfl:u=Value.ref a:=rx;exact⟨zlq I2 g,Zj hu I2 g ry λw' s3 I3 jC=>⟨v,H2,I3,jC,q2⟩⟩
theorem VM(hu:X.A.units+1 < cLine)(ho:PE X o td)(hi:PE X i ty)(hv:PE X value tv)(hs:swapsWith value (some (.Subscript o i pos')) pos.line X.env=pure false):
  PS X (.Assign [.Subscript o i pos'] value pos) (DT X.K td ty tv):=by
 intro pins s σ H D I h;refine wpAny_Assign_Subscript (aI (hv pins s σ H _ I h) λr s1 ⟨v,H1,I1,rv,q1⟩=>aI (ho pins s1 σ H1 _ I1 q1) λu s2 ⟨x,H2,I2,rx,q2⟩=>aI (hi pins s2 σ H2 _ I2 q2) λiv s3 ⟨y,H3,I3,ry,a,H4,ex,g,q3⟩=>?_) hs;subst ex;obtain rfl:u=Value.ref a:=rx;exact Zi hu I3 g ry rv λs4 I4=>⟨σ,H4,I4,q3⟩
end
theorem FC(h:Heap)(hb:sysModules < h.objs.size):bT P w K H (h.push {cls:=.type "dict",data:=.dict #[]}) h.objs.size (.dT []):=
 ⟨È _,beq_eq_false_iff_ne.mpr (Ne.symm (ql hb)),[],.nil,_,#[],0,qi _ rfl,⟨rfl,rfl,rfl⟩,rfl,rfl,ß⟩
def ET:TE:=λ_ H Q=>∀ p,H p=none->Q (.ref p) (upd H p (.dT []))
section
variable{X:Cx}
theorem YG:PE X (.Dict [] [] pos) ET:=λpins s σ H Q I h=>
 wpAny_Dict_empty ⟨.ref s.heap.objs.size,_,I.laid (a:=s.heap.objs.size) (o:=.dT []) (t':=s.toks) (λ_ _ q=>qf _ q) (qg _) (FC s.heap I.Cz),rfl,h _ (I.aD.fresh (qg _))⟩
end
structure M2 (X:Cx) (o:Expr) (m:Str) (apos:Pos) (e f:Expr) (aZ:Pos):Prop where
 base:attributeBase o m X.env (eval o X.env)=eval o X.env
 few:((backTo aZ (starEach [e,f] X.env)).all (λx=>!x.1) && (backToKw aZ (keywordEach [] X.env)).all (λx=>x.1.isSome)
  && decide (([e,f]:Qa Expr).length+([]:Qa Keyword).length+(if([]:Qa Keyword).isEmpty then 0 else 1) < 30))=true
 line:(apos.endLine==aZ.line)=true
 trees:backTo aZ (starEach [e,f] X.env)=[(false,eval e X.env),(false,eval f X.env)]
def IS(H:Hp)(a:Qg):Prop:=(∃ kvs,Rd H a (.dK kvs))\/∃ kvs,Rd H a (.dT kvs)
theorem Tp{X:Cx}(I:Inv X pins σ H s)(d:IS H a):
  s.TypeIs (.ref a) "dict"/\(∀ b,Value.ref a=.ref b->∃ ob,s.heap.get? b=some ob/\ob.dict=none)/\(a==sysModules)=false:=by
 rcases d with⟨kvs,e⟩|⟨kvs,e⟩
 .obtain⟨_,hd,vs,_,dd⟩:=we I.aD e
  refine⟨dd.typeIs,λb q=>?_,hd⟩;cases q;obtain⟨ob,_,_,h1,h2,_⟩:=dd;exact⟨ob,h1,h2.2.1⟩
 .obtain⟨_,hd,xs,_,dd⟩:=uC I.bZ I.aD e
  refine⟨dd.typeIs,λb q=>?_,hd⟩;cases q;obtain⟨ob,_,_,h1,h2,_⟩:=dd;exact⟨ob,h1,h2.2.1⟩
section
variable{X:Cx}{y d:V}{r:Qc}{o:Qb V}
theorem To(hu:A.units+1 < cLine)(I:Inv X pins σ H s)(g:rP X.K H a y o)(ry:zY y u)(rd:zY d r)(h:∀ w' s',Inv X pins σ H s'->zY (o.getD d) w'->Q w' s'):
  wpAny (model X.prog X.w) A (call (.builtin "dict.get") [.ref a,u,r]) Q E s:=by
 rcases g with⟨kvs,k,e,ey,l⟩|⟨kvs,k,b,e,ey,eb,l⟩
 .subst ey
  obtain⟨z,hd,vs,rel,dd⟩:=we I.aD e;refine call_meetsIn PySem.F.slot_dict_get dd.typeIs PySem.F.entry_dict_get (PySem.F.args_dict_get_3 _ _ _) (meets_dict_get_default (e9 X.prog X.w) a (Ai ry) hd r) ⟨_,dd.mapOf,h _ _ (I.tok _) ?_⟩;rw[l];exact(rel.val k).getD rd
 .subst ey
  cases(show u=Value.ref b from ry);obtain⟨z,hd,xs,rel,dd⟩:=uC I.bZ I.aD e;refine call_meetsIn PySem.F.slot_dict_get dd.typeIs PySem.F.entry_dict_get (PySem.F.args_dict_get_3 _ _ _) (meetsH_dict_get_default (tupleKind (e9 X.prog X.w)) a b hd r) ⟨tupleKind_room_in1 hu,k,xs,rY I.bZ I.aD eb,dd,h _ _ (I.tok _) ?_⟩;rw[l];exact(rel.val k).getD rd
end
def ES(K:qe)(td ty tx:TE):TE:=λσ H Q=>td σ H λx H1=>∃ a,x=.ref a/\IS H1 a/\ty σ H1 λy H2=>tx σ H2 λz H3=>∃ o,rP K H3 a y o/\Q (o.getD z) H3
section
variable{X:Cx}{f:Expr}{tx:TE}
theorem YF(hu:X.A.units+1 < cLine)(ho:PE X o td)(he:PE X e ty)(hf:PE X f tx)(m:M2 X o "get" apos e f aZ):PE X (.Call (.Attribute o "get" apos) [e,f] [] aZ) (ES X.K td ty tx):=by
 intro pins s σ H Q I h;refine wpAny_Call_method m.base m.few m.line PySem.F.plainAttrs_dict PySem.F.slot_dict_get PySem.F.type_dict_get (aI (ho pins s σ H _ I h) λu s1 ⟨x,H1,I1,rx,a,ex,d,q1⟩=>?_);subst ex;obtain rfl:u=Value.ref a:=rx;obtain⟨t1,t2,_⟩:=Tp I1 d;refine⟨t1,t2,?_⟩;rw[m.trees];refine í rfl (Calls.evalArgs_plain (Calls.spliced_cons (aI (he pins s1 σ H1 _ I1 q1) λiv s2 ⟨y,H2,I2,ry,q2⟩=>
  Calls.spliced_cons (aI (hf pins s2 σ H2 _ I2 q2) λfv s3 ⟨z,H3,I3,rz,ov,g,q3⟩=>Calls.spliced_nil ?_))))
 exact To hu I3 g ry rz λw' s4 I4 jC=>⟨_,H3,I4,jC,q3⟩
end
section
variable{X:Cx}{kvs:Qa (Key×V)}
end
section
variable{X:Cx}{y:V}
end
end L2
namespace RT
open PySem PySem.W PySem.Calls PyProof.Rows
theorem zhD{P:Params}{h:Heap}:∀ (ns:List Int) (vs:List Value),WellAll P h vs (ns.map WData.int)->IntsAre vs ns:=by
 intro ns
 induction ns with
 | nil=>
  intro vs w;rw[List.map_nil]at w;cases w;exact .nil
 | cons n ns ih=>
  intro vs w;rw[List.map_cons]at w;cases w with
  | cons a b=>
   cases a;exact .cons _ _ (ih _ b)
theorem Zh{l:OpenLaw}{n:Nat}(hn:l.most=some n){P:Params}{h:Heap}{args:List WData}{vals:List Value}
  (oI:l.row.toRowW.claim.pre args=true) (HF:WellAll P h vals args):
  ∃ a vs ns,vals=[Value.ref a]/\args=[WData.list (ns.map WData.int)]/\h.get? a=some {cls:=.type "list",data:=.seq vs.toArray}/\IntsAre vs ns/\ns.length<=n:=by
 have xO:WShape.hasAll [] args [.list .int]=true:=(pre_splitW oI).1;have hc:l.pre.holds [] {args:=args}=true:=(pre_splitW oI).2;obtain⟨d,r,rfl,h1,h2⟩:=hasAllW_cons xO;obtain rfl:=hasAllW_nil h2;obtain⟨xs,rfl,h3⟩:=hasW_list h1;obtain⟨ns,rfl⟩:=items_int h3;have hlen:ns.length<=n:=by
  unfold OpenLaw.pre at hc;have h4:(WTm.not (.lt (.lit (.int (n:Int))) (.len (.arg 0)))).holds [] {args:=[.list (ns.map .int)]}=true:=by
   have h4:=(holds_andW hc).1;rw[hn]at h4;exact h4
  have h5:=condW_of h4 (w_not (w_lt w_lit (w_len_list (w_arg rfl))));rw[List.length_map]at h5;refine Nat.le_of_not_lt λq=>?_;have q':(n:Int) < ((ns.length:Nat):Int):=by omega
  first
   | (rw[decide_eq_true q']at h5; exact absurd h5 (by decide))
   | (simp at h5; omega)
 cases HF with
 | cons w1 w2=>
  cases w2;cases w1 with
  | list ho Ic=>exact⟨_,_,ns,rfl,rfl,ho,zhD ns _ Ic,hlen⟩
theorem Zg(l:OpenLaw)(args:List WData):l.row.toRowW.claim.post args (.bool true) args=true :=
 postW_of (r:=l.row.toRowW) (X:=(true==true))
  (show WShape.has [] (.bool true) .bool=true by first|rfl|decide|simp[WShape.has,WShape.arms,WShape.armsAll])
  (show(WTm.eq .res (.lit (.bool true))).value [] {args:=args,res:=some (.bool true),after:=args}=some (.bool (true==true)) from w_eq_bool (w_res rfl) w_lit) rfl
theorem gX{l:OpenLaw}{n:Nat}{q:Program}{loose:List Str}{XP:(Str->Option Value)->Heap->Prop}{YP:World->Heap->Prop}{d:DefRec}
  (hn:l.most=some n) (x9:d.params.defaults=[])
  (call:∀ (w:World) (be aF:Shared) (mg mb:Str->Option Value) (fa:Addr) (o:Obj) (pm cd doc:Value) (a:Addr) (vs:List Value) (ns:List Int),
   Ground q loose [] XP w be mg mb aF.heap->YP w aF.heap->
   aF.heap.get? fa=some o->o.data=.func (docDef d.name d.params d.body d.scope pm cd doc)->aF.heap.CodeRec cd d.name->mg d.name=some (.ref fa)->
   aF.heap.get? a=some {cls:=.type "list",data:=.seq vs.toArray}->IntsAre vs ns->ns.length<=n->aF.gens=#[]->
   codeAny (model l.prog w) callerA (.call (.ref fa) ⟨[.ref a],[]⟩) (λr s'=>r=.ok (.ret (.bool true))/\OldK aF.heap s'.heap/\s'.os=aF.os/\AllBare s'.gens) aF):
  WalkO q loose XP YP l.row.toRowW d [] (λf vs=>PySem.call f vs):=by
 intro w be aF mg mb G Y fa o pm cd doc dV kV ho hd jN hD xR hg args vals as oI hlay hrd HF hlo;obtain rfl:dV=.none:=Dflts.none hD x9;obtain rfl:kV=.none:=Dflts.noKw hD;obtain⟨a,vs,ns,rfl,rfl,tK,hints,hlen⟩:=Zh hn oI HF;refine enter_call (codeAny_mono (call w be aF mg mb fa o pm cd doc a vs ns G Y ho (fd_plain hd) jN xR tK hints hlen hg) λr s' hq=>?_);obtain⟨rfl,h2,h3,h4⟩:=hq;exact⟨.inl ⟨.bool true,.bool true,[],rfl,λ_=>rfl,.bool true,Zg l _,λ_=>⟨List.Pairwise.nil,λ_ hm=>(nomatch hm)⟩⟩,h2,h3,h4⟩
section
variable{prog:Program} {w:World} {A:Around} {E:Value->Shared->Prop} {s:Shared} {K:Frag}
end
end RT
namespace L2
open PySem PySem.Spec PyProof.Rows
theorem F2:∀ {vs:Qa Qc} {ns:Qa Int},IntsAre vs ns->zV (ns.map V.int) vs
 | _,_,.nil=>.nil
 | _,_,.cons n t h=>.cons ⟨t,rfl⟩ (F2 h)
def yI(H:Hp):Prop:=∀ b,H b=none\/∃ o xs,H b=some (.aS o (.lst xs))
theorem YE{mb:Str->Qb Qc}{CX:jj}{k:Nat}{fa:Qg}{aF:Qd}{vs:Qa Qc}
  (KX:K.In aF.heap) (Qt:aF.heap.Ns mainGlobals mg) (hb:aF.heap.Ns builtinsNs mb) (hbb:∀ x:Str,x ≠ "__name__"->mb x=bootBuiltins x) (HU:aF.heap.NoLimit) (hg:aF.gens=#[])
  (ha:aF.heap.get? a=some {cls:=.type "list",data:=.seq vs.toArray}) (hi:IntsAre vs ns) (hl:ns.length<=sizeLine) (hr:aK k callerA)
  (F:∀ base:Heap,K.In base->base.Ns mainGlobals mg->cD P w K mg base CX k fa fd [x] sp) (ye:∀ (s:Qd) (u:Qc),BindsTo s fd ⟨[u],[]⟩ [(x,u)])
  (mU:∀ H:Hp,yI H->bo K H a (ns.map V.int)->sp [.ref a] H (λv _=>v=.bl true) λ_ _ _=>False)
  (Ik:∀ H e s',CX [] H aF (λ_ _ _=>False) e s'->False):
  codeAny (model P w) callerA (.call (.ref fa) ⟨[.ref a],[]⟩) (λr s'=>r=.ok (.ret (.bool true))/\OldK aF.heap s'.heap/\s'.os=aF.os/\AllBare s'.gens) aF:=by
 have rv:=F2 hi;have Ht:=hi.length;have core:∀ H:Hp,yI H->bo K H a (ns.map V.int)->cI P w K H aF.heap->(∀ b,H b≠none->b=a)->(H a≠none->K.lookup a=none)->
   codeAny (model P w) callerA (.call (.ref fa) ⟨[.ref a],[]⟩) (λr s'=>r=.ok (.ret (.bool true))/\OldK aF.heap s'.heap/\s'.os=aF.os/\AllBare s'.gens) aF:=by
  intro H hO hS aD hA hK;have jg:∀ {b:Qg} {o:Obj},aF.heap.get? b=some o->H b=none->(nI aF.heap H).get? b=some o:=λe n=>Zl e n;have xD:∀ {b:Qg} {o:Obj} {es:Array DictEntry} {ep:Nat},aF.heap.get? b=some o->o.data=.dict es ep->H b=none:=λ{b o es ep} e d=>by
   cases q:H b with
   | none=>rfl
   | some u=>
    have e':b=a:=hA b (by rw[q]; simp);subst e';rw[ha]at e; cases e;have d':Data.seq vs.toArray _=Data.dict es ep:=d;cases d'
  have B6:∀ {b:Qg} {m:Str->Qb Qc},aF.heap.Ns b m->(nI aF.heap H).Ns b m:=λ{b m} ⟨o,es,ep,e,d,r⟩=>⟨o,es,ep,jg e (xD e d),d,r⟩;have QU:K.In (nI aF.heap H):=λb o e=>jg (KX b o e) (by
   cases q:H b with
   | none=>rfl
   | some u=>
    have e':b=a:=hA b (by rw[q]; simp);subst e';rw[hK (by rw[q]; simp)]at e; cases e)
  have hM:Mod K mg (nI aF.heap H):=⟨QU,B6 Qt,⟨mb,B6 hb,hbb⟩,let ⟨mc,h1,h2⟩:=HU; ⟨mc,B6 h1,h2⟩⟩;have e0:iR P w K mg (nI aF.heap H) callerA [] aF H:=⟨rfl,hM,λb o e=>WU e,ý (ZU _ _),trivial,λb hb=>absurd (show b∈([]:Qa Qg) from hb) (by simp),aD,.of_eq hg⟩;refine codeAny_mono ((F _ QU (B6 Qt)).run callerA [] aF H ⟨[.ref a],[]⟩ [.ref a] [.ref a] _ _ hr e0 (ye aF (.ref a)) (.cons rfl .nil) (mU H hO hS)) λr s' h=>?_;cases r with
  | error e=>exact(Ik H e s' h).elim
  | ok fl=>
   cases fl with
   | next=>exact False.elim h
   | brk=>exact False.elim h
   | cont=>exact False.elim h
   | ret u=>
    obtain⟨v,H',os,bare,un,HQ,r',q⟩:=h;have q':v=.bl true:=q;subst q';obtain rfl:u=Value.bool true:=r';refine⟨rfl,OldK.of_keep λb o e=>?_,os,bare⟩;cases q:H b with
    | none=>exact un.keep b o e q (by intro z; exact absurd (show b∈([]:Qa Qg) from z) (by simp)) (by simp)
    | some u=>
     rcases hO b with z|⟨ob,xs,z⟩
     .rw[q]at z; cases z
     .have z2:=un.eA b ob _ z
      obtain⟨e1,_⟩:=aD b _ z;obtain⟨e2,_⟩:=HQ b _ z2;rw[e]at e1; cases e1;exact e2
 cases hk:K.lookup a with
 | some o=>
  have e:=KX a o hk;rw[ha]at e;cases e;refine core (λ_=>none) (λ_=>.inl rfl) (.inr ⟨_,vs.toArray,_,hk,rfl,rfl,rfl,by rw[List.size_toArray,Ht]; exact hl,by simpa using rv⟩) (λb u z=>by have z':(none:Qb HO)=some u:=z; cases z') (λb z=>absurd rfl z) λz=>absurd rfl z
 | none=>
  refine core (λb=>if b=a then some (.aS {cls:=.type "list",data:=.seq vs.toArray} (.lst (ns.map V.int)))else none) (λb=>?_) (.inl (.inr ⟨{cls:=.type "list",data:=.seq vs.toArray},if_pos rfl⟩)) (λb u z=>?_) (λb z=>?_) λ_=>hk
  .by_cases hb:b=a
   .exact .inr ⟨_,_,if_pos hb⟩
   .exact .inl (if_neg hb)
  .by_cases hb:b=a
   .have z':=(if_pos hb).symm.trans z
    cases z';subst hb;exact⟨ha,by rw[List.length_map]; exact hl,vs,_,rv,ha⟩
   .have z':=(if_neg hb).symm.trans z
    cases z'
  .by_cases hb:b=a
   .exact hb
   .exact absurd (if_neg hb) z
theorem n5{k:Nat}{q:Qe}{loose:Qa Str}{XP:(Str->Qb Qc)->Heap->Prop}{YP:Qh->Heap->Prop}{d:DefRec}{K:Params->qe}{CX:Qh->jj}{sp:Qh->Sp}
  (hn:l.most=some n) (Cj:n<=sizeLine) (x9:d.params.defaults=[]) (hr:aK k callerA)
  (hY:∀ (w:Qh) (h:Heap),YP w h->(K w.params).In h)
  (F:∀ (w:Qh) (mg:Str->Qb Qc) (fa:Qg) (h:Heap),(K w.params).In h->h.Ns mainGlobals mg->mg d.name=some (.ref fa)->
   ∃ fd:FuncData,(∀ (s:Qd) (u:Qc),BindsTo s fd ⟨[u],[]⟩ [(x,u)])/\
    ∀ base:Heap,(K w.params).In base->base.Ns mainGlobals mg->cD l.prog w (K w.params) mg base (CX w) k fa fd [x] (sp w))
  (mU:∀ (w:Qh) (H:Hp) (a:Qg) (ns:Qa Int),ns.length<=n->yI H->bo (K w.params) H a (ns.map V.int)->sp w [.ref a] H (λv _=>v=.bl true) λ_ _ _=>False)
  (Ik:∀ (w:Qh) (H:Hp) (s:Qd) (e:Qc) (s':Qd),CX w [] H s (λ_ _ _=>False) e s'->False):
  PySem.W.WalkO q loose XP YP l.row.toRowW d [] (λf vs=>PySem.call f vs):=by
 refine RT.gX hn x9 λw be aF mg mb fa o pm cd doc a vs ns G Y ho hd jN xR tK hints hlen hg=>?_;have KX:=hY w _ Y;obtain⟨fd,hb,hF⟩:=F w mg fa _ KX G.T.g xR;exact YE KX G.T.g G.T.b G.T.builtins G.T.nolimit hg tK hints (qB hlen Cj) hr hF hb (λH hO hS=>mU w H a ns hlen hO hS) λH e s'=>Ik w H aF e s'
def sJ(s:Stmt):Arguments:=match s with
 | .FunctionDef _ a _ _ _ _ _ _ _ _=>a
 | _=>{posonlyargs:=[],args:=[],vararg:=none,kwonlyargs:=[],kw_defaults:=[],kwarg:=none,defaults:=[]}
def kU(s:Stmt):Qa Stmt:=match s with
 | .FunctionDef _ _ b _ _ _ _ _ _ _=>b
 | _=>[]
def fM(s:Stmt):Scope:=match s with
 | .FunctionDef _ _ _ _ _ _ sc _ _ _=>sc
 | _=>{kind:=.function,names:=[],isGenerator:=false,isCoroutine:=false}
abbrev iT:jj:=λ_ _ _ _ _ _=>False
abbrev E0:XK:=λ_ _ _=>False
theorem JA{X:Cx}:wy iT X E0:=λ_ _ _ _ _ _ _ h=>h.elim
structure jR (K:qe) (x qual:Str) (st:Stmt) (f:Qg) (fd:FuncData):Prop where
 ex:∃ (oc:Qc) (od:Qb Qg) (kV doc pm:Qc) (an:Qb Qg) (bE ct:Qc) (lB:Array (Qb Qc)),
  fd=PySem.W.fnOf x qual (sJ st) (kU st) (fM st) .none kV doc pm an bE ct/\K.lookup f=some ⟨oc,od,.func fd,lB⟩/\PySem.W.codeIn K bE qual=true
 kp:PySem.W.keepIn K (.ref f)=true
section
variable{base:Heap}
theorem jR.ok{f:Qg}{k:Nat}(F:jR K x qual st f fd)(S:bH N ps (fM st))(len:∀ vs H Q E,sp vs H Q E->vs.length=ps.length)
  (cA:∀ (bE:Qc) (A:Qf) (outer:Qa Env) (s:Qd) (H:Hp) (vs:Qa V) (Q:VK) (E:XK),aK k (A.deeper (envOfC qual (fM st) s.heap.objs.size f bE))->sp vs H Q E->
   ∃ t,eU (nB iT P w K mg base N qual (fM st) f bE A outer s H E).tj (kU st) t/\t {nx:=λ_ H'=>Q .aN H',rt:=Q} (gI N vs) H):cD P w K mg base iT (k+1) f fd ps sp:=by
 obtain⟨oc,od,kV,doc,pm,an,bE,ct,lB,rfl,lk,jN⟩:=F.ex;refine zAx lk jN S len λA outer s H vs Q E hr mU=>?_;obtain⟨t,h,q⟩:=cA bE A outer s H vs Q E hr mU;exact⟨t,h.tj,q⟩
theorem jR.binds{f:Qg}(F:jR K x qual st f fd)
  (h:∀ (kV doc pm:Qc) (an:Qb Qg) (bE ct:Qc) (us:Qa Qc),us.length=ps.length->bindArgs (PySem.W.fnOf x qual (sJ st) (kU st) (fM st) .none kV doc pm an bE ct) ⟨us,[]⟩=pure (ps.zip us)):mE K fd ps []:=by
 obtain⟨oc,od,kV,doc,pm,an,bE,ct,lB,rfl,lk,jN⟩:=F.ex;exact .all (h kV doc pm an bE ct)
theorem Kg{f:Qg}{oc:Qc}{od an:Qb Qg}{kV doc pm bE ct:Qc}(l:K.lookup f=some ⟨oc,od,.func (PySem.W.fnOf x qual (sJ st) (kU st) (fM st) .none kV doc pm an bE ct),lB⟩)
  (c:PySem.W.codeIn K bE qual=true) (k:PySem.W.keepIn K (.ref f)=true):jR K x qual st f (PySem.W.fnOf x qual (sJ st) (kU st) (fM st) .none kV doc pm an bE ct):=⟨⟨oc,od,kV,doc,pm,an,bE,ct,lB,rfl,l,c⟩,k⟩
end
theorem wc{k:Nat}(hr:aK k A):A.units+1 < cLine:=Ä (Nat.add_le_add_left (by decide:1<=64) _) hr.units
section
variable{X:Cx}
theorem pv(i:Nat)(hN:X.N[i]?=some x:=by rfl)(hv:CB X.env.scope x:=by first|exact Or.inl rfl|exact Or.inr (Or.inl rfl) | exact Or.inr (Or.inr rfl))(hd:(x==("__debug__":Str))=false:=by decide)
  (jN:(x==("__classdict__":Str))=false:=by decide):PE X (.Name x pos) (ic i):=UD hN hv hd jN
end
def b9(H H':Hp):Prop:=∀ b o,H b=some o->H' b=some o
theorem b9.refl(H:Hp):b9 H H:=λ_ _ h=>h
theorem b9.trans{H1 H2:Hp}(a:b9 H H1)(b:b9 H1 H2):b9 H H2:=λc o h=>b c o (a c o h)
theorem b9.seq(e:b9 H H')(h:bo K H a xs):bo K H' a xs:=by
 rcases h with (h|⟨o,h⟩) | h
 .exact .inl (.inl (e _ _ h))
 .exact .inl (.inr ⟨o,e _ _ h⟩)
 .exact .inr h
section
variable{X:Cx}
end
section
variable[DecidableEq κ]
end
end L2
set_option maxHeartbeats 4000000
namespace L2
open PySem PySem.Spec PyProof.Rows
inductive aQ (X:Cx):Qa (Str×Qg)->Qa Str->Qa Nat->Prop where
 | nil:aQ X [] [] []
 | cons {x:Str} {c:Qg} {j:Nat} {cl:Qa (Str×Qg)} {xs:Qa Str} {js:Qa Nat} (hN:X.N[j]?=some x) (hk:X.env.scope.names.lookup x=some .cell\/X.env.scope.names.lookup x=some .free)
   (hc:X.env.cells.lookup x=some c) (t:aQ X cl xs js):aQ X ((x,c)::cl) (x::xs) (j::js)
def zQ(X:Cx)(scope:Scope)(cl:Qa (Str×Qg))(Nc:Qa Str)(C:Qg)(s:Qd)(H:Hp)(ex:Qa Qg):Cx :=
 {X with be:=s,aA:=H,env:=compEnvC scope (cellsFrom (C+1) scope.names cl) C X.env,N:=Nc,outer:=X.stack,stack:=X.stack,ex:=ex,fn:=λx=>scope.names.lookup x==some .cell,pn:=[],xe:=λ_ _=>False}
def c0(nt:Nat)(js:Qa Nat)(σ:St):St:=List.replicate nt none++js.map λj=>σ.getD j none
def Wk(a b:St):Prop:=a.length=b.length/\∀ (i:Nat) (v:V),a[i]?=some (some v)->b[i]?=some (some v)
theorem Tn{a:St}{x:Qb V}(h:a[i]?=some none):Wk a (a.set i x):=by
 refine⟨by simp,λj v e=>?_⟩;have ne:i≠j:=by intro z; rw[z,e]at h; cases h
 rw[qE ne];exact e
theorem E5(h:i < nt):(c0 nt js σ)[i]?=some none:=by
 unfold c0;rw[List.getElem?_append_left (by simpa using h),List.getElem?_replicate,if_pos h]
theorem p7{X:Cx}{xs:Qa Str}(f:aQ X cl xs js):∀ x c,cl.lookup x=some c->X.env.cells.lookup x=some c:=by
 induction f with
 | nil=>intro x c e; cases e
 | @cons y d j cl xs js hN hk hc t ih=>
  intro x c e;rw[List.lookup_cons]at e
  by_cases q:x=y
  .subst q
   rw[beq_self_eq_true]at e;injection e with e1;rw[<-e1];exact hc
  .rw[beq_eq_false_iff_ne.mpr q]at e
   exact ih x c e
theorem MM{X:Cx}{xs:Qa Str}(f:aQ X cl xs js):∀ x,x∈xs->∃ c,cl.lookup x=some c:=by
 induction f with
 | nil=>intro x m; cases m
 | @cons y d j cl xs js hN hk hc t ih=>
  intro x m;rw[List.lookup_cons]
  by_cases q:x=y
  .subst q
   rw[beq_self_eq_true];exact⟨d,rfl⟩
  .rw[beq_eq_false_iff_ne.mpr q]
   rcases qx.mp m with z|z
   .exact absurd z q
   .exact ih x z
theorem YD{X:Cx}{xs:Qa Str}(f:aQ X cl xs js):∀ (i:Nat) (x:Str) (σ:St) (v:V),xs[i]?=some x->(js.map λj=>σ.getD j none)[i]?=some (some v)->
  ∃ j:Nat,X.N[j]?=some x/\σ[j]?=some (some v)/\(X.env.scope.names.lookup x=some .cell\/X.env.scope.names.lookup x=some .free)/\(∃ c,X.env.cells.lookup x=some c):=by
 induction f with
 | nil=>intro i x σ v e; simp at e
 | @cons y d j cl xs js hN hk hc t ih=>
  intro i x σ v e1 e2;cases i with
  | zero=>
   simp only[List.getElem?_cons_zero,Option.some.injEq]at e1;subst e1;refine⟨j,hN,?_,hk,d,hc⟩;simp only[List.map_cons,List.getElem?_cons_zero,Option.some.injEq]at e2;rw[qD]at e2;cases q:σ[j]? with
   | none=>rw[q]at e2; cases e2
   | some o=>rw[q]at e2; simp at e2; rw[e2]
  | succ i=>
   exact ih i x σ v (by simpa using e1) (by simpa using e2)
theorem Gx:∀ {names:Qa (Str×NameKind)} {x:Str} {k:NameKind},
  (names.map λ(n,k)=>if(k==NameKind.free && env.scope.kind==.function && env.kindOf n==some .cell)then(n,NameKind.cell)else(n,k)).lookup x=some k->
  ∃ k0,names.lookup x=some k0/\(x,k0)∈names/\(k=k0\/(k0=.free/\k=.cell)):=by
 intro names
 induction names with
 | nil=>intro x k e; cases e
 | cons p r ih=>
  intro x k e;obtain⟨n,kn⟩:=p
  by_cases q:x=n
  .subst q
   refine⟨kn,by rw[List.lookup_cons,beq_self_eq_true],qq,?_⟩;rw[List.map_cons]at e;change List.lookup x ((if(kn==NameKind.free && env.scope.kind==.function && env.kindOf x==some .cell)=true then(x,NameKind.cell)else(x,kn))::_)=_ at e
   by_cases hh:(kn==NameKind.free && env.scope.kind==.function && env.kindOf x==some .cell)=true
   .rw[if_pos hh,List.lookup_cons,beq_self_eq_true]at e
    injection e with e1;refine .inr ⟨?_,e1.symm⟩;simp only[Bool.and_eq_true]at hh;exact by simpa using hh.1.1
   .rw[if_neg hh,List.lookup_cons,beq_self_eq_true]at e
    injection e with e1;exact .inl e1.symm
  .rw[List.map_cons]at e
   change List.lookup x ((if(kn==NameKind.free && env.scope.kind==.function && env.kindOf n==some .cell)=true then(n,NameKind.cell)else(n,kn))::_)=_ at e;have e':(r.map λ(n,k)=>if(k==NameKind.free && env.scope.kind==.function && env.kindOf n==some .cell)then(n,NameKind.cell)else(n,k)).lookup x=some k:=by
    by_cases hh:(kn==NameKind.free && env.scope.kind==.function && env.kindOf n==some .cell)=true
    .rw[if_pos hh,List.lookup_cons,beq_eq_false_iff_ne.mpr q]at e
     exact e
    .rw[if_neg hh,List.lookup_cons,beq_eq_false_iff_ne.mpr q]at e
     exact e
   obtain⟨k0,h1,h2,h3⟩:=ih e';refine⟨k0,by rw[List.lookup_cons,beq_eq_false_iff_ne.mpr q]; exact h1,qp _ h2,h3⟩
theorem Zf{X:Cx}{xs:Qa Str}(f:aQ X cl xs js):js.length=xs.length:=by
 induction f with
 | nil=>rfl
 | cons _ _ _ _ ih=>simp[ih]
structure oX (scope:Scope) (xs:Qa Str):Prop where
 kind:scope.kind=.function
 cell:∀ y∈scope.names,y.2=.cell->scope.names.lookup y.1=some .cell
 names:∀ y∈scope.names,y.2=.local->scope.names.lookup y.1=some .local
 free:∀ y∈scope.names,y.2=.free->y.1∈xs
 fk:∀ x∈xs,scope.names.lookup x=some .free
theorem mL:∀ (ns:Qa (Str×NameKind)) (n:Nat) (acc:Qa (Str×Qg)),cellsFrom n ns acc=cellsFrom n ns []++acc
 | [],_,_=>rfl
 | (x,k)::r,n,acc=>by
  unfold cellsFrom;split
  .rw[mL r (n+1) ((x,n)::acc),mL r (n+1) [(x,n)],List.append_assoc]
   rfl
  .exact mL r n acc
theorem ER:∀ (ns:Qa (Str×NameKind)) (n:Nat) {x:Str} {c:Qg},(x,c)∈cellsFrom n ns []->(x,NameKind.cell)∈ns
 | [],_,_,_,h=>by cases h
 | (y,k)::r,n,x,c,h=>by
  unfold cellsFrom at h;split at h
  .rename_i hk
   rw[mL,List.mem_append]at h;rcases h with h|h
   .exact qp _ (ER r _ h)
   .cases qr.mp h
    cases eq_of_beq hk;exact qq
  .exact qp _ (ER r _ h)
theorem Aq:∀ (ns:Qa (Str×NameKind)) (n:Nat) {x:Str},(x,NameKind.cell)∈ns->∃ c,(cellsFrom n ns []).lookup x=some c
 | [],_,_,h=>by cases h
 | (y,k)::r,n,x,h=>by
  unfold cellsFrom;rcases qx.mp h with e|h'
  .cases e
   rw[if_pos (by rfl:(NameKind.cell==NameKind.cell)=true),mL,List.lookup_append];cases(cellsFrom (n+1) r []).lookup y with
   | none=>exact⟨n,by rw[List.lookup_cons,beq_self_eq_true]; rfl⟩
   | some c=>exact⟨c,rfl⟩
  .split
   .obtain⟨c,e⟩:=Aq r (n+1) h'
    rw[mL,List.lookup_append,e];exact⟨c,rfl⟩
   .exact Aq r n h'
theorem uX{ns:Qa (Str×NameKind)}{acc:Qa (Str×Qg)}{c:Qg}(h:(cellsFrom n ns acc).lookup x=some c):(cellsFrom n ns []).lookup x=some c\/(acc.lookup x=some c/\(cellsFrom n ns []).lookup x=none):=by
 rw[mL,List.lookup_append]at h;cases e:(cellsFrom n ns []).lookup x with
 | none=>rw[e]at h; exact .inr ⟨h,rfl⟩
 | some d=>rw[e]at h; exact .inl h
theorem Jz{ns:Qa (Str×NameKind)}{acc:Qa (Str×Qg)}{c:Qg}(h:(cellsFrom n ns []).lookup x=some c):(cellsFrom n ns acc).lookup x=some c:=by
 rw[mL,List.lookup_append,h];rfl
theorem L8{M:Model}{globals:Qg}{bs:Qg}{Q:Env->Qd->Prop}
  (hQ:∀ h1,h1.Ns s.heap.objs.size (λ_=>none)->(∀ b o,s.heap.get? b=some o->h1.get? b=some o)->CellsOk h1 (s.heap.objs.size+1) (cellsFrom (s.heap.objs.size+1) scope.names [])->
   Q (newEnv scope s.heap.objs.size globals (cellsFrom (s.heap.objs.size+1) scope.names cl) qual none .none (some env) bs) {s with heap:=h1}):
  wpAny M A (newFunctionEnv scope globals cl [] qual none .none (some env) bs) Q E s:=by
 simp only[newFunctionEnv,Option.isSome_some,if_true];refine qc (wpAny_alloc ?_);refine qc (wpAny_layCells _ (λname kind cells=>by cases hkc:kind==NameKind.cell<;>simp[hkc]) _ _ _ _ ?_);have ok:=cellsFrom_ok scope.names (s.heap.push {cls:=.type "dict",data:=.dict #[]}) (s.heap.objs.size+1) [] ⟨λ_ _ hm=>(nomatch hm),List.Pairwise.nil⟩ (by rw[Heap.size_push]; exact qg _);rw[Heap.size_push]at ok;rw[show({s with heap:=s.heap.push {cls:=.type "dict",data:=.dict #[]}}:Qd).heap.objs.size=s.heap.objs.size+1 from þ ..];rw[List.forIn_nil];exact qc (qd (qd (hQ _ ((Heap.Ns.new s.heap (.type "dict")).keeps (pushCells_keeps _ _)) (λb o e=>pushCells_keeps _ _ b o (qf _ e)) ok)))
section
variable{X:Cx}{xs:Qa Str}{ts:Qa Str}{C:Qg}
theorem E4{hx:Heap}(I:Inv X pins σ H s)(S:oX scope xs)(f:aQ X cl xs js)(ck:CellsOk hx (C+1) (cellsFrom (C+1) scope.names []))(hC:s.heap.objs.size<=C)(hf:∀ b∈fp,fU X pins H b)(hl:∀ b∈fp,b < s.heap.objs.size):
  (zQ X scope cl (ts++xs) C s H fp).Ok where
 mod:=I.ok.mod
 kind:=S.kind
 glob:=I.ok.glob
 blt:=I.ok.blt
 above:=hC
 inj:=λx y c e1 e2=>by
  have no:∀ {x y:Str},(cellsFrom (C+1) scope.names []).lookup x=some c->cl.lookup y=some c->False:=λz1 z2=>by
   obtain⟨v,o,q,_⟩:=I.cell _ c (p7 f _ c z2);have q1:=qj q;have q2:=(ck.empty _ _ (mem_of_lookup z1)).2;exact Ì _ (qk q1 (qB hC (qB (ñ C) q2)))
  rcases uX e1 with z1|⟨z1,_⟩<;>rcases uX e2 with z2|⟨z2,_⟩
  .exact name_of_addr ck.apart (mem_of_lookup z1) (mem_of_lookup z2)
  .exact(no z1 z2).elim
  .exact(no z2 z1).elim
  .exact I.ok.inj x y c (p7 f x c z1) (p7 f y c z2)
 has:=λx h=>by
  have z:∃ k0,scope.names.lookup x=some k0/\(x,k0)∈scope.names/\(k0=NameKind.free\/k0=NameKind.cell):=by
   rcases h with h|h
   .obtain⟨k0,h1,h2,h3⟩:=Gx (env:=X.env) (names:=scope.names) h
    rcases h3 with h3|h3
    .exact⟨k0,h1,h2,.inr h3.symm⟩
    .exact⟨k0,h1,h2,.inl h3.1⟩
   .obtain⟨k0,h1,h2,h3⟩:=Gx (env:=X.env) (names:=scope.names) h
    rcases h3 with h3|h3
    .exact⟨k0,h1,h2,.inl h3.symm⟩
    .cases h3.2
  obtain⟨k0,_,h2,h3⟩:=z;show ∃ c,(cellsFrom (C+1) scope.names cl).lookup x=some c;rcases h3 with h3|h3
  .obtain⟨c,e⟩:=MM f x (S.free _ h2 h3)
   rw[mL,List.lookup_append,e];cases(cellsFrom (C+1) scope.names []).lookup x with
   | none=>exact⟨c,rfl⟩
   | some d=>exact⟨d,rfl⟩
  .subst h3
   obtain⟨c,e⟩:=Aq scope.names (C+1) h2;exact⟨c,Jz e⟩
 vK:=λx c h e=>by
  obtain⟨d,q⟩:=Aq scope.names (C+1) (mem_of_lookup (eq_of_beq h));have e':(cellsFrom (C+1) scope.names cl).lookup x=some c:=e;rw[Jz q]at e';cases e';have:=(ck.empty _ _ (mem_of_lookup q)).2;show s.heap.objs.size<=c;omega
 hd:=I.ok.hd
 frames:=I.ok.frames
 xp:=.inl rfl
 yk:=λb hb=>⟨ql (qk (hl b hb) hC),λx c e=>by
  rcases uX e with z|⟨z,_⟩
  .have q1:=(ck.empty _ _ (mem_of_lookup z)).2
   exact ü (qk (hl b hb) (qB hC (qB (ñ C) q1)))
  .exact(hf b hb).2.2.2.2.1 x c (p7 f x c z)⟩
 bs:=I.bs
 ni:=qB I.ok.ni I.sz
 jF:=λb o e hb=>by
  rcases(hf b hb).2.2.2.1 with z|z
  .exact I.ok.jF b o e z
  .exact absurd (qk (qj (I.ok.bs b o e).1) z) (Ì _)
 lO:=λb hb z=>by
  rcases qx.mp (I.ft b z)with q|q
  .exact(hf b hb).2.1 q
  .exact(hf b hb).2.2.1 q
 dM:=I.stack
 qZ:=I.i3
theorem L7{m:Str->Qb Qc}{h1:Heap}{tk:Nat}(I:Inv X pins σ H s)(S:oX scope xs)(f:aQ X cl xs js)(hZ:ts.length=nt)(hC:s.heap.objs.size<=C)(hf:∀ b∈fp,fU X pins H b)(hl:∀ b∈fp,b < s.heap.objs.size)
  (hk:∀ b o,s.heap.get? b=some o->h1.get? b=some o) (hn:h1.Ns C m) (ck:CellsOk h1 (C+1) (cellsFrom (C+1) scope.names [])):Inv (zQ X scope cl (ts++xs) C s H fp) [] (c0 nt js σ) H {s with heap:=h1,toks:=tk} where
 ok:=E4 I S f ck hC hf hl
 os:=rfl
 bare:=I.bare
 base:=Un.kept hk
 loc:=by
  refine⟨m,hn,λi x v e1 e2 e3=>?_⟩;have hi:nt<=i:=by
   rcases è i nt with z|z
   .rw[E5 z]at e2; cases e2
   .exact z
  have Cv:xs[i - nt]?=some x:=by
   have z:(ts++xs)[i]?=some x:=e1;rw[List.getElem?_append_right (by omega),hZ]at z;exact z
  have e2':(js.map λj=>σ.getD j none)[i - nt]?=some (some v):=by
   unfold c0 at e2;rw[List.getElem?_append_right (by simpa using hi),List.length_replicate]at e2;exact e2
  obtain⟨j,hN,hσ,Qx,c,hc⟩:=YD f (i - nt) x σ v Cv e2';obtain⟨m0,_,xT⟩:=I.loc;obtain⟨u,r,lk⟩:=xT j x v hN hσ (.inr Qx);refine⟨u,r,.inr ⟨?_,?_⟩⟩
  .rcases e3 with z|z|z
   .have hx:x∈xs:=å Cv
    obtain⟨k0,h1,h2,h3⟩:=Gx (env:=X.env) (names:=scope.names) z;have q:=S.fk x hx;rw[h1]at q;cases q;rcases h3 with h3|h3
    .cases h3
    .cases h3.2
   .exact .inl z
   .exact .inr z
  .obtain⟨c',jO⟩:=MM f x (å Cv)
   have no:(cellsFrom (C+1) scope.names []).lookup x=none:=by
    cases e:(cellsFrom (C+1) scope.names []).lookup x with
    | none=>rfl
    | some d=>
     have z:=S.cell _ (ER _ _ (mem_of_lookup e)) rfl;rw[S.fk x (List.mem_of_getElem? Cv)]at z;cases z
   refine⟨c',?_,?_⟩
   .show(cellsFrom (C+1) scope.names cl).lookup x=some c'
    rw[mL,List.lookup_append,no,jO];rfl
   have q:=p7 f x c' jO;rcases lk with⟨l1,_⟩|⟨_,c'',l2,l3⟩
   .exfalso
    have P9:X.env.scope.names.lookup x=some .local:=l1;rcases Qx with z|z<;>rw[z]at P9<;>cases P9
   .rw[q]at l2
    cases l2;exact l3.keeps hk
 cell:=λx c e=>by
  rcases uX e with z|⟨z,_⟩
  .exact⟨_,(ck.empty _ _ (mem_of_lookup z)).1⟩
  .obtain⟨v,z⟩:=I.cell x c (p7 f x c z)
   exact⟨v,z.keeps hk⟩
 free:=I.aD.fresh hC
 bD:=λx c e=>by
  rcases uX e with z|⟨z,_⟩
  .exact I.aD.fresh (by have:=(ck.empty _ _ (mem_of_lookup z)).2; omega)
  .exact I.bD x c (p7 f x c z)
 pin:=λp hp=>by cases hp
 aD:=I.aD.kept hk
 len:=by
  show(c0 nt js σ).length=(ts++xs).length;unfold c0;rw[qv,qv,List.length_replicate,List.length_map,hZ];rw[Zf f]
theorem ML{o:HO}(x:cI P w K H h)(hn:H a=none)(new:bT P w K (upd H a o) h a o):cI P w K (upd H a o) h:=λb u e=>by
 by_cases hb:b=a
 .subst hb; rw[zx]at e; cases e; exact new
 .rw[zH hb]at e
  exact(x b u e).d9 (λ_ _ _ q=>q) (λc q=>(zH (jz q hn)).trans q) λc ys q=>(zH (jz q hn)).trans q
theorem L6{fs ex:Qa Qg}{H1:Hp}{h1:Heap}{o:HO}(u:Un fs ex H H1 h h1)(hn:H1 a=none)(ha:h.objs.size<=a):Un fs ex H (upd H1 a o) h h1 where
 keep:=u.keep
 slot:=u.slot
 free:=λb ob q n hx=>(zH (ql (qk (qj q) ha))).trans (u.free b ob q n hx)
 there:=u.there
 fq:=λb ys q=>(zH (jz (u.fq b ys q) hn)).trans (u.fq b ys q)
 eA:=λb ob ys q=>(zH (jz (u.eA b ob ys q) hn)).trans (u.eA b ob ys q)
 fO:=λb ps q=>by
  obtain⟨more,e⟩:=u.fO b ps q;exact⟨more,(zH (jz e hn)).trans e⟩
def km(X:Cx)(ifs:Qa Expr)(t:TT):Prop :=
 ∀ (pins:Qa (Qg×Obj)) (s:Qd) (σ:St) (H:Hp) (Q:Bool->Hp->Prop),Inv X pins σ H s->t σ H Q->
  wpAny (model X.prog X.w) X.A (forIn ifs true λc r=>if r=true then do let ok <-isTrue c X.env (eval c X.env); pure (ForInStep.yield ok)else pure (ForInStep.yield r)) (TP X pins σ Q) X.xe s
def Dm:TT:=λ_ H Q=>Q true H
theorem YC{X:Cx}:km X [] Dm:=λ_ _ _ H _ I h=>wpAny_tests_nil ⟨H,I,h⟩
theorem YB{X:Cx}{c:Expr}{t:TT}(h:PT X c t):km X [c] t:=λpins s σ H Q I q=>wpAny_tests_one (h pins s σ H Q I q)
theorem rO{t:Sem α}{Q Q':α->Qd->Prop}{M:Model}(h:wpAny M A t Q (λ_ _=>False) s)(hQ:∀ a s,Q a s->Q' a s):wpAny M A t Q' E s:=wpAny_mono h hQ λ_ _ x=>x.elim
theorem zm6{target:Expr}{it acc:Qc}(I:Nat->Qd->Prop)
  (turn:∀ n s,I n s->∀ E,wpAny (model prog w) A (pyNext it) (λr s1=>match r with
   | none=>R (.ok .next) s1
   | some v=>wpAny (model prog w) A (letOwnedTupleGo target it v) (λ_ s2=>wpAny (model prog w) A (assign target env v) (λ_ s3=>
     wpAny (model prog w) A (forIn ifs true λc r=>if r=true then do let ok <-isTrue c env (eval c env); pure (ForInStep.yield ok)else pure (ForInStep.yield r)) (λok s4=>
      (ok=true->wpAny (model prog w) A (eval elt env) (λx s5=>wpAny (model prog w) A (call (.builtin "list.append") [acc,x]) (λ_ s6=>∃ m,m < n/\I m s6) E s5) E s4)/\
      (ok=false->∃ m,m < n/\I m s4)) E s3) E s2) E s1) E s)
  (n:Nat) (h:I n s):codeAny (model prog w) A (.compLoop (.ListComp elt [⟨target,iter,ifs,0⟩] scope pos) 0 it acc env) R s:=by
 refine codeAny_loop rfl I (λn s hI=>?_) n h;show wpAny _ A ((compTurn _ 0 it acc env).onRaise (λx=>do noteFrame x env; theTreesLotGoes x)) _ _ s;refine wpAny_noted ?_;rw[compTurn_list];refine qc (wpAny_standAt (qc (wpAny_mono (turn n s hI _) (λr s1 h1=>?_) λ_ _ z=>z)));cases r with
 | none=>exact qd h1
 | some v=>
  refine qc (wpAny_mono h1 (λ_ s2 h2=>?_) λ_ _ z=>z);refine qc (wpAny_mono h2 (λ_ s3 h3=>?_) λ_ _ z=>z);refine qc (wpAny_mono h3 (λok s4 h4=>?_) λ_ _ z=>z);cases ok with
  | false=>exact qd ⟨rfl,h4.2 rfl⟩
  | true=>
   refine qc (qc (wpAny_mono (h4.1 rfl) (λx s5 h5=>?_) λ_ _ z=>z));exact qc (wpAny_mono h5 (λ_ s6 h6=>qd (qd ⟨rfl,h6⟩)) λ_ _ z=>z)
def Pu(J:It)(jk:St)(g:TG)(tt:TT)(te:TE)(Z:Qa V->Hp->Prop)(H1:Hp):Prop :=
 ∃ W:Nat->Nat->Qa V->Hp->Prop,(∃ m,W 0 m [] H1)/\∀ i m ys H,W i m ys H->
  (J.stop i H/\Z ys H)\/(J.go i H/\ys.length < sizeLine/\∃ N:Qa V->Hp->Prop,(∀ nZ H',N nZ H'->∃ m',m' < m/\W (i+1) m' nZ H')/\
   ∀ x H',J.vg i H x H'->g x jk H' λeW H2=>tt eW H2 λb H3=>if b=true then te eW H3 λy H4=>N (ys++[y]) H4 else N ys H3)
def GW(jk:St)(g:TG):Prop:=∀ x H (Q:St->Hp->Prop),g x jk H Q->g x jk H λeW H2=>Wk jk eW/\Q eW H2
theorem M6{J:It}{Z:Qa V->Hp->Prop}
  (hc:X.calm=true) (I:Inv X pins σ H s) (S:oX scope xs) (f:aQ X cl xs js) (hZ:ts.length=nt) (T:Turn X.prog X.w X.K tg J fp it tn) (st:tn 0 s.heap) (hf:∀ b∈fp,fU X pins H b)
  (hg:∀ C s H ex,PG (zQ X scope cl (ts++xs) C s H ex) tg g) (ht:∀ C s H ex,km (zQ X scope cl (ts++xs) C s H ex) ifs tt) (he:∀ C s H ex,PE (zQ X scope cl (ts++xs) C s H ex) elt te)
  (gw:GW (c0 nt js σ) g) (h:Pu J (c0 nt js σ) g tt te Z H)
  (Ih:∀ (D C:Qg) (m:Str->Qb Qc) (s':Qd) (ys:Qa V) (H':Hp),Z ys H'->H' D=none->Inv X pins σ (upd H' D (.lst ys)) s'->s'.heap.Ns C m->upd H' D (.lst ys) C=none->C≠X.env.locals->
   (∀ x c,X.env.cells.lookup x=some c->c≠C)->X.be.heap.objs.size<=C->(∀ p∈X.pn++pins,p.1≠C)->RR (.ref D) C (.ok .next) s'):
  wpAny (model X.prog X.w) X.A (newList []) (λacc s3=>wpAny (model X.prog X.w) X.A (newFunctionEnv scope X.env.globals cl [] X.env.qual none .none (some X.env)) (λlQ s4=>
   codeAny (model X.prog X.w) X.A (.compStart (.ListComp elt [⟨tg,iter,ifs,0⟩] scope pos) 0 (.ref it) acc {lQ with scope:=relabel scope X.env}) (RR acc lQ.locals) s4) E s3) E s:=by
 refine qC (L8 λh1 qU iG ck=>?_);dsimp only at qU iG ck ⊢;generalize Ii:s.heap.push {cls:=.type "list",dict:=none,data:=.seq ([]:Qa Qc).toArray}=G at qU iG ck ⊢;have mZ:G.objs.size=s.heap.objs.size+1:=by rw[<-Ii,Heap.size_push]
 have hC:s.heap.objs.size<=G.objs.size:=by rw[mZ]; exact ñ _
 have QV:s.heap.objs.size≠G.objs.size:=by rw[mZ]; exact ql (Ü _)
 have hl:∀ b∈fp,b < s.heap.objs.size:=λb hb=>by
  obtain⟨o,e,_⟩:=T.obj _ _ st b hb;exact qj e
 have old:∀ b o,s.heap.get? b=some o->h1.get? b=some o:=λb o e=>
  iG b o (Ii▸qf _ e)
 have hD1:h1.get? s.heap.objs.size=some {cls:=.type "list",data:=.seq ([]:Qa Qc).toArray}:=iG _ _ (Ii▸qi _ rfl);have J0:Inv (zQ X scope cl (ts++xs) G.objs.size s H fp) [] (c0 nt js σ) H {s with heap:=h1}:=L7 (tk:=s.toks) I S f hZ hC hf hl old qU ck;obtain⟨W,⟨m0,w0⟩,turn⟩:=h;have og:tn 0 h1:=T.keep _ _ _ st λb hb o e=>old b o e;have Ij:H s.heap.objs.size=none:=I.aD.fresh (qg _);have yz:∀ b∈fp,s.heap.objs.size≠b:=λb hb z=>absurd (hl b hb) (by rw[<-z]; exact Ì _);have tV:∀ {H':Hp} {pl:Qa (Qg×Obj)},(∀ b∈fp,H' b=none)->(∀ p∈pl,p.1=s.heap.objs.size)->∀ b∈fp,fU (zQ X scope cl (ts++xs) G.objs.size s H fp) pl H' b:=λ{H' pl} hn hp b hb=>by
  refine⟨hn b hb,ql (qk (hl b hb) hC),λz=>?_,.inl hb,λx c e=>((E4 I S f ck hC hf hl (ts:=ts)).yk b hb).2 x c e,λp HN z=>?_⟩
  .rcases qx.mp (I.ft b z)with q|q
   .exact(hf b hb).2.1 q
   .exact(hf b hb).2.2.1 q
  .rcases Í.mp HN with q|q
   .cases q
   .exact yz b hb ((hp p q).symm.trans z)
 have loop:codeAny (model X.prog X.w) X.A (.compLoop (.ListComp elt [⟨tg,iter,ifs,0⟩] scope pos) 0 (.ref it) (.ref s.heap.objs.size) (compEnvC scope (cellsFrom (G.objs.size+1) scope.names cl) G.objs.size X.env)) (RR (.ref s.heap.objs.size) G.objs.size)
   {s with heap:=h1}:=by
  refine zm6 (λn s'=>∃ i ys ah nn H',Inv (zQ X scope cl (ts++xs) G.objs.size s H fp) [] (c0 nt js σ) H' s'/\tn i s'.heap/\(∀ b∈fp,H' b=none)/\H' s.heap.objs.size=none/\
   s'.heap.get? s.heap.objs.size=some {cls:=.type "list",data:=.seq (List.toArray ah) nn}/\zV ys ah/\ys.length<=sizeLine/\W i n ys H') ?_ m0
   ⟨0,[],[],0,H,J0,og,λb hb=>(hf b hb).1,Ij,hD1,.nil,È _,w0⟩
  rintro n s3 ⟨i,ys,ah,nn,H3,I3,qF,q5,d3,o3,r3,z3,w3⟩ E';have nh:s.heap.objs.size≠(zQ X scope cl (ts++xs) G.objs.size s H fp).env.locals:=QV;have RI:Inv (zQ X scope cl (ts++xs) G.objs.size s H fp) [(s.heap.objs.size,{cls:=.type "list",data:=.seq ah.toArray nn})] (c0 nt js σ) H3 s3:=I3.cZ λp hp=>by
   have e:p=(s.heap.objs.size,{cls:=.type "list",data:=.seq ah.toArray nn}):=by simpa using hp
   subst e;refine⟨o3,d3,nh,λz=>?_,λv z=>by cases z⟩;obtain⟨_,ob,e,_⟩:=I.stack.mem z;exact absurd (qj e) (Ì _)
  have Hg:∀ p∈[(s.heap.objs.size,({cls:=.type "list",data:=.seq ah.toArray nn}:Obj))],p.1=s.heap.objs.size:=λp hp=>by
   have e:p=(s.heap.objs.size,{cls:=.type "list",data:=.seq ah.toArray nn}):=by simpa using hp
   rw[e]
  rcases turn i n ys H3 w3 with⟨stop,qz⟩|⟨go,hsz,N,hN,step⟩
  .refine aI (T.done (zQ X scope cl (ts++xs) G.objs.size s H fp) rfl rfl rfl hc i _ s3 _ H3 E' RI (tV q5 Hg) qF stop) λr s4 ⟨hr,I4⟩=>?_
   subst hr;have o4:s4.heap.get? s.heap.objs.size=some {cls:=.type "list",data:=.seq ah.toArray nn}:=(I4.pin _ (qy _ qq)).1;obtain⟨m4,n4,_⟩:=I4.loc;have hk4:cI X.prog X.w X.K (upd H3 s.heap.objs.size (.lst ys)) s4.heap:=ML I4.aD d3 ⟨z3,ah,nn,r3,o4⟩;have un4:Un (jP X.stack) fp H (upd H3 s.heap.objs.size (.lst ys)) s.heap s4.heap:=L6 I4.base d3 (qg _);refine Ih _ _ m4 s4 ys H3 qz d3 (I.rl I4.os un4 hk4 I4.bare λb hb=>⟨(hf b hb).2.2.2.1,(hf b hb).2.1,(hf b hb).2.2.2.2.1,λp hp=>(hf b hb).2.2.2.2.2 p hp⟩) n4 ?_ ?_ ?_ ?_ ?_
   .rw[zH (Ne.symm QV)]
    exact I4.free
   .exact λz=>absurd I.lt (by rw[<-z]; exact Nat.not_lt.mpr hC)
   .intro x c e z
    obtain⟨v,ob,q,_⟩:=I.cell x c e;exact absurd (qj q) (by rw[z]; exact Nat.not_lt.mpr hC)
   .exact qB I.sz hC
   .intro p hp z
    have q:=(I.pin p hp).1;exact absurd (qj q) (by rw[z]; exact Nat.not_lt.mpr hC)
  .refine aI (T.item (zQ X scope cl (ts++xs) G.objs.size s H fp) rfl rfl rfl hc i _ s3 _ H3 E' RI (tV q5 Hg) qF go) λr s4 ⟨u,hr,h4⟩=>?_
   subst hr;refine aI h4 λ_ s5 ⟨x,H5,I5,r5,y5,kZ,yi⟩=>?_;have yt:=I5.pinned (tV yi Hg) (T.obj _ _ kZ);refine rO (hg _ _ _ _ _ s5 _ H5 x u _ yt r5 (gw _ _ _ (step x H5 y5))) λ_ s6 ⟨lX,H6,I6,xf,q6⟩=>?_;refine rO (ht _ _ _ _ _ s6 lX H6 _ I6 q6) λok s7 ⟨H7,I7,q7⟩=>?_;have after:∀ {H8:Hp} {s8:Qd},Inv (zQ X scope cl (ts++xs) G.objs.size s H fp) ([(s.heap.objs.size,({cls:=.type "list",data:=.seq ah.toArray nn}:Obj))]++uN fp s5.heap) lX H8 s8->
     tn (i+1) s8.heap/\(∀ b∈fp,H8 b=none)/\H8 s.heap.objs.size=none/\s8.heap.get? s.heap.objs.size=some {cls:=.type "list",data:=.seq ah.toArray nn}/\
      Inv (zQ X scope cl (ts++xs) G.objs.size s H fp) [] (c0 nt js σ) H8 s8:=λ{H8 s8} I8=>by
    have dd:=I8.pin (s.heap.objs.size,({cls:=.type "list",data:=.seq ah.toArray nn}:Obj)) (qy _ (Ò _ qq));refine⟨T.keep _ _ _ kZ λb hb o e=>(I8.pin (b,o) (qy _ (qy _ (va hb e)))).1,λb hb=>?_,dd.2.1,dd.1,?_⟩
    .obtain⟨o,e,d⟩:=T.obj _ _ kZ b hb
     exact(I8.pin (b,o) (qy _ (qy _ (va hb e)))).2.1
    .exact(I8.weak xf.1 xf.2).cZ λp hp=>by cases hp
   refine⟨λaD=>?_,λaD=>?_⟩
   .subst aD
    rw[if_pos rfl]at q7;refine rO (he _ _ _ _ _ s7 lX H7 _ I7 q7) λv s8 ⟨y,H8,I8,ry,q8⟩=>?_;obtain⟨st8,fr8,d8,o8,I8'⟩:=after I8;obtain⟨m',hm,w8⟩:=hN _ _ q8;refine call_meets F.slot_list_append ⟨_,o8,rfl⟩ F.entry_list_append (F.args_list_append_2 _ _) (PySem.list_append s.heap.objs.size ah.toArray nn v (by rw[List.size_toArray,<-r3.length]; omega)) ⟨o8,?_⟩;obtain⟨_,f1,_,f3,f4,_⟩:=(⟨d8,nh,trivial,.inr (qg _),λx c e=>by
     rcases uX e with z|⟨z,_⟩
     .exact ü (qk (Ä hC (Ü _)) (ck.empty _ _ (mem_of_lookup z)).2)
     .obtain⟨v0,ob,q,_⟩:=I.cell x c (p7 f x c z)
      exact ü (qj q) |>.symm,trivial⟩:H8 s.heap.objs.size=none/\s.heap.objs.size≠(zQ X scope cl (ts++xs) G.objs.size s H fp).env.locals/\True/\(s.heap.objs.size∈fp\/s.heap.objs.size<=s.heap.objs.size)/\
      (∀ x c,(cellsFrom (G.objs.size+1) scope.names cl).lookup x=some c->c≠s.heap.objs.size)/\True)
    have q:=PySem.IsL.update o8 (λx=>x.push v);have hp:ah.toArray.push v=(ah++[v]).toArray:=by simp
    rw[hp]at q;refine⟨m',hm,i+1,ys++[y],ah++[v],_,H8,I8'.turned (t':=s8.toks) (it:=s.heap.objs.size) (λb o hb e=>(Ñ s8.heap _ (Ne.symm hb)).trans e) d8 f1 f3 f4 (λp hp=>by cases hp),?_,fr8,d8,q,r3.append (.cons ry .nil),?_,w8⟩
    .exact T.keep _ _ _ st8 λb hb o e=>(Ñ s8.heap _ (yz b hb)).trans e
    .rw[qv,List.length_singleton]
     omega
   .subst aD
    rw[if_neg qh]at q7;obtain⟨G7,Iq,d7,o7,IT⟩:=after I7;obtain⟨m',hm,w7⟩:=hN _ _ q7;exact⟨m',hm,i+1,ys,ah,nn,H7,IT,G7,Iq,d7,o7,r3,z3,w7⟩
 exact codeAny_compStart_list loop (T.self _ _ _ _ _ og loop)
def xm(wi:TI)(nt:Nat)(js:Qa Nat)(g:TG)(tt:TT)(te:TE):TE:=λσ H Q=>wi σ H λJ H1=>
 Pu J (c0 nt js σ) g tt te (λys H2=>∀ D,H2 D=none->Q (.ref D) (upd H2 D (.lst ys))) H1
theorem zAF(nt:Nat)(ts:Qa Str)(hZ:ts.length=nt)(hc:X.calm=true)(S:oX scope xs)(f:aQ X cl xs js)(fA:closureFor scope X.env=pure cl)
  (hi:PI X tg iter wi) (hg:∀ C s H ex,PG (zQ X scope cl (ts++xs) C s H ex) tg g) (gw:∀ σ:St,GW (c0 nt js σ) g) (ht:∀ C s H ex,km (zQ X scope cl (ts++xs) C s H ex) ifs tt)
  (he:∀ C s H ex,PE (zQ X scope cl (ts++xs) C s H ex) elt te) (hs:∀ x,foldedSetIterable iter X.env x=pure x:=by intro _; rfl):
  PE X (.ListComp elt [⟨tg,iter,ifs,0⟩] scope pos) (xm wi nt js g tt te):=by
 intro pins s σ H Q I h;rw[eval_ListComp];refine wpAny_comprehension_free (use:=none) rfl hs fA S.kind S.names (aI (hi pins s σ H _ I h) λv s1 h1=>aI h1 λxM s2 h2=>?_);obtain⟨it,fp,tn,J,H2,e,I2,T,jY,f2,q⟩:=h2;subst e;refine M6 (RR:=λacc C=>compPost (model X.prog X.w) X.A X.xe none (EP X pins σ Q) acc C) hc I2 S f hZ T jY f2 hg ht he (gw σ) q ?_;intro D C m s' ys H' z hD I' hn tT oO oN mZ tS;refine⟨m,hn,λh' gy=>⟨.ref D,_,I'.turned (it:=C) (λb o hb e=>gy.extBut b o hb e) tT oO (.inr mZ) oN tS,rfl,z D hD⟩⟩
end
section
variable{X:Cx}
def uB(_ j:Int):Prop:=0 < j/\j.natAbs.log2 < 9000
theorem Bh:cv X (binaryOp .FloorDiv) (rI uB λi j=>.int (i / j)):=vm λi j _ _ _ _ _ hc q=>by
 have h1:(0:Int) < j:=hc.1;exact floordiv_int (by omega) (by rw[Int.fdiv_eq_ediv_of_nonneg i (by omega)]; exact q) (.inl (PyProof.noPylong_of_log2 hc.2))
def rV(_ j:Int):Prop:=j≠0/\j.natAbs.log2 < 9000
theorem u3:cv X (binaryOp .FloorDiv) (rI rV λi j=>.int (i.fdiv j)):=vm λi j _ _ _ _ _ hc q=>
 floordiv_int hc.1 q (.inl (PyProof.noPylong_of_log2 hc.2))
theorem sP{k:Nat}(hk:0 < k)(h:n < 2^k):n.log2 < k:=by
 by_cases hn:n=0
 .subst hn; exact hk
 .exact(Nat.log2_lt hn).mpr h
theorem VL{i j:Int}(h:0 < j)(h2:j<=2^128):uB i j:=⟨h,Ô (sP (k:=129) (by decide) (by omega)) (by decide)⟩
def Dl(K:qe):Qa V->Hp->VK->Prop:=λxs H Q=>∃ x t T b,xs=[x,.ty T]/\dh K H x t/\PySem.W.kitOne K t (.type T)=some b/\Q (.bl b) H
theorem YA:e8 X (.builtin "isinstance") (Dl X.K):=by
 intro pins s σ H xs us Q I r h;obtain⟨x,t,T,b,rfl,ty,e,q⟩:=h;obtain⟨u,u',rfl,rx,rt⟩:=D0 r;cases rt;exact Z3 I rx ty e λtk=>⟨.bl b,H,I.tok tk,rfl,q⟩
end
theorem E3(h:i < nt):∀ σ:St,GW (c0 nt js σ) (jt i):=λσ x H Q q=>⟨Tn (E5 h),q⟩
def SameBut(p:Qg)(H H':Hp):Prop:=∀ b o,b≠p->H b=some o->H' b=some o
theorem zW{p:Qg}(h:H p=none)(o:HO):b9 H (upd H p o):=λb u q=>by rw[zH (jz q h)]; exact q
def Bl(mg:Str->Qb Qc)(xs:Qa Str):Prop:=∀ x,x∈xs->mg x=none
theorem Bl.nil:Bl mg []:=λ_ h=>by cases h
theorem Bl.cons{xs:Qa Str}(h:mg x=none)(t:Bl mg xs):Bl mg (x::xs):=λy m=>by
 rcases qx.mp m with e|e
 .rw[e]; exact h
 .exact t y e
def cX:Expr->Bool
 | .Starred _ _=>false
 | _=>true
theorem iX{es:Qa Expr}(h:cX e=true):starEach (e::es) env=(false,eval e env)::starEach es env:=by
 cases e<;>first|rfl|cases h
theorem pU:∀ {es:Qa Expr},es.all cX=true->(backTo pos (starEach es env)).any (·.1)=false
 | [],_=>rfl
 | e::es,h=>by
  rw[List.all_cons,Bool.and_eq_true]at h;rw[iX h.1];show(false || (backTo pos (starEach es env)).any (·.1))=false;rw[Bool.false_or];exact pU h.2
section
variable{X:Cx}{es:Qa Expr}{t:TA}{id:String}{p:Pos}
theorem zCc(ha:PE X e te)(hr:PA X es t)(hs:cX e=true:=by rfl):PA X (e::es) (mF te t):=W4 ha hr (iX hs)
theorem zAG(hc:e8 X (.builtin id) r)(hg:Gl X x)(hm:X.mg x=none)(hv:bootBuiltins x=some (.builtin id))(ha:PA X (e::es) t)(hn:x ≠ "__name__":=by decide)(fQ:(x==("__debug__":Str))=false:=by decide)
  (he:cX e=true:=by rfl) (eQ:es.all cX=true:=by rfl):PE X (.Call (.Name x p) (e::es) [] pos) (mO r t):=YJ hc hg hm hv ha hn fQ (iX he) (pU eQ)
theorem zAH(hc:e8 X (.type T) r)(hg:Gl X x)(hm:X.mg x=none)(hv:bootBuiltins x=some (.type T))(ha:PA X (e::es) t)(hn:x ≠ "__name__":=by decide)(fQ:(x==("__debug__":Str))=false:=by decide)
  (he:cX e=true:=by rfl) (eQ:es.all cX=true:=by rfl):PE X (.Call (.Name x p) (e::es) [] pos) (mO r t):=Z1 hc hg hm hv ha hn fQ (iX he) (pU eQ)
end
structure IX (P:Qe) (w:Qh) (K:qe) (mg:Str->Qb Qc) (base:Heap) (x:Str) (k:Nat) (ps:Qa Str) (sp:Sp):Prop where
 ex:∃ (f:Qg) (fd:FuncData),cD P w K mg base iT k f fd ps sp/\mE K fd ps []/\PySem.W.keepIn K (.ref f)=true/\mg x=some (.ref f)
def Dk(sp:Sp)(t:TA):TE:=λσ H Q=>t σ H λvs H1=>sp vs H1 Q E0
section
variable{X:Cx}{k:Nat}{p:Pos}{es:Qa Expr}{t:TA}
theorem Tj(C:IX X.prog X.w X.K X.mg X.base x k ps sp)(hr:aK k X.A)(hg:Gl X x)(ha:PA X (e::es) t)(fQ:(x==("__debug__":Str))=false:=by decide)
  (he:cX e=true:=by rfl) (eQ:es.all cX=true:=by rfl):PE X (.Call (.Name x p) (e::es) [] pos) (Dk sp t):=by
 obtain⟨f,fd,F,hb,hk,hm⟩:=C.ex;intro pins s σ H Q I h;refine W3 (dvs:=[]) (E:=E0) F hr hg hm hk hb .nil JA ha fQ (iX he) (pU eQ) pins s σ H Q I ?_;show t σ H λvs H1=>sp (vs++[]) H1 Q E0;have z:(λ(vs:Qa V) (H1:Hp)=>sp (vs++[]) H1 Q E0)=λvs H1=>sp vs H1 Q E0:=by
  funext vs H1
  rw[List.append_nil]
 rw[z];exact h
end
def DS(t:TS):TS:=λD σ H=>∃ J:St->Hp->Prop,t {D with nx:=J} σ H/\∀ aG H',J aG H'->D.nx aG H'
theorem VJ{X:Cx}{t:TS}(h:PS X st t):PS X st (DS t):=by
 intro pins s σ H D I ⟨J,q,z⟩;refine aI (h pins s σ H _ I q) λf s' r=>?_;cases f with
 | next=>obtain⟨aG,H',I',j⟩:=r; exact⟨aG,H',I',z _ _ j⟩
 | brk=>exact r
 | cont=>exact r
 | ret u=>exact r
theorem L5(x y:Int)(hx:0<=x)(hy:0 < y):Int.gcd y (x % y)=Int.gcd x y:=by
 obtain⟨a,rfl⟩:=ø hx;obtain⟨b,rfl⟩:=ø (â hy);rw[<-Int.natCast_emod];show Nat.gcd b (a % b)=Nat.gcd a b;rw[Nat.gcd_comm a b,Nat.gcd_comm b (a % b)];exact(Nat.gcd_rec b a).symm
theorem E2(x y:Int):Int.gcd (if x < 0 then -x else x) y=Int.gcd x y:=by
 split
 .exact Int.neg_gcd
 .rfl
structure Wr (p:Prop):Prop where
 run:p
theorem pI{xs:Qa Str}(h:Bl mg xs)(m:x∈xs):mg x=none:=h x m
theorem wK{X:Cx}{C:Qg}{ex:Qa Qg}(h:decide N.Nodup=true):(zQ X scope cl N C s H ex).N.Nodup:=of_decide_eq_true h
def gO(X:Cx)(js:Qa Nat):Qa Str:=js.map λj=>X.N.getD j ""
def g9(X:Cx)(js:Qa Nat):Qa (Str×Qg):=(gO X js).map λx=>(x,(X.env.cells.lookup x).getD 0)
def iZ:Expr->Qa Str
 | .Name x _=>[x]
 | .Tuple es _ _=>es.flatMap λe=>match e with
  | .Name x _=>[x]
  | .Tuple fs _ _=>fs.filterMap λe=>match e with
   | .Name x _=>some x
   | _=>none
  | _=>[]
 | _=>[]
def CK(nt:Nat)(g:TG):Prop:=∀ (js:Qa Nat) (σ eC:St),Wk (c0 nt js σ) eC->∀ x H (Q:St->Hp->Prop),g x eC H Q->g x eC H λeW H2=>Wk (c0 nt js σ) eW/\Q eW H2
def ug(nt:Nat)(g:h9):Prop:=∀ (js:Qa Nat) (σ eC:St),Wk (c0 nt js σ) eC->∀ x H (Q:St->Hp->Prop),g x eC H Q->g x eC H λeW H2=>Wk (c0 nt js σ) eW/\Q eW H2
theorem YT(h:i < nt):CK nt (jt i):=by
 intro js σ eC w x H Q q;refine⟨⟨by rw[List.length_set]; exact w.1,λj v e=>?_⟩,q⟩;have ne:i≠j:=by
  rintro rfl;rw[E5 h]at e;cases e
 rw[qE ne];exact w.2 j v e
theorem FA:ug nt yU:=λjs σ eC w x H Q q=>⟨q.1,w,q.2⟩
theorem Ze{gs:h9}(h1:CK nt g)(h2:ug nt gs)(mono:∀ v σ H (Q Q':St->Hp->Prop),(∀ aG H',Q aG H'->Q' aG H')->g v σ H Q->g v σ H Q'):ug nt (wj g gs):=by
 intro js σ eC w x H Q q;obtain⟨v,r,e,k⟩:=q;refine⟨v,r,e,mono _ _ _ _ _ (λaG H' ⟨w',q'⟩=>?_) (h1 js σ eC w v H _ k)⟩;exact h2 js σ aG w' r H' Q q'
theorem E1{gs:h9}(h:ug nt gs):CK nt (yT K n gs):=by
 intro js σ eC w x H Q q;obtain⟨a,xs,e,s,l,k⟩:=q;exact⟨a,xs,e,s,l,h js σ eC w xs H Q k⟩
theorem D9(h:CK nt g):∀ σ:St,GW (c0 nt js σ) g:=λσ x H Q q=>h js σ _ ⟨rfl,λ_ _ e=>e⟩ x H Q q
theorem Zd:∀ v σ H (Q Q':St->Hp->Prop),(∀ aG H',Q aG H'->Q' aG H')->jt i v σ H Q->jt i v σ H Q':=λv σ H Q Q' h q=>h _ _ q
theorem F0{gs:h9}(h:i < nt)(h2:ug nt gs):ug nt (wj (jt i) gs):=Ze (YT h) h2 Zd
section
variable{X:Cx}{p:Pos}{a b c:Expr}{es eJ:Qa Expr}{tb:TE}{t:TA}{rd:R2}{id:String}{tA mP:TT}{G6 body:Qa Stmt}{ts us:TS}{gs:h9}
theorem aa(hN:X.N[i]?=some x:=by rfl)(hv:CB X.env.scope x:=by first|exact Or.inl rfl|exact Or.inr (Or.inl rfl) | exact Or.inr (Or.inr rfl))(hd:(x==("__debug__":Str))=false:=by decide)
  (jN:(x==("__classdict__":Str))=false:=by decide):Wr (PE X (.Name x pos) (ic i)):=⟨pv i hN hv hd jN⟩
theorem zn{n:Int}:Wr (PE X (.Constant (.int n) j pos) (tC (.int n))):=⟨UC⟩
theorem uf{n:Bool}:Wr (PE X (.Constant (.bool n) j pos) (tC (.bl n))):=⟨zAp⟩
theorem zAI:Wr (PE X (.Constant .none j pos) (tC .aN)):=⟨UB⟩
theorem cL{n:Str}:Wr (PE X (.Constant (.str n) j pos) (tC (.str n))):=⟨UA⟩
theorem EO(hv:bootBuiltins x=some u)(r:zY v u)(hg:Gl X x:=by exact rfl)(hm:X.mg x=none:=by exact pI ‹Bl _ _› (by decide))(hn:x ≠ "__name__":=by decide)(hd:(x==("__debug__":Str))=false:=by decide):Wr (PE X (.Name x pos) (tC v)):=⟨WQ hg hm hv r hn hd⟩
theorem zK{op:Operator}(ho:cv X (binaryOp op) rd)(ha:Wr (PE X a ta))(hb:Wr (PE X b tb)):Wr (PE X (.BinOp a op b pos) (n9 rd ta tb)):=⟨zAs ho ha.run hb.run⟩
theorem rN{op:UnaryOp}{r:V->Hp->VK->Prop}(ho:CD X (unaryOp op) r)(ha:Wr (PE X a ta)):Wr (PE X (.UnaryOp op a pos) (BX r ta)):=⟨zAt ho ha.run⟩
theorem w_not(ha:Wr (PE X a ta)):Wr (PE X (.UnaryOp .Not a pos) (Eb ta)):=⟨Tc ha.run⟩
theorem wa{op:CmpOp}(ho:cv X (compareOp op) rd)(ha:Wr (PE X a ta))(hb:Wr (PE X b tb))(hm:behindInMarks op b=false:=by first|exact Kj _|rfl):Wr (PE X (.Compare a [op] [b] pos) (n9 rd ta tb)):=⟨WI ho ha.run hb.run hm⟩
theorem zL{op:CmpOp}(ho:cv X (compareOp op) rd)(ha:Wr (PE X a ta))(hb:Wr (PE X b tb))(hm:behindInMarks op b=false:=by first|exact Kj _|rfl):Wr (PT X (.Compare a [op] [b] pos) (D1 (n9 rd ta tb))):=⟨WH ho ha.run hb.run hm⟩
theorem zAJ{op}(h:Wr (PE X a te)):Wr (PE X (.BoolOp op [a] pos) te):=⟨Te h.run⟩
theorem zAK(ha:Wr (PE X a ta))(hb:Wr (PE X (.BoolOp .And (b::eJ) pos) tb)):Wr (PE X (.BoolOp .And (a::b::eJ) pos) (Ec ta tb)):=⟨Td ha.run hb.run⟩
theorem Lj(ha:Wr (PT X a tA)):Wr (PW X (.BoolOp .And [a] pos) tA):=⟨WO ha.run⟩
theorem rX(ha:Wr (PT X a tA)):Wr (PW X (.BoolOp .Or [a] pos) tA):=⟨Th ha.run⟩
theorem Kv(ha:Wr (PT X a tA))(hb:Wr (PW X (.BoolOp .And (b::eJ) pos) mP)):Wr (PW X (.BoolOp .And (a::b::eJ) pos) (Dy tA mP)):=⟨Tg ha.run hb.run⟩
theorem rT(ha:Wr (PT X a tA))(hb:Wr (PW X (.BoolOp .Or (b::eJ) pos) mP)):Wr (PW X (.BoolOp .Or (a::b::eJ) pos) (G4 tA mP)):=⟨zAq ha.run hb.run⟩
theorem nv(h:Wr (PW X e tA)):Wr (PT X e tA):=⟨h.run.pt⟩
theorem Ap(ha:Wr (PT X a tA)):Wr (PT X (.UnaryOp .Not a pos) (Di tA)):=⟨Tf ha.run⟩
theorem Ao(h:Wr (PE X e te))(he:∀ whole,isTrue e X.env whole=(do let v <-whole; standAt e.pos; holding [v] (truthy v)):=by intro _; rfl):Wr (PT X e (tB te)):=⟨Uz h.run he⟩
def Pr(K:qe)(ta:TE):TT:=λσ H Q=>ta σ H λx H'=>∃ k,CY K x H' k/\Q k H'
theorem zj:Wr (PA X [] pe):=⟨SY⟩
theorem ae(ha:Wr (PE X e te))(hr:Wr (PA X es t))(hs:cX e=true:=by rfl):Wr (PA X (e::es) (mF te t)):=⟨zCc ha.run hr.run hs⟩
theorem cx{x1}(h:Wr (PA X es t)):Wr (PE X (.Tuple es x1 pos) (Dv t)):=⟨TF h.run⟩
theorem gK(h:Wr (PA X es t)):Wr (PE X (.List es pos) (Du t)):=⟨TC h.run⟩
theorem bI(hc:e8 X (.builtin id) r)(hv:bootBuiltins x=some (.builtin id))(ha:Wr (PA X (e::es) t))(hg:Gl X x:=by exact rfl)(hm:X.mg x=none:=by exact pI ‹Bl _ _› (by decide))(hn:x ≠ "__name__":=by decide)(fQ:(x==("__debug__":Str))=false:=by decide)
  (he:cX e=true:=by rfl) (eQ:es.all cX=true:=by rfl):Wr (PE X (.Call (.Name x p) (e::es) [] pos) (mO r t)):=⟨zAG hc hg hm hv ha.run hn fQ he eQ⟩
theorem iq(hc:e8 X (.type T) r)(hv:bootBuiltins x=some (.type T))(ha:Wr (PA X (e::es) t))(hg:Gl X x:=by exact rfl)(hm:X.mg x=none:=by exact pI ‹Bl _ _› (by decide))(hn:x ≠ "__name__":=by decide)(fQ:(x==("__debug__":Str))=false:=by decide)
  (he:cX e=true:=by rfl) (eQ:es.all cX=true:=by rfl):Wr (PE X (.Call (.Name x p) (e::es) [] pos) (mO r t)):=⟨zAH hc hg hm hv ha.run hn fQ he eQ⟩
theorem zz{k:Nat}(ha:Wr (PA X (e::es) t))(C:IX X.prog X.w X.K X.mg X.base x k ps sp:=by assumption)(hr:aK k X.A:=by exact aK.mono ‹aK _ _› (by decide))(hg:Gl X x:=by exact rfl)(fQ:(x==("__debug__":Str))=false:=by decide)
  (he:cX e=true:=by rfl) (eQ:es.all cX=true:=by rfl):Wr (PE X (.Call (.Name x p) (e::es) [] pos) (Dk sp t)):=⟨Tj C hr hg ha.run fQ he eQ⟩
theorem zJ(hr:t5 X rd)(ha:Wr (PE X a ta))(hb:Wr (PE X b tb))(hs:Ll b:=by exact λ_ _=>rfl):Wr (PE X (.Subscript a b pos) (n9 rd ta tb)):=⟨zAy hr ha.run hb.run hs⟩
theorem AX:Wr (PO X none E8):=⟨W1⟩
theorem p5(h:Wr (PE X e te)):Wr (PO X (some e) (DZ te)):=⟨W0 h.run⟩
theorem uW{r:V->Qb Int->Qb Int->Hp->VK->Prop}{lo hi:Qb Expr}{tl th:TO}{p2:Pos}(hr:vN X r)(he:Wr (PE X e te))(hl:Wr (PO X lo tl))(hu:Wr (PO X hi th)):Wr (PE X (.Subscript e (.Slice lo hi none p2) pos) (G3 r te tl th)):=⟨YH hr he.run hl.run hu.run⟩
theorem sO{ta:TA}(ha:Wr (PA X [a] ta))(hg:Gl X "range":=by exact rfl)(hm:X.mg "range"=none:=by exact pI ‹Bl _ _› (by decide))(hs:cX a=true:=by rfl):Wr (PI X tg (.Call (.Name "range" p) [a] [] pos) (Ef ta)):=⟨Z8 hg hm ha.run (iX hs)⟩
theorem YS{ta:TA}(ha:Wr (PA X [a,b] ta))(hg:Gl X "range":=by exact rfl)(hm:X.mg "range"=none:=by exact pI ‹Bl _ _› (by decide))(hs:cX a=true:=by rfl)(mV:cX b=true:=by rfl):Wr (PI X tg (.Call (.Name "range" p) [a,b] [] pos) (Ee ta)):=
 ⟨Z7 hg hm ha.run ((iX hs).trans (by rw[iX mV]; rfl)) (iX mV)⟩
theorem zv(hN:X.N.Nodup:=by first|assumption|exact wK rfl)(hi:X.N[i]?=some x:=by rfl)(hx:Loc X.env.scope x:=by first|exact Or.inl rfl|exact Or.inr rfl)(hf:X.fn x=true\/X.env.scope.names.lookup x=some .local:=by first|exact .inl rfl|exact .inr rfl|assumption):Wr (PG X (.Name x pos) (jt i)):=⟨WL hN hi hx hf⟩
theorem gH:Wr (rn X [] yU):=⟨WK⟩
theorem bV(h1:Wr (PG X e g))(h2:Wr (rn X es gs))(hs:(assignEach (e::es) X.env).map (·.2)=assign e X.env::(assignEach es X.env).map (·.2):=by rfl):Wr (rn X (e::es) (wj g gs)):=⟨ZH h1.run h2.run hs⟩
theorem EN{ti:TE}{xj:yV}(ho:Wr (PE X o ta))(hi:Wr (PE X e ti))(hs:Dg X xj)
  (hh:∀ v,assign (.Subscript o e pos) X.env v=(do
   let ov <-holding [v] (eval o X.env)
   let iv <-holding [v,ov] (eval e X.env)
   standAt pos
   holding [v,ov,iv] (setItem ov iv v)
   release [v,ov,iv] []):=by intro _; rfl):Wr (PG X (.Subscript o e pos) (Df ta ti xj)):=⟨S9 ho.run hi.run hs hh⟩
theorem kN:Wr (km X [] Dm):=⟨YC⟩
theorem Eu(h:Wr (PT X c tA)):Wr (km X [c] tA):=⟨YB h.run⟩
theorem pb(hi:Wr (PI X tg iter wi))(hg:∀ {C s H ex},Wr (PG (zQ X scope (g9 X js) (iZ tg++gO X js) C s H ex) tg g))(ht:∀ {C s H ex},Wr (km (zQ X scope (g9 X js) (iZ tg++gO X js) C s H ex) ifs tt))
  (he:∀ {C s H ex},Wr (PE (zQ X scope (g9 X js) (iZ tg++gO X js) C s H ex) elt te))
  (f:aQ X (g9 X js) (gO X js) js:=by repeat (first|exact aQ.nil|refine aQ.cons rfl (by first|exact Or.inl rfl|exact Or.inr rfl) rfl ?_)) (fA:closureFor scope X.env=pure (g9 X js):=by rfl) (S:oX scope (gO X js):=by exact⟨rfl,of_decide_eq_true rfl,of_decide_eq_true rfl,of_decide_eq_true rfl,of_decide_eq_true rfl⟩) (hZ:(iZ tg).length=nt:=by rfl) (hc:X.calm=true:=by rfl) (gw:∀ σ:St,GW (c0 nt js σ) g:=by first|exact E3 (by decide) | exact D9 (E1 (by repeat (first|exact FA|refine F0 (by decide) ?_)))) (hs:∀ x,foldedSetIterable iter X.env x=pure x:=by intro _; rfl):
  Wr (PE X (.ListComp elt [⟨tg,iter,ifs,0⟩] scope pos) (xm wi nt js g tt te)):=⟨zAF nt (iZ tg) hZ hc S f fA hi.run (λC s H ex=>hg.run) gw (λC s H ex=>ht.run) (λC s H ex=>he.run) hs⟩
def Pp(K:qe):Qa V->Hp->VK->Prop:=λxs H Q=>∃ p ys,xs=[.ref p]/\(bo K H p ys\/bt K H p ys)/\Q (.int ys.length) H
def Li(K:qe):Qa V->Hp->VK->Prop:=λxs H Q=>∃ p ys,xs=[.ref p]/\(bo K H p ys\/bt K H p ys)/\∀ l,H l=none->Q (.ref l) (upd H l (.lst ys))
def L4(K:qe):Qa V->Hp->VK->Prop:=λxs H Q=>∃ p ys,xs=[.ref p]/\((bo K H p ys/\∀ l,H l=none->Q (.ref l) (upd H l (.tup ys)))\/(bt K H p ys/\Q (.ref p) H))
theorem D8(hK:X.K=K:=by rfl):e8 X (.builtin "isinstance") (Dl K):=hK▸YA
theorem dQ(hK:X.K=K:=by rfl):e8 X (.builtin "len") (Pp K):=hK▸zkh
theorem L3(hK:X.K=K:=by rfl):e8 X (.type "list") (Li K):=hK▸zki
theorem p6(hK:X.K=K:=by rfl):e8 X (.type "tuple") (L4 K):=hK▸zjh
theorem bq(hK:X.K=K:=by rfl):t5 X (Dt K):=hK▸VV
theorem zO(hK:X.K=K:=by rfl):t5 X (Ds K):=hK▸Tw
theorem Dj(hK:X.K=K:=by rfl):cv X (compareOp .In) (xt K false):=hK▸Z0
theorem VH(hK:X.K=K:=by rfl):cv X (compareOp .NotIn) (xt K true):=hK▸zkg
theorem Ah(hK:X.K=K:=by rfl):vN X (Dr K):=hK▸VR
theorem VG{l:Expr}{tl:TE}(hl:Wr (PE X l tl))(hK:X.K=K:=by rfl):Wr (PI X tg l (Eg K tl)):=hK▸⟨WJ hl.run⟩
theorem nU{l:Expr}{tl:TE}(hl:Wr (PE X l tl))(hK:X.K=K:=by rfl):Wr (PI X tg l (Dd K tl)):=hK▸⟨S5 hl.run⟩
theorem gG{k:Nat}(h:Wr (rn X es gs))(hK:X.K=K:=by rfl)(hc:X.calm=true:=by rfl)(hn:(assignEach es X.env).length=n:=by rfl)(vD:(assignEach es X.env).findIdx? (·.1)=none:=by rfl):Wr (PG X (.Tuple es k pos) (yT K n gs)):=hK▸⟨Ta hc h.run hn vD⟩
theorem zAN(ha:Wr (PE X a ta))(hK:X.K=K:=by rfl)(he:∀ whole,isTrue a X.env whole=(do let v <-whole; standAt a.pos; holding [v] (truthy v)):=by intro _; rfl):Wr (PT X a (Pr K ta)):=hK▸⟨YM ha.run he⟩
theorem dG:Wr (eU X [] Ea):=⟨WN⟩
theorem aE(h1:Wr (PS X st ts))(h2:Wr (eU X G6 us)):Wr (eU X (st::G6) (vY ts us)):=⟨FH h1.run h2.run⟩
theorem zI(h1:Wr (PS X st ts)):Wr (eU X [st] ts):=⟨LG h1.run⟩
theorem znb:Wr (PS X (.Continue pos) Ei):=⟨zlg⟩
theorem dZ(he:Wr (PE X e te))(hs:swapsWith e none pos.line X.env=pure false:=by rfl):Wr (PS X (.Expr e pos) (Eh te)):=⟨WM he.run hs⟩
theorem bp(he:Wr (PE X e te)):Wr (PS X (.Return (some e) pos) (yW te)):=⟨Tb he.run⟩
theorem bP{sa sb:Qa Stmt}(hc:Wr (PT X c tA))(ha:Wr (eU X sa ts))(hb:Wr (eU X sb us)):Wr (PS X (.If c sa sb pos) (Dh tA ts us)):=⟨zAr hc.run ha.run hb.run⟩
theorem pN(h:Wr (PS X st ts)):Wr (PS X st (DS ts)):=⟨VJ h.run⟩
theorem Lh(hc:Wr (PT X c tA))(hb:Wr (eU X body ts))(hp:PassesOwn (model X.prog X.w) X.A X.env X.xe:=by first|exact PassesOwn.never|exact PassesOwn.leaving):Wr (PS X (.While c body [] pos) (EM tA ts)):=⟨ZG hp hc.run hb.run⟩
theorem d5(hi:Wr (PI X tg iter wi))(hg:Wr (PG X tg g))(hb:Wr (eU X body ts))(hp:PassesOwn (model X.prog X.w) X.A X.env X.xe:=by first|exact PassesOwn.never|exact PassesOwn.leaving)(hc:X.calm=true:=by rfl)(hs:∀ x,foldedSetIterable iter X.env x=pure x:=by intro _; rfl):
  Wr (PS X (.For tg iter body [] pos) (yS wi g ts)):=⟨S4 hp hc hi.run hg.run hb.run hs⟩
theorem zF(he:Wr (PE X e te))(hN:X.N.Nodup:=by first|assumption|exact wK rfl)(hi:X.N[i]?=some x:=by rfl)(hx:Loc X.env.scope x:=by first|exact Or.inl rfl|exact Or.inr rfl)(hs:swapsWith e (some (.Name x pos')) pos.line X.env=pure false:=by rfl)(hf:X.fn x=true\/X.env.scope.names.lookup x=some .local:=by first|exact .inl rfl|exact .inr rfl|assumption):
  Wr (PS X (.Assign [.Name x pos'] e pos) (nC te (jt i))):=⟨S7 hN hi hx he.run hs hf⟩
theorem wu(he:Wr (PE X e te))(hg:Wr (PG X tg g))(hs:swapsWithSole [tg] e pos.line X.env=pure false:=by rfl)(hw:swappedStores [tg] e X.env=pure none:=by rfl)(h1:(assignEach [tg] X.env).map (·.2)=[assign tg X.env]:=by rfl):
  Wr (PS X (.Assign [tg] e pos) (nC te g)):=⟨S8 he.run hg.run hs hw h1⟩
theorem D7{y:Str}{ta:TA}{px py pt:Pos}{kt k2 sW}(ha:Wr (PA X [a,b] ta))(hc:X.calm=true:=by rfl)(hN:X.N.Nodup:=by first|assumption|exact wK rfl)(hi:X.N[i]?=some x:=by rfl)(hj:X.N[j]?=some y:=by rfl)(dU:i≠j:=by decide)
  (hx:X.env.scope.names.lookup x=some .local:=by rfl) (hy:X.env.scope.names.lookup y=some .local:=by rfl)
  (hw:swappedStores [.Tuple [.Name x px,.Name y py] kt pt] (.Tuple [a,b] k2 sW) X.env=pure (some [x,y]):=by rfl)
  (hs:swapsWithSole [.Tuple [.Name x px,.Name y py] kt pt] (.Tuple [a,b] k2 sW) pos.line X.env=pure false:=by rfl):
  Wr (PS X (.Assign [.Tuple [.Name x px,.Name y py] kt pt] (.Tuple [a,b] k2 sW) pos) (De i j ta)):=⟨S6 hc hN hi hj dU hx hy ha.run hw hs⟩
end
theorem jR.okW{base:Heap}{f:Qg}{k:Nat}(F:jR K x qual st f fd)(S:bH N ps (fM st))(len:∀ vs H Q E,sp vs H Q E->vs.length=ps.length)
  (cA:∀ (bE:Qc) (A:Qf) (outer:Qa Env) (s:Qd) (H:Hp) (vs:Qa V) (Q:VK) (E:XK),aK k (A.deeper (envOfC qual (fM st) s.heap.objs.size f bE))->sp vs H Q E->
   ∃ t,Wr (eU (nB iT P w K mg base N qual (fM st) f bE A outer s H E).tj (kU st) t)/\t {nx:=λ_ H'=>Q .aN H',rt:=Q} (gI N vs) H):cD P w K mg base iT (k+1) f fd ps sp :=
 F.ok S len λbE A outer s H vs Q E hr h=>let ⟨t,w,q⟩:=cA bE A outer s H vs Q E hr h; ⟨t,w.run,q⟩
mutual
inductive DV (K:qe) (H:Hp):V->PyData->Prop
 | aN:DV K H .aN .none
 | bl (b:Bool):DV K H (.bl b) (.bool b)
 | int (i:Int):DV K H (.int i) (.int i)
 | str (x:Str):DV K H (.str x) (.str x)
 | lst {a:Qg} {xs:Qa V} {ds:Qa PyData} (h:bo K H a xs) (t:gY K H xs ds):DV K H (.ref a) (.list ds)
 | tup {a:Qg} {xs:Qa V} {ds:Qa PyData} (h:bt K H a xs) (t:gY K H xs ds):DV K H (.ref a) (.tuple ds)
inductive gY (K:qe) (H:Hp):Qa V->Qa PyData->Prop
 | nil:gY K H [] []
 | cons {v:V} {d:PyData} {vs:Qa V} {ds:Qa PyData} (h:DV K H v d) (t:gY K H vs ds):gY K H (v::vs) (d::ds)
end
theorem b9.G9(e:b9 H H')(h:bt K H a xs):bt K H' a xs:=by
 rcases h with (h|⟨o,h⟩) | h
 .exact .inl (.inl (e _ _ h))
 .exact .inl (.inr ⟨o,e _ _ h⟩)
 .exact .inr h
mutual
theorem DV.same(e:b9 H H'):∀ {v:V} {d:PyData},DV K H v d->DV K H' v d
 | _,_,.aN=>.aN
 | _,_,.bl b=>.bl b
 | _,_,.int i=>.int i
 | _,_,.str x=>.str x
 | _,_,.lst h t=>.lst (e.seq h) (gY.same e t)
 | _,_,.tup h t=>.tup (e.G9 h) (gY.same e t)
theorem gY.same(e:b9 H H'):∀ {v:Qa V} {d:Qa PyData},gY K H v d->gY K H' v d
 | _,_,.nil=>.nil
 | _,_,.cons h t=>.cons (DV.same e h) (gY.same e t)
end
section
variable{X:Cx}
mutual
theorem DV.reads(I:Inv X pins σ H s):∀ {v:V} {d:PyData} {u:Qc},DV X.K H v d->zY v u->∃ as,Reads s.heap u d as
 | _,_,_,.aN,r=>by cases r; exact⟨_,.none⟩
 | _,_,_,.bl b,r=>by cases r; exact⟨_,.bool b⟩
 | _,_,_,.int i,r=>by obtain⟨t,rfl⟩:=r; exact⟨_,.int i t⟩
 | _,_,_,.str x,r=>by obtain⟨t,rfl⟩:=r; exact⟨_,.str x t⟩
 | _,_,_,.lst h t,r=>by
  cases r;obtain⟨ah,rv,⟨o,n,e1,e2,e3,e4⟩,hz⟩:=I.list h;obtain⟨as,q⟩:=gY.reads I t rv;exact⟨_,.list e1 e2 e4 q⟩
 | _,_,_,.tup h t,r=>by
  cases r;obtain⟨ah,rv,⟨o,e1,e2,n,e4⟩,hz⟩:=I.tuple h;obtain⟨as,q⟩:=gY.reads I t rv;exact⟨_,.tuple e1 e2 e4 q⟩
theorem gY.reads(I:Inv X pins σ H s):∀ {v:Qa V} {d:Qa PyData} {u:Qa Qc},gY X.K H v d->zV v u->∃ as,ReadsAll s.heap u d as
 | _,_,_,.nil,r=>by cases r; exact⟨_,.nil⟩
 | _,_,_,.cons h t,r=>by
  cases r with
  | cons r1 r2=>
   obtain⟨a1,q1⟩:=DV.reads I h r1;obtain⟨a2,q2⟩:=gY.reads I t r2;exact⟨_,.cons q1 q2⟩
end
end
section
variable{X:Cx}{p:Pos}{a b c:Expr}{es eJ:Qa Expr}{tb:TE}{t:TA}{rd:R2}{id:String}{tA mP:TT}{G6 body:Qa Stmt}{ts us:TS}{gs:h9}
theorem D6{y:Str}{py k7:Pos}(hi:Wr (PI X tg iter wi))(hg:∀ {C s H ex},Wr (PG (zQ X scope (g9 X js) (iZ tg++gO X js) C s H ex) tg g))(ht:∀ {C s H ex},Wr (km (zQ X scope (g9 X js) (iZ tg++gO X js) C s H ex) ifs tt))
  (he:∀ {C s H ex},Wr (PE (zQ X scope (g9 X js) (iZ tg++gO X js) C s H ex) elt te))
  (hN:X.N.Nodup:=by first|assumption|exact wK rfl) (fF:X.N[i]?=some y:=by rfl) (hy:Loc X.env.scope y:=by first|exact Or.inl rfl|exact Or.inr rfl)
  (f:aQ X (g9 X js) (gO X js) js:=by repeat (first|exact aQ.nil|refine aQ.cons rfl (by first|exact Or.inl rfl|exact Or.inr rfl) rfl ?_)) (fA:closureFor scope X.env=pure (g9 X js):=by rfl) (S:oX scope (gO X js):=by exact⟨rfl,of_decide_eq_true rfl,of_decide_eq_true rfl,of_decide_eq_true rfl,of_decide_eq_true rfl⟩) (hZ:(iZ tg).length=nt:=by rfl) (hc:X.calm=true:=by rfl) (gw:∀ σ:St,GW (c0 nt js σ) g:=by first|exact E3 (by decide) | exact D9 (E1 (by repeat (first|exact FA|refine F0 (by decide) ?_)))) (hs:∀ x,foldedSetIterable iter X.env x=pure x:=by intro _; rfl)
  (HK:swapsWith (.ListComp elt [⟨tg,iter,ifs,0⟩] scope pos) (some (.Name y py)) k7.line X.env=pure true:=by rfl)
  (hf:X.fn y=true\/X.env.scope.names.lookup y=some .local:=by first|exact .inl rfl|exact .inr rfl|assumption):
  Wr (PS X (.Assign [.Name y py] (.ListComp elt [⟨tg,iter,ifs,0⟩] scope pos) k7) (nC (xm wi nt js g tt te) (jt i))):=by
 refine⟨?_⟩;intro pins s σ H D I h;rw[exec_Assign_Name_used _ _ _ _ HK];refine qc (wpAny_standAt (qc ?_));show wpAny _ X.A (do let _ <-comprehension (.ListComp elt [⟨tg,iter,ifs,0⟩] scope pos) scope X.env _ (newList []) false (eval iter X.env) (some (assign (.Name y py) X.env))) _ _ s;refine qc (wpAny_mono (wpAny_comprehension_free (use:=some (assign (.Name y py) X.env)) (Q:=λ_ s'=>SP X pins D .next s') rfl hs fA S.kind S.names
  (aI (hi.run pins s σ H _ I h) λv s1 h1=>aI h1 λxM s2 h2=>?_)) (λ_ s' hq=>qd (qd hq)) λ_ _ e=>e)
 obtain⟨it,fp,tn,J,H2,e,I2,T,jY,f2,q⟩:=h2;subst e;refine M6 (RR:=λacc C=>compPost (model X.prog X.w) X.A X.xe (some (assign (.Name y py) X.env)) (λ_ s'=>SP X pins D .next s') acc C) hc I2 S f hZ T jY f2 (λC s H ex=>hg.run) (λC s H ex=>ht.run) (λC s H ex=>he.run) (gw σ) q ?_;intro D' C m s' ys H' z hD I' hn tT oO oN mZ tS;show wpAny _ _ (assign (.Name y py) X.env (.ref D')) _ _ _;refine wpAny_assign_Name (F8 (v:=.ref D') I' hN fF hy rfl (λxq IV ⟨a,sb,ha⟩=>?_) hf);have ne:C≠a:=by
  rcases ha with rfl|ha
  .exact oO
  .exact(oN _ _ ha).symm
 exact⟨m,hn.sameBut sb ne,λh' gy=>⟨_,_,IV.turned (it:=C) (λb o hb e=>gy.extBut b o hb e) tT oO (.inr mZ) oN tS,z D' hD⟩⟩
theorem dD{name:Str}{r:V->Qa V->Hp->VK->Prop}(K:qe)(hK:X.K=K)(pa:PlainAttrs T)(slot:Slot T name id)(oH:typeOf (.builtin id)=pure (.type "method_descriptor"))(hm:vP X id r)(ho:Wr (PE X o te))(ha:Wr (PA X (e::es) t))
  (cB:attributeBase o name X.env (eval o X.env)=eval o X.env:=by rfl)
  (tN:((backTo aZ (starEach (e::es) X.env)).all (λx=>!x.1) && (backToKw aZ (keywordEach [] X.env)).all (λx=>x.1.isSome)
   && decide ((e::es).length+([]:Qa Keyword).length+(if([]:Qa Keyword).isEmpty then 0 else 1) < 30))=true:=by rfl)
  (cz:(apos.endLine==aZ.line)=true:=by rfl) (hs:cX e=true:=by rfl) (eQ:es.all cX=true:=by rfl):
  Wr (PE X (.Call (.Attribute o name apos) (e::es) [] aZ) (BY K T r te t)):=hK▸⟨zAA pa slot oH hm ho.run ha.run cB tN cz (iX hs) (pU eQ)⟩
theorem Jy{name:Str}{r:V->Qa V->Hp->VK->Prop}(K:qe)(hK:X.K=K)(pa:PlainAttrs T)(slot:Slot T name id)(oH:typeOf (.builtin id)=pure (.type "method_descriptor"))(hm:vP X id r)(ho:Wr (PE X o te))
  (cB:attributeBase o name X.env (eval o X.env)=eval o X.env:=by rfl) (cz:(apos.endLine==aZ.line)=true:=by rfl):
  Wr (PE X (.Call (.Attribute o name apos) [] [] aZ) (Dq K T r te)):=hK▸⟨Tu pa slot oH hm ho.run cB cz⟩
theorem uL(hg:Gl X x)(hm:X.mg x=some u)(r:zY v u)(hd:(x==("__debug__":Str))=false:=by decide):Wr (PE X (.Name x pos) (tC v)):=⟨WR hg hm r hd⟩
theorem Lg:∀ {ys:Qa Str} {us:Qa Qc},zV (ys.map V.str) us->StrsAre us ys
 | [],_,r=>by cases r; exact .nil
 | y::ys,_,r=>by
  cases r with
  | cons r1 r2=>
   obtain⟨t,rfl⟩:=r1;exact .cons y t (Lg r2)
def Jx(K:qe):V->Qa V->Hp->VK->Prop:=λx vs H Q=>∃ sep a ys,x=.str sep/\vs=[.ref a]/\bo K H a (ys.map V.str)/\(ys.map (·.length)).sum+ys.length * sep.length<=16777216/\Q (.str (Txt.join sep ys)) H
theorem Lf(K:qe)(hK:X.K=K:=by rfl):vP X "str.join" (Jx K):=by
 intro pins s σ H x vs v us Q I rx rv h;obtain⟨sep,a,ys,rfl,rfl,hS,hz,q⟩:=h;obtain⟨t,rfl⟩:=rx;obtain⟨u,rfl,ru⟩:=rv.one;cases ru;subst hK;obtain⟨ah,r,pl,_⟩:=I.list hS;exact join_list pl.isList (by simpa using Lg r) hz λt' k=>⟨.str _,H,I.tok _,⟨_,rfl⟩,q⟩
def ue(x:Str)(n:Int):Str:=if n < 1 then Str.empty else if(n==1 || x.length==0)=true then x else⟨(List.replicate n.toNat x.cps).foldl (·++·) #[]⟩
theorem znc:cv X (binaryOp .Mult) (λx y H Q=>∃ z n,x=.str z/\y=.int n/\0<=n/\n<=1/\Q (.str (ue z n)) H):=by
 intro pins s σ H x y v u Q I rx ry h;obtain⟨z,n,rfl,rfl,h0,h1,q⟩:=h;obtain⟨t,rfl⟩:=rx;obtain⟨t',rfl⟩:=ry;rcases(by omega:n=0\/n=1)with rfl|rfl
 .exact PySem.P.mul_str_none (by decide) (by decide) ⟨.str _,H,I.tok _,⟨_,rfl⟩,q⟩
 .refine PySem.P.mul_str (by decide) (λ_ z=>by simp at z) (λ_ z=>by simp at z) ?_
  rw[if_neg (by decide),if_pos (by rfl)];exact⟨.str _,H,I,⟨_,rfl⟩,q⟩
end
structure Kp (H H':Hp):Prop where
 tup:∀ b xs,H b=some (.tup xs)->H' b=some (.tup xs)
 aS:∀ b o u,H b=some (.aS o u)->H' b=some (.aS o u)
theorem Kp.refl(H:Hp):Kp H H:=⟨λ_ _ h=>h,λ_ _ _ h=>h⟩
theorem Kp.trans{H1 H2:Hp}(a:Kp H H1)(b:Kp H1 H2):Kp H H2:=⟨λx y h=>b.tup x y (a.tup x y h),λx y z h=>b.aS x y z (a.aS x y z h)⟩
theorem b9.kp(s:b9 H H'):Kp H H':=⟨λ_ _ h=>s _ _ h,λ_ _ _ h=>s _ _ h⟩
end L2
namespace HT
open PySem PyProof.Rows
open PySem.SeqAt
open PySem.MeetsSeq PySem.MeetsSeq2 PySem.MeetsSeq3
section
variable{prog:Program} {w:World} {A:Around} {E:Value->Shared->Prop} {s:Shared}
theorem dg{t sl:Addr}{items:Array Value}{vl vu:Value}{lo hi:Option Int}{Q:Value->Shared->Prop}(ht:IsTup s.heap t items)(hs:s.heap.IsSliceOf sl vl vu .none)(pl:IsPart vl lo)(pu:IsPart vu hi)
  (hw:aP items.size 0 lo=0/\aP items.size items.size hi=items.size) (h:Q (.ref t) s):wpAny (model prog w) A (getItem (.ref t) (.ref sl)) Q E s:=by
 obtain⟨os,tJ,Cp,xZ⟩:=id hs;have Ig:s.TypeIs (.ref sl) "slice":=⟨os,tJ,Cp⟩;unfold getItem
 try with_reducible refine wpAny_holding ?_
 first|refine wpAny_bind (wpAny_pure ?_) | skip
 refine wpAny_bind (wpAny_sequenceKey ht.typeIs (by decide) ?_);refine wpAny_bind (wpAny_callSpecial?_slot (name:=Str.ofString "__getitem__") ht.typeIs PyProof.Rows.slot_tuple_getitem
  (wpAny_call_entry PyProof.Rows.slot_tuple_getitem ht.typeIs entry_tuple_getitem ?_ (args_tuple_getitem _ _)))
 show wpAny _ _ (Builtin.Tuple.tupleItemsOf (.ref t) >>= _) _ _ s;refine wpAny_bind (tupleItemsOf_ ht ?_);refine wpAny_bind (wpAny_typeOf Ig ?_);rw[if_pos (by decide)];refine wpAny_bind (OD hs pl pu ?_);have HE:(((aP items.size 0 lo:Nat):Int)==0 && (1:Int)==1 && (aP items.size items.size hi - aP items.size 0 lo)==items.size)=true:=by
  rw[hw.1,hw.2];simp
 show wpAny _ _ (if(((aP items.size 0 lo:Nat):Int)==0 && (1:Int)==1 && (aP items.size items.size hi - aP items.size 0 lo)==items.size)=true then _ else _) _ _ s;rw[if_pos HE];refine wpAny_bind (m:=Builtin.Tuple.tupleIsExact _) (wpAny_bind (wpAny_typeOf ht.typeIs (wpAny_pure ?_)));rw[if_pos (by decide)];exact wpAny_bind (wpAny_rule (wpAny_pure ⟨_,rfl,wpAny_pure h⟩))
end
end HT
namespace L2
open PySem PySem.Spec PyProof.Rows
section
variable{X:Cx}
end
def IQ(hi:Int)(n:Nat):It:=⟨λi _=>i < n,λi H x H'=>H'=H/\x=.int (hi - i),λi _=>n<=i⟩
theorem Zc(it:Qg)(hi:Int)(n:Nat):Turn P w K tg (IQ hi n) [it] it (λi h=>IsRangeIter h it (hi+(i:Nat) * (-1)) ((n:Int) - (i:Nat)) (-1)) where
 mem:=by simp
 obj:=λi h st b hb=>by
  have e:b=it:=by simpa using hb
  subst e;exact⟨_,st,λv z=>by
   have z':Data.fields _=Data.cell v:=z;cases z'⟩
 keep:=λi h h' st k=>k it (by simp) _ st
 item:=by
  intro X hP hw hK hc i pins s σ H E I hf st hg;subst hP hw hK;obtain⟨f0,f1,f2,f3,f4,f5⟩:=hf it (by simp);have W:=Walks.range (prog:=X.prog) (w:=X.w) (I.ok.hd hc) it hi (-1) n;refine W.item i s _ _ hg st λv h' tk hv dR kk=>?_;obtain⟨t,rfl⟩:=hv;have I1:Inv X pins σ H {s with heap:=h',toks:=tk}:=I.turned (λb o hb e=>kk b o (by simpa using hb) e) f0 f1 f3 f4 f5;refine⟨_,rfl,uo (s:={s with heap:=h',toks:=tk}) (n := "range_iterator") dR rfl rfl (by decide) ⟨.int (hi - i),H,I1,⟨t,?_⟩,⟨rfl,rfl⟩,dR,λb hb=>(hf b hb).1⟩⟩;rw[Int.mul_neg,Int.mul_one];rfl
 done:=by
  intro X hP hw hK hc i pins s σ H E I hf st hg;subst hP hw hK;obtain⟨f0,f1,f2,f3,f4,f5⟩:=hf it (by simp);exact wpAny_pyNext_range_end (I.ok.hd hc) st (by have:n<=i:=hg; omega) λh' eb=>⟨rfl,I.turned (t':=s.toks) (λb o hb e=>eb b o hb e) f0 f1 f3 f4 f5⟩
 self:=λ_ _ _ _ _ st h=>wpAny_pyIter_rangeiter st h
theorem Oj(a b:Int):Builtin.Range.rangeSize a b (-1)=if b < a then a - b else 0:=by
 unfold Builtin.Range.rangeSize;rw[if_neg (by decide)];have e:(-(-1:Int))=1:=by decide
 rw[e,Int.ediv_one];split<;>omega
theorem znd{a:Int}(ha:-(2^62)<=a)(ha':a < 2^62)(hb:-(2^62)<=b)(jb:b < 2^62):Builtin.Range.small a b (-1)=true:=by
 unfold Builtin.Range.small;rw[Oj];simp only[Builtin.Range.rangeFitsLong,Bool.and_eq_true,Bool.or_eq_true,decide_eq_true_eq,beq_iff_eq,show ¬((-1:Int) > 0) by decide,if_false];split<;>omega
section
variable{X:Cx}
theorem VF{R:It->Hp->Prop}{lo hi:Int}{t u v:Tok}{tk:Nat}(I:Inv X pins σ H s)(h1:-(2^62)<=lo)(h2:lo < 2^62)(h3:-(2^62)<=hi)(h4:hi < 2^62)
  (q:R (IQ hi (hi - lo).toNat) H):wpAny (model X.prog X.w) X.A (pyIter (.ref s.heap.objs.size)) (CI X pins σ tg R) E {s with heap:=s.heap.push {cls:=.type "range",data:=.fields #[.int hi t,.int lo u,.int (-1) v]},toks:=tk}:=by
 refine wpAny_pyIter_range (IsRange.new ..) (znd h3 h4 h1 h2) ?_;have I1:Inv X pins σ H {s with heap:=s.heap.push {cls:=.type "range",data:=.fields #[.int hi t,.int lo u,.int (-1) v]},toks:=tk}:=I.kept λb o e=>qf _ e;refine⟨(s.heap.push {cls:=.type "range",data:=.fields #[.int hi t,.int lo u,.int (-1) v]}).objs.size,[(s.heap.push {cls:=.type "range",data:=.fields #[.int hi t,.int lo u,.int (-1) v]}).objs.size],_,_,H,rfl,
  I1.kept (t':=tk) λb o e=>qf _ e,Zc _ hi (hi - lo).toNat,?_,λb hb=>?_,q⟩
 .have e1:hi+((0:Nat):Int) * (-1)=hi:=by simp
  have e2:(((hi - lo).toNat:Nat):Int) - ((0:Nat):Int)=Builtin.Range.rangeSize hi lo (-1):=by rw[Oj]; split<;>omega
  show IsRangeIter _ _ (hi+((0:Nat):Int) * (-1)) ((((hi - lo).toNat:Nat):Int) - ((0:Nat):Int)) (-1);rw[e1,e2];exact qi _ rfl
 .have e:b=(s.heap.push {cls:=.type "range",data:=.fields #[.int hi t,.int lo u,.int (-1) v]}).objs.size:=by simpa using hb
  subst e;exact I1.cS (qg _) (I1.aD.fresh (qg _))
def Jw(ta:TA):TI:=λσ H R=>ta σ H λvs H1=>∃ i j:Int,vs=[.int i,.int j,.int (-1)]/\(-(2^62)<=i/\i < 2^62/\-(2^62)<=j/\j < 2^62)/\R (IQ i (i - j).toNat) H1
theorem Ti{a b c:Expr}{ta:TA}{p:Pos}(ha:Wr (PA X [a,b,c] ta))(hg:Gl X "range":=by exact rfl)(hm:X.mg "range"=none:=by exact pI ‹Bl _ _› (by decide))(h1:cX a=true:=by rfl)(h2:cX b=true:=by rfl)(h3:cX c=true:=by rfl):
  Wr (PI X tg (.Call (.Name "range" p) [a,b,c] [] pos) (Jw ta)):=by
 refine⟨?_⟩;intro pins s σ H R I h;refine Call_ (pO I hg hm boot_range (Û (aI (ha.run pos pins s σ H _ I h) λus s1 ⟨vs,H1,I1,r1,q1⟩=>?_) (iX h1) (pU (by rw[List.all_cons,List.all_cons,h2,h3]; rfl))));obtain⟨i,j,e,⟨q1,q2,q3,q4⟩,q⟩:=q1;subst e;cases r1 with
 | cons r rr=>
  cases rr with
  | cons r' rr'=>
   cases rr' with
   | cons r2 rr2=>
    cases rr2;obtain⟨t,rfl⟩:=r;obtain⟨t',rfl⟩:=r';obtain⟨t2,rfl⟩:=r2;exact call_range_3 (by decide) (VF I1 q3 q4 q1 q2 q) (.inl (PyProof.noPylong_of_log2 (by decide +kernel)))
end
section
variable{X:Cx}
end
section
variable{X:Cx}
theorem zV.at:∀ {xs:Qa V} {us:Qa Qc} {i:Nat} {u:Qc},zV xs us->us[i]?=some u->∃ x,xs[i]?=some x/\zY x u
 | _,_,0,_,.cons r _,e=>by
  cases(show some _=some _ from e);exact⟨_,rfl,r⟩
 | _,_,i+1,_,.cons _ t,e=>zV.at (i:=i) t e
 | _,_,0,_,.nil,e=>by cases e
 | _,_,_+1,_,.nil,e=>by cases e
theorem Mm{p:Qg}(I:Inv X pins σ H s)(hh:A.handled=none)(hq:bo X.K H p xs\/bt X.K H p xs)
  (h:∀ (it:Qg) (fp wr:Qa Qg) (n:Nat) (P:Nat->Qc->Prop) (St:Nat->Heap->Prop) (s2:Qd),Walks X.prog X.w A it fp wr n P St->St 0 s2.heap->(∀ b∈fp,b < s2.heap.objs.size)->n=xs.length->(∀ i v,P i v->∃ x,xs[i]?=some x/\zY x v)->
   (∀ h' tk,(∀ b o,b∉wr->s2.heap.get? b=some o->h'.get? b=some o)->Inv X pins σ H {s2 with heap:=h',toks:=tk})->Q (.ref it) s2):
  wpAny (model X.prog X.w) A (pyIter (.ref p)) Q E s:=by
 rcases hq with hq|hq
 .obtain⟨ah,r,pl,hz⟩:=I.list hq
  have hp:p < s.heap.objs.size:=by
   obtain⟨o,n,e,_⟩:=pl;exact qj e
  have ne:p≠s.heap.objs.size:=ql hp;refine wpAny_pyIter_list pl.isList (h s.heap.objs.size [s.heap.objs.size,p] [s.heap.objs.size] ah.toArray.size _ _ _ (Walks.list hh _ p ne ah.toArray) ⟨⟨_,qi _ rfl,rfl,rfl⟩,?_⟩ (λb hb=>?_) (by rw[List.size_toArray]; exact r.length.symm) (λi v e=>zV.at r (by simpa using e)) λh' tk hk=>?_)
  .obtain⟨o,n,e,c,d,f⟩:=pl
   exact⟨o,qf _ e,c,n,f⟩
  .rw[Heap.size_push]
   rcases qx.mp hb with z|z
   .rw[z]; exact Ü _
   .rw[qr.mp z]; exact ç hp
  .exact I.kept λb u e=>hk b u (λz=>absurd (qj e) (by rw[qr.mp z]; exact Ì _)) (qf _ e)
 .obtain⟨ah,r,pl,hz⟩:=I.tuple hq
  have hp:p < s.heap.objs.size:=by
   obtain⟨o,e,_⟩:=pl;exact qj e
  have ne:p≠s.heap.objs.size:=ql hp;refine wpAny_pyIter_tuple (show s.heap.IsTuple p ah.toArray from pl) (h s.heap.objs.size [s.heap.objs.size,p] [s.heap.objs.size] ah.toArray.size _ _ _ (Walks.tuple hh _ p ne ah.toArray) ⟨⟨_,qi _ rfl,rfl,rfl⟩,?_⟩ (λb hb=>?_) (by rw[List.size_toArray]; exact r.length.symm) (λi v e=>zV.at r (by simpa using e)) λh' tk hk=>?_)
  .obtain⟨o,e,c,n,f⟩:=pl
   exact⟨o,qf _ e,c,n,f⟩
  .rw[Heap.size_push]
   rcases qx.mp hb with z|z
   .rw[z]; exact Ü _
   .rw[qr.mp z]; exact ç hp
  .exact I.kept λb u e=>hk b u (λz=>absurd (qj e) (by rw[qr.mp z]; exact Ì _)) (qf _ e)
theorem Zb(bs:Qa Bool):(List.range bs.length).all (λi=>bs.getD i false)=bs.all id:=by
 rw[Bool.eq_iff_iff,List.all_eq_true,List.all_eq_true];constructor
 .intro h b hb
  obtain⟨i,hi,e⟩:=ö hb;have:=h i (Ê.mpr hi);rw[qD,qo hi,e]at this;exact this
 .intro h i hi
  have fF:=Ê.mp hi;rw[qD,qo fF];exact h _ (ą fF)
def Po(K:qe):Qa V->Hp->VK->Prop:=λxs H Q=>∃ (p:Qg) (bs:Qa Bool),xs=[.ref p]/\(bo K H p (bs.map V.bl)\/bt K H p (bs.map V.bl))/\Q (.bl (bs.all id)) H
theorem D5(K:qe)(hK:X.K=K)(hc:X.calm=true):e8 X (.builtin "all") (Po K):=by
 subst hK;intro pins s σ H xs us Q I r h;obtain⟨p,bs,rfl,hq,q⟩:=h;obtain⟨u,rfl,ru⟩:=jr r;cases ru;refine call_all_walk (Mm I (I.ok.hd hc) hq λit fp wr n P St s2 W st QB hn hP hI=>⟨it,fp,wr,n,P,St,λi=>bs.getD i false,rfl,W,st,?_,λh' tk hk=>?_⟩)
 .intro i v s' Q' E' hv hQ'
  obtain⟨x,ex,rx⟩:=hP i v hv;rw[List.getElem?_map]at ex;cases eb:bs[i]? with
  | none=>rw[eb]at ex; cases ex
  | some b=>
   rw[eb]at ex;cases ex;cases rx;have ew:bs.getD i false=b:=by rw[qD,eb]; rfl
   have QK:Q' (bs.getD i false) s':=hQ';rw[ew]at QK;exact wpAny_truthy_bool QK
 .rw[hn,List.length_map,Zb]
  exact⟨.bl _,H,hI h' tk hk,rfl,q⟩
theorem zne(ns:Qa Int):preSum (λi=>ns.getD i 0) ns.length=ns.sum:=by
 have key:∀ k,k<=ns.length->preSum (λi=>ns.getD i 0) k=(ns.take k).sum:=by
  intro k
  induction k with
  | zero=>intro _; rfl
  | succ k ih=>
   intro hk;have cM:k < ns.length:=hk;show preSum (λi=>ns.getD i 0) k+ns.getD k 0=_;rw[ih (by omega),List.take_succ,qo cM,List.sum_append,qD,qo cM];simp
 rw[key ns.length (qg _),List.take_of_length_le (qg _)]
def Pn(K:qe):Qa V->Hp->VK->Prop:=λxs H Q=>∃ (p:Qg) (ns:Qa Int),xs=[.ref p]/\(bo K H p (ns.map V.int)\/bt K H p (ns.map V.int))/\Q (.int ns.sum) H
theorem zAQ(K:qe)(hK:X.K=K)(hc:X.calm=true):e8 X (.builtin "sum") (Pn K):=by
 subst hK;intro pins s σ H xs us Q I r h;obtain⟨p,ns,rfl,hq,q⟩:=h;obtain⟨u,rfl,ru⟩:=jr r;cases ru;refine call_sum_walkG (Mm I (I.ok.hd hc) hq λit fp wr n P St s2 W st QB hn hP hI=>⟨it,fp,wr,n,P,St,λi=>ns.getD i 0,rfl,W,st,QB,?_,λh' tk t' hk=>?_⟩)
 .intro i v hv
  obtain⟨x,ex,rx⟩:=hP i v hv;rw[List.getElem?_map]at ex;cases eb:ns[i]? with
  | none=>rw[eb]at ex; cases ex
  | some b=>
   rw[eb]at ex;cases ex;obtain⟨t,rfl⟩:=rx;have ew:ns.getD i 0=b:=by rw[qD,eb]; rfl
   refine⟨t,?_⟩;show Value.int b t=Value.int (ns.getD i 0) t;rw[ew]
 .rw[hn,List.length_map,zne]
  exact⟨.int _,H,hI h' tk hk,⟨t',rfl⟩,q⟩
end
section
variable{P:Nat->Qc->Prop}{St:Nat->Heap->Prop}
end
section
end
section
variable{X:Cx}
end
section
theorem Gn{t:Qg}{items:Array Qc}{x:Qc}(hi:s.heap.IsTupleIter it t i)(ht:s.heap.IsTuple t items)(hx:items[i]?=some x)
  (q:∀ h',h'.IsTupleIter it t (i+1)->Heap.SameBut it s.heap h'->Q x {s with heap:=h'}):wpAny (model prog w) A (Builtin.SmallTypes.nextOf (.ref it)) Q E s:=by
 obtain⟨oi,e1,e2,e3⟩:=id hi;obtain⟨ot,f1,f2,nt,f3⟩:=ht;unfold Builtin.SmallTypes.nextOf;refine qc (wpAny_callSpecial?_slot (name:=Str.ofString "__next__") hi.typeIs slot_tupleiter_next
  (wpAny_call_entry slot_tupleiter_next hi.typeIs entry_tupleiter_next ?_ (args_tupleiter_next _)))
 show wpAny _ _ (field (.ref it) 0 >>= _) _ _ s;refine qc (wpAny_field e1 e3 (x:=.ref t) rfl ?_);show wpAny _ _ (if(Value.ref t==Value.none)=true then _ else _) _ _ s;rw[if_neg (show ¬((Value.ref t==Value.none)=true) from qh)];show wpAny _ _ (field (.ref it) 1 >>= _) _ _ s;refine qc (wpAny_field e1 e3 (x:=.int i 0) rfl ?_);show wpAny _ _ (seqItems? (.ref t) >>= _) _ _ s;refine qc (wpAny_seqItems f1 f3 ?_);simp only[Int.toNat_natCast,hx];refine qc (wpAny_setField e1 e3 (by simp) (qd ⟨x,rfl,qd (q _ ?_ (É ..))⟩));refine⟨_,Ë _ e1 (Ù (Õ e3 _)),(Obj.cls_mapFields ..).trans e2,?_⟩;rw[Obj.data_mapFields e3];simp[rawInt]
theorem MK{t:Qg}{items:Array Qc}(hh:A.handled=none)(hi:s.heap.IsTupleIter it t i)(ht:s.heap.IsTuple t items)(hx:items[i]?=none)
  (q:∀ h' e,Heap.ExtBut it s.heap h'->(∃ o,h'.get? e=some o/\o.cls=.type "StopIteration")->E (.ref e) {s with heap:=h'}):wpAny (model prog w) A (Builtin.SmallTypes.nextOf (.ref it)) Q E s:=by
 obtain⟨oi,e1,e2,e3⟩:=id hi;obtain⟨ot,f1,f2,nt,f3⟩:=ht;unfold Builtin.SmallTypes.nextOf;refine qc (wpAny_callSpecial?_slot (name:=Str.ofString "__next__") hi.typeIs slot_tupleiter_next
  (wpAny_call_entry slot_tupleiter_next hi.typeIs entry_tupleiter_next ?_ (args_tupleiter_next _)))
 show wpAny _ _ (field (.ref it) 0 >>= _) _ _ s;refine qc (wpAny_field e1 e3 (x:=.ref t) rfl ?_);show wpAny _ _ (if(Value.ref t==Value.none)=true then _ else _) _ _ s;rw[if_neg (show ¬((Value.ref t==Value.none)=true) from qh)];show wpAny _ _ (field (.ref it) 1 >>= _) _ _ s;refine qc (wpAny_field e1 e3 (x:=.int i 0) rfl ?_);show wpAny _ _ (seqItems? (.ref t) >>= _) _ _ s;refine qc (wpAny_seqItems f1 f3 ?_);simp only[Int.toNat_natCast,hx];refine qc (wpAny_rule (qc (wpAny_setField e1 e3 (by simp) ?_)));show wpAny _ _ (newExc (.type "StopIteration") [] >>= _) _ _ _;refine qc ?_;simp only[newExc,newTuple];refine qc (qC ?_ (by show(0:Nat)<=sizeLine; exact È _));refine qc (m:=firstArgMember _ _) (wpAny_of_eq (a:=Value.none) (by first|rfl | (simp only[firstArgMember]; rfl)) ?_);refine qC ?_ (by first|trivial|size_fits);simp only[raiseNew];refine qc (wpAny_handled ?_)
 first|rw[show A.in1.handled=none from hh] | rw[hh]
 refine qc (qd (wpAny_throw ?_));exact q _ _ (((É ..).extBut.push _).push _) ⟨_,qi _ rfl,rfl⟩
end
theorem NJ(hh:A.handled=none)(it t:Qg)(ne:t≠it)(items:Array Qc):
  Draws prog w A it [it,t] items.size (λi v=>items[i]?=some v) (λi h=>h.IsTupleIter it t i/\h.IsTuple t items) where
 live:=λ_ _ st=>let ⟨o,ho,_⟩:=st.1; ⟨o,ho⟩
 frame:=λ_ _ _ st hk=>by
  obtain⟨⟨o,a1,a2,a3⟩,⟨o2,b1,b2⟩⟩:=st;exact⟨⟨o,hk it (by simp) o a1,a2,a3⟩,⟨o2,hk t (by simp) o2 b1,b2⟩⟩
 item:=λi s Q E hi st q=>by
  refine Gn st.1 st.2 (x:=items[i]) (by simp[hi]) λh' HX gy=>?_;exact q _ h' s.toks (by simp[hi]) ⟨HX,st.2.extBut gy.extBut ne⟩ gy
 done:=λs Q E st q=>MK hh st.1 st.2 (by simp) q
theorem Za(t:Qg)(items:Array Qc)(n:Nat)(gM:Qb Qg)(sl:Array (Qb Qc)):
  Meets (Builtin.«enumerate.__new__» ⟨[.type "enumerate",.ref t],[]⟩) (λ_ R s=>s.heap.get? t=some {cls:=.type "tuple",dict:=gM,data:=.seq items n,slots:=sl}/\
   R (.ok (.ret (.ref (s.heap.push {cls:=.type "tuple_iterator",data:=.fields #[.ref t,.int 0 0]}).objs.size)))
    {s with heap:=(s.heap.push {cls:=.type "tuple_iterator",data:=.fields #[.ref t,.int 0 0]}).push {cls:=.type "enumerate",data:=.fields #[.none,.bool false,.ref s.heap.objs.size,rawInt 0,.none,.none]}}):=
 .of_wp λprog w A R s h=>by
  obtain⟨hp,g,d,tk,os⟩:=s;obtain⟨hl,h⟩:=h;have xN:=sub_enumerate;have hT:Heap.IsTuple (Shared.heap ⟨hp,g,d,tk,os⟩) t items:=⟨_,hl,rfl,n,rfl⟩
  wp_walk using PySem.AutoSeq1.wpAny_loadPart' hl
  refine wpAny_stack_any λst=>qd ?_;split
  .rename_i c _ _ _ _ _
   cases(c==Value.type "enumerate")
   .wp_walk using PySem.AutoSeq1.wpAny_loadPart' hl,wpAny_pyIter_tuple hT
    exact⟨_,rfl,h⟩
   .wp_walk using PySem.AutoSeq1.wpAny_loadPart' hl,wpAny_pyIter_tuple hT
    exact⟨_,rfl,h⟩
  .wp_walk using PySem.AutoSeq1.wpAny_loadPart' hl,wpAny_pyIter_tuple hT
   exact⟨_,rfl,h⟩
section
theorem znf{t:Qg}{items:Array Qc}(hT:s.heap.IsTuple t items)
  (h:∀ h',IsEnum h' (s.heap.objs.size+1) s.heap.objs.size 0 .none->h'.IsTupleIter s.heap.objs.size t 0->(∀ b o,s.heap.get? b=some o->h'.get? b=some o)->Q (.ref (s.heap.objs.size+1)) {s with heap:=h'}):
  wpAny (model prog w) A (call (.type "enumerate") [.ref t]) Q E s:=by
 obtain⟨⟨c,gM,dt,sl⟩,hl,hc,n,hd⟩:=hT;replace hc:c=.type "tuple":=hc;replace hd:dt=.seq items n:=hd;subst hc hd;refine callType_new F.called_enumerate (by decide) (F.typeCall_enumerate_1 _) (F.newCall_enumerate_1 _) (λobj=>F.args_object_init_2 obj _) F.entry_enumerate_new
  (Za t items n gM sl) ⟨hl,?_⟩
 have hz:(s.heap.push {cls:=.type "tuple_iterator",data:=.fields #[.ref t,.int 0 0]}).objs.size=s.heap.objs.size+1:=þ ..;show _/\_;rw[hz];have he:IsEnum ((s.heap.push {cls:=.type "tuple_iterator",data:=.fields #[.ref t,.int 0 0]}).push
   {cls:=.type "enumerate",data:=.fields #[.none,.bool false,.ref s.heap.objs.size,rawInt 0,.none,.none]}) (s.heap.objs.size+1) s.heap.objs.size 0 .none:=by
  have z:=qi (s.heap.push {cls:=.type "tuple_iterator",data:=.fields #[.ref t,.int 0 0]})
   (o:={cls:=.type "enumerate",data:=.fields #[.none,.bool false,.ref s.heap.objs.size,rawInt 0,.none,.none]}) rfl
  rw[hz]at z;exact z
 exact⟨⟨_,he,rfl⟩,h _ he ⟨_,qf _ (qi _ rfl),rfl,rfl⟩ λb o x=>qf _ (qf _ x)⟩
end
section
variable{X:Cx}
theorem Inv.cY{t':Nat}(I:Inv X pins σ H s)(k:∀ b o,b∉wr->s.heap.get? b=some o->h'.get? b=some o)(hf:∀ b∈wr,fU X pins H b):Inv X pins σ H {s with heap:=h',toks:=t'}:=by
 have jH:∀ b u,H b=some u->b∉wr:=λb u e z=>by rw[(hf b z).1]at e; cases e
 refine I.step (g':=s.gens) (d':=s.drawn) (ch:=wr) (λb hb=>?_) (λb o _ _ hc e _=>k b o hc e) (λb o _ _ hc e _=>⟨o.slots,k b o hc e⟩) (λ_ _ _ _ n=>n)
  (λb o hc e=>⟨o,k b o hc e⟩) (λ_ _ e=>e) (λ_ _ _ e=>e) (λb ps e=>⟨#[],by rw[e]; simp⟩) (λm hm=>?_) (λb u e=>?_) I.bare
 .obtain⟨_,z1,_,z3,z4,z5⟩:=hf b hb
  exact⟨z3,z1,z4,z5⟩
 .obtain⟨o,es,ep,ho,r⟩:=hm
  exact⟨o,es,ep,k _ o (λz=>(hf _ z).2.1 rfl) ho,r⟩
 .refine(I.aD b u e).d9 (λc v hc q=>k c v ?_ q) (λ_ q=>q) λ_ _ q=>q
  rcases hc with z|z
  .rw[z]; exact jH b u e
  .exact jH c _ z
theorem Inv.kY{o:HO}(I:Inv X pins σ H s)(f:fU X pins H a)(ha:X.be.heap.objs.size<=a)(new:bT X.prog X.w X.K (upd H a o) s.heap a o):Inv X pins σ (upd H a o) s:=by
 obtain⟨f0,f1,f2,f3,f4,f5⟩:=f;refine⟨I.ok,I.os,I.bare,L6 I.base f0 ha,I.loc,I.cell,?_,λx c e=>?_,λp hp=>?_,ML I.aD f0 new,I.len⟩
 .rw[zH (Ne.symm f1)]
  exact I.free
 .rw[zH (f4 x c e)]
  exact I.bD x c e
 .obtain⟨p1,p2,p3⟩:=I.pin p hp
  refine⟨p1,?_,p3⟩;rw[zH (f5 p hp)];exact p2
end
def RF(K:qe)(a:Qg):It :=
 ⟨λi H=>∃ xs x,bt K H a xs/\xs[i]?=some x,λi H x H'=>∃ T,H T=none/\x=.ref T/\∀ xs v,bt K H a xs->xs[i]?=some v->H'=upd H T (.tup [.int i,v]),λi H=>∃ xs,bt K H a xs/\xs.length=i⟩
theorem Y9{k:Nat}(e it t:Qg)(Cn:e≠it)(Qq:t≠e)(Qp:t≠it):
  Turn P w K (.Tuple elts k pos) (RF K t) [e,it] e (λi h=>(∃ old,IsEnum h e it i old)/\h.IsTupleIter it t i) where
 mem:=by simp
 obj:=λi h st b hb=>by
  obtain⟨⟨old,he⟩,⟨o,ho,_,hd⟩⟩:=st;rcases qx.mp hb with z|z
  .subst z
   exact⟨_,he,λv q=>by
    have q':Data.fields _=Data.cell v:=q;cases q'⟩
  .rw[qr.mp z]
   exact⟨o,ho,λv q=>by rw[hd]at q; cases q⟩
 keep:=λi h h' st kk=>by
  obtain⟨⟨old,he⟩,⟨o,ho,hc,hd⟩⟩:=st;exact⟨⟨old,kk e (by simp) _ he⟩,⟨o,kk it (by simp) _ ho,hc,hd⟩⟩
 item:=by
  intro X hP hw hK hc i pins s σ H E I hf st hg;subst hP hw hK;obtain⟨xs,x,hq,hx⟩:=hg;obtain⟨ah,rv,ht,hz⟩:=I.tuple hq;have hi:i < ah.toArray.size:=by
   rw[List.size_toArray,<-rv.length];exact(qm.mp hx).1
  have W:=WalksT.enumerateD (NJ (prog:=X.prog) (w:=X.w) (A:=X.A.in1) (I.ok.hd hc) it t Qp ah.toArray) e Cn (by simp[Cn,Ne.symm Qq]) (by simp);refine W.item i s _ _ hi ⟨st.1,st.2,ht⟩ λT vals h1 tk hP hT j0 mid kk=>?_;refine⟨_,rfl,W.go elts k pos i T {s with heap:=h1,toks:=tk} _ _ mid λh2 jY vw=>?_⟩;obtain⟨tt,u,hu,rfl⟩:=hP;have apart:=W.apart _ _ _ mid;have I2:Inv X pins σ H {s with heap:=h2,toks:=tk}:=I.cY (wr:=[e,it]) (λb o hb q=>vw b o hb (kk b o hb q)) hf;have fT:fU X pins H T:=I.cS hT (I.aD.fresh hT);have ru:zY x u:=by
   obtain⟨u',eu,r⟩:=rv.get hx;have:u'=u:=by
    have z:ah[i]?=some u:=by simpa using hu
    rw[eu]at z;exact qA z
   rw[<-this];exact r
  obtain⟨oT,g1,g2,nT,g3⟩:=j0;have I3:Inv X pins σ (upd H T (.tup [.int i,x])) {s with heap:=h2,toks:=tk}:=I2.kY fT (qB I.sz hT) ⟨by show 2<=sizeLine; decide,[.int i tt,u],.cons ⟨tt,rfl⟩ (.cons ru .nil),oT,vw T oT apart g1,g2,⟨nT,g3⟩,.inr ⟨_,_,_,rfl⟩⟩;refine⟨.ref T,_,I3,rfl,⟨T,I.aD.fresh hT,rfl,λvh v tH hv=>?_⟩,⟨?_,jY.2.1⟩,λb hb=>?_⟩
  .have:=I.cE hq tH
   subst this;rw[hx]at hv;cases hv;rfl
  .exact jY.1
  .have ne:b≠T:=λz=>apart (by rw[<-z]; exact hb)
   rw[zH ne];exact(hf b hb).1
 done:=by
  intro X hP hw hK hc i pins s σ H E I hf st hg;subst hP hw hK;obtain⟨xs,hq,hl⟩:=hg;obtain⟨ah,rv,ht,hz⟩:=I.tuple hq;have hi:i=ah.toArray.size:=by
   rw[List.size_toArray,<-rv.length];exact hl.symm
  have W:=WalksT.enumerateD (NJ (prog:=X.prog) (w:=X.w) (A:=X.A.in1) (I.ok.hd hc) it t Qp ah.toArray) e Cn (by simp[Cn,Ne.symm Qq]) (by simp);refine W.done s _ _ ?_ λh1 tk kk=>⟨rfl,I.cY (wr:=[e,it]) kk hf⟩;rw[<-hi];exact⟨st.1,st.2,ht⟩
 self:=λ_ _ _ _ _ st h=>by
  obtain⟨⟨old,he⟩,_⟩:=st;exact wpAny_pyIter_enum he h
section
variable{X:Cx}{k:Nat}
def Jv(K:qe)(ta:TA):TI:=λσ H R=>ta σ H λvs H1=>∃ a,vs=[.ref a]/\(∃ xs,bt K H1 a xs)/\R (RF K a) H1
theorem VD{a:Expr}{ta:TA}{p:Pos}(ha:Wr (PA X [a] ta))(hK:X.K=K:=by rfl)(hg:Gl X "enumerate":=by exact rfl)(hm:X.mg "enumerate"=none:=by exact pI ‹Bl _ _› (by decide))(hs:cX a=true:=by rfl):
  Wr (PI X (.Tuple elts k n8) (.Call (.Name "enumerate" p) [a] [] pos) (Jv K ta)):=by
 subst hK;refine⟨?_⟩;intro pins s σ H R I h;refine Call_ (pO I hg hm boot_enumerate (Û (aI (ha.run pos pins s σ H _ I h) λus s1 ⟨vs,H1,I1,r1,q1⟩=>?_) (iX hs) rfl));obtain⟨t,e,⟨xs,hq⟩,q⟩:=q1;subst e;obtain⟨u,rfl,ru⟩:=jr r1;cases ru;obtain⟨ah,rv,ht,hz⟩:=I1.tuple hq;have tl:t < s1.heap.objs.size:=by
  obtain⟨o,e,_⟩:=ht;exact qj e
 refine znf (show s1.heap.IsTuple t ah.toArray from ht) λh' he hit kk=>?_;have I2:Inv X pins σ H1 {s1 with heap:=h'}:=I1.kept (t':=s1.toks) kk;refine wpAny_pyIter_enum he ?_;refine⟨s1.heap.objs.size+1,[s1.heap.objs.size+1,s1.heap.objs.size],_,_,H1,rfl,I2,Y9 (s1.heap.objs.size+1) s1.heap.objs.size t (Nat.succ_ne_self _) (ql (ç tl)) (ql tl),⟨⟨_,he⟩,hit⟩,λb hb=>?_,q⟩;rcases qx.mp hb with z|z
 .subst z
  exact I1.cS (ñ _) (I1.aD.fresh (ñ _))
 .rw[qr.mp z]
  exact I1.cS (qg _) (I1.aD.fresh (qg _))
end
section
variable{X:Cx}
end
section
variable{X:Cx}{i v:Expr}{k:Nat}
theorem p4:Wr (PE X (.Dict [] [] pos) ET):=⟨YG⟩
theorem mJ(hr:aK k X.A)(ho:Wr (PE X o td))(hi:Wr (PE X i ty))(hs:Dp i:=by intro _ _; rfl):Wr (PE X (.Subscript o i pos) (DU X.K td ty)):=⟨VN (wc hr) ho.run hi.run hs⟩
theorem sE(hr:aK k X.A)(ho:Wr (PE X o td))(hi:Wr (PE X i ty))(hv:Wr (PE X v tv))(hs:swapsWith v (some (.Subscript o i pos')) pos.line X.env=pure false:=by rfl):
  Wr (PS X (.Assign [.Subscript o i pos'] v pos) (DT X.K td ty tv)):=⟨VM (wc hr) ho.run hi.run hv.run hs⟩
end
end L2
namespace L2
open PySem PySem.W PyProof.Rows
section
def eI(lt:Nat->Nat->Bool)(n:Nat):KasT α->(α->Prop)->Prop
 | .ret a,Q=>Q a
 | .ask i j k,Q=>i < n/\j < n/\eI lt n (k (lt i j)) Q
theorem eI.bind{lt:Nat->Nat->Bool}{f:α->KasT β}{Q:β->Prop}:∀ {t:KasT α},eI lt n t (λa=>eI lt n (f a) Q)->eI lt n (t.bind f) Q
 | .ret _,h=>h
 | .ask _ _ _,⟨h1,h2,h3⟩=>⟨h1,h2,eI.bind h3⟩
theorem eI.wp{lt:Nat->Nat->Bool}{Q:α->Prop}{Q':α->Qd->Prop}(hc:∀ i j (C:Bool->Qd->Prop),i < n->j < n->C (lt i j) s->cmp i j C s)(hQ:∀ a,Q a->Q' a s):
  ∀ {t:KasT α},eI lt n t Q->t.kasWp cmp Q' s
 | .ret _,h=>hQ _ h
 | .ask i j k,⟨h1,h2,h3⟩=>hc i j _ h1 h2 (eI.wp hc hQ h3)
end
section
variable{rk:Nat->Int}
def KR(rk:Nat->Int)(p:Array Nat)(i:Nat):Int:=rk (p.getD i 0)
def i7(rk:Nat->Int)(i j:Nat):Bool:=decide (rk i < rk j)
def Pm(n:Nat)(p:Array Nat):Prop:=p.Perm (List.range n).toArray
theorem Pm.size(h:Pm n p):p.size=n:=by
 have:=h.size_eq;simpa using this
theorem Pm.lt(h:Pm n p)(hi:i < n):p.getD i 0 < n:=by
 have hs:=h.size;have fF:i < p.size:=by omega
 have e:p.getD i 0=p[i]:=by simp[Array.getD,fF]
 rw[e];have m:p[i]∈(List.range n).toArray:=(h.mem_iff).mp (Array.getElem_mem fF);simpa using m
theorem wQ{q:Array Nat}(h:p[i]?=q[j]?):KR rk p i=KR rk q j:=by
 have e:∀ (x:Array Nat) (k:Nat),x.getD k 0=(x[k]?).getD 0:=λx k=>by simp
 unfold KR;rw[e,e,h]
theorem An(hj:j<=p.size)(k:Nat):KR rk (kas_rev p i j) k=if i<=k/\k < j then KR rk p (i+j - 1 - k)else KR rk p k:=by
 have e:=getElem?_mirror_all (xs:=p) (i:=i) hj k;unfold kas_rev
 by_cases h:i<=k/\k < j
 .rw[if_pos h]at e ⊢
  exact wQ e
 .rw[if_neg h]at e ⊢
  exact wQ e
theorem MH{src d:Nat}(hs:src < p.size)(hd:d<=src)(k:Nat):KR rk (bubble p src d) k=if k=src - d then KR rk p src else if src - d < k/\k<=src then KR rk p (k - 1)else KR rk p k:=by
 have e:=getElem?_bubble hs d hd k
 by_cases h1:k=src - d
 .rw[if_pos h1]at e ⊢; exact wQ e
 .rw[if_neg h1]at e ⊢
  by_cases h2:src - d < k/\k<=src
  .rw[if_pos h2]at e ⊢; exact wQ e
  .rw[if_neg h2]at e ⊢; exact wQ e
theorem Pm.rev(h:Pm n p)(i j:Nat):Pm n (kas_rev p i j):=(mirror_perm p i j _).trans h
theorem Pm.bubble(h:Pm n p)(i d:Nat):Pm n (PyProof.Rows.bubble p i d):=(bubble_perm p i d).trans h
def Up(rk:Nat->Int)(p:Array Nat)(m:Nat):Prop:=∀ i j,i<=j->j < m->KR rk p i<=KR rk p j
def Dn(rk:Nat->Int)(p:Array Nat)(m:Nat):Prop:=∀ i j,i<=j->j < m->KR rk p j<=KR rk p i
theorem Up.more(h:Up rk p m)(h1:1<=m)(hm:KR rk p (m - 1)<=KR rk p m):Up rk p (m+1):=λi j dU hj=>by
 by_cases e:j=m
 .subst e
  by_cases e2:i=j
  .subst e2; exact à _
  .exact ÿ (h i (j - 1) (by omega) (by omega)) hm
 .exact h i j dU (by omega)
theorem Dn.more(h:Dn rk p m)(h1:1<=m)(hm:KR rk p m<=KR rk p (m - 1)):Dn rk p (m+1):=λi j dU hj=>by
 by_cases e:j=m
 .subst e
  by_cases e2:i=j
  .subst e2; exact à _
  .exact ÿ hm (h i (j - 1) (by omega) (by omega))
 .exact h i j dU (by omega)
theorem xG(c:rk i < rk j):i7 rk i j=true:=decide_eq_true c
theorem xH(c:¬rk i < rk j):i7 rk i j=false:=decide_eq_false c
theorem Fy(hp:Pm n p){Q:Nat->Prop}:∀ (f m:Nat),1<=m->m+f<=n->Up rk p m->(∀ m',m<=m'->m'<=m+f->Up rk p m'->(m' < m+f->KR rk p m' < KR rk p (m' - 1))->Q m')->eI (i7 rk) n (kas_asc p f m) Q
 | 0,m,_,_,hu,h=>h m (qg _) (qg _) hu (λz=>absurd z (Ì _))
 | f+1,m,h1,hf,hu,h=>by
  refine⟨hp.lt (by omega),hp.lt (by omega),?_⟩
  by_cases c:rk (p.getD m 0) < rk (p.getD (m - 1) 0)
  .rw[xG c]
   dsimp only;rw[if_pos rfl];exact h m (qg _) (by omega) hu λ_=>c
  .rw[xH c]
   dsimp only;rw[if_neg qh];exact Fy hp f (m+1) (by omega) (by omega) (hu.more h1 (Int.not_lt.mp c)) λm' a b c2 d=>h m' (by omega) (by omega) c2 λz=>d (by omega)
def yy(rk:Nat->Int)(p:Array Nat)(m q:Nat):Prop:=q+1<=m/\∀ i,m - (q+1)<=i->i < m->KR rk p i=KR rk p (m - 1)
theorem Pl(h:1<=m):yy rk p m 0:=⟨h,λi a b=>by
 have:i=m - 1:=by omega
 rw[this]⟩
theorem Le{q:Nat}(hm:m<=p.size)(h:yy rk p m q)(k:Nat):KR rk (kas_rev p (m - (q+1)) m) k=KR rk p k:=by
 rw[An hm];split
 .rw[h.2 _ (by omega) (by have:=h.1; omega),h.2 k (by omega) (by omega)]
 .rfl
theorem Dn.congr{p':Array Nat}(h:Dn rk p m)(e:∀ k,KR rk p' k=KR rk p k):Dn rk p' m:=λi j dU hj=>by
 rw[e,e];exact h i j dU hj
theorem Bo{Q:Array Nat×Nat×Nat->Prop}:∀ (f:Nat) (p:Array Nat) (m q:Nat),Pm n p->1<=m->m+f<=n->Dn rk p m->yy rk p m q->
  (∀ p' m' q',Pm n p'->1<=m'->m'<=m+f->Dn rk p' m'->yy rk p' m' q'->Q (p',m',q'))->eI (i7 rk) n (kas_desc f p m q) Q
 | 0,p,m,q,hp,h1,_,hd,he,h=>h p m q hp h1 (qg _) hd he
 | f+1,p,m,q,hp,h1,hf,hd,he,h=>by
  have hs:=hp.size;refine⟨hp.lt (by omega),hp.lt (by omega),?_⟩
  by_cases c:rk (p.getD m 0) < rk (p.getD (m - 1) 0)
  .rw[xG c]
   dsimp only;rw[if_pos rfl];have hd2:Dn rk p (m+1):=hd.more h1 (â c);have one:∀ x:Array Nat,yy rk x (m+1) 0:=λx=>Pl (by omega)
   by_cases hq:q > 0
   .rw[if_pos hq]
    have e:=Le (by omega) he;exact Bo f _ (m+1) 0 (hp.rev _ _) (by omega) (by omega) (hd2.congr e) (one _) λp' m' q' a b c d e=>h p' m' q' a b (by omega) d e
   .rw[if_neg hq]
    exact Bo f p (m+1) 0 hp (by omega) (by omega) hd2 (one _) λp' m' q' a b c d e=>h p' m' q' a b (by omega) d e
  .rw[xH c]
   dsimp only;rw[if_neg qh];refine⟨hp.lt (by omega),hp.lt (by omega),?_⟩
   by_cases c2:rk (p.getD (m - 1) 0) < rk (p.getD m 0)
   .rw[xG c2]
    dsimp only;rw[if_pos rfl];exact h p m q hp h1 (by omega) hd he
   .rw[xH c2]
    dsimp only;rw[if_neg qh];have eq:KR rk p m=KR rk p (m - 1):=Int.le_antisymm (Int.not_lt.mp c2) (Int.not_lt.mp c);refine Bo f p (m+1) (q+1) hp (by omega) (by omega) (hd.more h1 (Int.le_of_eq eq)) ⟨by have:=he.1; omega,λi a b=>?_⟩ λp' m' q' a b c d e=>h p' m' q' a b (by omega) d e;rw[show m+1 - 1=m by omega,eq]
    by_cases im:i=m
    .rw[im,eq]
    .exact he.2 i (by omega) (by omega)
def Run(rk:Nat->Int)(n:Nat)(r:Nat×Array Nat):Prop:=Pm n r.2/\r.1<=n/\Up rk r.2 r.1
theorem M5(hp:Pm n p)(h1:1<=m)(hm:m<=n)(hd:Dn rk p m){Q:Nat×Array Nat->Prop}(h:∀ r,Run rk n r->Q r):eI (i7 rk) n (kas_tail3 m n p) Q:=by
 have hs:=hp.size;refine eI.bind (Fy (hp.rev 0 m) (n - m) m h1 (by omega) (λi j dU hj=>?_) λm' a b c _=>h (m',_) ⟨hp.rev 0 m,by show m'<=n; omega,c⟩);rw[An (by omega),An (by omega),if_pos ⟨by omega,by omega⟩,if_pos ⟨by omega,hj⟩];exact hd _ _ (by omega) (by omega)
theorem Oe(hp:Pm n p)(h1:1<=m)(hm:m+1<=n)(hd:Dn rk p (m+1)){Q:Nat×Array Nat->Prop}(h:∀ r,Run rk n r->Q r):eI (i7 rk) n (kas_descPart m n p) Q:=by
 refine eI.bind (Bo (n - (m+1)) p (m+1) 0 hp (by omega) (by omega) hd (Pl (by omega)) λp' m' q' oJ a b d e=>?_);have hs:=oJ.size;show eI (i7 rk) n (if q' > 0 then _ else _) Q;split
 .exact M5 (oJ.rev _ _) a (by omega) (d.congr (Le (by omega) e)) h
 .exact M5 oJ a (by omega) d h
theorem zng(hp:Pm n p)(h1:1<=n){Q:Nat×Array Nat->Prop}(h:∀ r,Run rk n r->Q r):eI (i7 rk) n (kas_count n p) Q:=by
 have hs:=hp.size;refine eI.bind (Fy hp (n - 1) 1 (qg _) (by omega) (λi j dU hj=>by
  have:i=j:=by omega
  subst this; exact à _) λm a b u l=>?_)
 by_cases e:m=n
 .rw[if_pos (by simpa using e)]
  exact h _ ⟨hp,by show m<=n; omega,u⟩
 rw[if_neg (by simpa using e)];have l:=l (by omega)
 by_cases m1:m > 1
 .rw[if_pos m1]
  refine⟨hp.lt (by omega),hp.lt (by omega),?_⟩
  by_cases c:rk (p.getD 0 0) < rk (p.getD (m - 1) 0)
  .rw[xG c]
   dsimp only;rw[if_pos rfl];exact h _ ⟨hp,by show m<=n; omega,u⟩
  .rw[xH c]
   dsimp only;rw[if_neg qh];have all:∀ i,i < m->KR rk p i=KR rk p 0:=λi hi=>Int.le_antisymm (ÿ (u i (m - 1) (by omega) (by omega)) (Int.not_lt.mp c)) (u 0 i (by omega) hi);have ek:∀ k,KR rk (kas_rev p 0 m) k=KR rk p k:=λk=>by
    rw[An (by omega)];split
    .rw[all _ (by omega),all k (by omega)]
    .rfl
   refine Oe (hp.rev 0 m) (by omega) (by omega) (Dn.congr (p:=p) (λi j dU hj=>?_) ek) h
   by_cases jm:j=m
   .subst jm
    by_cases ij:i=j
    .subst ij; exact à _
    .rw[all i (by omega),<-all (j - 1) (by omega)]
     exact â l
   .rw[all i (by omega),all j (by omega)]
    exact à _
 .rw[if_neg m1]
  have:m=1:=by omega
  subst this;refine Oe hp (by omega) (by omega) (λi j dU hj=>?_) h
  by_cases ij:i=j
  .subst ij; exact à _
  .have e1:i=0:=by omega
   have e2:j=1:=by omega
   subst e1; subst e2;exact â l
theorem Gm{k:Nat}(hp:Pm n p)(hk:k < n){Q:Nat->Prop}(h:∀ l,l<=k->(∀ i,i < l->KR rk p i<=KR rk p k)->(∀ i,l<=i->i < k->KR rk p k<=KR rk p i)->Q l)(hu:Up rk p k):
  ∀ (f l r:Nat),l<=r->r<=k->r - l<=f->(∀ i,i < l->KR rk p i<=KR rk p k)->(∀ i,r<=i->i < k->KR rk p k<=KR rk p i)->eI (i7 rk) n (kas_place p k f l r) Q
 | 0,l,r,a,b,c,d,e=>h l (by omega) d λi hi=>e i (by omega)
 | f+1,l,r,a,b,c,d,e=>by
  unfold kas_place
  by_cases g:l>=r
  .rw[if_pos g]
   exact h l (by omega) d λi hi=>e i (by omega)
  .rw[if_neg g]
   refine⟨hp.lt hk,hp.lt (by omega),?_⟩
   by_cases x:rk (p.getD k 0) < rk (p.getD ((l+r) / 2) 0)
   .rw[xG x]
    dsimp only;rw[if_pos rfl];exact Gm hp hk h hu f l ((l+r) / 2) (by omega) (by omega) (by omega) d λi hi hik=>ÿ (â x) (hu _ i hi hik)
   .rw[xH x]
    dsimp only;rw[if_neg qh];exact Gm hp hk h hu f ((l+r) / 2+1) r (by omega) (by omega) (by omega) (λi hi=>ÿ (hu i ((l+r) / 2) (by omega) (by omega)) (Int.not_lt.mp x)) e
theorem Fx{Q:Array Nat->Prop}(h:∀ p,Pm n p->Up rk p n->Q p):∀ (f:Nat) (p:Array Nat) (k:Nat),Pm n p->1<=k->k+f=n->Up rk p k->eI (i7 rk) n (kas_bin f p k) Q
 | 0,p,k,hp,_,e,hu=>h p hp (by rw[<-e]; exact hu)
 | f+1,p,k,hp,h1,e,hu=>by
  have hs:=hp.size;refine eI.bind (Gm hp (by omega) (λl hl a b=>?_) hu k 0 k (by omega) (qg _) (by omega) (λi hi=>absurd hi (Ċ _)) λi a b=>by omega);refine Fx h f _ (k+1) (hp.bubble _ _) (by omega) (by omega) λi j dU hj=>?_;rw[MH (by omega) (by omega),MH (by omega) (by omega),show k - (k - l)=l by omega]
  by_cases il:i=l
  .rw[if_pos il]
   by_cases jl:j=l
   .rw[if_pos jl]; exact à _
   .rw[if_neg jl]
    split
    .exact b _ (by omega) (by omega)
    .omega
  .rw[if_neg il]
   by_cases jl:j=l
   .rw[if_pos jl]
    split
    .omega
    .exact a i (by omega)
   .rw[if_neg jl]
    split<;>split
    .exact hu _ _ (by omega) (by omega)
    .omega
    .exact hu _ _ (by omega) (by omega)
    .exact hu _ _ (by omega) (by omega)
theorem Y8(h2:1<=n){Q:Array Nat->Prop}(h:∀ p,Pm n p->Up rk p n->Q p):eI (i7 rk) n (kas_sort n) Q:=by
 refine eI.bind (zng (Array.Perm.refl _) h2 λr ⟨hp,hr,hu⟩=>?_);split
 .rename_i c
  by_cases z:r.1=0
  .rw[z]
   exact Fx h (n - max 0 1) r.2 (max 0 1) hp (by decide) (by have:max 0 1=1:=rfl; omega) λi j dU hj=>by
    have:max 0 1=1:=rfl;have:i=j:=by omega
    subst this; exact à _
  .have e:max r.1 1=r.1:=by omega
   rw[e];exact Fx h (n - r.1) r.2 r.1 hp (by omega) (by omega) hu
 .have:r.1=n:=by omega
  exact h _ hp (by rw[<-this]; exact hu)
end
end L2
namespace L2
open PySem PySem.Spec PyProof.Rows
open PySem.AutoSeq1 (wpAny_loadPart')
open MeetsSeq MeetsSeq2 MeetsSeq3 SeqRoads2
def dq:Qa Int->Qa Int->Bool
 | [],[]=>false
 | [],_::_=>true
 | _::_,[]=>false
 | a::as,b::bs=>if a=b then dq as bs else decide (a < b)
theorem Y7{a:Int}{t u:Tok}(h:Q (.bool (decide (a < b))) s):wpAny (model prog w) A (richCompare .Lt (.int a t) (.int b u)) Q E s:=wpAny_lt_int h
theorem znh(l b:Qg)(items bu:Array Qc)(n n2:Nat)(dd vJ:Qb Qg)(sl vi:Array (Qb Qc))(xs ys:Qa Int):
  Meets (Builtin.«tuple.__lt__» ⟨[.ref l,.ref b],[]⟩)
   (λA R s=>s.heap.get? l=some {cls:=.type "tuple",dict:=dd,data:=.seq items n,slots:=sl}/\s.heap.get? b=some {cls:=.type "tuple",dict:=vJ,data:=.seq bu n2,slots:=vi}/\
    IntsAre items.toList xs/\IntsAre bu.toList ys/\R (.ok (.ret (.bool (dq xs ys)))) s):=
 .of_wp λprog w A R s h=>by
  obtain⟨hp,g,d,tk,os⟩:=s;obtain⟨hl,hb,i1,i2,h⟩:=h;have f2:=AutoSeq1.sub_tuple_tuple
  wp_walk using wpAny_loadPart' hl,wpAny_loadPart' hb,wpAny_forIn_list _ (λeJ b s'=>b.1=none/\s'=⟨hp,g,d,tk,os⟩/\∃ (vs us:Qa Qc) (as bs:Qa Int),eJ=vs.zip us/\IntsAre vs as/\IntsAre us bs/\(items.size < bu.size↔as.length < bs.length)/\
   R (.ok (.ret (.bool (dq as bs)))) ⟨hp,g,d,tk,os⟩) _
  case turn=>
   rintro⟨y,x⟩ eJ b s' ⟨jb,rfl,vs,us,as,bs,hz,j1,j2,hn,hR⟩;cases j1 with
   | nil=>cases hz
   | @cons a t vs as j1=>
    cases j2 with
    | nil=>cases hz
    | @cons c u us bs j2=>
     rw[List.zip_cons_cons]at hz;injection hz with hyx xP;injection hyx with e1 e2;subst e1 e2;refine qc (wpAny_eqBool_int ?_)
     by_cases e:a=c
     .subst e
      rw[beq_self_eq_true]
      wp_walk
      refine⟨rfl,rfl,vs,us,as,bs,xP,j1,j2,?_,?_⟩
      .rw[hn,qw,qw]
       omega
      .simpa [dq] using hR
     .rw[beq_eq_false_iff_ne.mpr e]
      wp_walk using Y7
      exact⟨_,rfl,by simpa [dq,e] using hR⟩
  case fin=>
   rintro⟨b1,b2⟩ s' ⟨jb,rfl,vs,us,as,bs,hz,j1,j2,hn,hR⟩;simp only at jb;subst jb
   wp_walk
   refine⟨_,rfl,?_⟩;have e:decide (items.size < bu.size)=dq as bs:=by
    cases j1 with
    | nil=>
     cases j2 with
     | nil=>exact decide_eq_false (λz=>absurd (hn.mp z) (Ì _))
     | cons c u j2=>exact decide_eq_true (hn.mpr (Nat.zero_lt_succ _))
    | cons a t j1=>
     cases j2 with
     | nil=>exact decide_eq_false (λz=>absurd (hn.mp z) (Ċ _))
     | cons c u j2=>cases hz
   show R (Except.ok (Flow.ret (Value.bool (decide (items.size < bu.size))))) _;rw[e];exact hR
  case h=>
   refine⟨rfl,rfl,items.toList,bu.toList,xs,ys,rfl,i1,i2,?_,h⟩;rw[<-IntsAre.length i1,<-IntsAre.length i2,Array.length_toList,Array.length_toList]
theorem zni{l b:Qg}{items bu:Array Qc}{xs ys:Qa Int}(hl:s.heap.IsTuple l items)(hb:s.heap.IsTuple b bu)(i1:IntsAre items.toList xs)(i2:IntsAre bu.toList ys)(hu:A.units < cLine)
  (h:Q (.bool (dq xs ys)) s):wpAny (model prog w) A (compareOp .Lt (.ref l) (.ref b)) Q E s:=by
 obtain⟨⟨cls,dd,data,sl⟩,ho,hc,n,hd⟩:=id hl;obtain⟨⟨IF,vJ,data2,vi⟩,mW,yb,n2,hd2⟩:=id hb;simp only at hc hd yb hd2;subst hc hd yb hd2;exact richCompare_meets_room (op:=.Lt) ⟨_,ho,rfl⟩ ⟨_,mW,rfl⟩ F.slot_tuple_lt F.entry_tuple_lt (F.args_tuple_lt_2 _ _) (znh l b items bu n n2 dd vJ sl vi xs ys) ⟨ho,mW,i1,i2,⟨(λx=>nomatch x),h⟩⟩ hu
end L2
namespace L2
open PySem PySem.Spec PySem.W PyProof.Rows
section
def zCd(prog:Qe)(w:Qh)(A:Qf)(rk:Nat->Int)(vs:Qa Qc)(κ:SortKind)(s:Qd):Prop :=
 ∀ i j (C:Bool->Qd->Prop),i < vs.length->j < vs.length->C (i7 rk i j) s->wpAny (model prog w) A (keyLt' κ (vs.getD i Value.none) (vs.getD j Value.none)) C (λ_ _=>False) s
theorem zku{rk:Nat->Int}{vs:Qa Qc}{P:PySem.Fin->Qd->Prop}(ho:s.heap.get? a=some (seqObj "list" vs.toArray n))(Il:vs.length < 64)
  (hk:2<=vs.length->∀ h':Heap,(∀ b o,b≠a->s.heap.get? b=some o->h'.get? b=some o)->∀ Q:SortKind->Qd->Prop,(∀ κ,zCd prog w A rk vs κ {s with heap:=h'}->Q κ {s with heap:=h'})->wpAny (model prog w) A (keyKind' vs.toArray) Q (λ_ _=>False) {s with heap:=h'})
  (h:∀ p:Array Nat,Pm vs.length p->Up rk p vs.length->P (.done (.ret .none)) {s with heap:=sortedHeap s.heap a vs (List.toArray (p.toList.map λi=>vs.getD i Value.none))}):
  wpAny (model prog w) A (Builtin.«list.sort» ⟨[.ref a],[]⟩) P E s:=by
 have line:(64:Nat)<=sizeLine:=by decide
 have ha:a < s.heap.objs.size:=qj ho;obtain⟨e1,Qs⟩:∃ e1,(s.heap.update a (Obj.mapSeq λ_=>#[])).get? a=some (seqObj "list" #[] e1):=⟨_,get?_update_seq ho (λ_=>#[])⟩;have old:∀ b o,(s.heap.update a (Obj.mapSeq λ_=>#[])).get? b=some o->(((s.heap.update a (Obj.mapSeq λ_=>#[])).push (seqObj "tuple" vs.toArray 0)).push (seqObj "list" #[] 0)).get? b=some o :=
  λb o e=>qf _ (qf _ e)
 have Cg:=old _ _ Qs;have keep:∀ b o,b≠a->s.heap.get? b=some o->(((s.heap.update a (Obj.mapSeq λ_=>#[])).push (seqObj "tuple" vs.toArray 0)).push (seqObj "list" #[] 0)).get? b=some o :=
  λb o ne e=>old b o (by rw[Heap.get?_update_ne _ _ _ _ ne]; exact e)
 rw[list_sort_plain];refine qc (listItems_at ho rfl (qc (listUpdate_at ho rfl (qc (seqEpoch_at Qs rfl (qc (wpAny_newTuple (qc (wpAny_newList (wpAny_holding ?_) ?_)) ?_)))) ?_ ?_)))
 case refine_2=>exact È _
 case refine_3=>show vs.length<=_; omega
 case refine_4=>show vs.toArray.size<=_; rw[List.size_toArray]; omega
 case refine_5=>exact È _
 show wpAny (model prog w) A _ P E {s with heap:=((s.heap.update a (Obj.mapSeq λ_=>#[])).push (seqObj "tuple" vs.toArray 0)).push (seqObj "list" #[] 0)};dsimp only;generalize hH:((s.heap.update a (Obj.mapSeq λ_=>#[])).push (seqObj "tuple" vs.toArray 0)).push (seqObj "list" #[] 0)=h6 at *;have hsz:vs.toArray.size=vs.length:=by simp
 have fin:∀ p:Array Nat,Pm vs.length p->Up rk p vs.length->P (.done (.ret .none)) {s with heap:=h6.update a (Obj.mapSeq λ_=>List.toArray (p.toList.map λi=>vs.getD i Value.none))}:=λp a1 a2=>by
  have:=h p a1 a2;unfold sortedHeap at this;rw[hH]at this;exact this
 by_cases h2:vs.toArray.size < 2
 .rw[if_pos h2,if_pos h2]
  refine qc (qd ?_);rw[StateT.run_pure];refine qc (qd ?_);dsimp only;have hz:(vs.toArray.zip vs.toArray).size=vs.length:=by simp
  have Ib:arrOf (SortSt.mk' general' (vs.toArray.zip vs.toArray) #[] 7 none)=(List.range vs.length).toArray.map (kas_item (vs.toArray.zip vs.toArray)):=by
   have:=kas_range (vs.toArray.zip vs.toArray);rw[hz]at this;exact this.symm
  have e:=kat_snds (ks:=vs) (vs:=vs) rfl Ib;rw[e];refine qc (seqEpoch_at Cg rfl (qc (listUpdate_at Cg rfl ?_ ?_ ?_)))
  .show wpAny _ _ (if(e1 != e1)=true then _ else _) _ _ _
   rw[bne_self_eq_false,if_neg qh];refine qd (fin _ (Array.Perm.refl _) λi j dU hj=>?_);have:i=j:=by omega
   subst this;exact à _
  .exact È _
  .rw[List.size_toArray,List.length_map]
   simp;omega
 .rw[if_neg h2,if_neg h2]
  have iI:2<=vs.length:=by omega
  refine qc (wpAny_mono (hk iI h6 keep _ λκ ask=>?_) (λ_ _ x=>x) λ_ _ x=>x.elim);refine qc (wpAny_mono (kat_run (ks:=vs) (Q:=λdR s'=>s'={s with heap:=h6}/\∃ p:Array Nat,Pm vs.length p/\Up rk p vs.length/\arrOf dR=p.map (kas_item (vs.toArray.zip vs.toArray))/\failedOf dR=none) (G:=λp s'=>s'={s with heap:=h6}/\Pm vs.length p/\Up rk p vs.length) rfl iI Il
   (λp dR s' _ a2 a3 a4=>⟨a4.1,p,a4.2.1,a4.2.2,a2,a3⟩) (eI.wp (lt:=i7 rk) (n:=vs.length) ask (λp hp=>⟨rfl,hp⟩) (Y8 (by omega) λp a1 a2=>⟨a1,a2⟩))) ?_ λ_ _ x=>x)
  rintro⟨⟨⟩,dR⟩ s' ⟨rfl,p,a1,a2,Ib,hf⟩;dsimp only;have e:=kat_snds (ks:=vs) (vs:=vs) rfl Ib;rw[e,hf];refine qc (seqEpoch_at Cg rfl (qc (listUpdate_at Cg rfl ?_ ?_ ?_)))
  .show wpAny _ _ (if(e1 != e1)=true then _ else _) _ _ _
   rw[bne_self_eq_false,if_neg qh];exact qd (fin p a1 a2)
  .exact È _
  .rw[List.size_toArray,List.length_map,Array.length_toList,a1.size]
   omega
end
theorem sI:∀ a:Qa Int,dq a a=false
 | []=>rfl
 | a::as=>by unfold dq; rw[if_pos rfl]; exact sI as
theorem u9:∀ {a b c:Qa Int},dq a b=true->dq b c=true->dq a c=true
 | [],[],_,h,_=>by cases h
 | [],_::_,[],_,h=>by cases h
 | [],_::_,_::_,_,_=>rfl
 | _::_,[],_,h,_=>by cases h
 | _::_,_::_,[],_,h=>by cases h
 | a::as,b::bs,c::cs,h1,h2=>by
  unfold dq at h1 h2 ⊢
  by_cases e1:a=b
  .subst e1
   rw[if_pos rfl]at h1
   by_cases e2:a=c
   .rw[if_pos e2]at h2 ⊢
    exact u9 h1 h2
   .rw[if_neg e2]at h2 ⊢
    exact h2
  .rw[if_neg e1]at h1
   have l1:=of_decide_eq_true h1
   by_cases e2:b=c
   .subst e2
    rw[if_neg e1];exact h1
   .rw[if_neg e2]at h2
    have l2:=of_decide_eq_true h2;rw[if_neg (by omega)];exact decide_eq_true (by omega)
theorem wU:∀ {a b:Qa Int},a≠b->dq a b=true\/dq b a=true
 | [],[],h=>absurd rfl h
 | [],_::_,_=>.inl rfl
 | _::_,[],_=>.inr rfl
 | a::as,b::bs,h=>by
  unfold dq
  by_cases e:a=b
  .subst e
   rw[if_pos rfl,if_pos rfl];exact wU λz=>h (by rw[z])
  .rw[if_neg e,if_neg (λz=>e z.symm)]
   rcases(by omega:a < b\/b < a)with z|z
   .exact .inl (decide_eq_true z)
   .exact .inr (decide_eq_true z)
theorem Ml{p q:α->Bool}:∀ {l:Qa α} {x:α},(∀ y∈l,p y=true->q y=true)->x∈l->q x=true->p x=false->l.countP p < l.countP q
 | y::l,x,h,m,hq,hp=>by
  rw[List.countP_cons,List.countP_cons];have le:l.countP p<=l.countP q:=List.countP_mono_left λz hz=>h z (qp _ hz);rcases qx.mp m with e|m
  .subst e
   rw[hp,hq];simp;omega
  .have:=Ml (λz hz=>h z (qp _ hz)) m hq hp
   by_cases c:p y=true
   .rw[c,h y qq c]
    simp;omega
   .rw[if_neg c]
    split<;>omega
def pC(ps:Qa (Qa Int))(i:Nat):Int:=((List.range ps.length).countP λk=>dq (ps.getD k []) (ps.getD i []):Nat)
theorem Fw{ps:Qa (Qa Int)}(hi:i < ps.length)(h:dq (ps.getD i []) (ps.getD j [])=true):pC ps i < pC ps j:=by
 unfold pC;have:=Ml (p:=λk=>dq (ps.getD k []) (ps.getD i [])) (q:=λk=>dq (ps.getD k []) (ps.getD j [])) (l:=List.range ps.length) (x:=i) (λy _ hy=>u9 hy h) (Ê.mpr hi) h (sI _);omega
theorem Gk{ps:Qa (Qa Int)}(h:ps.Nodup)(hi:i < ps.length)(hj:j < ps.length)(ne:i≠j):ps.getD i []≠ps.getD j []:=by
 have e:∀ k (hk:k < ps.length),ps.getD k []=ps[k]:=λk hk=>by simp[hk]
 rw[e i hi,e j hj];intro z;rcases Nat.lt_or_gt_of_ne ne with l|l
 .exact é.mp h i j hi hj l z
 .exact é.mp h j i hj hi l z.symm
theorem VB{ps:Qa (Qa Int)}(h:ps.Nodup)(hi:i < ps.length)(hj:j < ps.length):i7 (pC ps) i j=dq (ps.getD i []) (ps.getD j []):=by
 cases c:dq (ps.getD i []) (ps.getD j [])with
 | true=>exact decide_eq_true (Fw hi c)
 | false=>
  refine decide_eq_false λz=>?_
  by_cases e:i=j
  .subst e; omega
  .rcases wU (Gk h hi hj e)with y|y
   .rw[c]at y; cases y
   .have:=Fw hj y
    omega
theorem Pm.list(h:Pm n p):p.toList.Perm (List.range n):=by
 have:=h.toList;simpa using this
theorem TR{ps:Qa (Qa Int)}(h:ps.Nodup)(hp:Pm ps.length p)(hu:Up (pC ps) p ps.length):(p.toList.map λi=>ps.getD i []).Pairwise λa b=>dq a b=true:=by
 have hs:=hp.size;have hl:=hp.list;have nd:p.toList.Nodup:=hl.nodup_iff.mpr List.nodup_range;refine List.pairwise_map.mpr (é.mpr λi j hi hj dU=>?_);have e:∀ k (hk:k < p.toList.length),KR (pC ps) p k=pC ps p.toList[k]:=λk hk=>by
  unfold KR;have iH:k < p.size:=by simpa using hk
  congr 1;simp[Array.getD,iH]
 have m:∀ k (hk:k < p.toList.length),p.toList[k] < ps.length:=λk hk=>Ê.mp (hl.mem_iff.mp (ą hk));have le:=hu i j (by omega) (by rw[Array.length_toList]at hj; omega);rw[e i hi,e j hj]at le;have ne:p.toList[i]≠p.toList[j]:=é.mp nd i j hi hj dU;rcases wU (Gk h (m i hi) (m j hj) ne)with z|z
 .exact z
 .have:=Fw (m j hj) z
  omega
def pB(h:Heap)(v:Qc)(ns:Qa Int):Prop:=∃ (a b:Qg) (u:Qc) (ah:Array Qc),v=.ref a/\IsTup h a #[.ref b,u]/\IsTup h b ah/\IntsAre ah.toList ns
theorem Mj{ah:Array Qc}(t:IsTup h a ah)(k:∀ o,h.get? a=some o->h'.get? a=some o):IsTup h' a ah:=by
 obtain⟨o,e,r⟩:=t;exact⟨o,k o e,r⟩
theorem Gj:∀ {vs:Qa Qc} {ns:Qa Int},IntsAre vs ns->ItemsAre (e9 prog w) (ns.map λn=>(Sum.inl n:Key)) vs
 | _,_,.nil=>.nil
 | _,_,.cons n t h=>.cons (show Value.isInt n (.int n t)=true by simp[Value.isInt]) (Gj h)
theorem EZ{ms:Qa Int}:(ns.map λn=>(Sum.inl n:Key))=(ms.map λn=>(Sum.inl n:Key))↔ns=ms:=by
 constructor
 .intro h
  have:=congrArg (List.map λk:Key=>match k with | .inl n=>n | .inr _=>0) h;rw[List.map_map,List.map_map]at this;simpa [Function.comp_def] using this
 .rintro rfl; rfl
section
theorem zAS{v v':Qc}{qK:Qa Int}{C:Bool->Qd->Prop}(hu:A.units < cLine)(p:pB s.heap v ns)(p':pB s.heap v' qK)(ne:v=v'\/ns≠qK)(h:C (dq ns qK) s):wpAny (model prog w) A (keyLt' (tuples' false) v v') C (λ_ _=>False) s:=by
 obtain⟨a,b,u,ah,rfl,⟨oa,ea,ca,na,da⟩,tb,ib⟩:=p;obtain⟨a',b',u',its',rfl,⟨oa',gW,ca',Hr,IE⟩,PM,Qm⟩:=p';refine kat_lt ea da gW IE ?_;show KatLex prog w A false _ C [(.ref b,.ref b'),(u,u')] 0 s;obtain⟨ob,eb,cb,nb,db⟩:=id tb;obtain⟨ob',eb',cb',nb',db'⟩:=id PM;refine kat_cons (wpAny_eqBool_tuple (knd:=e9 prog w) hu ⟨ob,ah,nb,eb,cb,db,Gj ib⟩ ⟨ob',its',nb',eb',cb',db',Gj Qm⟩ ?_)
 by_cases e:ns=qK
 .rw[decide_eq_true (EZ.mpr e)]
  rcases ne with z|z
  .cases z
   rw[ea]at gW;cases gW;rw[da]at IE;injection IE with d1 d2;have d3:=congrArg Array.toList d1;have e1:Value.ref b=.ref b'/\u=u':=by simpa using d3
   obtain⟨_,rfl⟩:=e1;refine kat_yes (kat_cons (SeqAt.EqAt.same u prog w _ _ (kat_yes (kat_nil ?_))));subst e;rw[sI]at h;exact h
  .exact absurd e z
 .rw[decide_eq_false λz=>e (EZ.mp z)]
  refine kat_no (kat_one _ _ (zni tb PM ib Qm hu ?_));exact h
end
theorem pB.kept{v:Qc}(p:pB h v ns)(k:∀ b o,h.get? b=some o->h'.get? b=some o):pB h' v ns:=by
 obtain⟨a,b,u,ah,e,ta,tb,i⟩:=p;exact⟨a,b,u,ah,e,Mj ta (k a),Mj tb (k b),i⟩
theorem MF:∀ {vs:Qa Qc},(∀ v∈vs,∃ ns,pB h v ns)->∃ fs,KatTups h vs fs/\fs.length=vs.length/\∀ f∈fs,∃ (b:Qg) (ah:Array Qc),f=.ref b/\IsTup h b ah
 | [],_=>⟨[],.nil,rfl,λf hf=>by cases hf⟩
 | v::vs,hv=>by
  obtain⟨fs,k,l,q⟩:=MF (vs:=vs) λx hx=>hv x (qp _ hx);obtain⟨ns,a,b,u,ah,rfl,⟨o,eo,co,n,dO⟩,tb,_⟩:=hv v qq;refine⟨.ref b::fs,.cons eo co dO rfl k,by rw[qw,qw,l],λf hf=>?_⟩;rcases qx.mp hf with e|hf
  .exact⟨b,ah,e,tb⟩
  .exact q f hf
def VA(K:qe)(H:Hp)(vs:Qa V)(ps:Qa (Qa Int)):Prop:=vs.length=ps.length/\∀ i v,vs[i]?=some v->∃ (a b:Qg) (y:V),v=.ref a/\bt K H a [.ref b,y]/\bt K H b ((ps.getD i []).map V.int)
def Ku(K:qe):Qa V->Hp->VK->Prop:=λxs H Q=>∃ (l:Qg) (vs:Qa V) (ps:Qa (Qa Int)),xs=[.ref l]/\bo K H l vs/\vs.length < 64/\VA K H vs ps/\ps.Nodup/\
 ∀ (is:Qa Nat) r,is.Perm (List.range vs.length)->(is.map λi=>ps.getD i []).Pairwise (λa b=>dq a b=true)->H r=none->Q (.ref r) (upd H r (.lst (is.map λi=>vs.getD i .aN)))
theorem MD{us:Qa Qc}(r:zV vs us):∀ is:Qa Nat,(∀ i∈is,i < vs.length)->zV (is.map λi=>vs.getD i .aN) (is.map λi=>us.getD i Value.none)
 | [],_=>.nil
 | i::is,h=>by
  have hi:=h i qq;obtain⟨u,e,ru⟩:=r.get (qo hi);refine .cons ?_ (MD r is λj hj=>h j (qp _ hj));show zY (vs.getD i .aN) (us.getD i Value.none);rw[qD,qD,qo hi,e];exact ru
section
variable{X:Cx}
theorem M4(K:qe)(hK:X.K=K){k:Nat}(hr:aK k X.A):e8 X (.builtin "sorted") (Ku K):=by
 subst hK;intro pins s σ H xs us Q I r h;obtain⟨l,vs,ps,rfl,hl,Il,⟨lp,hp⟩,nd,q⟩:=h;obtain⟨u,rfl,ru⟩:=jr r;cases ru;obtain⟨ah,rv,⟨o,n,eo,co,_,dO⟩,_⟩:=I.list hl;have line:(64:Nat)<=sizeLine:=by decide
 have lv:ah.length=vs.length:=rv.length.symm;have pr:∀ i,i < ah.length->pB s.heap (ah.getD i Value.none) (ps.getD i []):=λi hi=>by
  have fF:i < vs.length:=by omega
  obtain⟨a,b,y,ev,ha,hb⟩:=hp i _ (qo fF);obtain⟨u,eu,ru⟩:=rv.get (qo fF);rw[ev]at ru;cases ru;obtain⟨ia,ra,ta,_⟩:=I.tuple ha;obtain⟨u1,u2,rfl,r1,r2⟩:=ra.two;cases r1;obtain⟨ib,rb,tb,_⟩:=I.tuple hb;refine⟨a,b,u2,ib.toArray,?_,ta,tb,M7 rb⟩;rw[qD,eu];rfl
 refine Calls.call_function_entry kind_sorted plain_sorted entry_sorted (args_sorted1 _) ?_;unfold Builtin.«sorted»;refine qc (m:=checkCount "sorted" 1 1 _) (qd ?_);refine qc (collect_list (vs:=ah) ⟨o,eo,co,n,dO⟩ (qc (wpAny_newList ?_ ?_)) (by omega))
 case refine_2=>omega
 generalize hH:(s.heap.push (seqObj "list" #[] 0)).update s.heap.objs.size (Obj.mapSeq (·++ah.toArray))=h1 at *;have hsz:h1.objs.size=s.heap.objs.size+1:=by rw[<-hH,Heap.size_update,size_push']
 have qN:∀ b o,s.heap.get? b=some o->h1.get? b=some o:=λb o e=>by
  have cM:b < s.heap.objs.size:=qj e;rw[<-hH,Heap.get?_update_ne _ _ _ _ (ql cM),Heap.get?_push_ne _ _ _ (ql cM)];exact e
 have I1:Inv X pins σ H {s with heap:=h1,toks:=s.toks}:=I.kept qN;have oK:(h1.push (seqObj "list" ah.toArray 0)).get? h1.objs.size=some (seqObj "list" ah.toArray 0):=qi _ rfl;have hu:X.A.units+64 < cLine:=hr.units;refine qc (wpAny_holding (wpAny_call_entry slot_list_sort ⟨_,oK,rfl⟩ entry_list_sort (zku (rk:=pC ps) (s:={s with heap:=h1.push (seqObj "list" ah.toArray 0)}) oK (by omega) (λh2 h' kp Q' hQ=>?_) λp a1 a2=>⟨_,rfl,?_⟩) (args_list_sort _)))
 .have kp':∀ b o,s.heap.get? b=some o->h'.get? b=some o:=λb o e=>by
   have cM:b < s.heap.objs.size:=qj e;exact kp b o (ql (by rw[hsz]; exact ç cM)) (qf _ (qN b o e))
  have He:∀ i,i < ah.length->pB h' (ah.getD i Value.none) (ps.getD i []):=λi hi=>(pr i hi).kept kp';obtain⟨fs,kt,lf,tf⟩:=MF (h:=h') (vs:=ah) λv hv=>by
   obtain⟨i,hi,e⟩:=ö hv;have:=He i hi;rw[show ah.getD i Value.none=v by simp[hi,e]]at this;exact⟨_,this⟩
  refine kat_kind (fs:=fs) (T:=.type "tuple") kt (by omega) (λv hv=>?_) (by decide) ?_
  .obtain⟨b,ib,rfl,o,eo,co,_⟩:=tf v hv
   rw[<-co];exact(Looks.ld eo).andThen .now
  .refine hQ _ λi j C hi hj hc=>?_
   rw[VB nd (by omega) (by omega)]at hc;refine zAS (by show X.A.units+1+1 < cLine; omega) (He i hi) (He j hj) ?_ hc
   by_cases e:i=j
   .exact .inl (by rw[e])
   .exact .inr (Gk nd (by omega) (by omega) e)
 .refine qd ⟨_,rfl,?_⟩
  obtain⟨en,ho⟩:=sortedHeap_at (vs:=ah) (out:=List.toArray (p.toList.map λi=>ah.getD i Value.none)) oK;have fresh:H h1.objs.size=none:=I1.aD.fresh (qg _);have perm:p.toList.Perm (List.range vs.length):=by
   have:=a1.list;rw[lv]at this;exact this
  have mem:∀ i∈p.toList,i < vs.length:=λi hi=>Ê.mp (perm.mem_iff.mp hi);have lm:p.toList.length=vs.length:=by
   have:=perm.length_eq;simpa using this
  rw[lv,lp]at a1 a2;refine⟨.ref h1.objs.size,_,I1.laid (t':=s.toks) (a:=h1.objs.size) (o:=.lst (p.toList.map λi=>vs.getD i .aN)) (λb o e=>?_) (qg _) ⟨by rw[List.length_map]; omega,p.toList.map λi=>ah.getD i Value.none,en,MD rv p.toList mem,by simpa using ho⟩,rfl,q p.toList _ perm (TR nd a1 a2) fresh⟩;have hb:b < h1.objs.size:=qj e;rw[sortedHeap_old (ql hb) (by rw[Heap.size_push]; exact ç hb)];exact qf _ e
end
end L2
namespace L2
open PySem PySem.Spec PyProof.Rows
def g8(h:Heap)(d:Qg)(es:Array DictEntry)(ep:Nat):Prop:=∃ o,h.get? d=some o/\o.ExactDict/\o.data=.dict es ep
theorem g8.typeIs{d:Qg}(r:g8 s.heap d es ep):s.TypeIs (.ref d) "dict":=by
 obtain⟨o,e,x,_⟩:=r;exact⟨o,e,x.1⟩
section
variable{d:Qg}
theorem YR(hd:(d==sysModules)=false)(r:g8 s.heap d es ep)
  (q:∀ h':Heap,h'.IsKeyIter s.heap.objs.size d 0 es.size ep->(∀ b o,s.heap.get? b=some o->h'.get? b=some o)->Q (.ref s.heap.objs.size) {s with heap:=h'}):wpAny (model prog w) A (pyIter (.ref d)) Q E s:=by
 have hT:=r.typeIs;obtain⟨o,e,_,dat⟩:=r;refine wpAny_pyIter_slot hT F.slot_dict_iter (wpAny_call_entry F.slot_dict_iter hT F.entry_dict_iter ?_ (F.args_dict_iter_1 _));unfold Builtin.«dict.__iter__»;refine qc ?_;unfold Builtin.Dict.dictSlotNone;refine qc (wpAny_notOrdered_dict hT (qd ?_));show wpAny _ _ (Builtin.Dict.showsAll d >>= _) _ _ s;unfold Builtin.Dict.showsAll;rw[hd,if_neg qh];refine qc (qd (qc (wpAny_dictEntries e dat (qc (wpAny_dictEpoch e dat (qc (qC (qd ⟨_,rfl, "dict_keyiterator",_,⟨_,qi _ rfl,rfl⟩,æ.lookup,?_⟩))))))));exact q _ ⟨_,qi _ rfl,rfl,by simp[rawInt]⟩ λb o z=>qf _ z
theorem YQ{Q:Qb Qc->Qd->Prop}(k:s.heap.IsKeyIter it d i es.size ep)(r:g8 s.heap d es ep){x:DictEntry}(hx:es[i]?=some x)
  (q:∀ h':Heap,h'.IsKeyIter it d (i+1) es.size ep->Heap.SameBut it s.heap h'->Q (some x.key) {s with heap:=h'}):wpAny (model prog w) A (pyNext (.ref it)) Q E s:=by
 have kT:=k.typeIs;obtain⟨oi,ei,ci,fi⟩:=id k;obtain⟨o,e,_,dat⟩:=r;unfold pyNext;refine qc (wpAny_attempt (wpAny_callSpecial?_slot (name:=Str.ofString "__next__") kT æ
  (wpAny_call_entry æ kT F.entry_dict_keyiterator_next ?_ (F.args_dict_keyiterator_next_1 _))))
 refine qc (qd (qc (qc ?_)));refine qc (wpAny_typeNameOfWhole_keyiter kT (qd (qc (wpAny_fieldsOf ei fi ?_))));simp only[show Builtin.Dict_items.ownsTuple "dict_keyiterator"=false by decide,Bool.false_eq_true,if_false];show wpAny _ _ (if(Value.ref d==Value.none)=true then _ else _) _ _ s;rw[if_neg (show ¬((Value.ref d==Value.none)=true) from qh)];refine qc (qd (qc (wpAny_dictEntries e dat ?_)));rw[if_neg (by simp)];refine qc (qd (qc (wpAny_dictEpoch e dat ?_)));rw[if_neg (by simp)];refine qd ?_;simp only[show ¬((i:Int) < 0) from by omega,if_false,Int.toNat_natCast,hx];refine qc (qc (wpAny_typeNameOfWhole_keyiter kT (qd (qc (wpAny_isOneOf_keyiter kT ?_)))));show wpAny _ _ (setField (.ref it) 1 (rawInt ((i:Int)+1)) >>= _) _ _ s;refine qc (wpAny_setField ei fi (by simp) ?_);have k':(s.heap.update it (Obj.mapFields (·.setIfInBounds 1 (rawInt ((i:Int)+1))))).IsKeyIter it d (i+1) es.size ep :=
  ⟨_,Ë _ ei (Ù (Õ fi _)),(Obj.cls_mapFields ..).trans ci,by rw[Obj.data_mapFields fi]; simp[rawInt]⟩
 refine qc (wpAny_holding (qc (wpAny_isOneOf_keyiter (s:={s with heap:=s.heap.update it (Obj.mapFields (·.setIfInBounds 1 (rawInt ((i:Int)+1))))}) k'.typeIs ?_)));show wpAny _ _ (pure x.key) _ _ _;exact qd (qd ⟨_,rfl,qd (q _ k' (É ..))⟩)
theorem Vz{Q:Qb Qc->Qd->Prop}(hh:A.handled=none)(k:s.heap.IsKeyIter it d i es.size ep)(r:g8 s.heap d es ep)(hx:es.size<=i)
  (q:∀ h':Heap,Heap.ExtBut it s.heap h'->Q none {s with heap:=h'}):wpAny (model prog w) A (pyNext (.ref it)) Q E s:=by
 have kT:=k.typeIs;obtain⟨oi,ei,ci,fi⟩:=id k;obtain⟨o,e,_,dat⟩:=r;unfold pyNext;refine qc (wpAny_attempt (wpAny_callSpecial?_slot (name:=Str.ofString "__next__") kT æ
  (wpAny_call_entry æ kT F.entry_dict_keyiterator_next ?_ (F.args_dict_keyiterator_next_1 _))))
 refine qc (qd (qc (qc ?_)));refine qc (wpAny_typeNameOfWhole_keyiter kT (qd (qc (wpAny_fieldsOf ei fi ?_))));simp only[show Builtin.Dict_items.ownsTuple "dict_keyiterator"=false by decide,Bool.false_eq_true,if_false];show wpAny _ _ (if(Value.ref d==Value.none)=true then _ else _) _ _ s;rw[if_neg (show ¬((Value.ref d==Value.none)=true) from qh)];refine qc (qd (qc (wpAny_dictEntries e dat ?_)));rw[if_neg (by simp)];refine qc (qd (qc (wpAny_dictEpoch e dat ?_)));rw[if_neg (by simp)];refine qd ?_;simp only[show ¬((i:Int) < 0) from by omega,if_false,Int.toNat_natCast,Array.getElem?_eq_none hx];refine qc (qc (wpAny_typeNameOfWhole_keyiter kT (qd ?_)));show wpAny _ _ (setField (.ref it) 0 .none >>= _) _ _ s;refine qc (wpAny_setField ei fi (by simp) ?_);show wpAny _ _ (newExc (.type "StopIteration") [] >>= _) _ _ _;refine qc ?_;simp only[newExc,newTuple];refine qc (qC ?_ (by show(0:Nat)<=sizeLine; exact È _));refine qc (m:=firstArgMember _ _) (wpAny_of_eq (a:=Value.none) (by first|rfl | (simp only[firstArgMember]; rfl)) ?_);refine qC ?_ (by first|trivial|size_fits);simp only[raiseNew];refine qc (wpAny_handled ?_);rw[show A.in1.handled=none from hh];refine qc (qd (wpAny_throw ?_));refine qc (wpAny_isInstance (T := "StopIteration") (b:=true) ⟨_,qi _ rfl,rfl⟩ isSubtype_stop ?_);exact qd (q _ (((É ..).extBut.push _).push _))
end
theorem Gi{R:α->β->Prop}:∀ {xs:Qa α} {ys:Qa β},Paired R xs ys->∀ (i:Nat) (x:α),xs[i]?=some x->∃ y,ys[i]?=some y/\R x y
 | _,_,.nil,i,x,h=>by simp at h
 | _,_,.cons r _,0,x,h=>by
  cases(show some _=some x from h);exact⟨_,rfl,r⟩
 | _,_,.cons _ t,i+1,x,h=>Gi t i x h
theorem wX{R:α->β->Prop}:∀ {xs:Qa α} {ys:Qa β},Paired R xs ys->xs.length=ys.length
 | _,_,.nil=>rfl
 | _,_,.cons _ t=>by rw[qw,qw,wX t]
theorem EY{X:Cx}{o:Obj}(I:Inv X pins σ H s)(e:H a=some (.aS o (.dT kvs))):
  (a==sysModules)=false/\∃ (es:Array DictEntry) (ep:Nat),s.heap.get? a=some o/\o.ExactDict/\o.data=.dict es ep/\es.size=kvs.length/\∀ (i:Nat) (k:Qa Key) (v:V),kvs[i]?=some (k,v)->∃ (b:Qg) (x:DictEntry),es[i]?=some x/\x.key=.ref b/\aT X.K H b (k.map kV):=by
 obtain⟨ea,z,y,xs,r,o',es,ep,h1,h2,h3,h4,h5⟩:=(show bT X.prog X.w X.K H s.heap a (.aS o (.dT kvs)) from I.aD a _ e);rw[ea]at h1;cases h1;refine⟨y,es,ep,ea,h2,h3,?_,λi k v hi=>?_⟩
 .have:=congrArg List.length h4
  rw[Array.length_toList,List.length_map,<-wX r]at this;exact this
 .obtain⟨q,hq,r1,r2,_⟩:=Gi r i (k,v) hi
  refine⟨q.2.1,entryOfKey (tupleKind (e9 X.prog X.w)) q,?_,rfl,r2⟩;have:es.toList[i]?=some (entryOfKey (tupleKind (e9 X.prog X.w)) q):=by rw[h4,List.getElem?_map,hq]; rfl
  simpa using this
def CJ(K:qe)(a:Qg)(o:Obj)(kvs:Qa (Qa Key×V)):It :=
 ⟨λi H=>H a=some (.aS o (.dT kvs))/\i < kvs.length,λi H x H'=>H'=H/\∀ k v,kvs[i]?=some (k,v)->∃ b,x=.ref b/\aT K H b (k.map kV),λi H=>H a=some (.aS o (.dT kvs))/\kvs.length<=i⟩
theorem znj(a it:Qg)(o:Obj)(kvs:Qa (Qa Key×V))(ep:Nat)(qW:∃ es,o.data=.dict es ep):Turn P w K tg (CJ K a o kvs) [it] it (λi h=>h.IsKeyIter it a i kvs.length ep) where
 mem:=by simp
 obj:=λi h st b hb=>by
  have e:b=it:=by simpa using hb
  subst e;obtain⟨oi,e,c,d⟩:=st;exact⟨oi,e,λv z=>by rw[d]at z; cases z⟩
 keep:=λi h h' st k=>st.at λoi e=>k it (by simp) oi e
 item:=by
  intro X hP hw hK hc i pins s σ H E I hf st hg;subst hP hw hK;obtain⟨e,hi⟩:=hg;obtain⟨lJ,es,fH,ea,xd,dat,hsz,ent⟩:=EY I e;have lP:fH=ep:=by
   obtain⟨fB,z⟩:=qW;rw[dat]at z;injection z
  subst lP;obtain⟨f0,f1,f2,f3,f4,f5⟩:=hf it (by simp);obtain⟨b,x,ex,kx,hb⟩:=ent i kvs[i].1 kvs[i].2 (qo hi);refine YQ (es:=es) (by rw[hsz]; exact st) ⟨o,ea,xd,dat⟩ ex λh' dR sb=>?_;have I1:Inv X pins σ H {s with heap:=h'}:=I.turned (t':=s.toks) (λb o hb e=>(sb.2 b hb).trans e) f0 f1 f3 f4 f5;obtain⟨oi,e',c',d'⟩:=id dR;rw[kx];refine⟨.ref b,rfl,uo (s:={s with heap:=h'}) e' c' d' (by decide) ⟨.ref b,H,I1,rfl,⟨rfl,λk v mX=>⟨b,rfl,?_⟩⟩,by rw[hsz]at dR; exact dR,λb hb=>(hf b hb).1⟩⟩;rw[qo hi]at mX;rw[qA mX]at hb;exact hb
 done:=by
  intro X hP hw hK hc i pins s σ H E I hf st hg;subst hP hw hK;obtain⟨e,hi⟩:=hg;obtain⟨lJ,es,fH,ea,xd,dat,hsz,ent⟩:=EY I e;have lP:fH=ep:=by
   obtain⟨fB,z⟩:=qW;rw[dat]at z;injection z
  subst lP;obtain⟨f0,f1,f2,f3,f4,f5⟩:=hf it (by simp);exact Vz (es:=es) (I.ok.hd hc) (by rw[hsz]; exact st) ⟨o,ea,xd,dat⟩ (by omega) λh' eb=>⟨rfl,I.turned (t':=s.toks) (λb o hb e=>eb b o hb e) f0 f1 f3 f4 f5⟩
 self:=λ_ _ _ _ _ st h=>wpAny_pyIter_keyiter st h
section
variable{X:Cx}
theorem Inv.freeze(I:Inv X pins σ H s)(e:H a=some (.dT kvs)):∃ o,s.heap.get? a=some o/\Inv X pins σ (upd H a (.aS o (.dT kvs))) s:=by
 have ok:=(show bT X.prog X.w X.K H s.heap a (.dT kvs) from I.aD a _ e);obtain⟨z,y,xs,r,o,es,ep,h1,h2⟩:=id ok;refine⟨o,h1,?_⟩;have xv:bT X.prog X.w X.K (upd H a (.aS o (.dT kvs))) s.heap a (.dT kvs):=ok.d9 (λ_ _ _ q=>q) (λb q=>by rw[zH (nM q e (by intro z; cases z))]; exact q) λb ys q=>by rw[zH (nM q e (by intro z; cases z))]; exact q
 exact I.write (t':=s.toks) (h':=s.heap) (by rw[e]; trivial) (.inl rfl) (λ_ _ _ q=>q) ⟨o,h1⟩ ⟨h1,xv⟩
def Kt(K:qe)(td:TE):TI:=λσ H R=>td σ H λx H1=>∃ a kvs,x=.ref a/\((H1 a=some (.dT kvs)/\∀ o,R (CJ K a o kvs) (upd H1 a (.aS o (.dT kvs))))\/∃ o,H1 a=some (.aS o (.dT kvs))/\R (CJ K a o kvs) H1)
theorem pT{d:Expr}(hd:Wr (PE X d td)):Wr (PI X tg d (Kt X.K td)):=by
 refine⟨?_⟩;intro pins s σ H R I h;refine aI (hd.run pins s σ H _ I h) λv s1 ⟨x,H1,I1,r1,q1⟩=>?_;obtain⟨a,kvs,e,q⟩:=q1;subst e;cases r1;have key:∀ (H2:Hp) (o:Obj),Inv X pins σ H2 s1->H2 a=some (.aS o (.dT kvs))->R (CJ X.K a o kvs) H2->wpAny (model X.prog X.w) X.A (pyIter (.ref a)) (CI X pins σ tg R) X.xe s1:=λH2 o I2 e2 q2=>by
  obtain⟨lJ,es,ep,ea,xd,dat,hsz,_⟩:=EY I2 e2;refine YR (es:=es) lJ ⟨o,ea,xd,dat⟩ λh' hit kk=>?_;refine⟨s1.heap.objs.size,[s1.heap.objs.size],_,_,H2,rfl,I2.kept (t':=s1.toks) kk,znj a s1.heap.objs.size o kvs ep ⟨es,dat⟩,by rw[<-hsz]; exact hit,λb hb=>?_,q2⟩;have e:b=s1.heap.objs.size:=by simpa using hb
  subst e;exact I2.cS (qg _) (I2.aD.fresh (qg _))
 rcases q with⟨e1,q⟩|⟨o,e1,q⟩
 .obtain⟨o,_,I2⟩:=I1.freeze e1
  exact key _ o I2 zx (q o)
 .exact key H1 o I1 e1 q
end
end L2
namespace L2
open PySem PySem.Spec PyProof.Rows
open PySem.W (Looks)
def zCe(C p:Qg):Obj:={cls:=.ref C,data:=.fields #[.ref p,.none,.none,.none,.bool false,.none]}
section
variable{g:Array GenState}{d:Drawn}{t:Nat}{os:OsState}
variable{nm q:Str}{C N:Qg}{bs bm bmB:Qa Qc}{tO:Bool}{sn:Qa Str}{sub:Qa Qc}{ab:Bool}{col:Qb Bool}{dd:Qb Qg}{k0 k1 k2 k3 k5:Qb Qc}{B newId HA:String}
end
abbrev GY:Qa Qc:=[.type "ValueError",.type "Exception",.type "BaseException",.type "object"]
structure XC (K:qe) (C:Qg):Prop where
 at_:∃ nm q N bs bm sn sub ab col dd k0 k1 k2 k3 k5,K.lookup C=some (excClassObj nm q C N bs bm true sn sub ab col dd k0 k1 k2 k3 k5 "ValueError.__new__")/\PySem.W.tailIn K GY bm=true
 ga:PySem.W.findIn K (.ref C) "__getattribute__"=some (some (.builtin "BaseException.__getattribute__"))
 gh:PySem.W.findIn K (.ref C) "__getattr__"=some none
 sa:PySem.W.findIn K (.ref C) "__setattr__"=some (some (.builtin "object.__setattr__"))
section
variable{C x:Qg}
end
end L2
namespace L2
open PySem PySem.Spec PyProof.Rows
open PySem.W (Looks InstAt)
section
variable{C x:Qg}
end
end L2
namespace L2
open PySem PySem.Spec PyProof.Rows
open PySem.W (Looks InstAt)
structure XI (K:qe) (C:Qg):Prop where
 cl:XC K C
 ca:PySem.W.findIn K (.ref C) "__class__"=some (some (.builtin "object.__class__"))
 cg:PySem.W.specialIn K (.builtin "object.__class__") "__get__"=some (some (.builtin "getset_descriptor.__get__"))
 ct:PySem.W.takesIn K (.builtin "object.__class__")=some true
 cm:PySem.W.mroIn K C (.type "object")=some true
section
variable{C x:Qg}
end
end L2
namespace L2
open PySem PySem.Spec PyProof.Rows
open PySem.W (Looks InstAt)
def XV(H:Hp)(a C:Qg)(fs:Qa (Str×V)):Prop:=∃ ox,H a=some (.aS ox (.own 0))/\ox.cls=.ref C/\PySem.W.notCls ox=true/\
 ((fs=[]/\ox.dict=none)\/∃ od dx,ox.dict=some dx/\H dx=some (.aS od (.xd fs)))
section
variable{X:Cx}{C:Qg}{fs:Qa (Str×V)}{value:Expr}{f:Str}
end
section
variable{X:Cx}{CX:jj}{k:Nat}{f C:Qg}{E:XK}{p:Pos}{es:Qa Expr}{t:TA}
end
end L2
namespace L2
open PySem PySem.Spec PyProof.Rows
open PySem.W (Looks InstAt)
section
variable{C x:Qg}
end
section
variable{X:Cx}{C:Qg}{p:Pos}
end
end L2
namespace L2
open PySem PySem.Spec PyProof.Rows
open PySem.W (Looks InstAt)
def zCf(a C:Qg)(d tb:Qb Qg)(h:Heap):Prop:=∃ oe vs,h.get? a=some oe/\oe.cls=.ref C/\oe.dict=d/\oe.data=.fields vs/\vs[1]?=some (tb.elim .none .ref)/\(tb=none->∃ p,oe={zCe C p with dict:=d})
def pTb(T:Qg)(h:Heap):Prop:=∃ oT ts,h.get? T=some oT/\oT.data=.fields ts/\ts[3]?=some .none
def zCg(a C:Qg)(d tb:Qb Qg):HO:=.ext (zCf a C d tb)
def xTb(T:Qg):HO:=.ext (pTb T)
def zCh(H:Hp)(a C:Qg)(fs:Qa (Str×V)):Prop:=∃ d tb,H a=some (zCg a C d tb)/\(∀ T,tb=some T->H T=some (xTb T)/\T≠a)/\
 ((fs=[]/\d=none)\/∃ od dx,d=some dx/\H dx=some (.aS od (.xd fs)))
section
variable{X:Cx}
end
end L2
namespace L2
open PySem PySem.Spec PyProof.Rows
open PySem.W (Looks InstAt)
abbrev iS:=St->Qg->Hp->Prop
section
variable{X:Cx}{EX:iS}
end
section
variable{X:Cx}{C:Qg}{p:Pos}
end
def CXv(P:Qe)(w:Qh)(K:qe):jj:=λouter H s E e s'=>∃ a H',e=.ref a/\s'.os=s.os/\AllBare s'.gens/\Un (jP outer) [] H H' s.heap s'.heap/\cI P w K H' s'.heap/\E e none H'
section
variable{X:Cx}{EX:iS}{k:Nat}{f:Qg}{p:Pos}{es:Qa Expr}{t:TA}
end
end L2
namespace L2
open PySem PySem.Spec PyProof.Rows
open PySem.W (Looks InstAt)
abbrev Cx.body(X:Cx)(pn:Qa (Qg×Obj))(E:Qc->Qd->Prop):Cx:={X with pn:=pn,xe:=E}
section
variable{X:Cx}{pn:Qa (Qg×Obj)}
end
section
variable{C C':Qg}
end
section
variable{X:Cx}{n cls:Str}{C':Qg}{body PQ:Qa Stmt}{b₀:Stmt}{tb:iS->TS}{th:TS}{np hpos:Pos}
end
end L2
namespace L2
open PySem PySem.Spec PyProof.Rows
abbrev D:=PyData
def xK:Key->D
 | .inl i=>.int i
 | .inr x=>.str x
def jL(ks:Qa Key):D:=.tuple (ks.map xK)
def PL(K:qe)(H:Hp)(a:Qg)(xs:Qa V):Prop :=
 (∃ o,H a=some (.aS o (.lst xs)))\/∃ (o:Obj) (ah:Array Qc) (n:Nat),K.lookup a=some o/\o.cls=.type "list"/\o.dict=none/\o.data=.seq ah n/\ah.size<=sizeLine/\zV xs ah.toList
def XN(K:qe)(n:Str)(C:Qg):Prop:=PySem.W.nsIn K mainGlobals n=some (some (.ref C))
def jG:Qa (D×D)->Bool
 | (.none,_)::_=>false
 | (.bool _,_)::_=>false
 | _=>true
theorem aT.sq(h:aT K H a xs):bt K H a xs:=h.imp .inl λ⟨o,i,n,a,b,c,d,e,_⟩=>⟨o,i,n,a,b,c,d,e⟩
theorem aT.kp(e:Kp H H')(h:aT K H a xs):aT K H' a xs:=h.keeps e.tup
mutual
inductive DF (K:qe) (H:Hp):V->D->Prop
 | aN:DF K H .aN .none
 | bl (b:Bool):DF K H (.bl b) (.bool b)
 | int (i:Int):DF K H (.int i) (.int i)
 | str (x:Str):DF K H (.str x) (.str x)
 | tup {a:Qg} {xs:Qa V} {ds:Qa D} (h:aT K H a xs) (t:aM K H xs ds):DF K H (.ref a) (.tuple ds)
 | lst {a:Qg} {xs:Qa V} {ds:Qa D} (h:PL K H a xs) (t:aM K H xs ds):DF K H (.ref a) (.list ds)
 | gM {a:Qg} {o:Obj} {ws:Qa (Qa Key×V)} {kvs:Qa (D×D)} (h:H a=some (.aS o (.dT ws))) (t:gZ K H ws kvs):DF K H (.ref a) (.dict kvs)
 | exc {a C:Qg} {n:Str} {fs:Qa (Str×V)} {ds:Qa (D×D)} (h:XV H a C fs) (e:XN K n C) (t:g6 K H fs ds):DF K H (.ref a) (.dict ((.none,.str n)::ds))
 | obj {a C dx:Qg} {o:Obj} {n:Str} {fs:Qa (Str×V)} {ds:Qa (D×D)} (h:H a=some (.aS o (.ins C dx fs))) (e:XN K n C) (t:g6 K H fs ds):DF K H (.ref a) (.dict ((.bool true,.str n)::ds))
inductive aM (K:qe) (H:Hp):Qa V->Qa D->Prop
 | nil:aM K H [] []
 | cons {v:V} {d:D} {vs:Qa V} {ds:Qa D} (h:DF K H v d) (t:aM K H vs ds):aM K H (v::vs) (d::ds)
inductive gZ (K:qe) (H:Hp):Qa (Qa Key×V)->Qa (D×D)->Prop
 | nil:gZ K H [] []
 | cons {k:Qa Key} {v:V} {d:D} {vs:Qa (Qa Key×V)} {ds:Qa (D×D)} (h:DF K H v d) (t:gZ K H vs ds):gZ K H ((k,v)::vs) ((jL k,d)::ds)
inductive g6 (K:qe) (H:Hp):Qa (Str×V)->Qa (D×D)->Prop
 | nil:g6 K H [] []
 | cons {k:Str} {v:V} {d:D} {vs:Qa (Str×V)} {ds:Qa (D×D)} (h:DF K H v d) (t:g6 K H vs ds):g6 K H ((k,v)::vs) ((.str k,d)::ds)
end
theorem XV.kp{C:Qg}{fs:Qa (Str×V)}(e:Kp H H')(h:XV H a C fs):XV H' a C fs:=by
 obtain⟨ox,h1,h2,h3,h4⟩:=h;refine⟨ox,e.aS _ _ _ h1,h2,h3,?_⟩;rcases h4 with h4|⟨od,dx,h5,h6⟩
 .exact .inl h4
 .exact .inr ⟨od,dx,h5,e.aS _ _ _ h6⟩
theorem PL.kp(e:Kp H H')(h:PL K H a xs):PL K H' a xs:=by
 rcases h with⟨o,h⟩|h
 .exact .inl ⟨o,e.aS _ _ _ h⟩
 .exact .inr h
theorem PL.sq(h:PL K H a xs):bo K H a xs:=by
 rcases h with⟨o,h⟩|h
 .exact .inl (.inr ⟨o,h⟩)
 .exact .inr h
mutual
theorem DF.kp(e:Kp H H'):∀ {v:V} {d:D},DF K H v d->DF K H' v d
 | _,_,.aN=>.aN
 | _,_,.bl b=>.bl b
 | _,_,.int i=>.int i
 | _,_,.str x=>.str x
 | _,_,.tup h t=>.tup (h.keeps e.tup) (aM.kp e t)
 | _,_,.lst h t=>.lst (h.kp e) (aM.kp e t)
 | _,_,.gM h t=>.gM (e.aS _ _ _ h) (gZ.kp e t)
 | _,_,.exc h n t=>.exc (h.kp e) n (g6.kp e t)
 | _,_,.obj h n t=>.obj (e.aS _ _ _ h) n (g6.kp e t)
theorem aM.kp(e:Kp H H'):∀ {v:Qa V} {d:Qa D},aM K H v d->aM K H' v d
 | _,_,.nil=>.nil
 | _,_,.cons h t=>.cons (DF.kp e h) (aM.kp e t)
theorem gZ.kp(e:Kp H H'):∀ {v:Qa (Qa Key×V)} {d:Qa (D×D)},gZ K H v d->gZ K H' v d
 | _,_,.nil=>.nil
 | _,_,.cons h t=>.cons (DF.kp e h) (gZ.kp e t)
theorem g6.kp(e:Kp H H'):∀ {v:Qa (Str×V)} {d:Qa (D×D)},g6 K H v d->g6 K H' v d
 | _,_,.nil=>.nil
 | _,_,.cons h t=>.cons (DF.kp e h) (g6.kp e t)
end
section
theorem aM.snoc{d:D}(h:DF K H v d):∀ {vs:Qa V} {ds:Qa D},aM K H vs ds->aM K H (vs++[v]) (ds++[d])
 | _,_,.nil=>.cons h .nil
 | _,_,.cons a t=>.cons a (aM.snoc h t)
theorem aM.app:∀ {vs ws:Qa V} {ds es:Qa D},aM K H vs ds->aM K H ws es->aM K H (vs++ws) (ds++es)
 | _,_,_,_,.nil,q=>q
 | _,_,_,_,.cons a t,q=>.cons a (aM.app t q)
theorem aM.len:∀ {vs:Qa V} {ds:Qa D},aM K H vs ds->vs.length=ds.length
 | _,_,.nil=>rfl
 | _,_,.cons _ t=>congrArg (·+1) (aM.len t)
theorem aM.get:∀ {vs:Qa V} {ds:Qa D} {i:Nat} {d:D},aM K H vs ds->ds[i]?=some d->∃ v,vs[i]?=some v/\DF K H v d
 | _,_,0,_,.cons h _,e=>by
  cases(show some _=some _ from e);exact⟨_,rfl,h⟩
 | _,_,i+1,_,.cons _ t,e=>aM.get (i:=i) t e
 | _,_,0,_,.nil,e=>by cases e
 | _,_,_+1,_,.nil,e=>by cases e
theorem aM.get':∀ {vs:Qa V} {ds:Qa D} {i:Nat} {v:V},aM K H vs ds->vs[i]?=some v->∃ d,ds[i]?=some d/\DF K H v d
 | _,_,0,_,.cons h _,e=>by
  cases(show some _=some _ from e);exact⟨_,rfl,h⟩
 | _,_,i+1,_,.cons _ t,e=>aM.get' (i:=i) t e
 | _,_,0,_,.nil,e=>by cases e
 | _,_,_+1,_,.nil,e=>by cases e
theorem aM.take:∀ {vs:Qa V} {ds:Qa D} (n:Nat),aM K H vs ds->aM K H (vs.take n) (ds.take n)
 | _,_,0,_=>by simpa using aM.nil
 | _,_,n+1,.nil=>by simpa using aM.nil
 | _,_,n+1,.cons h t=>.cons h (aM.take n t)
theorem aM.drop:∀ {vs:Qa V} {ds:Qa D} (n:Nat),aM K H vs ds->aM K H (vs.drop n) (ds.drop n)
 | _,_,0,q=>q
 | _,_,n+1,.nil=>by simpa using aM.nil
 | _,_,n+1,.cons h t=>aM.drop n t
theorem aM.set{d:D}(h:DF K H v d):∀ {vs:Qa V} {ds:Qa D} (n:Nat),aM K H vs ds->aM K H (vs.set n v) (ds.set n d)
 | _,_,_,.nil=>.nil
 | _,_,0,.cons _ t=>.cons h t
 | _,_,n+1,.cons a t=>.cons a (aM.set h n t)
end
inductive U where
 | d (x:D)
 | l (xs:Qa D) | t (kvs:Qa (Qa Key×D)) | k (kvs:Qa (Key×D))
def U.own:U->Bool
 | .d _=>false
 | _=>true
def fE(K:qe)(H:Hp):Qa (κ×V)->Qa (κ×D)->Prop:=Paired λp q=>p.1=q.1/\DF K H p.2 q.2
def Rp(K:qe)(H:Hp)(v:V):U->Prop
 | .d x=>DF K H v x
 | .l xs=>∃ a us,v=.ref a/\H a=some (.lst us)/\aM K H us xs
 | .t kvs=>∃ a ws,v=.ref a/\H a=some (.dT ws)/\fE K H ws kvs
 | .k kvs=>∃ a ws,v=.ref a/\H a=some (.dK ws)/\fE K H ws kvs
def Mo:HO->Prop
 | .lst _=>True
 | .dT _=>True
 | .dK _=>True
 | _=>False
theorem Rp.own{u:U}(h:Rp K H v u)(o:u.own=true):∃ a c,v=.ref a/\H a=some c/\Mo c:=by
 cases u with
 | d x=>cases o
 | l xs=>obtain⟨a,us,e,q,_⟩:=h; exact⟨a,_,e,q,trivial⟩
 | t xs=>obtain⟨a,us,e,q,_⟩:=h; exact⟨a,_,e,q,trivial⟩
 | k xs=>obtain⟨a,us,e,q,_⟩:=h; exact⟨a,_,e,q,trivial⟩
theorem fE.kp(e:Kp H H'){kvs:Qa (κ×D)}(h:fE K H ws kvs):fE K H' ws kvs:=Paired.oC h λ_ _ z=>⟨z.1,z.2.kp e⟩
theorem Rp.kp{u:U}(h:Rp K H v u)(e:Kp H H')(o:u.own=true->∀ a c,v=.ref a->H a=some c->H' a=some c):Rp K H' v u:=by
 cases u with
 | d x=>exact DF.kp e h
 | l xs=>obtain⟨a,us,ev,q,t⟩:=h; exact⟨a,us,ev,o rfl a _ ev q,t.kp e⟩
 | t xs=>obtain⟨a,us,ev,q,t⟩:=h; exact⟨a,us,ev,o rfl a _ ev q,t.kp e⟩
 | k xs=>obtain⟨a,us,ev,q,t⟩:=h; exact⟨a,us,ev,o rfl a _ ev q,t.kp e⟩
abbrev En:=Qa (Qb U)
def Ow(ρ:En)(σ:St)(a:Qg):Prop:=∃ (i:Nat) (u:U),ρ[i]?=some (some u)/\u.own=true/\σ[i]?=some (some (.ref a))
structure Rs (K:qe) (ρ:En) (σ:St) (H:Hp):Prop where
 len:ρ.length=σ.length
 rep:∀ (i:Nat) (u:U),ρ[i]?=some (some u)->∃ v,σ[i]?=some (some v)/\Rp K H v u
 apart:∀ (i j:Nat) (u w:U),ρ[i]?=some (some u)->ρ[j]?=some (some w)->u.own=true->w.own=true->σ[i]?=σ[j]?->i=j
def yx(A:Qg->Prop)(H H':Hp):Prop:=∀ a o,H a=some o->¬A a->H' a=some o
structure eT (ρ av:En):Prop where
 len:av.length=ρ.length
 own:∀ (i:Nat) (u:U),av[i]?=some (some u)->u.own=true->∃ w,ρ[i]?=some (some w)/\w.own=true
 live:∀ (i:Nat) (u:U),ρ[i]?=some (some u)->∃ w,av[i]?=some (some w)
def Nw(H:Hp)(v:V)(u:U):Prop:=u.own=true->∃ a,v=.ref a/\H a=none
structure Go (K:qe) (ρ:En) (σ:St) (H:Hp) (av:En) (H':Hp):Prop where
 rs:Rs K av σ H'
 fr:yx (Ow ρ σ) H H'
 shr:eT ρ av
 dm:∀ a,H' a=none->H a=none
section
variable{ρ av dC:En}{yu:Hp}
theorem Rs.ow(r:Rs K ρ σ H)(o:Ow ρ σ a):∃ c,H a=some c/\Mo c:=by
 obtain⟨i,u,e,ou,es⟩:=o;obtain⟨v,ev,p⟩:=r.rep i u e;rw[es]at ev;cases ev;obtain⟨b,c,eb,q,m⟩:=p.own ou;cases eb;exact⟨c,q,m⟩
theorem yx.kp(r:Rs K ρ σ H)(f:yx (Ow ρ σ) H H'):Kp H H':=by
 refine⟨λb xs h=>f b _ h λo=>?_,λb ob u h=>f b _ h λo=>?_⟩
 .obtain⟨c,q,m⟩:=r.ow o
  rw[h]at q;cases q;exact m
 .obtain⟨c,q,m⟩:=r.ow o
  rw[h]at q;cases q;exact m
theorem eT.refl(ρ:En):eT ρ ρ:=⟨rfl,λi u e o=>⟨u,e,o⟩,λi u e=>⟨u,e⟩⟩
theorem eT.trans(a:eT ρ av)(b:eT av dC):eT ρ dC:=⟨b.1.trans a.1,λi u e o=>let ⟨w,e',o'⟩:=b.2 i u e o; a.2 i w e' o',λi u e=>let ⟨w,e'⟩:=a.3 i u e; b.3 i w e'⟩
theorem eT.ow(s:eT ρ av)(o:Ow av σ a):Ow ρ σ a:=by
 obtain⟨i,u,e,ou,es⟩:=o;obtain⟨w,e',o'⟩:=s.2 i u e ou;exact⟨i,w,e',o',es⟩
theorem Go.refl(r:Rs K ρ σ H):Go K ρ σ H ρ H:=⟨r,λ_ _ h _=>h,eT.refl _,λ_ h=>h⟩
theorem Go.trans(a:Go K ρ σ H av H')(b:Go K av σ H' dC yu):Go K ρ σ H dC yu :=
 ⟨b.rs,λc o h n=>b.fr c o (a.fr c o h n) λz=>n (a.shr.ow z),a.shr.trans b.shr,λc h=>a.dm c (b.dm c h)⟩
theorem Go.kp(r:Rs K ρ σ H)(g:Go K ρ σ H av H'):Kp H H':=g.fr.kp r
theorem Go.d9{u:U}(r:Rs K ρ σ H)(g:Go K ρ σ H av H')(h:Rp K H v u)(n:u.own=true->∃ a,v=.ref a/\¬Ow ρ σ a):Rp K H' v u:=by
 refine h.kp (g.kp r) λo a c ev q=>?_;obtain⟨b,eb,nb⟩:=n o;cases ev;cases eb;exact g.fr _ _ q nb
theorem Nw.out{u:U}(r:Rs K ρ σ H)(n:Nw H v u):u.own=true->∃ a,v=.ref a/\¬Ow ρ σ a:=λo=>by
 obtain⟨a,e,h⟩:=n o;refine⟨a,e,λz=>?_⟩;obtain⟨c,q,_⟩:=r.ow z;rw[h]at q;cases q
theorem b9.dm(s:b9 H H'):∀ a,H' a=none->H a=none:=λa h=>by
 cases e:H a with
 | none=>rfl
 | some o=>rw[s a o e]at h; cases h
theorem Go.grow(r:Rs K ρ σ H)(s:b9 H H'):Go K ρ σ H ρ H' :=
 ⟨⟨r.len,λi u e=>let ⟨v,ev,p⟩:=r.rep i u e; ⟨v,ev,p.kp s.kp λ_ a c _ q=>s a c q⟩,r.apart⟩,λa o h _=>s a o h,eT.refl _,s.dm⟩
end
inductive Ar where
 | s (i:Nat) | u (x:U)
def Ar.get(ρ:En):Ar->Qb U
 | .s i=>(ρ[i]?).join
 | .u x=>some x
def l8(K:qe)(ρ:En)(σ:St)(H H':Hp)(v:V):Ar->Prop
 | .s i=>σ[i]?=some (some v)/\∃ u,ρ[i]?=some (some u)
 | .u x=>Rp K H' v x/\Nw H v x
abbrev ME:=En->Qb (Ar×En)
abbrev MA:=En->Qb (Qa Ar×En)
abbrev MT:=En->Qb (Bool×En)
def VE(K:qe)(t:TE)(m:ME):Prop :=
 ∀ (ρ:En) (σ:St) (H:Hp) (a:Ar) (av:En) (Q:VK),Rs K ρ σ H->m ρ=some (a,av)->(∀ v H',Go K ρ σ H av H'->l8 K av σ H H' v a->Q v H')->t σ H Q
def VT(K:qe)(t:TT)(m:MT):Prop :=
 ∀ (ρ:En) (σ:St) (H:Hp) (b:Bool) (av:En) (Q:Bool->Hp->Prop),Rs K ρ σ H->m ρ=some (b,av)->(∀ H',Go K ρ σ H av H'->Q b H')->t σ H Q
structure CL (K:qe) (ρ:En) (σ:St) (H H':Hp) (vs:Qa V) (as:Qa Ar):Prop where
 len:vs.length=as.length
 ar:∀ (i:Nat) (a:Ar),as[i]?=some a->∃ v,vs[i]?=some v/\l8 K ρ σ H H' v a
 ap:∀ (i j:Nat) (x y:U),as[i]?=some (.u x)->as[j]?=some (.u y)->x.own=true->y.own=true->vs[i]?=vs[j]?->i=j
def jh(K:qe)(t:TA)(m:MA):Prop :=
 ∀ (ρ:En) (σ:St) (H:Hp) (as:Qa Ar) (av:En) (Q:Qa V->Hp->Prop),Rs K ρ σ H->m ρ=some (as,av)->(∀ vs H',Go K ρ σ H av H'->CL K av σ H H' vs as->Q vs H')->t σ H Q
section
variable{ρ av dC:En}{yu:Hp}{a:Ar}{u:U}
theorem Nw.mono(n:Nw H' v u)(h:∀ a,H' a=none->H a=none):Nw H v u:=λo=>let ⟨a,e,q⟩:=n o; ⟨a,e,h a q⟩
theorem Nw.oq(r:Rs K ρ σ H)(g:Go K ρ σ H av H')(n:Nw H v u):u.own=true->∃ a,v=.ref a/\¬Ow av σ a:=λo=>by
 obtain⟨b,e,q⟩:=n.out r o;exact⟨b,e,λz=>q (g.shr.ow z)⟩
theorem l8.later(r:Rs K ρ σ H)(g1:Go K ρ σ H av H')(g2:Go K av σ H' dC yu)(h:l8 K av σ H H' v a)(e:a.get dC=some u):Rp K yu v u:=by
 cases a with
 | s i=>
  obtain⟨es,_⟩:=h;have e':dC[i]?=some (some u):=by
   cases q:dC[i]? with
   | none=>rw[show Ar.get dC (.s i)=(dC[i]?).join from rfl,q]at e; cases e
   | some o=>
    rw[show Ar.get dC (.s i)=(dC[i]?).join from rfl,q]at e;cases o with
    | none=>cases e
    | some x=>cases e; rfl
  obtain⟨w,ew,p⟩:=g2.rs.rep i u e';rw[es]at ew;cases ew;exact p
 | u x=>
  cases(show some x=some u from e);exact g2.d9 g1.rs h.1 (h.2.oq r g1)
theorem l8.now(r:Rs K ρ σ H)(g1:Go K ρ σ H av H')(h:l8 K av σ H H' v a)(e:a.get av=some u):Rp K H' v u:=h.later r g1 (Go.refl g1.rs) e
theorem Nw.data{x:D}:Nw H v (.d x):=λo=>by cases o
def zi(i:Nat):ME:=λρ=>match ρ[i]? with
 | some (some _)=>some (.s i,ρ)
 | _=>none
theorem ze:VE K (ic i) (zi i):=by
 intro ρ σ H a av Q r e q;unfold zi at e;split at e
 .rename_i u eu
  cases e;obtain⟨v,ev,p⟩:=r.rep i u eu;exact⟨v,ev,q v H (Go.refl r) ⟨ev,u,eu⟩⟩
 .cases e
def mC(x:D):ME:=λρ=>some (.u (.d x),ρ)
theorem BU{c:V}{x:D}(h:∀ H,DF K H c x):VE K (tC c) (mC x):=by
 intro ρ σ H a av Q r e q;cases e;exact q _ _ (Go.refl r) ⟨h H,Nw.data⟩
theorem zm{n:Int}:VE K (tC (.int n)) (mC (.int n)):=BU λ_=>.int n
theorem cK{n:Str}:VE K (tC (.str n)) (mC (.str n)):=BU λ_=>.str n
theorem ud{n:Bool}:VE K (tC (.bl n)) (mC (.bool n)):=BU λ_=>.bl n
theorem zAT:VE K (tC .aN) (mC .none):=BU λ_=>.aN
def VO(K:qe)(r:R2)(f:U->U->Qb U):Prop :=
 ∀ (x y:V) (a b u:U) (H:Hp) (Q:VK),Rp K H x a->Rp K H y b->f a b=some u->(∀ v H',b9 H H'->Rp K H' v u->Nw H v u->Q v H')->r x y H Q
def af(f:U->U->Qb U)(ma mb:ME):ME:=λρ=>(ma ρ).bind λp=>(mb p.2).bind λq=>(p.1.get q.2).bind λx=>(q.1.get q.2).bind λy=>(f x y).bind λu=>some (.u u,q.2)
theorem bQ{o:Qb α}{f:α->Qb β}{b:β}(h:o.bind f=some b):∃ a,o=some a/\f a=some b:=Option.bind_eq_some_iff.mp h
theorem zo{r:R2}{f:U->U->Qb U}{tb:TE}{ma mb:ME}(h:VO K r f)(ha:VE K ta ma)(hb:VE K tb mb):VE K (n9 r ta tb) (af f ma mb):=by
 intro ρ σ H a av Q rs e q;obtain⟨⟨a1,aw⟩,e1,e⟩:=bQ e;obtain⟨⟨b1,aB⟩,e2,e⟩:=bQ e;obtain⟨x,ex,e⟩:=bQ e;obtain⟨y,ey,e⟩:=bQ e;obtain⟨u,eu,e⟩:=bQ e;cases e;refine ha ρ σ H a1 aw _ rs e1 λv1 H1 g1 k1=>hb aw σ H1 b1 aB _ g1.rs e2 λv2 H2 g2 k2=>?_;refine h _ _ x y u H2 _ (k1.later rs g1 g2 ex) (k2.now g1.rs g2 ey) eu λv H3 s p n=>?_;exact q v H3 ((g1.trans g2).trans (Go.grow g2.rs s)) ⟨p,n.mono (g1.trans g2).dm⟩
def VU(K:qe)(r:V->Hp->VK->Prop)(f:U->Qb U):Prop :=
 ∀ (x:V) (a u:U) (H:Hp) (Q:VK),Rp K H x a->f a=some u->(∀ v H',b9 H H'->Rp K H' v u->Nw H v u->Q v H')->r x H Q
def cp(f:U->Qb U)(ma:ME):ME:=λρ=>(ma ρ).bind λp=>(p.1.get p.2).bind λx=>(f x).bind λu=>some (.u u,p.2)
theorem eX{r:V->Hp->VK->Prop}{f:U->Qb U}{ma:ME}(h:VU K r f)(ha:VE K ta ma):VE K (BX r ta) (cp f ma):=by
 intro ρ σ H a av Q rs e q;obtain⟨⟨a1,aw⟩,e1,e⟩:=bQ e;obtain⟨x,ex,e⟩:=bQ e;obtain⟨u,eu,e⟩:=bQ e;cases e;refine ha ρ σ H a1 aw _ rs e1 λv1 H1 g1 k1=>?_;refine h _ x u H1 _ (k1.now rs g1 ex) eu λv H3 s p n=>?_;exact q v H3 (g1.trans (Go.grow g1.rs s)) ⟨p,n.mono g1.dm⟩
def zq:MA:=λρ=>some ([],ρ)
def zf(me:ME)(ma:MA):MA:=λρ=>(me ρ).bind λp=>(ma p.2).bind λq=>some (p.1::q.1,q.2)
theorem zk:jh K pe zq:=by
 intro ρ σ H as av Q r e q;cases e;exact q [] H (Go.refl r) ⟨rfl,λi a e=>by simp at e,λi j x y e=>by simp at e⟩
theorem zd{t:TA}{me:ME}{ma:MA}(he:VE K te me)(ha:jh K t ma):jh K (mF te t) (zf me ma):=by
 intro ρ σ H as av Q r e q;obtain⟨⟨a1,aw⟩,e1,e⟩:=bQ e;obtain⟨⟨CA,aB⟩,e2,e⟩:=bQ e;cases e;refine he ρ σ H a1 aw _ r e1 λv1 H1 g1 k1=>ha aw σ H1 CA _ _ g1.rs e2 λvs H2 g2 s2=>?_;have Hi:∀ x,a1=.u x->x.own=true->∃ b c,v1=.ref b/\H1 b=some c:=λx ea o=>by
  subst ea;obtain⟨b,c,eb,hb,_⟩:=k1.1.own o;exact⟨b,c,eb,hb⟩
 have oth:∀ (j:Nat) (y:U),CA[j]?=some (.u y)->y.own=true->∃ b,vs[j]?=some (.ref b)/\H1 b=none:=λj y ej o=>by
  obtain⟨v,ev,k⟩:=s2.ar j _ ej;obtain⟨b,eb,hb⟩:=k.2 o;subst eb;exact⟨b,ev,hb⟩
 have ne:∀ (x:U) (j:Nat) (y:U),a1=.u x->x.own=true->CA[j]?=some (.u y)->y.own=true->some v1≠vs[j]?:=λx j y ea ox ej oy z=>by
  obtain⟨b,c,e1,h1⟩:=Hi x ea ox;obtain⟨b',e2,h2⟩:=oth j y ej oy;rw[e2,e1]at z;cases z;rw[h1]at h2;cases h2
 refine q (v1::vs) H2 (g1.trans g2) ⟨by simp[s2.len],λi a ei=>?_,λi j x y ei ej ox oy ev=>?_⟩
 .cases i with
  | zero=>
   cases(show some a1=some a from ei);refine⟨v1,rfl,?_⟩;cases a1 with
   | s k=>
    obtain⟨es,w,ew⟩:=k1;exact⟨es,g2.shr.live k w ew⟩
   | u x=>exact⟨g2.d9 g1.rs k1.1 (k1.2.oq r g1),k1.2⟩
  | succ i=>
   obtain⟨v,ev,k⟩:=s2.ar i a ei;refine⟨v,ev,?_⟩;cases a with
   | s k'=>exact k
   | u x=>exact⟨k.1,k.2.mono g1.dm⟩
 .cases i with
  | zero=>
   cases j with
   | zero=>rfl
   | succ j=>exact absurd ev (ne x j y (qA ei) ox ej oy)
  | succ i=>
   cases j with
   | zero=>exact absurd ev.symm (ne y i x (qA ej) oy ei ox)
   | succ j=>exact congrArg (·+1) (s2.ap i j x y ei ej ox oy ev)
end
end L2
namespace L2
open PySem PySem.Spec PyProof.Rows
open Classical in
def m7(c:Int->Int->Prop)(g:Int->Int->D):U->U->Qb U
 | .d (.int i),.d (.int j)=>if c i j then some (.d (g i j))else none
 | _,_=>none
def fI(g:Int->Int->D):U->U->Qb U
 | .d (.int i),.d (.int j)=>some (.d (g i j))
 | _,_=>none
section
theorem DF.int_inv{i:Int}(h:DF K H v (.int i)):v=.int i:=by cases h; rfl
theorem DF.str_inv(h:DF K H v (.str x)):v=.str x:=by cases h; rfl
theorem DF.dN{b:Bool}(h:DF K H v (.bool b)):v=.bl b:=by cases h; rfl
theorem DF.aH{ds:Qa D}(h:DF K H v (.tuple ds)):∃ a xs,v=.ref a/\aT K H a xs/\aM K H xs ds:=by cases h with|tup h t=>exact⟨_,_,rfl,h,t⟩
theorem DF.lst_inv{ds:Qa D}(h:DF K H v (.list ds)):∃ a xs,v=.ref a/\PL K H a xs/\aM K H xs ds:=by cases h with|lst h t=>exact⟨_,_,rfl,h,t⟩
theorem DF.cH{ds:Qa (D×D)}(h:DF K H v (.dict ds))(nx:jG ds=true):∃ a o ws,v=.ref a/\H a=some (.aS o (.dT ws))/\gZ K H ws ds:=by
 cases h with
 | gM h t=>exact⟨_,_,_,rfl,h,t⟩
 | exc h n t=>cases nx
 | obj h n t=>cases nx
theorem uA{c:Int->Int->Prop}{g:Int->Int->V}{gd:Int->Int->D}(h:∀ i j H,DF K H (g i j) (gd i j)):VO K (rI c g) (m7 c gd):=by
 intro x y a b u H Q ha hb e q;unfold m7 at e;split at e
 .rename_i i j
  split at e
  .rename_i hc
   cases e;exact⟨i,j,DF.int_inv ha,DF.int_inv hb,hc,q _ _ (λ_ _ z=>z) (h i j H) Nw.data⟩
  .cases e
 .cases e
theorem uc{g:Int->Int->V}{gd:Int->Int->D}(h:∀ i j H,DF K H (g i j) (gd i j)):VO K (iz g) (fI gd):=by
 intro x y a b u H Q ha hb e q;unfold fI at e;split at e
 .rename_i i j
  cases e;exact⟨i,j,DF.int_inv ha,DF.int_inv hb,q _ _ (λ_ _ z=>z) (h i j H) Nw.data⟩
 .cases e
def cQ:=fI λi j=>.int (i+j)
def kj:=fI λi j=>.int (i - j)
def ik:=m7 um λi j=>.int (i * j)
def iW:=m7 (λ_ j=>0 < j) λi j=>.int (i % j)
def rS:=m7 uB λi j=>.int (i / j)
def pH:=m7 rV λi j=>.int (i.fdiv j)
def yH:=m7 yQ λi j=>.int (i^j.toNat)
def lM:=fI λi j=>.bool (decide (i < j))
def Cs:=fI λi j=>.bool (decide (i<=j))
def yj:=fI λi j=>.bool (decide (j < i))
def Iw:=fI λi j=>.bool (decide (j<=i))
theorem du:VO K (iz λi j=>.int (i+j)) cQ:=uc λi j H=>.int _
theorem nS:VO K (iz λi j=>.int (i - j)) kj:=uc λi j H=>.int _
theorem kM:VO K (rI um λi j=>.int (i * j)) ik:=uA λi j H=>.int _
theorem kK:VO K (rI (λ_ j=>0 < j) λi j=>.int (i % j)) iW:=uA λi j H=>.int _
theorem AW:VO K (rI uB λi j=>.int (i / j)) rS:=uA λi j H=>.int _
theorem uV:VO K (rI rV λi j=>.int (i.fdiv j)) pH:=uA λi j H=>.int _
theorem TQ:VO K (rI yQ λi j=>.int (i^j.toNat)) yH:=uA λi j H=>.int _
theorem nN:VO K (iz λi j=>.bl (decide (i < j))) lM:=uc λi j H=>.bl _
theorem Ju:VO K (iz λi j=>.bl (decide (i<=j))) Cs:=uc λi j H=>.bl _
theorem D4:VO K (iz λi j=>.bl (decide (j < i))) yj:=uc λi j H=>.bl _
theorem zAU:VO K (iz λi j=>.bl (decide (j<=i))) Iw:=uc λi j H=>.bl _
def l7:U->Qb U
 | .d (.int i)=>some (.d (.int (-i)))
 | _=>none
theorem sD:VU K (rU λi=>.int (-i)) l7:=by
 intro x a u H Q ha e q;unfold l7 at e;split at e
 .rename_i i
  cases e;exact⟨i,DF.int_inv ha,q _ _ (λ_ _ z=>z) (.int _) Nw.data⟩
 .cases e
def U.py:U->Qb D
 | .d x=>some x
 | .l xs=>some (.list xs)
 | _=>none
mutual
theorem DF.dv:∀ {v:V} {d:D},DF K H v d->d.hasDict=false->DV K H v d
 | _,_,.aN,_=>.aN
 | _,_,.bl b,_=>.bl b
 | _,_,.int i,_=>.int i
 | _,_,.str x,_=>.str x
 | _,_,.tup h t,q=>.tup ((aT.sq h)) (aM.dv t (by simpa [PyData.hasDict] using q))
 | _,_,.lst h t,q=>.lst h.sq (aM.dv t (by simpa [PyData.hasDict] using q))
 | _,_,.gM h t,q=>by simp[PyData.hasDict]at q
 | _,_,.exc h n t,q=>by simp[PyData.hasDict]at q
 | _,_,.obj h n t,q=>by simp[PyData.hasDict]at q
theorem aM.dv:∀ {v:Qa V} {d:Qa D},aM K H v d->PyData.hasDictAll d=false->gY K H v d
 | _,_,.nil,_=>.nil
 | _,_,.cons h t,q=>by
  simp only[PyData.hasDictAll,Bool.or_eq_false_iff]at q;exact .cons (DF.dv h q.1) (aM.dv t q.2)
end
theorem Rp.dv{u:U}{x:D}(h:Rp K H v u)(e:u.py=some x)(q:x.hasDict=false):DV K H v x:=by
 cases u with
 | d y=>cases e; exact DF.dv h q
 | l xs=>
  cases e;obtain⟨a,us,rfl,h1,h2⟩:=h;exact .lst (bo.of h1) (aM.dv h2 (by simpa [PyData.hasDict] using q))
 | t=>cases e
 | k=>cases e
mutual
theorem Gh:∀ (x:D),x.canLay0=true->x.hasDict=false
 | .none,_=>rfl
 | .bool _,_=>rfl
 | .int _,_=>rfl
 | .str _,_=>rfl
 | .list xs,h=>by simp only[PyData.hasDict]; exact bK xs (by simpa [PyData.canLay0] using h)
 | .tuple xs,h=>by simp only[PyData.hasDict]; exact bK xs (by simpa [PyData.canLay0] using h)
 | .dict _,h=>by simp[PyData.canLay0]at h
theorem bK:∀ (xs:Qa D),PyData.canLayAll0 xs=true->PyData.hasDictAll xs=false
 | [],_=>rfl
 | x::xs,h=>by
  simp only[PyData.canLayAll0,Bool.and_eq_true]at h;simp only[PyData.hasDictAll,Gh x h.1,bK xs h.2];rfl
end
def Dx(K:qe)(neg:Bool):R2:=λx y H Q=>∃ a b,DV K H x a/\DV K H y b/\SeqAt.shaped a=true/\SeqAt.shaped b=true/\Q (.bl (if neg=true then !PyData.eqv a b else PyData.eqv a b)) H
theorem TN{X:Cx}(K:qe)(hK:X.K=K){k:Nat}(hr:aK k X.A):cv X (compareOp .Eq) (Dx K false):=by
 subst hK;intro pins s σ H x y v u Q I rx ry h;obtain⟨a,b,da,db,sa,sb,q⟩:=h;obtain⟨as,ra⟩:=DV.reads I da rx;obtain⟨bs,rb⟩:=DV.reads I db ry;exact SeqAt.compareEq_shaped ra rb sa sb hr.units ⟨.bl _,H,I,rfl,q⟩
theorem Kr{X:Cx}(K:qe)(hK:X.K=K){k:Nat}(hr:aK k X.A):cv X (compareOp .NotEq) (Dx K true):=by
 subst hK;intro pins s σ H x y v u Q I rx ry h;obtain⟨a,b,da,db,sa,sb,q⟩:=h;obtain⟨as,ra⟩:=DV.reads I da rx;obtain⟨bs,rb⟩:=DV.reads I db ry;exact SeqAt.compareNe_shaped ra rb sa sb hr.units ⟨.bl _,H,I,rfl,q⟩
def pA(neg:Bool)(a b:U):Qb U:=a.py.bind λx=>b.py.bind λy=>if SeqAt.shaped x=true/\SeqAt.shaped y=true then some (.d (.bool (if neg=true then !PyData.eqv x y else PyData.eqv x y)))else none
theorem Et(neg:Bool):VO K (Dx K neg) (pA neg):=by
 intro x y a b u H Q ha hb e q;obtain⟨dx,ex,e⟩:=bQ e;obtain⟨dy,ey,e⟩:=bQ e;split at e
 .rename_i hs
  cases e;exact⟨dx,dy,ha.dv ex (Gh _ (SeqAt.canLay_of_shaped hs.1)),hb.dv ey (Gh _ (SeqAt.canLay_of_shaped hs.2)),hs.1,hs.2,q _ _ (λ_ _ z=>z) (.bl _) Nw.data⟩
 .cases e
theorem aM.bS{ds:Qa D}{i:Int}{d:D}(h:aM K H xs ds)(e:L2.bS ds i=some d):∃ v,L2.bS xs i=some v/\DF K H v d:=by
 unfold L2.bS at e ⊢;obtain⟨j,ej,e⟩:=bQ e;obtain⟨v,ev,k⟩:=h.get e;refine⟨v,?_,k⟩;rw[h.len,ej];exact ev
def ba:U->U->Qb U
 | .l ds,.d (.int i)=>(bS ds i).map .d
 | .d (.list ds),.d (.int i)=>(bS ds i).map .d
 | _,_=>none
def zZ:U->U->Qb U
 | .d (.tuple ds),.d (.int i)=>(bS ds i).map .d
 | _,_=>none
theorem zN:VO K (Dt K) ba:=by
 intro x y a b u H Q ha hb e q;unfold ba at e;split at e
 .rename_i ds i
  obtain⟨d,ed,rfl⟩:=qu.mp e;obtain⟨p,us,rfl,h1,h2⟩:=ha;obtain⟨v,ev,k⟩:=h2.bS ed;exact⟨p,us,i,v,rfl,DF.int_inv hb,bo.of h1,ev,q _ _ (λ_ _ z=>z) k Nw.data⟩
 .rename_i ds i
  obtain⟨d,ed,rfl⟩:=qu.mp e;obtain⟨p,us,rfl,h1,h2⟩:=DF.lst_inv ha;obtain⟨v,ev,k⟩:=h2.bS ed;exact⟨p,us,i,v,rfl,DF.int_inv hb,h1.sq,ev,q _ _ (λ_ _ z=>z) k Nw.data⟩
 .cases e
theorem zC:VO K (Ds K) zZ:=by
 intro x y a b u H Q ha hb e q;unfold zZ at e;split at e
 .rename_i ds i
  obtain⟨d,ed,rfl⟩:=qu.mp e;obtain⟨p,us,rfl,h1,h2⟩:=DF.aH ha;obtain⟨v,ev,k⟩:=h2.bS ed;exact⟨p,us,i,v,rfl,DF.int_inv hb,(aT.sq h1),ev,q _ _ (λ_ _ z=>z) k Nw.data⟩
 .cases e
def pz:U->U->Qb U
 | .l xs,.l ys=>if xs.length+ys.length<=sizeLine then some (.l (xs++ys))else none
 | _,_=>none
theorem Es:VO K Px pz:=by
 intro x y a b u H Q ha hb e q;unfold pz at e;split at e
 .split at e
  .rename_i xs ys hz
   cases e;obtain⟨p,us,rfl,h1,h2⟩:=ha;obtain⟨p',gc,rfl,jc,iI⟩:=hb;refine⟨p,p',us,gc,rfl,rfl,h1,jc,by rw[h2.len,iI.len]; exact hz,λr hr=>?_⟩;have s:=zW hr (.lst (us++gc));exact q _ _ s ⟨r,_,rfl,zx,(h2.app iI).kp s.kp⟩ λ_=>⟨r,rfl,hr⟩
  .cases e
 .cases e
end
end L2
namespace L2
open PySem PySem.Spec PyProof.Rows
section
variable{ρ av:En}
theorem jW{c:HO}(h:H a=some c)(m:Mo c)(o:HO):Kp H (upd H a o):=by
 refine⟨λb xs e=>?_,λb ob u e=>?_⟩
 .rw[zH (nM e h (by rintro rfl; exact m))]; exact e
 .rw[zH (nM e h (by rintro rfl; exact m))]; exact e
theorem Go.own{u u':U}{o:HO}(r:Rs K ρ σ H)(e:ρ[i]?=some (some u))(ou:u.own=true)(es:σ[i]?=some (some (.ref a)))(p:Rp K (upd H a o) (.ref a) u'):Go K ρ σ H (ρ.set i (some u')) (upd H a o):=by
 have hi:i < ρ.length:=(qm.mp e).1;obtain⟨c,hc,mc⟩:=r.ow ⟨i,u,e,ou,es⟩;have kp:=jW hc mc o;refine⟨⟨by rw[List.length_set]; exact r.len,λj w ej=>?_,λj k w w' ej ek oj ok fB=>?_⟩,λb ob hb n=>?_,⟨List.length_set,λj w ej oj=>?_,λj w ej=>?_⟩,λb hb=>?_⟩
 .by_cases hj:i=j
  .subst hj
   rw[List.getElem?_set_self hi]at ej;cases ej;exact⟨_,es,p⟩
  .rw[qE hj]at ej
   obtain⟨v,ev,q⟩:=r.rep j w ej;refine⟨v,ev,q.kp kp λow b c' eb hb=>?_⟩;have ne:b≠a:=by
    rintro rfl;exact hj (r.apart i j u w e ej ou ow (by rw[es,ev,eb]))
   rw[zH ne];exact hb
 .have own:∀ (j:Nat) (w:U),(ρ.set i (some u'))[j]?=some (some w)->w.own=true->∃ w',ρ[j]?=some (some w')/\w'.own=true:=λj w ej oj=>by
   by_cases hj:i=j
   .subst hj; exact⟨u,e,ou⟩
   .rw[qE hj]at ej; exact⟨w,ej,oj⟩
  obtain⟨x,ex,ox⟩:=own j w ej oj;obtain⟨y,ey,oy⟩:=own k w' ek ok;exact r.apart j k x y ex ey ox oy fB
 .have ne:b≠a:=by
   rintro rfl;exact n ⟨i,u,e,ou,es⟩
  rw[zH ne];exact hb
 .by_cases hj:i=j
  .subst hj; exact⟨u,e,ou⟩
  .rw[qE hj]at ej; exact⟨w,ej,oj⟩
 .by_cases hj:i=j
  .subst hj; exact⟨u',ú hi⟩
  .exact⟨w,by rw[qE hj]; exact ej⟩
 .by_cases jb:b=a
  .subst jb; rw[zx]at hb; cases hb
  .rw[zH jb]at hb; exact hb
theorem Rp.i5{u:U}(h:Rp K H v u)(o:u.own=true):∃ a,v=.ref a:=let ⟨a,_,e,_⟩:=h.own o; ⟨a,e⟩
def Fz(K:qe)(H:Hp)(v:V)(H':Hp):Prop :=
 (∃ a xs o,v=.ref a/\K.lookup a=none/\H a=some (.lst xs)/\H'=upd H a (.aS o (.lst xs)))\/(∃ a xs o,v=.ref a/\K.lookup a=none/\H a=some (.dT xs)/\H'=upd H a (.aS o (.dT xs)))\/
  ((∀ a,v=.ref a->(∀ xs,H a≠some (.lst xs))/\∀ xs,H a≠some (.dT xs))/\H'=H)
def G5(K:qe)(t:TE):TE:=λσ H Q=>t σ H λv H1=>∀ H2,Fz K H1 v H2->Q v H2
theorem Inv.oP{X:Cx}(I:Inv X pins σ H s)(e:H a=some (.lst xs)):∃ o,s.heap.get? a=some o/\Inv X pins σ (upd H a (.aS o (.lst xs))) s:=by
 have ok:=(show bT X.prog X.w X.K H s.heap a (.lst xs) from I.aD a _ e);obtain⟨z,ah,n,r,h1⟩:=id ok;refine⟨_,h1,?_⟩;have xv:bT X.prog X.w X.K (upd H a (.aS {cls:=.type "list",data:=.seq ah.toArray n} (.lst xs))) s.heap a (.lst xs):=⟨z,ah,n,r,h1⟩;exact I.write (t':=s.toks) (h':=s.heap) (by rw[e]; trivial) (.inl rfl) (λ_ _ _ q=>q) ⟨_,h1⟩ ⟨h1,xv⟩
theorem zAV{X:Cx}{t:TE}(h:PE X e t):PE X e (G5 X.K t):=by
 intro pins s σ H Q I q;refine aI (h pins s σ H _ I q) λu s1 ⟨v,H1,I1,r,k⟩=>?_;have nk:∀ a c,H1 a=some c->X.K.lookup a=none:=λa c ea=>by
  cases q:X.K.lookup a with
  | none=>rfl
  | some o=>rw[(I1.bs a o (I1.ok.mod.jK a o q)).2]at ea; cases ea
 by_cases c1:∃ a xs,v=.ref a/\H1 a=some (.lst xs)
 .obtain⟨a,xs,ev,ea⟩:=c1
  obtain⟨o,_,I2⟩:=I1.oP ea;exact⟨v,_,I2,r,k _ (.inl ⟨a,xs,o,ev,nk a _ ea,ea,rfl⟩)⟩
 .by_cases c2:∃ a xs,v=.ref a/\H1 a=some (.dT xs)
  .obtain⟨a,xs,ev,ea⟩:=c2
   obtain⟨o,_,I2⟩:=I1.freeze ea;exact⟨v,_,I2,r,k _ (.inr (.inl ⟨a,xs,o,ev,nk a _ ea,ea,rfl⟩))⟩
  .exact⟨v,H1,I1,r,k _ (.inr (.inr ⟨λa ev=>⟨λxs z=>c1 ⟨a,xs,ev,z⟩,λxs z=>c2 ⟨a,xs,ev,z⟩⟩,rfl⟩))⟩
theorem eG{X:Cx}{t:TE}(h:Wr (PE X e t))(hK:X.K=K:=by rfl):Wr (PE X e (G5 K t)):=hK▸⟨zAV h.run⟩
def U.fz:U->Qb D
 | .d x=>some x
 | .l xs=>some (.list xs)
 | .t kvs=>some (.dict (kvs.map λp=>(jL p.1,p.2)))
 | .k _=>none
def dA(me:ME):ME:=λρ=>(me ρ).bind λp=>(p.1.get p.2).bind λu=>u.fz.bind λx=>some (.u (.d x),match p.1 with | .s i=>p.2.set i (some (.d x)) | .u _=>p.2)
theorem TM{ws:Qa (Qa Key×V)}{kvs:Qa (Qa Key×D)}(h:fE K H ws kvs):gZ K H ws (kvs.map λp=>(jL p.1,p.2)):=by
 induction h with
 | nil=>exact .nil
 | @cons p q ps qs hq t ih=>
  obtain⟨k,v⟩:=p;obtain⟨k',d⟩:=q;obtain⟨e,hd⟩:=hq;cases(show k=k' from e);exact .cons hd ih
theorem Fz.rp{u:U}{x:D}(h:Fz K H v H')(p:Rp K H v u)(e:u.fz=some x):DF K H' v x/\(u.own=false->H'=H)/\(u.own=true->∃ a o,v=.ref a/\H'=upd H a o):=by
 cases u with
 | d y=>
  cases e;have k:H'=H:=by
   rcases h with⟨a,xs,o,rfl,nk,ea,_⟩|⟨a,xs,o,rfl,nk,ea,_⟩|⟨_,rfl⟩
   .exfalso
    cases(show DF K H _ _ from p)with
    | tup h _=>
     rcases h with h|⟨ob,ah,n,hk,_⟩
     .rw[ea]at h; cases h
     .rw[nk]at hk; cases hk
    | lst h _=>
     rcases h with⟨o,h⟩|⟨ob,ah,n,hk,_⟩
     .rw[ea]at h; cases h
     .rw[nk]at hk; cases hk
    | gM h _=>rw[ea]at h; cases h
    | exc h _ _=>obtain⟨_,h,_⟩:=h; rw[ea]at h; cases h
    | obj h _ _=>rw[ea]at h; cases h
   .exfalso
    cases(show DF K H _ _ from p)with
    | tup h _=>
     rcases h with h|⟨ob,ah,n,hk,_⟩
     .rw[ea]at h; cases h
     .rw[nk]at hk; cases hk
    | lst h _=>
     rcases h with⟨o,h⟩|⟨ob,ah,n,hk,_⟩
     .rw[ea]at h; cases h
     .rw[nk]at hk; cases hk
    | gM h _=>rw[ea]at h; cases h
    | exc h _ _=>obtain⟨_,h,_⟩:=h; rw[ea]at h; cases h
    | obj h _ _=>rw[ea]at h; cases h
   .rfl
  subst k;exact⟨p,λ_=>rfl,λz=>by cases z⟩
 | l xs=>
  cases e;obtain⟨a,us,rfl,ea,ds⟩:=p;rcases h with⟨a',vh,o,ev,_,gW,rfl⟩|⟨a',vh,o,ev,_,gW,_⟩|⟨z,_⟩
  .cases ev
   rw[ea]at gW;cases gW;exact⟨.lst (.inl ⟨o,zx⟩) (ds.kp (jW ea trivial _)),(λz=>by cases z),λ_=>⟨a,_,rfl,rfl⟩⟩
  .cases ev
   rw[ea]at gW;cases gW
  .exact absurd ea ((z a rfl).1 us)
 | t xs=>
  cases e;obtain⟨a,us,rfl,ea,ds⟩:=p;rcases h with⟨a',vh,o,ev,_,gW,_⟩|⟨a',vh,o,ev,_,gW,rfl⟩|⟨z,_⟩
  .cases ev
   rw[ea]at gW;cases gW
  .cases ev
   rw[ea]at gW;cases gW;exact⟨.gM zx (TM (ds.kp (jW ea trivial _))),(λz=>by cases z),λ_=>⟨a,_,rfl,rfl⟩⟩
  .exact absurd ea ((z a rfl).2 us)
 | k xs=>cases e
theorem eF{t:TE}{m:ME}(h:VE K t m):VE K (G5 K t) (dA m):=by
 intro ρ σ H a av Q r e q;obtain⟨⟨b,aw⟩,e1,e⟩:=bQ e;obtain⟨u,eu,e⟩:=bQ e;obtain⟨x,ex,e⟩:=bQ e;cases e;refine h ρ σ H b aw _ r e1 λv H1 g1 k1=>λH2 fz=>?_;have p:=k1.now r g1 eu;obtain⟨d,f1,f2⟩:=fz.rp p ex;cases b with
 | s i=>
  have ei:aw[i]?=some (some u):=by
   have z:(aw[i]?).join=some u:=eu;cases q:aw[i]? with
   | none=>rw[q]at z; cases z
   | some o=>rw[q]at z; cases o with
    | none=>cases z
    | some w=>cases z; rfl
  have hi:i < aw.length:=(qm.mp ei).1
  by_cases ou:u.own=true
  .obtain⟨a,o,rfl,rfl⟩:=f2 ou
   exact q _ _ (g1.trans (Go.own (u':=.d x) g1.rs ei ou k1.1 d)) ⟨d,Nw.data⟩
  .have qJ:u.own=false:=by simpa using ou
   cases f1 qJ;cases u with
   | d y=>
    cases ex;have es:aw.set i (some (.d x))=aw:=by
     apply List.ext_getElem?;intro j
     by_cases hj:i=j
     .subst hj; rw[List.getElem?_set_self hi,ei]
     .rw[qE hj]
    show Q v H1;refine q v H1 ?_ ⟨d,Nw.data⟩;show Go K ρ σ H (aw.set i (some (.d x))) H1;rw[es];exact g1
   | l=>cases qJ
   | t=>cases qJ
   | k=>cases qJ
 | u w=>
  cases(show some w=some u from eu)
  by_cases ou:u.own=true
  .obtain⟨a,o,rfl,rfl⟩:=f2 ou
   obtain⟨a',gW,Hr⟩:=k1.2 ou;cases gW;obtain⟨c,hc,mc⟩:∃ c,H1 a=some c/\Mo c:=by
    obtain⟨b,c,eb,hb,m⟩:=p.own ou;cases eb;exact⟨c,hb,m⟩
   have nw:¬Ow aw σ a:=by
    obtain⟨b,eb,nb⟩:=k1.2.oq r g1 ou;cases eb;exact nb
   have kp:=jW hc mc o;refine q _ _ ⟨⟨g1.rs.len,λj y ej=>?_,g1.rs.apart⟩,λb ob hb n=>?_,g1.shr,λb hb=>?_⟩ ⟨d,Nw.data⟩
   .obtain⟨v,ev,p'⟩:=g1.rs.rep j y ej
    refine⟨v,ev,p'.kp kp λoy b c' eb hb=>?_⟩;have ne:b≠a:=by
     rintro rfl;subst eb;exact nw ⟨j,y,ej,oy,ev⟩
    rw[zH ne];exact hb
   .have ne:b≠a:=by
     rintro rfl;rw[Hr]at hb;cases hb
    rw[zH ne];exact g1.fr b ob hb n
   .by_cases jb:b=a
    .subst jb; exact Hr
    .rw[zH jb]at hb; exact g1.dm b hb
  .have qJ:u.own=false:=by simpa using ou
   cases f1 qJ;exact q v H1 g1 ⟨d,Nw.data⟩
end
section
variable{ρ av:En}
def bw(ρ:En):Qa Ar->Qb (Qa U)
 | []=>some []
 | a::as=>(a.get ρ).bind λu=>(bw ρ as).bind λus=>some (u::us)
def iy:Qa U->Qb (Qa D)
 | []=>some []
 | .d x::us=>(iy us).bind λxs=>some (x::xs)
 | _::_=>none
def CH(K:qe)(H:Hp):Qa V->Qa U->Prop:=Paired λv u=>Rp K H v u
theorem TL{as:Qa Ar}{us:Qa U}(len:vs.length=as.length)(h:∀ (i:Nat) (a:Ar),as[i]?=some a->∃ v,vs[i]?=some v/\∀ u,a.get ρ=some u->Rp K H v u)(e:bw ρ as=some us):CH K H vs us:=by
 induction as generalizing vs us with
 | nil=>
  cases e;cases vs with
  | nil=>exact .nil
  | cons=>simp at len
 | cons a as ih=>
  obtain⟨u,eu,e⟩:=bQ e;obtain⟨gc,ym,e⟩:=bQ e;cases e;cases vs with
  | nil=>simp at len
  | cons v vs=>
   obtain⟨v',ev,k⟩:=h 0 a rfl;cases(show some v=some v' from ev);exact .cons (k u eu) (ih (by simpa using len) (λi b eb=>h (i+1) b eb) ym)
theorem CL.lj{as:Qa Ar}{us:Qa U}(r:Rs K ρ σ H)(g:Go K ρ σ H av H')(s:CL K av σ H H' vs as)(e:bw av as=some us):CH K H' vs us :=
 TL s.len (λi a ea=>let ⟨v,ev,k⟩:=s.ar i a ea; ⟨v,ev,λu eu=>k.now r g eu⟩) e
theorem Er{us:Qa U}{ds:Qa D}(h:CH K H vs us)(e:iy us=some ds):aM K H vs ds:=by
 induction h generalizing ds with
 | nil=>cases e; exact .nil
 | @cons v u vs us hv t ih=>
  cases u with
  | d x=>
   obtain⟨xs,ex,e⟩:=bQ (show(iy us).bind (λxs=>some (x::xs))=some ds from e);cases e;exact .cons hv (ih ex)
  | l=>cases e
  | t=>cases e
  | k=>cases e
def bY(ma:MA):ME:=λρ=>(ma ρ).bind λp=>(bw p.2 p.1).bind λus=>(iy us).bind λds=>if ds.length<=sizeLine then some (.u (.d (.tuple ds)),p.2)else none
def fK(ma:MA):ME:=λρ=>(ma ρ).bind λp=>(bw p.2 p.1).bind λus=>(iy us).bind λds=>if ds.length<=sizeLine then some (.u (.l ds),p.2)else none
theorem cw{t:TA}{m:MA}(h:jh K t m):VE K (Dv t) (bY m):=by
 intro ρ σ H a av Q r e q;obtain⟨⟨as,aw⟩,e1,e⟩:=bQ e;obtain⟨us,eu,e⟩:=bQ e;obtain⟨ds,ed,e⟩:=bQ e;split at e
 .rename_i hz
  cases e;refine h ρ σ H as _ _ r e1 λvs H1 g1 s1=>?_;have dd:=Er (s1.lj r g1 eu) ed;refine⟨by rw[dd.len]; exact hz,λp hp=>?_⟩;have sm:=zW hp (.tup vs);exact q _ _ (g1.trans (Go.grow g1.rs sm)) ⟨.tup (.inl zx) (dd.kp sm.kp),Nw.data⟩
 .cases e
theorem gJ{t:TA}{m:MA}(h:jh K t m):VE K (Du t) (fK m):=by
 intro ρ σ H a av Q r e q;obtain⟨⟨as,aw⟩,e1,e⟩:=bQ e;obtain⟨us,eu,e⟩:=bQ e;obtain⟨ds,ed,e⟩:=bQ e;split at e
 .rename_i hz
  cases e;refine h ρ σ H as _ _ r e1 λvs H1 g1 s1=>?_;have dd:=Er (s1.lj r g1 eu) ed;refine⟨by rw[dd.len]; exact hz,λp hp=>?_⟩;have sm:=zW hp (.lst vs);exact q _ _ (g1.trans (Go.grow g1.rs sm)) ⟨⟨p,_,rfl,zx,dd.kp sm.kp⟩,λ_=>⟨p,rfl,g1.dm p hp⟩⟩
 .cases e
def VC(K:qe)(r:Qa V->Hp->VK->Prop)(f:Qa U->Qb U):Prop :=
 ∀ (vs:Qa V) (us:Qa U) (u:U) (H:Hp) (Q:VK),CH K H vs us->f us=some u->(∀ v H',b9 H H'->Rp K H' v u->Nw H v u->Q v H')->r vs H Q
def aY(f:Qa U->Qb U)(ma:MA):ME:=λρ=>(ma ρ).bind λp=>(bw p.2 p.1).bind λus=>(f us).bind λu=>some (.u u,p.2)
theorem bf{f:Qa U->Qb U}{t:TA}{m:MA}(hc:VC K r f)(h:jh K t m):VE K (mO r t) (aY f m):=by
 intro ρ σ H a av Q rs e q;obtain⟨⟨as,aw⟩,e1,e⟩:=bQ e;obtain⟨us,eu,e⟩:=bQ e;obtain⟨u,ef,e⟩:=bQ e;cases e;refine h ρ σ H as _ _ rs e1 λvs H1 g1 s1=>hc vs us u H1 _ (s1.lj rs g1 eu) ef λv H2 s p n=>?_;exact q v H2 (g1.trans (Go.grow g1.rs s)) ⟨p,n.mono g1.dm⟩
def f1(f:U->Qb U):Qa U->Qb U
 | [u]=>f u
 | _=>none
theorem nu{f:U->Qb U}(h:∀ (v:V) (a u:U) (H:Hp) (Q:VK),Rp K H v a->f a=some u->(∀ v H',b9 H H'->Rp K H' v u->Nw H v u->Q v H')->r [v] H Q):VC K r (f1 f):=by
 intro vs us u H Q hr e q;cases hr with
 | nil=>cases e
 | cons h1 t=>
  cases t with
  | nil=>exact h _ _ _ _ _ h1 e q
  | cons=>cases e
def U.items:U->Qb (Qa D)
 | .d (.tuple xs)=>some xs
 | .d (.list xs)=>some xs
 | .l xs=>some xs
 | _=>none
theorem Rp.items{u:U}{xs:Qa D}(h:Rp K H v u)(e:u.items=some xs):∃ p ys,v=.ref p/\(bo K H p ys\/bt K H p ys)/\aM K H ys xs:=by
 cases u with
 | d x=>
  cases x with
  | tuple ds=>cases e; obtain⟨a,ys,rfl,h1,h2⟩:=DF.aH h; exact⟨a,ys,rfl,.inr ((aT.sq h1)),h2⟩
  | list ds=>cases e; obtain⟨a,ys,rfl,h1,h2⟩:=DF.lst_inv h; exact⟨a,ys,rfl,.inl h1.sq,h2⟩
  | _=>cases e
 | l ds=>cases e; obtain⟨a,ys,rfl,h1,h2⟩:=h; exact⟨a,ys,rfl,.inl (bo.of h1),h2⟩
 | t=>cases e
 | k=>cases e
def cT(u:U):Qb U:=u.items.map λxs=>.d (.int xs.length)
theorem dP:VC K (Pp K) (f1 cT):=nu λv a u H Q h e q=>by
 obtain⟨xs,ex,rfl⟩:=qu.mp e;obtain⟨p,ys,rfl,s,d⟩:=h.items ex;exact⟨p,ys,rfl,s,q _ _ (λ_ _ z=>z) (by rw[d.len]; exact .int _) Nw.data⟩
def kJ(u:U):Qb U:=u.items.map λxs=>.d (.tuple xs)
theorem pS:VC K (L4 K) (f1 kJ):=nu λv a u H Q h e q=>by
 obtain⟨xs,ex,rfl⟩:=qu.mp e;cases a with
 | d x=>
  cases x with
  | tuple ds=>
   cases ex;obtain⟨a,ys,rfl,h1,h2⟩:=DF.aH h;exact⟨a,ys,rfl,.inr ⟨(aT.sq h1),q _ _ (λ_ _ z=>z) (.tup h1 h2) Nw.data⟩⟩
  | list ds=>
   cases ex;obtain⟨a,ys,rfl,h1,h2⟩:=DF.lst_inv h;refine⟨a,ys,rfl,.inl ⟨h1.sq,λl hl=>?_⟩⟩;have sm:=zW hl (.tup ys);exact q _ _ sm (.tup (.inl zx) (h2.kp sm.kp)) Nw.data
  | _=>cases ex
 | l ds=>
  cases ex;obtain⟨a,ys,rfl,h1,h2⟩:=h;refine⟨a,ys,rfl,.inl ⟨bo.of h1,λl hl=>?_⟩⟩;have sm:=zW hl (.tup ys);exact q _ _ sm (.tup (.inl zx) (h2.kp sm.kp)) Nw.data
 | t=>cases ex
 | k=>cases ex
def wq(u:U):Qb U:=u.items.map λxs=>.l xs
theorem Ld:VC K (Li K) (f1 wq):=nu λv a u H Q h e q=>by
 obtain⟨xs,ex,rfl⟩:=qu.mp e;obtain⟨p,ys,rfl,s,d⟩:=h.items ex;refine⟨p,ys,rfl,s,λl hl=>?_⟩;have sm:=zW hl (.lst ys);exact q _ _ sm ⟨l,ys,rfl,zx,d.kp sm.kp⟩ λ_=>⟨l,rfl,hl⟩
def rJ:U->Qb U
 | .d (.int i)=>some (.d (.int (if i < 0 then -i else i)))
 | _=>none
theorem Am:VC K (λxs H Q=>∃ i,xs=[.int i]/\Q (.int (if i < 0 then -i else i)) H) (f1 rJ):=nu λv a u H Q h e q=>by
 unfold rJ at e;split at e
 .rename_i i
  cases e;cases DF.int_inv h;exact⟨i,rfl,q _ _ (λ_ _ z=>z) (.int _) Nw.data⟩
 .cases e
def uz:U->Qb U
 | .d (.int i)=>some (.d (.int i))
 | .d (.bool k)=>some (.d (.int (if k then 1 else 0)))
 | _=>none
theorem EW:VC K (λxs H Q=>(∃ i,xs=[.int i]/\Q (.int i) H)\/∃ k,xs=[.bl k]/\Q (.int (if k then 1 else 0)) H) (f1 uz):=nu λv a u H Q h e q=>by
 unfold uz at e;split at e
 .rename_i i
  cases e;cases DF.int_inv h;exact .inl ⟨i,rfl,q _ _ (λ_ _ z=>z) (.int _) Nw.data⟩
 .rename_i i
  cases e;cases DF.dN h;exact .inr ⟨i,rfl,q _ _ (λ_ _ z=>z) (.int _) Nw.data⟩
 .cases e
def uy:Qa U->Qb U
 | [.d (.int i),.d (.int j)]=>some (.d (.int (if j > i then j else i)))
 | _=>none
theorem Fo:VC K (λxs H Q=>∃ i j,xs=[.int i,.int j]/\Q (.int (if j > i then j else i)) H) uy:=by
 intro vs us u H Q hr e q;unfold uy at e;split at e
 .rename_i i j
  cases e;cases hr with
  | cons h1 t=>
   cases t with
   | cons h2 t=>
    cases t;cases DF.int_inv h1;cases DF.int_inv h2;exact⟨i,j,rfl,q _ _ (λ_ _ z=>z) (.int _) Nw.data⟩
 .cases e
def kE:Qa D->Qb (Qa Int)
 | []=>some []
 | .int i::xs=>(kE xs).bind λis=>some (i::is)
 | _::_=>none
theorem Fv{ys:Qa V}{xs:Qa D}(h:aM K H ys xs)(e:kE xs=some ns):ys=ns.map V.int:=by
 induction xs generalizing ys ns with
 | nil=>cases e; cases h; rfl
 | cons x xs ih=>
  cases h with
  | cons h1 t=>
   cases x with
   | int i=>
    obtain⟨is,ei,e⟩:=bQ (show(kE xs).bind (λis=>some (i::is))=some ns from e);cases e;rw[ih t ei,DF.int_inv h1];rfl
   | _=>cases e
def Dw(u:U):Qb U:=u.items.bind λxs=>(kE xs).map λns=>.d (.int ns.sum)
theorem TK:VC K (Pn K) (f1 Dw):=nu λv a u H Q h e q=>by
 obtain⟨xs,ex,e⟩:=bQ e;obtain⟨ns,en,rfl⟩:=qu.mp e;obtain⟨p,ys,rfl,s,d⟩:=h.items ex;cases Fv d en;exact⟨p,ns,rfl,s,q _ _ (λ_ _ z=>z) (.int _) Nw.data⟩
def mB(me:ME):MT:=λρ=>(me ρ).bind λp=>(p.1.get p.2).bind λu=>match u with | .d (.bool b)=>some (b,p.2) | _=>none
theorem rH{t:TE}{m:ME}(h:VE K t m):VT K (tB t) (mB m):=by
 intro ρ σ H b av Q r e q;obtain⟨⟨a,aw⟩,e1,e⟩:=bQ e;obtain⟨u,eu,e⟩:=bQ e;split at e
 .cases e
  refine h ρ σ H a _ _ r e1 λv H1 g1 k1=>?_;exact⟨_,DF.dN (k1.now r g1 eu),q _ g1⟩
 .cases e
theorem zE{t:TE}{m:ME}(h:VE K t m):VT K (D1 t) (mB m):=rH h
def vX(ma mb:MT):MT:=λρ=>(ma ρ).bind λp=>if p.1=true then mb p.2 else some (false,p.2)
def mS(ma mb:MT):MT:=λρ=>(ma ρ).bind λp=>if p.1=true then some (true,p.2)else mb p.2
def rG(ma:MT):MT:=λρ=>(ma ρ).bind λp=>some (!p.1,p.2)
theorem Kq{ta tb:TT}{ma mb:MT}(ha:VT K ta ma)(hb:VT K tb mb):VT K (Dy ta tb) (vX ma mb):=by
 intro ρ σ H b av Q r e q;obtain⟨⟨c,aw⟩,e1,e⟩:=bQ e;refine ha ρ σ H c aw _ r e1 λH1 g1=>?_;dsimp only at e;split at e
 .rename_i hc
  rw[if_pos hc];exact hb aw σ H1 b av _ g1.rs e λH2 g2=>q H2 (g1.trans g2)
 .rename_i hc
  rw[if_neg hc];cases e;exact q H1 g1
theorem rR{ta tb:TT}{ma mb:MT}(ha:VT K ta ma)(hb:VT K tb mb):VT K (G4 ta tb) (mS ma mb):=by
 intro ρ σ H b av Q r e q;obtain⟨⟨c,aw⟩,e1,e⟩:=bQ e;refine ha ρ σ H c aw _ r e1 λH1 g1=>?_;dsimp only at e;split at e
 .rename_i hc
  rw[if_pos hc];cases e;exact q H1 g1
 .rename_i hc
  rw[if_neg hc];exact hb aw σ H1 b av _ g1.rs e λH2 g2=>q H2 (g1.trans g2)
theorem AB{ta:TT}{ma:MT}(ha:VT K ta ma):VT K (Di ta) (rG ma):=by
 intro ρ σ H b av Q r e q;obtain⟨⟨c,aw⟩,e1,e⟩:=bQ e;cases e;exact ha ρ σ H c _ _ r e1 λH1 g1=>q H1 g1
def Ag(ma mb:ME):ME:=λρ=>(mB ma ρ).bind λp=>if p.1=true then mb p.2 else some (.u (.d (.bool false)),p.2)
theorem zCi{a:Ar}{H1 H2:Hp}{aw aB:En}(g1:Go K ρ σ H aw H1)(h:l8 K aB σ H1 H2 v a):l8 K aB σ H H2 v a:=by
 cases a with
 | s i=>exact h
 | u x=>exact⟨h.1,h.2.mono g1.dm⟩
theorem TJ{tb:TE}{ma mb:ME}(ha:VE K ta ma)(hb:VE K tb mb):VE K (Ec ta tb) (Ag ma mb):=by
 intro ρ σ H a av Q r e q;obtain⟨⟨c,aw⟩,e1,e⟩:=bQ e;refine rH ha ρ σ H c aw (λc H1=>if c=true then tb σ H1 Q else Q (.bl false) H1) r e1 λH1 g1=>?_;dsimp only at e;split at e
 .rename_i hc
  rw[if_pos hc];exact hb aw σ H1 a av _ g1.rs e λv H2 g2 k=>q v H2 (g1.trans g2) (zCi g1 k)
 .rename_i hc
  rw[if_neg hc];cases e;exact q _ H1 g1 ⟨.bl _,Nw.data⟩
def Af(ma:ME):ME:=λρ=>(mB ma ρ).bind λp=>some (.u (.d (.bool (!p.1))),p.2)
theorem TH{ma:ME}(ha:VE K ta ma):VE K (Eb ta) (Af ma):=by
 intro ρ σ H a av Q r e q;obtain⟨⟨c,aw⟩,e1,e⟩:=bQ e;cases e;exact rH ha ρ σ H c _ (λc H1=>Q (.bl (!c)) H1) r e1 λH1 g1=>q _ H1 g1 ⟨.bl _,Nw.data⟩
def U.xk:U->Qb Bool
 | .d .none=>some false
 | .d (.bool b)=>some b
 | .d (.int i)=>some (i != 0)
 | .d (.str x)=>if x.length<=sizeLine then some ((x.length:Int) != 0)else none
 | .d (.tuple xs)=>some (!xs.isEmpty)
 | .d (.list xs)=>some (!xs.isEmpty)
 | .l xs=>some (!xs.isEmpty)
 | _=>none
theorem Gq{ys:Qa V}{xs:Qa D}(h:aM K H ys xs):(!xs.isEmpty)=!ys.isEmpty:=by cases h<;>rfl
def yG(ma:ME):MT:=λρ=>(ma ρ).bind λp=>(p.1.get p.2).bind λu=>u.xk.bind λb=>some (b,p.2)
theorem Sk{ma:ME}(ha:VE K ta ma):VT K (Pr K ta) (yG ma):=by
 intro ρ σ H b av Q r e q;obtain⟨⟨a,aw⟩,e1,e⟩:=bQ e;obtain⟨u,eu,e⟩:=bQ e;obtain⟨c,ec,e⟩:=bQ e;cases e;refine ha ρ σ H a _ _ r e1 λv H1 g1 k1=>⟨_,?_,q _ g1⟩;have p:=k1.now r g1 eu;cases u with
 | d x=>
  cases(show DF K H1 v x from p)with
  | aN=>cases ec; rfl
  | bl=>cases ec; rfl
  | int=>cases ec; rfl
  | str x=>
   unfold U.xk at ec;dsimp only at ec;split at ec
   .cases ec; exact⟨by assumption,rfl⟩
   .cases ec
  | tup h t=>cases ec; exact .inr (.inl ⟨_,(aT.sq h),Gq t⟩)
  | lst h t=>cases ec; exact .inl ⟨_,h.sq,Gq t⟩
  | gM=>cases ec
  | exc=>cases ec
  | obj=>cases ec
 | l xs=>cases ec; obtain⟨a,us,rfl,h1,h2⟩:=p; exact .inl ⟨_,bo.of h1,Gq h2⟩
 | t=>cases ec
 | k=>cases ec
end
section
variable{ρ av:En}
abbrev FD:=Qa U->Qb (U×Qa U)
def sm(xs:Qa U):En:=xs.map some
def eh(vs:Qa V):St:=vs.map some
def qH(K:qe)(n:Nat)(f:FD):Sp:=λvs H Q _=>∃ us r outs,us.length=n/\Rs K (sm us) (eh vs) H/\f us=some (r,outs)/\
 ∀ v H',Go K (sm us) (eh vs) H (sm outs) H'->Rp K H' v r->Nw H v r->Q v H'
def wb:En->Qa Ar->Qa U->En
 | ρ,.s j::as,o::os=>wb (ρ.set j (some o)) as os
 | ρ,.u _::as,_::os=>wb ρ as os
 | ρ,_,_=>ρ
def gD(ρ:En):Qa Ar->Bool
 | []=>true
 | .s j::as=>(match ρ[j]? with|some (some u)=>!u.own || !(as.any λa=>match a with | .s k=>decide (k=j) | _=>false) | _=>true) && gD ρ as
 | .u _::as=>gD ρ as
def zR(f:FD)(ma:MA):ME:=λρ=>(ma ρ).bind λp=>if gD p.2 p.1=true then(bw p.2 p.1).bind λus=>(f us).bind λo=>some (.u o.1,wb p.2 p.1 o.2)else none
theorem Bg:∀ {as:Qa Ar} {us:Qa U},bw ρ as=some us->us.length=as.length
 | [],us,e=>by cases e; rfl
 | a::as,us,e=>by
  obtain⟨u,eu,e⟩:=bQ e;obtain⟨gc,ym,e⟩:=bQ e;cases e;simp[Bg ym]
theorem Lc:∀ {as:Qa Ar} {us:Qa U} {i:Nat} {a:Ar},bw ρ as=some us->as[i]?=some a->∃ u,us[i]?=some u/\a.get ρ=some u
 | [],us,i,a,e,ea=>by simp at ea
 | b::as,us,i,a,e,ea=>by
  obtain⟨u,eu,e⟩:=bQ e;obtain⟨gc,ym,e⟩:=bQ e;cases e;cases i with
  | zero=>cases(show some b=some a from ea); exact⟨u,rfl,eu⟩
  | succ i=>exact Lc (i:=i) ym ea
theorem FR:∀ {as:Qa Ar} {us:Qa U} {i:Nat} {u:U},bw ρ as=some us->us[i]?=some u->∃ a,as[i]?=some a/\a.get ρ=some u:=λ{as us i u} e eu=>by
 have hi:i < as.length:=by rw[<-Bg e]; exact(qm.mp eu).1
 obtain⟨u',e1,e2⟩:=Lc e (qo hi);rw[eu]at e1;cases e1;exact⟨_,qo hi,e2⟩
theorem Jt{u:U}(e:Ar.get ρ (.s j)=some u):ρ[j]?=some (some u):=by
 have z:(ρ[j]?).join=some u:=e;cases q:ρ[j]? with
 | none=>rw[q]at z; cases z
 | some o=>
  rw[q]at z;cases o with
  | none=>cases z
  | some w=>cases z; rfl
theorem Lb:∀ {as:Qa Ar} {p q j:Nat} {u:U},gD ρ as=true->as[p]?=some (.s j)->as[q]?=some (.s j)->ρ[j]?=some (some u)->u.own=true->p=q
 | [],p,q,j,u,_,e,_,_,_=>by simp at e
 | a::as,p,q,j,u,d,ep,eq,ej,ou=>by
  have dd:gD ρ as=true:=by
   cases a with
   | s k=>unfold gD at d; rw[Bool.and_eq_true]at d; exact d.2
   | u=>exact d
  have xC:∀ {q':Nat},a=.s j->as[q']?=some (.s j)->False:=λ{q'} ea Ct=>by
   subst ea;unfold gD at d;rw[Bool.and_eq_true,ej]at d;have d1:=d.1;dsimp only at d1;rw[ou]at d1;have m:(as.any λa=>match a with | .s k=>decide (k=j) | _=>false)=true:=Ć.mpr ⟨.s j,å Ct,by simp⟩;rw[m]at d1;cases d1
  cases p with
  | zero=>
   cases q with
   | zero=>rfl
   | succ q=>exact(xC (qA ep) eq).elim
  | succ p=>
   cases q with
   | zero=>exact(xC (qA eq) ep).elim
   | succ q=>exact congrArg (·+1) (Lb dd ep eq ej ou)
theorem f7{us:Qa U}{u:U}:(sm us)[i]?=some (some u)↔us[i]?=some u:=by
 unfold sm;rw[List.getElem?_map];cases us[i]?<;>simp
theorem uK:(eh vs)[i]?=some (some v)↔vs[i]?=some v:=by
 unfold eh;rw[List.getElem?_map];cases vs[i]?<;>simp
theorem Ae:∀ {as:Qa Ar} {os:Qa U} {ρ:En} {j:Nat} {w:U},(wb ρ as os)[j]?=some (some w)->as.length=os.length->(∃ p:Nat,as[p]?=some (Ar.s j)/\os[p]?=some w)\/(ρ[j]?=some (some w)/\∀ p:Nat,as[p]?≠some (Ar.s j))
 | [],os,ρ,j,w,e,_=>.inr ⟨by cases os<;>exact e,λp z=>by simp at z⟩
 | a::as,[],ρ,j,w,e,l=>by simp at l
 | .u x::as,o::os,ρ,j,w,e,l=>by
  rcases Ae (as:=as) (os:=os) (ρ:=ρ) (show(wb ρ as os)[j]?=some (some w) from e) (by simpa using l)with⟨p,h1,h2⟩|⟨h1,h2⟩
  .exact .inl ⟨p+1,h1,h2⟩
  .refine .inr ⟨h1,λp z=>?_⟩
   cases p with
   | zero=>cases(show some (Ar.u x)=some (.s j) from z)
   | succ p=>exact h2 p z
 | .s k::as,o::os,ρ,j,w,e,l=>by
  rcases Ae (as:=as) (os:=os) (ρ:=ρ.set k (some o)) (show(wb (ρ.set k (some o)) as os)[j]?=some (some w) from e) (by simpa using l)with⟨p,h1,h2⟩|⟨h1,h2⟩
  .exact .inl ⟨p+1,h1,h2⟩
  .by_cases hk:k=j
   .subst hk
    have hl:k < (ρ.set k (some o)).length:=(qm.mp h1).1;rw[List.length_set]at hl;rw[List.getElem?_set_self hl]at h1;exact .inl ⟨0,rfl,by cases h1; rfl⟩
   .rw[qE hk]at h1
    refine .inr ⟨h1,λp z=>?_⟩;cases p with
    | zero=>cases(show some (Ar.s k)=some (.s j) from z); exact hk rfl
    | succ p=>exact h2 p z
theorem AA:∀ (ρ:En) (as:Qa Ar) (os:Qa U),(wb ρ as os).length=ρ.length
 | ρ,[],os=>by cases os<;>rfl
 | ρ,.s k::as,[]=>rfl
 | ρ,.u k::as,[]=>rfl
 | ρ,.s k::as,o::os=>by show(wb (ρ.set k (some o)) as os).length=_; rw[AA]; exact List.length_set
 | ρ,.u k::as,o::os=>AA ρ as os
theorem AV:∀ {as:Qa Ar} {os:Qa U} {ρ:En} {j:Nat} {w:U},ρ[j]?=some (some w)->∃ w',(wb ρ as os)[j]?=some (some w')
 | [],os,ρ,j,w,e=>⟨w,by cases os<;>exact e⟩
 | .s k::as,[],ρ,j,w,e=>⟨w,e⟩
 | .u k::as,[],ρ,j,w,e=>⟨w,e⟩
 | .u k::as,o::os,ρ,j,w,e=>AV (as:=as) (os:=os) e
 | .s k::as,o::os,ρ,j,w,e=>by
  by_cases hk:k=j
  .subst hk
   exact AV (as:=as) (os:=os) (w:=o) (ú (qm.mp e).1)
  .exact AV (as:=as) (os:=os) (w:=w) (by rw[qE hk]; exact e)
theorem Sj{as:Qa Ar}{us:Qa U}{aw:En}{H1:Hp}(rs:Rs K ρ σ H)(g1:Go K ρ σ H aw H1)(s1:CL K aw σ H H1 vs as)(dj:gD aw as=true)(eu:bw aw as=some us):
  Rs K (sm us) (eh vs) H1/\∀ (outs:Qa U) (H2:Hp),Go K (sm us) (eh vs) H1 (sm outs) H2->Go K ρ σ H (wb aw as outs) H2:=by
 have rp:=s1.lj rs g1 eu;have lus:=Bg eu;have lvs:=s1.len;have adr:∀ (i:Nat) (u:U),us[i]?=some u->u.own=true->∃ b,vs[i]?=some (.ref b)/\((∃ j,as[i]?=some (.s j)/\σ[j]?=some (some (.ref b))/\aw[j]?=some (some u))\/(as[i]?=some (.u u)/\H b=none)):=λi u ei ou=>by
  obtain⟨a,ea,eg⟩:=FR eu ei;obtain⟨v,ev,k⟩:=s1.ar i a ea;have p:=k.now rs g1 eg;obtain⟨b,rfl⟩:=p.i5 ou;refine⟨b,ev,?_⟩;cases a with
  | s j=>exact .inl ⟨j,ea,k.1,Jt eg⟩
  | u x=>
   cases(show some x=some u from eg);obtain⟨b',eb,hb⟩:=k.2 ou;cases eb;exact .inr ⟨ea,hb⟩
 have apart:∀ (i j:Nat) (u w:U),us[i]?=some u->us[j]?=some w->u.own=true->w.own=true->vs[i]?=vs[j]?->i=j:=λi j u w ei ej ou ow ev=>by
  obtain⟨b,vb,hb⟩:=adr i u ei ou;obtain⟨c,vc,hc⟩:=adr j w ej ow;have bc:b=c:=by rw[vb,vc]at ev; cases ev; rfl
  subst bc;rcases hb with⟨x,ax,sx,rx⟩|⟨ax,nx⟩
  .rcases hc with⟨y,ay,sy,ry⟩|⟨ay,ny⟩
   .have xy:x=y:=g1.rs.apart x y u w rx ry ou ow (by rw[sx,sy])
    subst xy;exact Lb dj ax ay rx ou
   .exfalso
    obtain⟨w',eS,sX⟩:=g1.shr.own x u rx ou;obtain⟨c',jO,_⟩:=rs.ow ⟨x,w',eS,sX,sx⟩;rw[ny]at jO;cases jO
  .rcases hc with⟨y,ay,sy,ry⟩|⟨ay,ny⟩
   .exfalso
    obtain⟨w',eS,sX⟩:=g1.shr.own y w ry ow;obtain⟨c',jO,_⟩:=rs.ow ⟨y,w',eS,sX,sy⟩;rw[nx]at jO;cases jO
   .exact s1.ap i j u w ax ay ou ow ev
 have B2:Rs K (sm us) (eh vs) H1:=by
  refine⟨by unfold sm eh; rw[List.length_map,List.length_map]; omega,λi u ei=>?_,λi j u w ei ej ou ow ev=>?_⟩
  .have rg:=f7.mp ei
   obtain⟨a,ea,eg⟩:=FR eu rg;obtain⟨v,ev,k⟩:=s1.ar i a ea;exact⟨v,uK.mpr ev,k.now rs g1 eg⟩
  .have rg:=f7.mp ei
   have oQ:=f7.mp ej;refine apart i j u w rg oQ ou ow ?_;obtain⟨b,vb,_⟩:=adr i u rg ou;obtain⟨c,vc,_⟩:=adr j w oQ ow;rw[uK.mpr vb,uK.mpr vc]at ev;rw[vb,vc];exact qA ev
 refine⟨B2,λouts H2 g2=>?_⟩;have lo:outs.length=us.length:=by have:=g2.shr.len; unfold sm at this; simpa using this
 have kp2:=g2.kp B2;have owA:∀ b,Ow (sm us) (eh vs) b->Ow aw σ b\/H b=none:=λb ⟨i,u,ei,ou,es⟩=>by
  obtain⟨c,vc,hc⟩:=adr i u (f7.mp ei) ou;rw[uK.mp es]at vc;cases vc;rcases hc with⟨j,_,sj,rj⟩|⟨_,nb⟩
  .exact .inl ⟨j,u,rj,ou,sj⟩
  .exact .inr nb
 have sY:∀ (i:Nat) (w:U),outs[i]?=some w->∃ x,vs[i]?=some x/\Rp K H2 x w:=λi w ei=>by
  obtain⟨x,ex,px⟩:=g2.rs.rep i w (f7.mpr ei);exact⟨x,uK.mp ex,px⟩
 have P7:as.length=outs.length:=by omega
 have gk:∀ (j:Nat) (w:U),(wb aw as outs)[j]?=some (some w)->w.own=true->∃ w',aw[j]?=some (some w')/\w'.own=true:=λj w ej ow=>by
  rcases Ae ej P7 with⟨p,ap,op⟩|⟨h1,_⟩
  .obtain⟨w',eS,sX⟩:=g2.shr.own p w (f7.mpr op) ow
   obtain⟨a,ea,eg⟩:=FR eu (f7.mp eS);rw[ap]at ea;cases ea;exact⟨w',Jt eg,sX⟩
  .exact⟨w,h1,ow⟩
 refine⟨⟨by rw[AA]; exact g1.rs.len,λj w ej=>?_,λi j u w ei ej ou ow es=>?_⟩,λb ob hb nb=>?_,?_,λb hb=>g1.dm b (g2.dm b hb)⟩
 .rcases Ae ej P7 with⟨p,ap,op⟩|⟨h1,h2⟩
  .obtain⟨x,vx,px⟩:=sY p w op
   obtain⟨v',tX,k'⟩:=s1.ar p _ ap;rw[vx]at tX;cases tX;exact⟨x,k'.1,px⟩
  .obtain⟨x,ex,px⟩:=g1.rs.rep j w h1
   refine⟨x,ex,px.kp kp2 λow b c eb hb=>?_⟩;refine g2.fr b c hb λ⟨i,u,ei,ou,es⟩=>?_;obtain⟨c',PF,jO⟩:=adr i u (f7.mp ei) ou;rw[uK.mp es]at PF;cases PF;subst eb;rcases jO with⟨k,ak,sk,rk⟩|⟨_,nb⟩
   .have:k=j:=g1.rs.apart k j u w rk h1 ou ow (by rw[sk,ex])
    subst this;exact h2 i ak
   .obtain⟨w',eS,sX⟩:=g1.shr.own j w h1 ow
    obtain⟨c'',yc,_⟩:=rs.ow ⟨j,w',eS,sX,ex⟩;rw[nb]at yc;cases yc
 .obtain⟨x,ex,ox⟩:=gk i u ei ou
  obtain⟨y,ey,oy⟩:=gk j w ej ow;exact g1.rs.apart i j x y ex ey ox oy es
 .refine g2.fr b ob (g1.fr b ob hb nb) λz=>?_
  rcases owA b z with z|z
  .exact nb (g1.shr.ow z)
  .rw[z]at hb; cases hb
 .refine⟨by rw[AA]; exact g1.shr.len,λj w ej ow=>?_,λj w ej=>?_⟩
  .obtain⟨x,ex,ox⟩:=gk j w ej ow
   exact g1.shr.own j x ex ox
  .obtain⟨x,ex⟩:=g1.shr.live j w ej
   exact AV ex
theorem zAW:∀ ρ as av,zq ρ=some (as,av)->as.length=0:=λρ as av e=>by cases e; rfl
theorem Si{me:ME}{ma:MA}(h:∀ ρ as av,ma ρ=some (as,av)->as.length=n):∀ ρ as av,zf me ma ρ=some (as,av)->as.length=n+1:=λρ as av e=>by
 obtain⟨⟨a1,aw⟩,e1,e⟩:=bQ e;obtain⟨⟨CA,aB⟩,e2,e⟩:=bQ e;cases e;simp[h _ _ _ e2]
theorem zA{f:FD}{t:TA}{m:MA}(n:Nat)(h:jh K t m)(hn:∀ ρ as av,m ρ=some (as,av)->as.length=n:=by repeat (first|exact zAW|refine Si ?_)):VE K (Dk (qH K n f) t) (zR f m):=by
 intro ρ σ H a av Q rs e q;obtain⟨⟨as,aw⟩,e1,e⟩:=bQ e;dsimp only at e;split at e
 .rename_i dj
  obtain⟨us,eu,e⟩:=bQ e;obtain⟨⟨r,outs⟩,ef,e⟩:=bQ e;cases e;refine h ρ σ H as aw _ rs e1 λvs H1 g1 s1=>?_;obtain⟨B2,back⟩:=Sj rs g1 s1 dj eu;exact⟨us,r,outs,by rw[Bg eu]; exact hn _ _ _ e1,B2,ef,λv H2 g2 p n2=>q v H2 (back outs H2 g2) ⟨p,n2.mono g1.dm⟩⟩
 .cases e
end
inductive Fl where
 | nx (ρ:En) | bk (ρ:En) | ct (ρ:En) | rt (u:U) (ρ:En) | ex (x:D) (ρ:En)
def Pj(K:qe)(H:Hp)(a:Qg)(x:D):Prop:=∃ n C fs ds,x=.dict ((.none,.str n)::ds)/\zCh H a C fs/\XN K n C/\g6 K H fs ds
structure Sn (K:qe) (pn:Qa Nat) (ao:St) (A:Qg->Prop) (aA aC:Hp) (ρ:En) (σ:St) (H:Hp):Prop where
 rs:Rs K ρ σ H
 fr:yx A aA H
 ow:∀ (i:Nat) (u:U) (a:Qg),ρ[i]?=some (some u)->u.own=true->σ[i]?=some (some (.ref a))->(i∈pn/\A a)\/aA a=none
 pin:∀ i∈pn,σ[i]?=ao[i]?
 dm:∀ a,H a=none->aA a=none
 kp:Kp aC H
def RJ:iS:=λ_ _ _=>False
def zCj(K:qe)(pn:Qa Nat)(EX:iS)(ao:St)(A:Qg->Prop)(aA aC:Hp)(D:Ends):Fl->Prop
 | .nx ρ=>∀ σ H,Sn K pn ao A aA aC ρ σ H->D.nx σ H
 | .bk ρ=>∀ σ H,Sn K pn ao A aA aC ρ σ H->D.bk σ H
 | .ct ρ=>∀ σ H,Sn K pn ao A aA aC ρ σ H->D.ct σ H
 | .rt u ρ=>∀ v σ H,Sn K pn ao A aA aC ρ σ H->Rp K H v u->Nw aA v u->D.rt v H
 | .ex x ρ=>∀ a σ H,Sn K pn ao A aA aC ρ σ H->aA a=none->Pj K H a x->EX σ a H
abbrev MS:=En->Qb Fl
def VS(K:qe)(pn:Qa Nat)(EX:iS)(t:TS)(m:MS):Prop :=
 ∀ (ao:St) (A:Qg->Prop) (aA aC:Hp) (ρ:En) (σ:St) (H:Hp) (f:Fl) (D:Ends),Sn K pn ao A aA aC ρ σ H->m ρ=some f->zCj K pn EX ao A aA aC D f->t D σ H
section
variable{EX:iS}{A:Qg->Prop}{lU:Hp}{ρ av:En}
theorem Sn.go(s:Sn K pn ao A aA aC ρ σ H)(g:Go K ρ σ H av H'):Sn K pn ao A aA aC av σ H':=by
 refine⟨g.rs,λa o h n=>g.fr a o (s.fr a o h n) λ⟨i,u,e,ou,es⟩=>?_,λi u a e o es=>?_,s.pin,λa h=>s.dm a (g.dm a h),s.kp.trans (g.kp s.rs)⟩
 .rcases s.ow i u a e ou es with z|z
  .exact n z.2
  .rw[z]at h; cases h
 .obtain⟨w,e',o'⟩:=g.shr.own i u e o
  exact s.ow i w a e' o' es
theorem Sn.re(s:Sn K pn ao A aA lU ρ σ H)(k:Kp aC lU):Sn K pn ao A aA aC ρ σ H:=⟨s.rs,s.fr,s.ow,s.pin,s.dm,k.trans s.kp⟩
theorem Sn.at(s:Sn K pn ao A aA aC ρ σ H):Sn K pn ao A aA H ρ σ H:=⟨s.rs,s.fr,s.ow,s.pin,s.dm,Kp.refl H⟩
theorem Sn.set{u:U}(s:Sn K pn ao A aA aC ρ σ H)(hi:i∉pn)(p:Rp K H v u)(n:u.own=true->∃ a,v=.ref a/\aA a=none/\¬Ow ρ σ a):Sn K pn ao A aA aC (ρ.set i (some u)) (σ.set i (some v)) H:=by
 have ll:=s.rs.len;have inv:∀ (j:Nat) (w:U),(ρ.set i (some u))[j]?=some (some w)->(j=i/\w=u/\i < ρ.length)\/(j≠i/\ρ[j]?=some (some w)):=λj w e=>by
  by_cases hj:i=j
  .subst hj
   have hl:=(qm.mp e).1;rw[List.length_set]at hl;rw[List.getElem?_set_self hl]at e;cases e;exact .inl ⟨rfl,rfl,hl⟩
  .rw[qE hj]at e
   exact .inr ⟨Ne.symm hj,e⟩
 have sat:∀ j,j≠i->(σ.set i (some v))[j]?=σ[j]?:=λj h=>qE (Ne.symm h);have i4:i < ρ.length->(σ.set i (some v))[i]?=some (some v):=λh=>ú (by omega);refine⟨⟨by rw[List.length_set,List.length_set]; exact ll,λj w e=>?_,λj k x y ej ek ox oy es=>?_⟩,s.fr,λj w a e o es=>?_,λj hj=>?_,s.dm,s.kp⟩
 .rcases inv j w e with⟨rfl,rfl,hl⟩|⟨hj,e'⟩
  .exact⟨v,i4 hl,p⟩
  .rw[sat j hj]
   exact s.rs.rep j w e'
 .rcases inv j x ej with⟨rfl,rfl,hl⟩|⟨hj,oQ⟩
  .rcases inv k y ek with⟨rfl,rfl,_⟩|⟨hk,Iz⟩
   .rfl
   .exfalso
    obtain⟨a,rfl,_,na⟩:=n ox;rw[i4 hl,sat k hk]at es;exact na ⟨k,y,Iz,oy,es.symm⟩
  .rcases inv k y ek with⟨rfl,rfl,hl⟩|⟨hk,Iz⟩
   .exfalso
    obtain⟨a,rfl,_,na⟩:=n oy;rw[i4 hl,sat j hj]at es;exact na ⟨j,x,oQ,ox,es⟩
   .rw[sat j hj,sat k hk]at es
    exact s.rs.apart j k x y oQ Iz ox oy es
 .rcases inv j w e with⟨rfl,rfl,hl⟩|⟨hj,e'⟩
  .rw[i4 hl]at es
   cases es;obtain⟨b,eb,hb,_⟩:=n o;cases eb;exact .inr hb
  .rw[sat j hj]at es
   exact s.ow j w a e' o es
 .rw[sat j (λz=>hi (z▸hj))]
  exact s.pin j hj
theorem l8.own{a:Ar}{u:U}(r:Rs K ρ σ H)(g:Go K ρ σ H av H')(k:l8 K av σ H H' v a)(e:a.get av=some u)(nc:∀ j,a=.s j->u.own=false):Nw H v u/\(u.own=true->∃ b,v=.ref b/\¬Ow av σ b):=by
 cases a with
 | s j=>exact⟨(λo=>by rw[nc j rfl]at o; cases o),λo=>by rw[nc j rfl]at o; cases o⟩
 | u x=>
  cases(show some x=some u from e);exact⟨k.2,k.2.oq r g⟩
def put(p:Ar×En):Qb (U×En):=match p.1 with
 | .s i=>match p.2[i]? with
  | some (some (.d x))=>some (.d x,p.2)
  | _=>none
 | .u u=>some (u,p.2)
theorem Ko{a:Ar}{u:U}{aw aB:En}(e:put (a,aw)=some (u,aB)):aB=aw/\a.get aw=some u/\∀ j,a=.s j->u.own=false:=by
 cases a with
 | s i=>
  unfold put at e;dsimp only at e;split at e
  .rename_i x ex
   cases e;refine⟨rfl,?_,λ_ _=>rfl⟩;show(aw[i]?).join=_;rw[ex];rfl
  .cases e
 | u x=>
  cases e;exact⟨rfl,rfl,λj z=>by cases z⟩
def zU(i:Nat)(me:ME):MS:=λρ=>(me ρ).bind λp=>(put p).bind λq=>some (.nx (q.2.set i (some q.1)))
theorem zB{me:ME}(h:VE K te me)(hi:i∉pn:=by decide):VS K pn EX (nC te (jt i)) (zU i me):=by
 intro ao A aA aC ρ σ H f D s e k;obtain⟨⟨a,aw⟩,e1,e⟩:=bQ e;obtain⟨⟨u,aB⟩,e2,e3⟩:=bQ e;clear e;obtain⟨rfl,eg,nc⟩:=Ko e2;cases e3;refine h ρ σ H a aB _ s.rs e1 λv H1 g1 k1=>?_;obtain⟨n1,n2⟩:=k1.own s.rs g1 eg nc;have s1:=s.go g1;refine k _ _ (s1.set hi (k1.now s.rs g1 eg) λo=>?_);obtain⟨b,rfl,hb⟩:=n2 o;obtain⟨b',eb,jb⟩:=n1 o;cases eb;exact⟨b,rfl,s.dm b jb,hb⟩
def zD(m1 m2:MS):MS:=λρ=>(m1 ρ).bind λf=>match f with
 | .nx av=>m2 av
 | f=>some f
theorem zr{t1 t2:TS}{m1 m2:MS}(h1:VS K pn EX t1 m1)(h2:VS K pn EX t2 m2):VS K pn EX (vY t1 t2) (zD m1 m2):=by
 intro ao A aA aC ρ σ H f D s e k;obtain⟨f1,e1,e⟩:=bQ e;refine h1 ao A aA aC ρ σ H f1 _ s e1 ?_;cases f1 with
 | nx aw=>exact λeC H1 s1=>h2 ao A aA aC aw eC H1 f D s1 e k
 | bk aw=>cases e; exact k
 | ct aw=>cases e; exact k
 | rt u aw=>cases e; exact k
 | ex x aw=>cases e; exact k
def cO:MS:=λρ=>some (.nx ρ)
theorem dF:VS K pn EX Ea cO:=λao A aA aC ρ σ H f D s e k=>by cases e; exact k σ H s
theorem Sh:VS K pn EX Ei (λρ=>some (.ct ρ)):=λao A aA aC ρ σ H f D s e k=>by cases e; exact k σ H s
def br(mt:MT)(m1 m2:MS):MS:=λρ=>(mt ρ).bind λp=>if p.1=true then m1 p.2 else m2 p.2
theorem bO{t1 t2:TS}{mt:MT}{m1 m2:MS}(ht:VT K tt mt)(h1:VS K pn EX t1 m1)(h2:VS K pn EX t2 m2):VS K pn EX (Dh tt t1 t2) (br mt m1 m2):=by
 intro ao A aA aC ρ σ H f D s e k;obtain⟨⟨c,aw⟩,e1,e⟩:=bQ e;refine ht ρ σ H c aw _ s.rs e1 λH1 g1=>?_;dsimp only at e;split at e
 .rename_i hc
  rw[if_pos hc];exact h1 ao A aA aC aw σ H1 f D (s.go g1) e k
 .rename_i hc
  rw[if_neg hc];exact h2 ao A aA aC aw σ H1 f D (s.go g1) e k
theorem pM{t:TS}{m:MS}(h:VS K pn EX t m):VS K pn EX (DS t) m:=by
 intro ao A aA aC ρ σ H f D s e k;cases f with
 | nx aw=>exact⟨λaG H'=>Sn K pn ao A aA aC aw aG H',h ao A aA aC ρ σ H _ _ s e (λaG H' s'=>s'),λaG H' s'=>k aG H' s'⟩
 | bk aw=>exact⟨D.nx,h ao A aA aC ρ σ H _ _ s e k,λ_ _ z=>z⟩
 | ct aw=>exact⟨D.nx,h ao A aA aC ρ σ H _ _ s e k,λ_ _ z=>z⟩
 | rt u aw=>exact⟨D.nx,h ao A aA aC ρ σ H _ _ s e k,λ_ _ z=>z⟩
 | ex x aw=>exact⟨D.nx,h ao A aA aC ρ σ H _ _ s e k,λ_ _ z=>z⟩
def cN(me:ME):MS:=λρ=>(me ρ).bind λp=>some (.nx p.2)
theorem dY{me:ME}(h:VE K te me):VS K pn EX (Eh te) (cN me):=by
 intro ao A aA aC ρ σ H f D s e k;obtain⟨⟨a,aw⟩,e1,e⟩:=bQ e;cases e;exact h ρ σ H a _ _ s.rs e1 λv H1 g1 k1=>k σ H1 (s.go g1)
def bB(me:ME):MS:=λρ=>(me ρ).bind λp=>(put p).bind λq=>some (.rt q.1 q.2)
theorem bN{me:ME}(h:VE K te me):VS K pn EX (yW te) (bB me):=by
 intro ao A aA aC ρ σ H f D s e k;obtain⟨⟨a,aw⟩,e1,e⟩:=bQ e;obtain⟨⟨u,aB⟩,e2,e3⟩:=bQ e;clear e;obtain⟨rfl,eg,nc⟩:=Ko e2;cases e3;refine h ρ σ H a _ _ s.rs e1 λv H1 g1 k1=>?_;obtain⟨n1,n2⟩:=k1.own s.rs g1 eg nc;exact k v σ H1 (s.go g1) (k1.now s.rs g1 eg) (n1.mono s.dm)
def jV(pn:Qa Nat)(i:Nat):MS:=λρ=>if i∈pn then none else(match ρ[i]? with
 | some (some u)=>some (.rt u (ρ.set i none))
 | _=>none)
theorem sC:VS K pn EX (yW (ic i)) (jV pn i):=by
 intro ao A aA aC ρ σ H f D s e k;unfold jV at e;split at e
 .cases e
 rename_i hi;split at e
 .rename_i u eu
  cases e;obtain⟨v,ev,p⟩:=s.rs.rep i u eu;have back:∀ (j:Nat) (w:U),(ρ.set i none)[j]?=some (some w)->ρ[j]?=some (some w):=λj w e=>by
   by_cases hj:i=j
   .subst hj
    have hl:=(qm.mp e).1;rw[List.length_set]at hl;rw[List.getElem?_set_self hl]at e;cases e
   .rw[qE hj]at e
    exact e
  refine⟨v,ev,k v σ H ⟨⟨by rw[List.length_set]; exact s.rs.len,λj w e=>s.rs.rep j w (back j w e),λa b x y ea eb=>s.rs.apart a b x y (back a x ea) (back b y eb)⟩,s.fr,λj w a e=>s.ow j w a (back j w e),s.pin,s.dm,s.kp⟩ p λo=>?_⟩;obtain⟨a,rfl⟩:=p.i5 o;rcases s.ow i u a eu o ev with z|z
  .exact absurd z.1 hi
  .exact⟨a,rfl,z⟩
 .cases e
end
section
variable{EX:iS}{A:Qg->Prop}{lU:Hp}{ρ av:En}
def Kn(K:qe)(J:It)(aC:Hp)(ds:Qa D):Prop:=∀ H,Kp aC H->∀ i:Nat,(∀ d,ds[i]?=some d->J.go i H/\∀ x H',J.vg i H x H'->b9 H H'/\DF K H' x d)/\(i=ds.length->J.stop i H)
abbrev MI:=En->Qb (Qa D×En)
def VI(K:qe)(wi:TI)(mi:MI):Prop :=
 ∀ (ρ:En) (σ:St) (H:Hp) (ds:Qa D) (av:En) (R:It->Hp->Prop),Rs K ρ σ H->mi ρ=some (ds,av)->(∀ J H',Go K ρ σ H av H'->Kn K J H' ds->R J H')->wi σ H R
def yF:U->Qb (Qa D)
 | .d (.list xs)=>some xs
 | _=>none
def jo:U->Qb (Qa D)
 | .d (.tuple xs)=>some xs
 | _=>none
def cq(f:U->Qb (Qa D))(me:ME):MI:=λρ=>(me ρ).bind λp=>(p.1.get p.2).bind λu=>(f u).bind λds=>some (ds,p.2)
theorem Vy{me:ME}(h:VE K te me):VI K (Eg K te) (cq yF me):=by
 intro ρ σ H ds av R r e q;obtain⟨⟨a,aw⟩,e1,e⟩:=bQ e;obtain⟨u,eu,e⟩:=bQ e;obtain⟨xs,ex,e⟩:=bQ e;cases e;refine h ρ σ H a _ _ r e1 λv H1 g1 k1=>?_;have p:=k1.now r g1 eu;unfold yF at ex;split at ex
 .cases ex
  obtain⟨b,ys,rfl,h1,h2⟩:=DF.lst_inv p;refine⟨b,rfl,⟨ys,h1.sq⟩,q _ _ g1 λH2 k i=>⟨λd ed=>?_,λei=>?_⟩⟩
  .obtain⟨v,ev,dv⟩:=(h2.kp k).get ed
   refine⟨⟨ys,v,(h1.kp k).sq,ev⟩,λx H' y=>?_⟩;obtain⟨rfl,y⟩:=y;have:=y ys (h1.kp k).sq;rw[ev]at this;cases this;exact⟨λ_ _ z=>z,dv⟩
  .exact⟨ys,(h1.kp k).sq,by rw[h2.len]; omega⟩
 .cases ex
theorem nR{me:ME}(h:VE K te me):VI K (Dd K te) (cq jo me):=by
 intro ρ σ H ds av R r e q;obtain⟨⟨a,aw⟩,e1,e⟩:=bQ e;obtain⟨u,eu,e⟩:=bQ e;obtain⟨xs,ex,e⟩:=bQ e;cases e;refine h ρ σ H a _ _ r e1 λv H1 g1 k1=>?_;have p:=k1.now r g1 eu;unfold jo at ex;split at ex
 .cases ex
  obtain⟨b,ys,rfl,h1,h2⟩:=DF.aH p;refine⟨b,rfl,⟨ys,(aT.sq h1)⟩,q _ _ g1 λH2 k i=>⟨λd ed=>?_,λei=>?_⟩⟩
  .obtain⟨v,ev,dv⟩:=(h2.kp k).get ed
   refine⟨⟨ys,v,(aT.kp k h1).sq,ev⟩,λx H' y=>?_⟩;obtain⟨rfl,y⟩:=y;have:=y ys ((aT.kp k h1).sq);rw[ev]at this;cases this;exact⟨λ_ _ z=>z,dv⟩
  .exact⟨ys,(aT.kp k h1).sq,by rw[h2.len]; omega⟩
 .cases ex
def f9(lo:Int)(n:Nat):Qa D:=(List.range n).map λi=>.int (lo+(i:Nat))
theorem Gg(lo:Int)(n:Nat):(f9 lo n).length=n:=by simp[f9]
theorem FY{lo:Int}{d:D}(h:(f9 lo n)[i]?=some d):i < n/\d=.int (lo+(i:Nat)):=by
 have hl:=(qm.mp h).1;rw[Gg]at hl;refine⟨hl,?_⟩;unfold f9 at h;rw[List.getElem?_map,List.getElem?_range hl]at h;cases h;rfl
theorem Nj{lo:Int}:Kn K (yr lo n) aC (f9 lo n):=λH k i=>⟨λd ed=>by
  obtain⟨hi,rfl⟩:=FY ed;refine⟨hi,λx H' y=>?_⟩;obtain⟨rfl,rfl⟩:=y;exact⟨λ_ _ z=>z,.int _⟩,λei=>by rw[Gg]at ei; exact ý ei.symm⟩
def mw(ma:MA):MI:=λρ=>(ma ρ).bind λp=>(bw p.2 p.1).bind λus=>match us with
 | [.d (.int j)]=>if -(2^62)<=j/\j < 2^62 then some (f9 0 j.toNat,p.2)else none
 | _=>none
def Ad(ma:MA):MI:=λρ=>(ma ρ).bind λp=>(bw p.2 p.1).bind λus=>match us with
 | [.d (.int i),.d (.int j)]=>if -(2^62)<=i/\i < 2^62/\-(2^62)<=j/\j < 2^62 then some (f9 i (j - i).toNat,p.2)else none
 | _=>none
theorem sH{ta:TA}{ma:MA}(h:jh K ta ma):VI K (Ef ta) (mw ma):=by
 intro ρ σ H ds av R r e q;obtain⟨⟨as,aw⟩,e1,e⟩:=bQ e;obtain⟨us,eu,e⟩:=bQ e;refine h ρ σ H as aw _ r e1 λvs H1 g1 s1=>?_;have rp:=s1.lj r g1 eu;dsimp only at e;split at e
 .split at e
  .rename_i j hc
   cases e;cases rp with
   | cons h1 t=>
    cases t;cases DF.int_inv h1;exact⟨j,rfl,hc.1,hc.2,q _ _ g1 Nj⟩
  .cases e
 .cases e
theorem Vx{ta:TA}{ma:MA}(h:jh K ta ma):VI K (Ee ta) (Ad ma):=by
 intro ρ σ H ds av R r e q;obtain⟨⟨as,aw⟩,e1,e⟩:=bQ e;obtain⟨us,eu,e⟩:=bQ e;refine h ρ σ H as aw _ r e1 λvs H1 g1 s1=>?_;have rp:=s1.lj r g1 eu;dsimp only at e;split at e
 .split at e
  .rename_i i j hc
   cases e;cases rp with
   | cons h1 t=>
    cases t with
    | cons h2 t=>
     cases t;cases DF.int_inv h1;cases DF.int_inv h2;exact⟨i,j,rfl,hc,q _ _ g1 Nj⟩
  .cases e
 .cases e
def sN:Nat->Qa D->Qa D
 | _,[]=>[]
 | i,d::ds=>.tuple [.int (i:Nat),d]::sN (i+1) ds
theorem Gp:∀ {ds:Qa D} {n i:Nat} {d:D},(sN n ds)[i]?=some d->∃ x,ds[i]?=some x/\d=.tuple [.int ((n+i:Nat):Int),x]
 | [],n,i,d,h=>by simp[sN]at h
 | x::ds,n,0,d,h=>by cases h; exact⟨x,rfl,rfl⟩
 | x::ds,n,i+1,d,h=>by
  obtain⟨y,ey,ed⟩:=Gp (ds:=ds) (n:=n+1) (i:=i) h;exact⟨y,ey,by rw[ed]; congr 3; omega⟩
theorem Gw:∀ (ds:Qa D) (n:Nat),(sN n ds).length=ds.length
 | [],_=>rfl
 | _::ds,n=>congrArg (·+1) (Gw ds (n+1))
def Ac(ma:MA):MI:=λρ=>(ma ρ).bind λp=>(bw p.2 p.1).bind λus=>match us with
 | [.d (.tuple ds)]=>some (sN 0 ds,p.2)
 | _=>none
theorem Vw{ta:TA}{ma:MA}(h:jh K ta ma):VI K (Jv K ta) (Ac ma):=by
 intro ρ σ H ds av R r e q;obtain⟨⟨as,aw⟩,e1,e⟩:=bQ e;obtain⟨us,eu,e⟩:=bQ e;refine h ρ σ H as aw _ r e1 λvs H1 g1 s1=>?_;have rp:=s1.lj r g1 eu;dsimp only at e;split at e
 .rename_i xs
  cases e;cases rp with
  | cons h1 t=>
   cases t;obtain⟨b,ys,rfl,h1,h2⟩:=DF.aH h1;refine⟨b,rfl,⟨ys,(aT.sq h1)⟩,q _ _ g1 λH2 k i=>⟨λd ed=>?_,λei=>?_⟩⟩
   .obtain⟨x,ex,rfl⟩:=Gp ed
    obtain⟨v,ev,dv⟩:=(h2.kp k).get ex;refine⟨⟨ys,v,(aT.kp k h1).sq,ev⟩,λx H' y=>?_⟩;obtain⟨T,nT,rfl,y⟩:=y;cases y ys v ((aT.kp k h1).sq) ev;have sm:=zW nT (.tup [.int i,v]);refine⟨sm,.tup (.inl zx) (.cons ?_ (.cons (dv.kp sm.kp) .nil))⟩;rw[Nat.zero_add];exact .int _
   .exact⟨ys,(aT.kp k h1).sq,by rw[Gw]at ei; rw[h2.len]; exact ei.symm⟩
 .cases e
abbrev MG:=D->En->Qb En
def zCk(pn:Qa Nat)(mg:MG):Prop:=∀ d ρ av,mg d ρ=some av->av.length=ρ.length/\∀ i∈pn,av[i]?=ρ[i]?
def zAY(pn:Qa Nat)(mg:Qa D->En->Qb En):Prop:=∀ ds ρ av,mg ds ρ=some av->av.length=ρ.length/\∀ i∈pn,av[i]?=ρ[i]?
structure oW (K:qe) (pn:Qa Nat) (g:TG) (mg:MG):Prop where
 run:∀ (ao:St) (A:Qg->Prop) (aA aC:Hp) (ρ:En) (σ:St) (H:Hp) (v:V) (d:D) (av:En) (Q:St->Hp->Prop),Sn K pn ao A aA aC ρ σ H->DF K H v d->mg d ρ=some av->(∀ aG,Sn K pn ao A aA aC av aG H->Q aG H)->g v σ H Q
 ok:zCk pn mg
structure CC (K:qe) (pn:Qa Nat) (g:h9) (mg:Qa D->En->Qb En):Prop where
 run:∀ (ao:St) (A:Qg->Prop) (aA aC:Hp) (ρ:En) (σ:St) (H:Hp) (vs:Qa V) (ds:Qa D) (av:En) (Q:St->Hp->Prop),Sn K pn ao A aA aC ρ σ H->aM K H vs ds->mg ds ρ=some av->(∀ aG,Sn K pn ao A aA aC av aG H->Q aG H)->g vs σ H Q
 ok:zAY pn mg
def zy(i:Nat):MG:=λd ρ=>some (ρ.set i (some (.d d)))
theorem zw(hi:i∉pn:=by decide):oW K pn (jt i) (zy i) where
 run:=by
  intro ao A aA aC ρ σ H v d av Q s h e q;cases e;exact q _ (s.set hi (u:=.d d) h λo=>by cases o)
 ok:=λd ρ av e=>by
  cases e;exact⟨List.length_set,λj hj=>qE (by rintro rfl; exact hi hj)⟩
def fL:Qa D->En->Qb En:=λds ρ=>match ds with | []=>some ρ|_=>none
def zX(g:MG)(gs:Qa D->En->Qb En):Qa D->En->Qb En:=λds ρ=>match ds with
 | d::ds=>(g d ρ).bind λaw=>gs ds aw
 | []=>none
theorem gF:CC K pn yU fL where
 run:=by
  intro ao A aA aC ρ σ H vs ds av Q s h e q;cases h with
  | nil=>cases e; exact⟨rfl,q σ s⟩
  | cons=>cases e
 ok:=λds ρ av e=>by
  cases ds with
  | nil=>cases e; exact⟨rfl,λ_ _=>rfl⟩
  | cons=>cases e
theorem zM{gs:h9}{mg:MG}{tz:Qa D->En->Qb En}(h1:oW K pn g mg)(h2:CC K pn gs tz):CC K pn (wj g gs) (zX mg tz) where
 run:=by
  intro ao A aA aC ρ σ H vs ds av Q s h e q;cases h with
  | nil=>cases e
  | @cons v d vs ds hv t=>
   obtain⟨aw,e1,e⟩:=bQ (show(mg d ρ).bind (λaw=>tz ds aw)=some av from e);exact⟨v,vs,rfl,h1.run ao A aA aC ρ σ H v d aw _ s hv e1 λeC s1=>h2.run ao A aA aC aw eC H vs ds av Q s1 t e q⟩
 ok:=λds ρ av e=>by
  cases ds with
  | nil=>cases e
  | cons d ds=>
   obtain⟨aw,e1,e⟩:=bQ (show(mg d ρ).bind (λaw=>tz ds aw)=some av from e);obtain⟨a1,a2⟩:=h1.ok d ρ aw e1;obtain⟨b1,b2⟩:=h2.ok ds aw av e;exact⟨b1.trans a1,λi hi=>(b2 i hi).trans (a2 i hi)⟩
def eZ(n:Nat)(gs:Qa D->En->Qb En):MG:=λd ρ=>match d with
 | .tuple ds=>if ds.length=n then gs ds ρ else none
 | _=>none
theorem gE{gs:h9}{tz:Qa D->En->Qb En}(h:CC K pn gs tz):oW K pn (yT K n gs) (eZ n tz) where
 run:=by
  intro ao A aA aC ρ σ H v d av Q s hd e q;unfold eZ at e;split at e
  .split at e
   .rename_i ds hl
    obtain⟨a,xs,rfl,h1,h2⟩:=DF.aH hd;exact⟨a,xs,rfl,(aT.sq h1),by rw[h2.len]; exact hl,h.run ao A aA aC ρ σ H xs ds av Q s h2 e q⟩
   .cases e
  .cases e
 ok:=λd ρ av e=>by
  unfold eZ at e;split at e
  .split at e
   .exact h.ok _ _ _ e
   .cases e
  .cases e
def ub(me:ME)(mg:MG):MS:=λρ=>(me ρ).bind λp=>(p.1.get p.2).bind λu=>match u with
 | .d d=>(mg d p.2).bind λav=>some (.nx av)
 | _=>none
theorem Js{me:ME}{mg:MG}(h:VE K te me)(hg:oW K pn g mg):VS K pn EX (nC te g) (ub me mg):=by
 intro ao A aA aC ρ σ H f D s e k;obtain⟨⟨a,aw⟩,e1,e⟩:=bQ e;obtain⟨u,eu,e⟩:=bQ e;refine h ρ σ H a aw _ s.rs e1 λv H1 g1 k1=>?_;have p:=k1.now s.rs g1 eu;dsimp only at e;split at e
 .obtain⟨aB,e2,e3⟩:=bQ e
  cases e3;exact hg.run ao A aA aC aw σ H1 v _ aB _ (s.go g1) p e2 λaG s'=>k aG H1 s'
 .cases e
def ua(i j:Nat)(ma:MA):MS:=λρ=>(ma ρ).bind λp=>(bw p.2 p.1).bind λus=>match us with
 | [.d x,.d y]=>some (.nx ((p.2.set i (some (.d x))).set j (some (.d y))))
 | _=>none
theorem D3{ta:TA}{ma:MA}(h:jh K ta ma)(hi:i∉pn:=by decide)(hj:j∉pn:=by decide):VS K pn EX (De i j ta) (ua i j ma):=by
 intro ao A aA aC ρ σ H f D s e k;obtain⟨⟨as,aw⟩,e1,e⟩:=bQ e;obtain⟨us,eu,e⟩:=bQ e;refine h ρ σ H as aw _ s.rs e1 λvs H1 g1 s1=>?_;have rp:=s1.lj s.rs g1 eu;dsimp only at e;split at e
 .rename_i x y
  cases e;cases rp with
  | @cons v _ vs _ h1 t=>
   cases t with
   | @cons w _ _ _ h2 t=>
    cases t;have sn:=(s.go g1).set hi (u:=.d x) h1 λo=>by cases o
    exact⟨v,w,rfl,k _ _ (sn.set hj (u:=.d y) h2 λo=>by cases o)⟩
 .cases e
def fZ(mg:MG)(mb:MS):Qa D->En->Qb Fl
 | [],ρ=>some (.nx ρ)
 | d::ds,ρ=>(mg d ρ).bind λaw=>(mb aw).bind λf=>match f with
  | .nx aB=>fZ mg mb ds aB
  | .ct aB=>fZ mg mb ds aB
  | .bk aB=>some (.nx aB)
  | .rt u aB=>some (.rt u aB)
  | .ex x aB=>some (.ex x aB)
def cW(mi:MI)(mg:MG)(mb:MS):MS:=λρ=>(mi ρ).bind λp=>fZ mg mb p.1 p.2
theorem d4{tb:TS}{mi:MI}{mg:MG}{mb:MS}(hi:VI K wi mi)(hg:oW K pn g mg)(hb:VS K pn EX tb mb):VS K pn EX (yS wi g tb) (cW mi mg mb):=by
 intro ao A aA aC ρ σ H f D s e k;obtain⟨⟨ds,aw⟩,e1,e⟩:=bQ e;refine hi ρ σ H ds aw _ s.rs e1 λJ H1 g1 run=>?_;have s1:=(s.go g1).at;have oF:Kp aC H1:=(s.go g1).kp;refine⟨λi m aG H'=>m=ds.length - i/\i<=ds.length/\∃ av,Sn K pn ao A aA H1 av aG H'/\fZ mg mb (ds.drop i) av=some f,⟨ds.length,by simp,È _,aw,s1,e⟩,?_⟩;rintro i m aG H' ⟨rfl,fF,av,s',el⟩
 by_cases cM:i < ds.length
 .rw[List.drop_eq_getElem_cons cM]at el
  obtain⟨aB,e2,el⟩:=bQ (show(mg ds[i] av).bind _=some f from el);obtain⟨fb,eb,el⟩:=bQ el;obtain⟨go,yl⟩:=(run H' s'.kp i).1 ds[i] (qo cM);refine .inr ⟨go,λcP H3=>∃ gN,Sn K pn ao A aA H1 gN cP H3/\fZ mg mb (ds.drop (i+1)) gN=some f,λcP H3 ⟨gN,s3,e3⟩=>⟨ds.length - (i+1),by omega,rfl,cM,gN,s3,e3⟩,λx H2 y=>?_⟩;obtain⟨sm,dx⟩:=yl x H2 y;have s2:=s'.go (Go.grow s'.rs sm);refine hg.run ao A aA H1 av aG H2 x ds[i] aB _ s2 dx e2 λcP s3=>?_;refine hb ao A aA H1 aB cP H2 fb _ s3 eb ?_;cases fb with
  | nx b8=>exact λeV H4 s4=>⟨b8,s4,el⟩
  | ct b8=>exact λeV H4 s4=>⟨b8,s4,el⟩
  | bk b8=>cases el; exact λeV H4 s4=>k eV H4 (s4.re oF)
  | rt u b8=>cases el; exact λv eV H4 s4 p n=>k v eV H4 (s4.re oF) p n
  | ex x b8=>cases el; exact λa eV H4 s4 p n=>k a eV H4 (s4.re oF) p n
 .have ei:i=ds.length:=by omega
  subst ei;rw[List.drop_length]at el;cases el;exact .inl ⟨(run H' s'.kp _).2 rfl,k aG H' (s'.re oF)⟩
def gR(mt:MT)(mb:MS):Nat->En->Qb Fl
 | 0,_=>none
 | n+1,ρ=>(mt ρ).bind λp=>if p.1=true then(mb p.2).bind λf=>match f with
  | .nx aB=>gR mt mb n aB
  | .ct aB=>gR mt mb n aB
  | .bk aB=>some (.nx aB)
  | .rt u aB=>some (.rt u aB)
  | .ex x aB=>some (.ex x aB)else some (.nx p.2)
open Classical in
def sA(mt:MT)(mb:MS):MS:=λρ=>if h:∃ n,(gR mt mb n ρ).isSome=true then gR mt mb h.choose ρ else none
theorem La{tb:TS}{mt:MT}{mb:MS}(ht:VT K tt mt)(hb:VS K pn EX tb mb):VS K pn EX (EM tt tb) (sA mt mb):=by
 intro ao A aA aC ρ σ H f D s e k;unfold sA at e;split at e
 .rename_i hn
  generalize hn.choose=n at e;refine⟨λm aG H'=>∃ av,Sn K pn ao A aA aC av aG H'/\gR mt mb m av=some f,⟨n,ρ,s,e⟩,?_⟩;rintro m aG H' ⟨av,s',el⟩;cases m with
  | zero=>cases el
  | succ m=>
   obtain⟨⟨b,aw⟩,e1,el⟩:=bQ (show(mt av).bind _=some f from el);refine ht av aG H' b aw _ s'.rs e1 λH1 g1=>?_;dsimp only at el;split at el
   .rename_i hc
    rw[if_pos hc];obtain⟨fb,eb,el⟩:=bQ el;refine⟨λeW H2=>∃ aB,Sn K pn ao A aA aC aB eW H2/\gR mt mb m aB=some f,λeW H2 ⟨aB,s2,e2⟩=>⟨m,Ü m,aB,s2,e2⟩,?_⟩;refine hb ao A aA aC aw aG H1 fb _ (s'.go g1) eb ?_;cases fb with
    | nx b8=>exact λeV H4 s4=>⟨b8,s4,el⟩
    | ct b8=>exact λeV H4 s4=>⟨b8,s4,el⟩
    | bk b8=>cases el; exact λeV H4 s4=>k eV H4 s4
    | rt u b8=>cases el; exact λv eV H4 s4 p n=>k v eV H4 s4 p n
    | ex x b8=>cases el; exact λa eV H4 s4 p n=>k a eV H4 s4 p n
   .rename_i hc
    rw[if_neg hc];cases el;exact k aG H1 (s'.go g1)
 .cases e
theorem BB{mt:MT}{mb:MS}:∀ {n:Nat} {ρ:En} {f:Fl},gR mt mb n ρ=some f->∀ k,gR mt mb (n+k) ρ=some f
 | 0,_,_,e,_=>by cases e
 | n+1,ρ,f,e,k=>by
  rw[show n+1+k=(n+k)+1 by omega];obtain⟨⟨b,aw⟩,e1,e⟩:=bQ (show(mt ρ).bind _=some f from e);show(mt ρ).bind _=some f;rw[e1];show(if b=true then _ else _)=_;dsimp only at e;split at e
  .rename_i hc
   rw[if_pos hc];obtain⟨fb,eb,e⟩:=bQ e;rw[eb];cases fb with
   | nx aB=>exact BB (n:=n) e k
   | ct aB=>exact BB (n:=n) e k
   | bk aB=>exact e
   | rt u aB=>exact e
   | ex x aB=>exact e
  .rename_i hc
   rw[if_neg hc];exact e
theorem YO{mt:MT}{mb:MS}{ρ:En}{f:Fl}(e:gR mt mb n ρ=some f):sA mt mb ρ=some f:=by
 have h:∃ n,(gR mt mb n ρ).isSome=true:=⟨n,by rw[e]; rfl⟩;unfold sA;rw[dif_pos h];obtain⟨f',QZ⟩:=Option.isSome_iff_exists.mp h.choose_spec;rw[QZ];have a:=BB e h.choose;have b:=BB QZ n;rw[Nat.add_comm,b]at a;exact a
end
section
variable{A:Qg->Prop}{lU:Hp}{ρ av:En}
def eB(nt:Nat)(js:Qa Nat)(ρ:En):En:=List.replicate nt none++js.map λj=>ρ.getD j none
def reset(nt:Nat)(ρ:En):En:=List.replicate nt none++ρ.drop nt
def back:Qa Nat->Qa (Qb U)->En->En
 | j::js,some u::us,ρ=>back js us (ρ.set j (some u))
 | _::js,none::us,ρ=>back js us ρ
 | _,_,ρ=>ρ
def iC(nt:Nat)(mg:MG)(mt:MT)(me:ME):Qa D->En->Qa D->Qb (Qa D×En)
 | [],ρ,ys=>some (ys,ρ)
 | d::ds,ρ,ys=>if ys.length < sizeLine then(mg d ρ).bind λaw=>(mt aw).bind λb=>if b.1=true then(me b.2).bind λp=>(p.1.get p.2).bind λu=>(match u with
   | .d y=>iC nt mg mt me ds (reset nt p.2) (ys++[y])
   | _=>none)else iC nt mg mt me ds (reset nt b.2) ys else none
def iB(mi:MI)(nt:Nat)(js:Qa Nat)(mg:MG)(mt:MT)(me:ME):ME:=λρ=>(mi ρ).bind λp=>(iC nt mg mt me p.1 (eB nt js p.2) []).bind λq=>some (.u (.l q.1),back js (q.2.drop nt) p.2)
def gC(nt n:Nat):Qa Nat:=(List.range n).map (nt+·)
theorem pZ:i∈gC nt n↔nt<=i/\i < nt+n:=by
 unfold gC;rw[List.mem_map];constructor
 .rintro⟨a,ha,rfl⟩
  have:=Ê.mp ha;omega
 .intro h
  exact⟨i - nt,Ê.mpr (by omega),by omega⟩
theorem uJ{u:U}(h:(eB nt js ρ)[i]?=some (some u)):∃ p j,i=nt+p/\js[p]?=some j/\ρ[j]?=some (some u):=by
 unfold eB at h
 by_cases hi:i < nt
 .rw[List.getElem?_append_left (by simpa using hi),List.getElem?_replicate,if_pos hi]at h
  cases h
 .rw[List.getElem?_append_right (by simp; omega),List.length_replicate,List.getElem?_map]at h
  obtain⟨j,ej,e⟩:=qu.mp h;refine⟨i - nt,j,by omega,ej,?_⟩;rw[qD]at e;cases q:ρ[j]? with
  | none=>rw[q]at e; cases e
  | some o=>rw[q]at e; exact congrArg some e
theorem D2{p:Nat}(h:js[p]?=some j):(c0 nt js σ)[nt+p]?=some (σ.getD j none):=by
 unfold c0;rw[List.getElem?_append_right (by simp),List.length_replicate,Nat.add_sub_cancel_left,List.getElem?_map,h];rfl
theorem Ep:(c0 nt js σ).length=nt+js.length:=by unfold c0; simp
theorem Fn:(eB nt js ρ).length=nt+js.length:=by unfold eB; simp
def kA(ρ:En)(σ:St)(js:Qa Nat)(a:Qg):Prop:=∃ (p j:Nat) (u:U),js[p]?=some j/\ρ[j]?=some (some u)/\u.own=true/\σ[j]?=some (some (.ref a))
theorem K9(r:Rs K ρ σ H)(nd:js.Nodup):Sn K (gC nt js.length) (c0 nt js σ) (kA ρ σ js) H H (eB nt js ρ) (c0 nt js σ) H:=by
 have sat:∀ {p j:Nat} {v:V},js[p]?=some j->σ[j]?=some (some v)->(c0 nt js σ)[nt+p]?=some (some v):=λ{p j v} hp hv=>by
  rw[D2 hp,qD,hv];rfl
 refine⟨⟨by rw[Fn,Ep],λi u e=>?_,λi k u w ei ek ou ow es=>?_⟩,λ_ _ h _=>h,λi u a e o es=>?_,λ_ _=>rfl,λ_ h=>h,Kp.refl H⟩
 .obtain⟨p,j,rfl,hj,hr⟩:=uJ e
  obtain⟨v,ev,q⟩:=r.rep j u hr;exact⟨v,sat hj ev,q⟩
 .obtain⟨p,j,rfl,hj,hr⟩:=uJ ei
  obtain⟨p',j',rfl,xW,Ce⟩:=uJ ek;obtain⟨v,ev,_⟩:=r.rep j u hr;obtain⟨v',tX,_⟩:=r.rep j' w Ce;rw[sat hj ev,sat xW tX]at es;have:j=j':=r.apart j j' u w hr Ce ou ow (by rw[ev,tX]; exact es);subst this;have l1:=(qm.mp hj);have l2:=(qm.mp xW);obtain⟨h1,e1⟩:=l1;obtain⟨h2,e2⟩:=l2;have:=(List.getElem_inj nd).mp (e1.trans e2.symm);omega
 .obtain⟨p,j,rfl,hj,hr⟩:=uJ e
  obtain⟨v,ev,_⟩:=r.rep j u hr;rw[sat hj ev]at es;cases es;exact .inl ⟨pZ.mpr ⟨by omega,by have:=(qm.mp hj).1; omega⟩,p,j,u,hj,hr,o,ev⟩
theorem Sn.reset{jk:St}{aB:En}{eW:St}(s:Sn K (gC nt n) jk A aA aC aB eW H)(l1:aB.length=nt+n)(l2:jk.length=nt+n):Sn K (gC nt n) jk A aA aC (L2.reset nt aB) jk H:=by
 have bk:∀ (i:Nat) (u:U),(L2.reset nt aB)[i]?=some (some u)->nt<=i/\i < nt+n/\aB[i]?=some (some u):=λi u e=>by
  unfold L2.reset at e
  by_cases hi:i < nt
  .rw[List.getElem?_append_left (by simpa using hi),List.getElem?_replicate,if_pos hi]at e
   cases e
  .rw[List.getElem?_append_right (by simp; omega),List.length_replicate,List.getElem?_drop,show nt+(i - nt)=i by omega]at e
   have:=(qm.mp e).1;exact⟨by omega,by omega,e⟩
 have pin:∀ i,nt<=i->i < nt+n->jk[i]?=eW[i]?:=λi h1 h2=>(s.pin i (pZ.mpr ⟨h1,h2⟩)).symm;have ll:(L2.reset nt aB).length=nt+n:=by unfold L2.reset; simp; omega
 refine⟨⟨by omega,λi u e=>?_,λi j u w ei ej ou ow es=>?_⟩,s.fr,λi u a e o es=>?_,λ_ _=>rfl,s.dm,s.kp⟩
 .obtain⟨h1,h2,e'⟩:=bk i u e
  rw[pin i h1 h2];exact s.rs.rep i u e'
 .obtain⟨h1,h2,rg⟩:=bk i u ei
  obtain⟨h3,h4,oQ⟩:=bk j w ej;rw[pin i h1 h2,pin j h3 h4]at es;exact s.rs.apart i j u w rg oQ ou ow es
 .obtain⟨h1,h2,e'⟩:=bk i u e
  rw[pin i h1 h2]at es;exact s.ow i u a e' o es
theorem AU:∀ {js:Qa Nat} {us:Qa (Qb U)} {ρ:En} {j:Nat} {w:U},(back js us ρ)[j]?=some (some w)->(∃ p:Nat,js[p]?=some j/\us[p]?=some (some w))\/(ρ[j]?=some (some w)/\∀ p:Nat,js[p]?=some j->∀ x,us[p]?≠some (some x))
 | [],us,ρ,j,w,e=>.inr ⟨by cases us<;>exact e,λp z=>by simp at z⟩
 | k::js,[],ρ,j,w,e=>.inr ⟨e,λp z x=>by simp⟩
 | k::js,none::us,ρ,j,w,e=>by
  rcases AU (js:=js) (us:=us) (ρ:=ρ) (show(back js us ρ)[j]?=some (some w) from e)with⟨p,h1,h2⟩|⟨h1,h2⟩
  .exact .inl ⟨p+1,h1,h2⟩
  .refine .inr ⟨h1,λp z x=>?_⟩
   cases p with
   | zero=>intro q; cases q
   | succ p=>exact h2 p z x
 | k::js,some u::us,ρ,j,w,e=>by
  rcases AU (js:=js) (us:=us) (ρ:=ρ.set k (some u)) (show(back js us (ρ.set k (some u)))[j]?=some (some w) from e)with⟨p,h1,h2⟩|⟨h1,h2⟩
  .exact .inl ⟨p+1,h1,h2⟩
  .by_cases hk:k=j
   .subst hk
    have hl:k < (ρ.set k (some u)).length:=(qm.mp h1).1;rw[List.length_set]at hl;rw[List.getElem?_set_self hl]at h1;exact .inl ⟨0,rfl,by cases h1; rfl⟩
   .rw[qE hk]at h1
    refine .inr ⟨h1,λp z x=>?_⟩;cases p with
    | zero=>cases(show some k=some j from z); exact absurd rfl hk
    | succ p=>exact h2 p z x
theorem Bf:∀ (js:Qa Nat) (us:Qa (Qb U)) (ρ:En),(back js us ρ).length=ρ.length
 | [],us,ρ=>by cases us<;>rfl
 | _::js,[],ρ=>rfl
 | _::js,none::us,ρ=>Bf js us ρ
 | j::js,some u::us,ρ=>by show(back js us (ρ.set j (some u))).length=_; rw[Bf]; exact List.length_set
theorem Bn:∀ {js:Qa Nat} {us:Qa (Qb U)} {ρ:En} {j:Nat} {w:U},ρ[j]?=some (some w)->∃ w',(back js us ρ)[j]?=some (some w')
 | [],us,ρ,j,w,e=>⟨w,by cases us<;>exact e⟩
 | _::js,[],ρ,j,w,e=>⟨w,e⟩
 | _::js,none::us,ρ,j,w,e=>Bn (js:=js) (us:=us) e
 | k::js,some u::us,ρ,j,w,e=>by
  by_cases hk:k=j
  .subst hk
   exact Bn (js:=js) (us:=us) (w:=u) (ú (qm.mp e).1)
  .exact Bn (js:=js) (us:=us) (w:=w) (by rw[qE hk]; exact e)
theorem Sn.comp_back{aB:En}(r:Rs K ρ σ H)(s:Sn K (gC nt js.length) (c0 nt js σ) (kA ρ σ js) H aC aB (c0 nt js σ) H')(l:aB.length=nt+js.length)(sh:eT (eB nt js ρ) aB):
  Go K ρ σ H (back js (aB.drop nt) ρ) H':=by
 have xg:∀ (p:Nat) (w:U),(aB.drop nt)[p]?=some (some w)->aB[nt+p]?=some (some w):=λp w e=>by rw[List.getElem?_drop]at e; exact e
 have kp:Kp H H':=by
  refine⟨λb xs h=>s.fr b _ h λ⟨p,j,u,hj,hr,ou,es⟩=>?_,λb ob u h=>s.fr b _ h λ⟨p,j,u,hj,hr,ou,es⟩=>?_⟩
  .obtain⟨c,q,m⟩:=r.ow ⟨j,u,hr,ou,es⟩
   rw[h]at q; cases q; exact m
  .obtain⟨c,q,m⟩:=r.ow ⟨j,u,hr,ou,es⟩
   rw[h]at q; cases q; exact m
 have Hj:∀ (p j:Nat) (w:U),js[p]?=some j->(aB.drop nt)[p]?=some (some w)->w.own=true->∃ x,ρ[j]?=some (some x)/\x.own=true:=λp j w hj e o=>by
  obtain⟨x,ex,ox⟩:=sh.own (nt+p) w (xg p w e) o;obtain⟨p',j',ep,xW,hr⟩:=uJ ex;have:p'=p:=by omega
  subst this;rw[hj]at xW;cases xW;exact⟨x,hr,ox⟩
 have own:∀ (j:Nat) (w:U),(back js (aB.drop nt) ρ)[j]?=some (some w)->w.own=true->∃ x,ρ[j]?=some (some x)/\x.own=true:=λj w e o=>by
  rcases AU e with⟨p,hj,hu⟩|⟨h1,_⟩
  .exact Hj p j w hj hu o
  .exact⟨w,h1,o⟩
 refine⟨⟨by rw[Bf]; exact r.len,λj w e=>?_,λi j u w ei ej ou ow es=>?_⟩,λa o h n=>s.fr a o h λ⟨p,j,u,hj,hr,ou,es⟩=>n ⟨j,u,hr,ou,es⟩,⟨Bf _ _ _,own,λj w e=>Bn e⟩,s.dm⟩
 .rcases AU e with⟨p,hj,hu⟩|⟨h1,h2⟩
  .obtain⟨v,ev,q⟩:=s.rs.rep (nt+p) w (xg p w hu)
   rw[D2 hj]at ev;refine⟨v,?_,q⟩;rw[qD]at ev;cases z:σ[j]? with
   | none=>rw[z]at ev; cases ev
   | some o=>rw[z]at ev; exact congrArg some (qA ev)
  .obtain⟨v,ev,q⟩:=r.rep j w h1
   refine⟨v,ev,q.kp kp λow a c ea hc=>s.fr a c hc λ⟨p,j',u,hj,hr,ou,es⟩=>?_⟩;subst ea;have:j'=j:=r.apart j' j u w hr h1 ou ow (by rw[es,ev]);subst this;have e1:(eB nt js ρ)[nt+p]?=some (some u):=by
    unfold eB;rw[List.getElem?_append_right (by simp),List.length_replicate,Nat.add_sub_cancel_left,List.getElem?_map,hj];show some (ρ.getD j' none)=_;rw[qD,hr];rfl
   obtain⟨w',eS⟩:=sh.live _ _ e1;exact h2 p hj w' (by rw[List.getElem?_drop]; exact eS)
 .obtain⟨x,ex,ox⟩:=own i u ei ou
  obtain⟨y,ey,oy⟩:=own j w ej ow;exact r.apart i j x y ex ey ox oy es
theorem eT.lr{fJ aw:En}(l:fJ.length=nt+n)(h0:∀ i,i < nt->fJ[i]?=some none)(l1:aw.length=nt+n)(own:∀ (i:Nat) (u:U),nt<=i->aw[i]?=some (some u)->u.own=true->∃ w,fJ[i]?=some (some w)/\w.own=true)(live:∀ (i:Nat) (u:U),nt<=i->fJ[i]?=some (some u)->∃ w,aw[i]?=some (some w)):eT fJ (L2.reset nt aw):=by
 have at':∀ i,nt<=i->(L2.reset nt aw)[i]?=aw[i]?:=λi hi=>by
  unfold L2.reset;rw[List.getElem?_append_right (by simp; omega),List.length_replicate,List.getElem?_drop,show nt+(i - nt)=i by omega]
 have lo:∀ i,i < nt->(L2.reset nt aw)[i]?=some none:=λi hi=>by
  unfold L2.reset;rw[List.getElem?_append_left (by simpa using hi),List.getElem?_replicate,if_pos hi]
 refine⟨by unfold L2.reset; simp; omega,λi u e o=>?_,λi u e=>?_⟩
 .by_cases hi:i < nt
  .rw[lo i hi]at e; cases e
  .rw[at' i (by omega)]at e
   exact own i u (by omega) e o
 .by_cases hi:i < nt
  .rw[h0 i hi]at e; cases e
  .rw[at' i (by omega)]
   exact live i u (by omega) e
theorem Be{aw:En}(h:i < nt):(L2.reset nt aw)[i]?=some none:=by
 unfold L2.reset;rw[List.getElem?_append_left (by simpa using h),List.getElem?_replicate,if_pos h]
theorem Km(h:i < nt):(eB nt js ρ)[i]?=some none:=by
 unfold eB;rw[List.getElem?_append_left (by simpa using h),List.getElem?_replicate,if_pos h]
def VIA(K:qe)(js:Qa Nat)(wi:TI)(mi:MI):Prop :=
 ∀ (ρ:En) (σ:St) (H:Hp) (ds:Qa D) (av:En) (R:It->Hp->Prop),Rs K ρ σ H->mi ρ=some (ds,av)->(∀ J H',Go K ρ σ H av H'->(∀ H2,Kp H' H2->yx (kA av σ js) H' H2->∀ i:Nat,(∀ d,ds[i]?=some d->J.go i H2/\∀ x H3,J.vg i H2 x H3->b9 H2 H3/\DF K H3 x d)/\(i=ds.length->J.stop i H2))->R J H')->wi σ H R
theorem zAZ{mi:MI}{mg:MG}{mt:MT}{me:ME}(hi:VIA K js wi mi)(hg:oW K (gC nt js.length) g mg)(ht:VT K tt mt)(he:VE K te me)(nd:js.Nodup:=by decide):
  VE K (xm wi nt js g tt te) (iB mi nt js mg mt me):=by
 intro ρ σ H a av Q r e q;obtain⟨⟨ds,aw⟩,e1,e⟩:=bQ e;obtain⟨⟨zs,rA⟩,e2,e⟩:=bQ e;cases e;refine hi ρ σ H ds aw _ r e1 λJ H1 g1 run=>?_;have s1:=K9 (nt:=nt) (js:=js) g1.rs nd;refine⟨λi m ys H'=>m=ds.length - i/\i<=ds.length/\∃ fJ yd,Sn K (gC nt js.length) (c0 nt js σ) (kA aw σ js) H1 H1 fJ (c0 nt js σ) H'/\eT (eB nt js aw) fJ/\(∀ k,k < nt->fJ[k]?=some none)/\aM K H' ys yd/\iC nt mg mt me (ds.drop i) fJ yd=some (zs,rA),
  ⟨ds.length,by simp,È _,_,[],s1,eT.refl _,λk hk=>Km hk,.nil,e2⟩,?_⟩
 rintro i m ys H' ⟨rfl,fF,fJ,yd,s',sh,lo,dy,el⟩;have lc:fJ.length=nt+js.length:=by rw[sh.len,Fn]
 by_cases cM:i < ds.length
 .rw[List.drop_eq_getElem_cons cM]at el
  unfold iC at el;split at el
  .rename_i hz
   obtain⟨aB,e3,el⟩:=bQ el;obtain⟨⟨b,gN⟩,e4,el⟩:=bQ el;obtain⟨l2,p2⟩:=hg.ok _ _ _ e3;obtain⟨go,yl⟩:=(run H' s'.kp s'.fr i).1 ds[i] (qo cM);refine .inr ⟨go,by rw[dy.len]; exact hz,λnZ H2=>∃ dB BR,Sn K (gC nt js.length) (c0 nt js σ) (kA aw σ js) H1 H1 dB (c0 nt js σ) H2/\eT (eB nt js aw) dB/\(∀ k,k < nt->dB[k]?=some none)/\aM K H2 nZ BR/\iC nt mg mt me (ds.drop (i+1)) dB BR=some (zs,rA),
    λnZ H2 ⟨dB,BR,z⟩=>⟨ds.length - (i+1),by omega,rfl,cM,dB,BR,z⟩,λx H2 y=>?_⟩
   obtain⟨sm,dx⟩:=yl x H2 y;have s2:=s'.go (Go.grow s'.rs sm);refine hg.run _ _ _ _ fJ _ H2 x ds[i] aB _ s2 dx e3 λcP s3=>?_;have toEnd:∀ {b8:En} {H4:Hp},Go K aB cP H2 b8 H4->Sn K (gC nt js.length) (c0 nt js σ) (kA aw σ js) H1 H1 (L2.reset nt b8) (c0 nt js σ) H4/\eT (eB nt js aw) (L2.reset nt b8):=λ{b8 H4} g4=>by
    have l4:b8.length=nt+js.length:=by rw[g4.shr.len,l2,lc]
    refine⟨(s3.go g4).reset l4 Ep,sh.trans (eT.lr lc lo l4 (λk u hk ek ou=>?_) λk u hk ek=>?_)⟩
    .obtain⟨w,ew,ow⟩:=g4.shr.own k u ek ou
     have lk:k < nt+js.length:=by rw[<-l2.trans lc]; exact(qm.mp ew).1
     rw[p2 k (pZ.mpr ⟨hk,lk⟩)]at ew;exact⟨w,ew,ow⟩
    .have lk:k < nt+js.length:=by rw[<-lc]; exact(qm.mp ek).1
     rw[<-p2 k (pZ.mpr ⟨hk,lk⟩)]at ek;exact g4.shr.live k u ek
   refine ht aB cP H2 b gN _ s3.rs e4 λH3 g3=>?_;dsimp only at el;split at el
   .rename_i hb
    rw[if_pos hb];obtain⟨⟨a4,b8⟩,e5,el⟩:=bQ el;obtain⟨u,e6,el⟩:=bQ el;refine he gN cP H3 a4 b8 _ g3.rs e5 λv H4 g4 k4=>?_;have pv:=k4.now g3.rs g4 e6;dsimp only at el;split at el
    .rename_i yv
     obtain⟨sn,sr⟩:=toEnd (g3.trans g4);exact⟨_,_,sn,sr,λk hk=>Be hk,((dy.kp sm.kp).kp ((g3.trans g4).kp s3.rs)).snoc pv,el⟩
    .cases el
   .rename_i hb
    rw[if_neg hb];obtain⟨sn,sr⟩:=toEnd g3;exact⟨_,_,sn,sr,λk hk=>Be hk,(dy.kp sm.kp).kp (g3.kp s3.rs),el⟩
  .cases el
 .have ei:i=ds.length:=by omega
  subst ei;rw[List.drop_length]at el;cases el;refine .inl ⟨(run H' s'.kp s'.fr _).2 rfl,λDa hD=>?_⟩;have gb:=Sn.comp_back g1.rs s' lc sh;have sm:=zW hD (.lst ys);exact q _ _ ((g1.trans gb).trans (Go.grow gb.rs sm)) ⟨⟨Da,ys,rfl,zx,dy.kp sm.kp⟩,λ_=>⟨Da,rfl,(g1.trans gb).dm _ hD⟩⟩
theorem ku{mi:MI}{mg:MG}{mt:MT}{me:ME}(hi:VI K wi mi)(hg:oW K (gC nt js.length) g mg)(ht:VT K tt mt)(he:VE K te me)(nd:js.Nodup:=by decide):
  VE K (xm wi nt js g tt te) (iB mi nt js mg mt me):=zAZ (λρ σ H ds av R r e q=>hi ρ σ H ds av R r e λJ H' g run=>q J H' g λH2 k _=>run H2 k) hg ht he nd
end
section
variable{EX:iS}{A:Qg->Prop}{lU:Hp}{ρ av:En}
def gQ(pn:Qa Nat)(ρ:En):Nat->Qa U->Qb (Qa U)
 | _,[]=>some []
 | i,u::us=>(if i∈pn then(ρ[i]?).join.bind λo=>if o.own=true/\u.own=false then none else some o else if u.own=true then none else some u).bind λo=>(gQ pn ρ (i+1) us).bind λos=>some (o::os)
def bM(n:Nat)(pn:Qa Nat)(m:MS):FD:=λus=>(m (sm us++List.replicate (n - us.length) none)).bind λf=>match f with
 | .rt u ρ=>(gQ pn ρ 0 us).bind λos=>some (u,os)
 | .nx ρ=>(gQ pn ρ 0 us).bind λos=>some (.d .none,os)
 | _=>none
theorem Mi:∀ {us os:Qa U} {i:Nat},gQ pn ρ i us=some os->os.length=us.length
 | [],os,i,e=>by cases e; rfl
 | u::us,os,i,e=>by
  obtain⟨o,e1,e⟩:=bQ e;obtain⟨mQ,e2,e⟩:=bQ e;cases e;simp[Mi e2]
theorem wI:∀ {us os:Qa U} {i p:Nat} {o:U},gQ pn ρ i us=some os->os[p]?=some o->∃ u,us[p]?=some u/\((i+p∈pn/\ρ[i+p]?=some (some o)/\(o.own=true->u.own=true))\/(i+p∉pn/\o=u/\u.own=false))
 | [],os,i,p,o,e,ep=>by cases e; simp at ep
 | u::us,os,i,p,o,e,ep=>by
  obtain⟨o1,e1,e⟩:=bQ e;obtain⟨mQ,e2,e⟩:=bQ e;cases e;cases p with
  | zero=>
   cases(show some o1=some o from ep);refine⟨u,rfl,?_⟩;rw[Nat.add_zero];split at e1
   .rename_i hi
    obtain⟨o2,e3,e1⟩:=bQ e1;split at e1
    .cases e1
    .rename_i hc
     cases e1;refine .inl ⟨hi,?_,λoo=>?_⟩
     .cases q:ρ[i]? with
      | none=>rw[q]at e3; cases e3
      | some x=>rw[q]at e3; cases x with
       | none=>cases e3
       | some y=>cases e3; rfl
     .cases hu:u.own with
      | true=>rfl
      | false=>exact absurd ⟨oo,hu⟩ hc
   .rename_i hi
    split at e1
    .cases e1
    .rename_i hc
     cases e1;exact .inr ⟨hi,rfl,by simpa using hc⟩
  | succ p=>
   obtain⟨u',eu,h⟩:=wI (i:=i+1) (p:=p) e2 ep;refine⟨u',eu,?_⟩;rw[show i+(p+1)=i+1+p by omega];exact h
theorem Mh:∀ {us os:Qa U} {i p:Nat} {u:U},gQ pn ρ i us=some os->us[p]?=some u->u.own=true->i+p∈pn
 | [],os,i,p,u,e,ep,_=>by simp at ep
 | u::us,os,i,p,u',e,ep,o=>by
  obtain⟨o1,e1,e⟩:=bQ e;obtain⟨mQ,e2,e⟩:=bQ e;cases p with
  | zero=>
   cases(show some u=some u' from ep);rw[Nat.add_zero];split at e1
   .assumption
   .first|cases e1 | (rw[if_pos o]at e1; cases e1)
  | succ p=>
   rw[show i+(p+1)=i+1+p by omega];exact Mh (i:=i+1) (p:=p) e2 ep o
theorem wO(h:i < vs.length):(gI N vs)[i]?=(eh vs)[i]?:=by
 unfold gI eh;rw[List.getElem?_append_left (by simpa using h)]
theorem YN{us os:Qa U}{vQ:En}(r:Rs K (sm us) (eh vs) H)(hl:us.length<=N.length)(ho:gQ pn vQ 0 us=some os):
  Sn K pn (gI N vs) (Ow (sm us) (eh vs)) H H (sm us++List.replicate (N.length - us.length) none) (gI N vs) H:=by
 have lv:us.length=vs.length:=by have:=r.len; unfold sm eh at this; simpa using this
 have inv:∀ (i:Nat) (u:U),(sm us++List.replicate (N.length - us.length) none)[i]?=some (some u)->i < us.length/\(sm us)[i]?=some (some u):=λi u e=>by
  by_cases hi:i < us.length
  .rw[List.getElem?_append_left (by unfold sm; simpa using hi)]at e
   exact⟨hi,e⟩
  .rw[List.getElem?_append_right (by unfold sm; simp; omega),List.getElem?_replicate]at e
   split at e<;>cases e
 refine⟨⟨?_,λi u e=>?_,λi j u w ei ej ou ow es=>?_⟩,λ_ _ h _=>h,λi u a e o es=>?_,λ_ _=>rfl,λ_ h=>h,Kp.refl H⟩
 .unfold gI sm; simp; omega
 .obtain⟨hi,e'⟩:=inv i u e
  rw[wO (by omega)];exact r.rep i u e'
 .obtain⟨hi,rg⟩:=inv i u ei
  obtain⟨hj,oQ⟩:=inv j w ej;rw[wO (by omega),wO (by omega)]at es;exact r.apart i j u w rg oQ ou ow es
 .obtain⟨hi,e'⟩:=inv i u e
  rw[wO (by omega)]at es;have:=Mh ho (f7.mp e') o;rw[Nat.zero_add]at this;exact .inl ⟨this,i,u,e',o,es⟩
theorem Kl{us os:Qa U}{aG:St}(r:Rs K (sm us) (eh vs) H)(s:Sn K pn (gI N vs) (Ow (sm us) (eh vs)) H H av aG H')(ho:gQ pn av 0 us=some os):Go K (sm us) (eh vs) H (sm os) H':=by
 have lv:us.length=vs.length:=by have:=r.len; unfold sm eh at this; simpa using this
 have lo:=Mi ho;have vL:∀ {p:Nat} {o:U},os[p]?=some o->p < vs.length:=λ{p o} e=>by have:=(qm.mp e).1; omega
 have pin:∀ {p:Nat} {o:U},os[p]?=some o->p∈pn->aG[p]?=(eh vs)[p]?:=λ{p o} e hp=>by rw[s.pin p hp,wO (vL e)]
 refine⟨⟨by unfold sm eh; simp; omega,λp o e=>?_,λp q o o' ep eq oo Hk es=>?_⟩,s.fr,⟨by unfold sm; simp; omega,λp o e oo=>?_,λp u e=>?_⟩,s.dm⟩
 .have e':=f7.mp e
  obtain⟨u,eu,h⟩:=wI ho e';rw[Nat.zero_add]at h;rcases h with⟨hp,hr,_⟩|⟨_,rfl,ou⟩
  .obtain⟨v,ev,q⟩:=s.rs.rep p o hr
   rw[pin e' hp]at ev;exact⟨v,ev,q⟩
  .obtain⟨v,ev,q⟩:=r.rep p o (f7.mpr eu)
   exact⟨v,ev,q.kp s.kp λoo=>by rw[ou]at oo; cases oo⟩
 .have fH:=f7.mp ep
  have Ct:=f7.mp eq;obtain⟨u,eu,h⟩:=wI ho fH;obtain⟨u',QW,h'⟩:=wI ho Ct;rw[Nat.zero_add]at h h';rcases h with⟨hp,hr,_⟩|⟨_,rfl,ou⟩
  .rcases h' with⟨hq,Ce,_⟩|⟨_,rfl,qJ⟩
   .rw[<-pin fH hp,<-pin Ct hq]at es
    exact s.rs.apart p q o o' hr Ce oo Hk es
   .rw[qJ]at Hk; cases Hk
  .rw[ou]at oo; cases oo
 .have e':=f7.mp e
  obtain⟨u,eu,h⟩:=wI ho e';rcases h with⟨_,_,h⟩|⟨_,rfl,ou⟩
  .exact⟨u,f7.mpr eu,h oo⟩
  .rw[ou]at oo; cases oo
 .have e':=f7.mp e
  have hp:p < os.length:=by have:=(qm.mp e').1; omega
  exact⟨os[p],f7.mpr (qo hp)⟩
theorem jR.okV{base:Heap}{f:Qg}{k nn:Nat}{m:MS}(F:jR K x qual st f fd)(S:bH N ps (fM st))(Cf:ps.length=n)(hN:N.length=nn)(Ci:n<=nn)
  (cA:∀ (bE:Qc) (A:Qf) (outer:Qa Env) (s:Qd) (H:Hp) (E:XK),aK k (A.deeper (envOfC qual (fM st) s.heap.objs.size f bE))->
   ∃ t,Wr (eU (nB iT P w K mg base N qual (fM st) f bE A outer s H E).tj (kU st) t)/\VS K pn RJ t m):cD P w K mg base iT (k+1) f fd ps (qH K n (bM nn pn m)):=by
 refine F.okW S (λvs H Q E h=>?_) (λbE A outer s H vs Q E hr h=>?_)
 .obtain⟨us,r,outs,hl,rs,_⟩:=h
  have:=rs.len;unfold sm eh at this;simp at this;omega
 obtain⟨us,r,outs,hl,rs,ef,q⟩:=h;obtain⟨t,wt,vt⟩:=cA bE A outer s H E hr;refine⟨t,wt,?_⟩;obtain⟨fl,em,ef⟩:=bQ ef;have go:∀ (av:En),gQ pn av 0 us=some outs->Sn K pn (gI N vs) (Ow (sm us) (eh vs)) H H (sm us++List.replicate (N.length - us.length) none) (gI N vs) H:=λav ho=>YN rs (by omega) ho;subst hN;cases fl with
 | nx av=>
  obtain⟨os,eo,ef⟩:=bQ (show(gQ pn av 0 us).bind _=_ from ef);cases ef;refine vt _ _ _ _ _ _ _ (.nx av) _ (go av eo) em λaG H' s'=>?_;exact q _ _ (Kl rs s' eo) .aN Nw.data
 | rt u av=>
  obtain⟨os,eo,ef⟩:=bQ (show(gQ pn av 0 us).bind _=_ from ef);cases ef;refine vt _ _ _ _ _ _ _ (.rt r av) _ (go av eo) em λv aG H' s' p n'=>?_;exact q _ _ (Kl rs s' eo) p n'
 | bk=>cases ef
 | ct=>cases ef
 | ex=>cases ef
end
section
variable{EX:iS}{ρ av:En}
def cJ(i:Nat)(me:ME):ME:=λρ=>match ρ[i]? with
 | some (some (.l _))=>(me ρ).bind λp=>(p.1.get p.2).bind λu=>match u,p.2[i]? with
  | .d x,some (some (.l xs))=>if xs.length < sizeLine then some (.u (.d .none),p.2.set i (some (.l (xs++[x]))))else none
  | _,_=>none
 | _=>none
theorem d0{me:ME}(h:VE K te me):VE K (BY K "list" Lk (ic i) (mF te pe)) (cJ i me):=by
 intro ρ σ H a av Q r e q;unfold cJ at e;split at e
 .rename_i xs0 e0
  obtain⟨⟨b,aw⟩,e1,e⟩:=bQ e;obtain⟨u,eu,e⟩:=bQ e;obtain⟨v0,jQ,p0⟩:=r.rep i _ e0;obtain⟨l,us0,rfl,xT,_⟩:=p0;refine⟨_,jQ,.inl ⟨rfl,us0,bo.of xT⟩,?_⟩;refine h ρ σ H b aw _ r e1 λv H1 g1 k1=>?_;have pv:=k1.now r g1 eu;dsimp only at e;split at e
  .rename_i x xs ex
   split at e
   .rename_i hz
    cases e;obtain⟨w,ew,p1⟩:=g1.rs.rep i _ ex;obtain⟨l',us,rfl,hl,ds⟩:=p1;rw[jQ]at ew;cases ew;refine⟨l,us,v,rfl,rfl,hl,by rw[ds.len]; exact hz,q _ _ (g1.trans (Go.own (u':=.l (xs++[x])) g1.rs ex rfl jQ ?_)) ⟨.aN,Nw.data⟩⟩;have kp:=jW hl trivial (.lst (us++[v]));exact⟨l,_,rfl,zx,(ds.kp kp).snoc (DF.kp kp pv)⟩
   .cases e
  .cases e
 .cases e
theorem MC{o:Qb (Qb U)}{u:U}(e:o.join=some u):o=some (some u):=by
 cases o with
 | none=>cases e
 | some x=>cases x with
  | none=>cases e
  | some y=>cases e; rfl
def sv(i:Nat)(me mi:ME):MS:=λρ=>(ρ[i]?).join.bind λ_=>(me ρ).bind λp=>(mi p.2).bind λq=>(p.1.get q.2).bind λu=>(q.1.get q.2).bind λw=>match u,w,q.2[i]? with
 | .d x,.d (.int k),some (some (.l xs))=>(dS xs.length k).bind λj=>some (.nx (q.2.set i (some (.l (xs.set j x)))))
 | _,_,_=>none
theorem Fk{ti:TE}{me mi:ME}(h:VE K te me)(hi:VE K ti mi):VS K pn EX (nC te (Df (ic i) ti JB)) (sv i me mi):=by
 intro ao A aA aC ρ σ H f D s e k;replace e:=bQ e;obtain⟨w0,e0,e⟩:=e;replace e:=bQ e;obtain⟨⟨a,aw⟩,e1,e⟩:=e;replace e:=bQ e;obtain⟨⟨b,aB⟩,e2,e⟩:=e;replace e:=bQ e;obtain⟨u,eu,e⟩:=e;replace e:=bQ e;obtain⟨w,ew,e⟩:=e;obtain⟨v0,jQ,_⟩:=s.rs.rep i w0 (MC e0);refine h ρ σ H a aw _ s.rs e1 λv H1 g1 k1=>⟨v0,jQ,?_⟩;refine hi aw σ H1 b aB _ g1.rs e2 λy H2 g2 k2=>?_;have pv:=k1.later s.rs g1 g2 eu;have py:=k2.now g1.rs g2 ew;dsimp only at e;split at e
 .rename_i x n xs ex
  replace e:=bQ e;obtain⟨j,ej,e⟩:=e;cases e;obtain⟨w',eS,p1⟩:=g2.rs.rep i _ ex;obtain⟨l,us,rfl,hl,ds⟩:=p1;rw[jQ]at eS;cases eS;refine⟨l,us,n,j,rfl,DF.int_inv py,hl,by rw[ds.len]; exact ej,k _ _ ((s.go (g1.trans g2)).go (Go.own (u':=.l (xs.set j x)) g2.rs ex rfl jQ ?_))⟩;have kp:=jW hl trivial (.lst (us.set j v));exact⟨l,_,rfl,zx,(ds.kp kp).set (DF.kp kp pv) j⟩
 .cases e
def nD:Qa D->Qb (Qa Key)
 | []=>some []
 | .int i::ds=>(nD ds).bind λks=>some (.inl i::ks)
 | .str x::ds=>(nD ds).bind λks=>some (.inr x::ks)
 | _::_=>none
def dI:D->Qb (Qa Key)
 | .tuple ds=>nD ds
 | _=>none
def rF:D->Qb Key
 | .int i=>some (.inl i)
 | .str x=>some (.inr x)
 | _=>none
theorem Fj:∀ ks:Qa Key,nD (ks.map xK)=some ks
 | []=>rfl
 | .inl i::ks=>by show(nD (ks.map xK)).bind _=_; rw[Fj ks]; rfl
 | .inr x::ks=>by show(nD (ks.map xK)).bind _=_; rw[Fj ks]; rfl
theorem Bb(ks:Qa Key):dI (jL ks)=some ks:=Fj ks
theorem Eo:∀ {ds:Qa D} {ks:Qa Key} {xs:Qa V},aM K H xs ds->nD ds=some ks->xs=ks.map kV
 | [],ks,xs,h,e=>by cases e; cases h; rfl
 | d::ds,ks,xs,h,e=>by
  cases h with
  | cons h1 t=>
   cases d with
   | int i=>
    obtain⟨Hu,e1,e⟩:=bQ (show(nD ds).bind (λks=>some (Sum.inl i::ks))=some ks from e);cases e;rw[Eo t e1,DF.int_inv h1];rfl
   | str x=>
    obtain⟨Hu,e1,e⟩:=bQ (show(nD ds).bind (λks=>some (Sum.inr x::ks))=some ks from e);cases e;rw[Eo t e1,DF.str_inv h1];rfl
   | _=>cases e
theorem wH{d:D}{ks:Qa Key}(h:DF K H v d)(e:dI d=some ks):∃ b,v=.ref b/\aT K H b (ks.map kV):=by
 cases d with
 | tuple ds=>
  obtain⟨b,xs,rfl,h1,h2⟩:=DF.aH h;exact⟨b,rfl,by rw[<-Eo h2 e]; exact h1⟩
 | _=>cases e
theorem Kk{d:D}{k:Key}(h:DF K H v d)(e:rF d=some k):v=kV k:=by
 cases d with
 | int i=>cases e; exact DF.int_inv h
 | str x=>cases e; exact DF.str_inv h
 | _=>cases e
theorem AS:∀ {ks:Qa Key},aM K H (ks.map kV) (ks.map xK)
 | []=>.nil
 | .inl i::ks=>.cons (.int i) AS
 | .inr x::ks=>.cons (.str x) AS
section
variable[DecidableEq κ]
def rE(kvs:Qa (κ×D))(k:κ):Qb D:=(kvs.find? λkv=>decide (kv.1=k)).map (·.2)
def jn(kvs:Qa (κ×D))(k:κ)(d:D):Qa (κ×D):=if(kvs.any λkv=>decide (kv.1=k))=true then kvs.map (λkv=>if kv.1=k then(kv.1,d)else kv)else kvs++[(k,d)]
theorem fE.val{kvs:Qa (κ×D)}(h:fE K H ws kvs)(k:κ):(∃ v d,hE ws k=some v/\rE kvs k=some d/\DF K H v d)\/(hE ws k=none/\rE kvs k=none):=by
 induction h with
 | nil=>exact .inr ⟨rfl,rfl⟩
 | @cons p q ps qs hq t ih=>
  unfold hE rE at ih ⊢;rw[List.find?_cons,List.find?_cons]
  by_cases hk:p.1=k
  .have iH:q.1=k:=hq.1▸hk
   rw[decide_eq_true hk,decide_eq_true iH];exact .inl ⟨_,_,rfl,rfl,hq.2⟩
  .have iH:¬q.1=k:=λz=>hk (hq.1.trans z)
   rw[decide_eq_false hk,decide_eq_false iH];exact ih
theorem fE.any{kvs:Qa (κ×D)}(h:fE K H ws kvs)(k:κ):(ws.any λkv=>decide (kv.1=k))=(kvs.any λkv=>decide (kv.1=k)):=by
 induction h with
 | nil=>rfl
 | @cons p q ps qs hq t ih=>rw[List.any_cons,List.any_cons,ih,hq.1]
theorem fE.lA{kvs:Qa (κ×D)}(h:fE K H ws kvs)(k:κ){d:D}(hd:DF K H v d):fE K H (ws.map λkv=>if kv.1=k then(kv.1,v)else kv) (kvs.map λkv=>if kv.1=k then(kv.1,d)else kv):=by
 induction h with
 | nil=>exact .nil
 | @cons p q ps qs hq t ih=>
  refine .cons ?_ ih;dsimp only
  by_cases hk:p.1=k
  .have iH:q.1=k:=hq.1▸hk
   rw[if_pos hk,if_pos iH];exact⟨hq.1,hd⟩
  .have iH:¬q.1=k:=λz=>hk (hq.1.trans z)
   rw[if_neg hk,if_neg iH];exact hq
theorem fE.put{kvs:Qa (κ×D)}(h:fE K H ws kvs)(k:κ){d:D}(hd:DF K H v d):fE K H (fS ws k v) (jn kvs k d):=by
 unfold fS jn;rw[h.any k];split
 .exact h.lA k hd
 .exact Paired.snoc h ⟨rfl,hd⟩
theorem fE.len{kvs:Qa (κ×D)}(h:fE K H ws kvs):ws.length=kvs.length:=Paired.length h
end
def ux(kvs:Qa (D×D))(k:Qa Key):Qb D:=(kvs.find? λkv=>decide (dI kv.1=some k)).map (·.2)
theorem gZ.val{ws:Qa (Qa Key×V)}{kvs:Qa (D×D)}(h:gZ K H ws kvs)(k:Qa Key):(∃ v d,hE ws k=some v/\ux kvs k=some d/\DF K H v d)\/(hE ws k=none/\ux kvs k=none):=by
 induction ws generalizing kvs with
 | nil=>cases h; exact .inr ⟨rfl,rfl⟩
 | cons p ws ih=>
  cases h with
  | @cons k' v d _ ds hv t=>
   unfold hE ux at ih ⊢;rw[List.find?_cons,List.find?_cons]
   by_cases hk:k'=k
   .have iH:dI (jL k')=some k:=by rw[Bb,hk]
    rw[decide_eq_true hk,decide_eq_true iH];exact .inl ⟨_,_,rfl,rfl,hv⟩
   .have iH:¬dI (jL k')=some k:=by rw[Bb]; exact λz=>hk (qA z)
    rw[decide_eq_false hk,decide_eq_false iH];exact ih t
def l6(u y:U):Qb (Qb D):=match u,y with
 | .t kvs,.d y=>(dI y).map λk=>rE kvs k
 | .k kvs,.d y=>(rF y).map λk=>rE kvs k
 | .d (.dict kvs),.d y=>if jG kvs=true then(dI y).map λk=>ux kvs k else none
 | _,_=>none
theorem K8{u y:U}{o:Qb D}{x:V}(hu:Rp K H x u)(hy:Rp K H v y)(e:l6 u y=some o):∃ a,x=.ref a/\((∃ w d,o=some d/\rP K H a v (some w)/\DF K H w d)\/(o=none/\rP K H a v none)):=by
 unfold l6 at e;split at e
 .rename_i kvs y
  obtain⟨k,ek,rfl⟩:=qu.mp e;obtain⟨a,ws,rfl,h1,h2⟩:=hu;obtain⟨b,rfl,hb⟩:=wH hy ek;refine⟨a,rfl,?_⟩;rcases h2.val k with⟨w,d,e1,e2,p⟩|⟨e1,e2⟩
  .exact .inl ⟨w,d,e2,.inr ⟨ws,k,b,.inl h1,rfl,hb,e1.symm⟩,p⟩
  .exact .inr ⟨e2,.inr ⟨ws,k,b,.inl h1,rfl,hb,e1.symm⟩⟩
 .rename_i kvs y
  obtain⟨k,ek,rfl⟩:=qu.mp e;obtain⟨a,ws,rfl,h1,h2⟩:=hu;cases Kk hy ek;refine⟨a,rfl,?_⟩;rcases h2.val k with⟨w,d,e1,e2,p⟩|⟨e1,e2⟩
  .exact .inl ⟨w,d,e2,.inl ⟨ws,k,.inl h1,rfl,e1.symm⟩,p⟩
  .exact .inr ⟨e2,.inl ⟨ws,k,.inl h1,rfl,e1.symm⟩⟩
 .rename_i kvs y
  split at e
  rotate_left
  .cases e
  rename_i nx;obtain⟨k,ek,rfl⟩:=qu.mp e;obtain⟨a,ob,ws,rfl,h1,h2⟩:=DF.cH hu nx;obtain⟨b,rfl,hb⟩:=wH hy ek;refine⟨a,rfl,?_⟩;rcases h2.val k with⟨w,d,e1,e2,p⟩|⟨e1,e2⟩
  .exact .inl ⟨w,d,e2,.inr ⟨ws,k,b,.inr ⟨ob,h1⟩,rfl,hb,e1.symm⟩,p⟩
  .exact .inr ⟨e2,.inr ⟨ws,k,b,.inr ⟨ob,h1⟩,rfl,hb,e1.symm⟩⟩
 .cases e
def ix(md my:ME):ME:=λρ=>(md ρ).bind λp=>(my p.2).bind λq=>(p.1.get q.2).bind λu=>(q.1.get q.2).bind λy=>(l6 u y).bind λo=>o.bind λd=>some (.u (.d d),q.2)
theorem mH{md my:ME}(hd:VE K td md)(hy:VE K ty my):VE K (DU K td ty) (ix md my):=by
 intro ρ σ H a av Q r e q;obtain⟨⟨a1,aw⟩,e1,e⟩:=bQ e;obtain⟨⟨b1,aB⟩,e2,e⟩:=bQ e;obtain⟨u,eu,e⟩:=bQ e;obtain⟨y,ey,e⟩:=bQ e;obtain⟨o,eo,e⟩:=bQ e;obtain⟨d,ed,e⟩:=bQ e;cases e;refine hd ρ σ H a1 aw _ r e1 λv1 H1 g1 k1=>hy aw σ H1 b1 _ _ g1.rs e2 λv2 H2 g2 k2=>?_;obtain⟨b,rfl,h⟩:=K8 (k1.later r g1 g2 eu) (k2.now g1.rs g2 ey) eo;rcases h with⟨w,d',rfl,g,p⟩|⟨rfl,_⟩
 .cases ed
  exact⟨b,w,rfl,g,q w H2 (g1.trans g2) ⟨p,Nw.data⟩⟩
 .cases ed
def kI:ME:=λρ=>some (.u (.t []),ρ)
theorem pY:VE K ET kI:=by
 intro ρ σ H a av Q r e q;cases e;intro p hp;have sm:=zW hp (.dT []);exact q _ _ (Go.grow r sm) ⟨⟨p,[],rfl,zx,.nil⟩,λ_=>⟨p,rfl,hp⟩⟩
def jU(i:Nat)(my mv:ME):MS:=λρ=>(ρ[i]?).join.bind λ_=>(mv ρ).bind λp=>(my p.2).bind λq=>(p.1.get q.2).bind λx=>(q.1.get q.2).bind λy=>match x,y,q.2[i]? with
 | .d x,.d y,some (some (.t kvs))=>(dI y).bind λk=>if kvs.length < sizeLine then some (.nx (q.2.set i (some (.t (jn kvs k x)))))else none
 | .d x,.d y,some (some (.k kvs))=>(rF y).bind λk=>if kvs.length < sizeLine then some (.nx (q.2.set i (some (.k (jn kvs k x)))))else none
 | _,_,_=>none
theorem si{my mv:ME}(hy:VE K ty my)(hv:VE K tv mv):VS K pn EX (DT K (ic i) ty tv) (jU i my mv):=by
 intro ao A aA aC ρ σ H f D s e k;replace e:=bQ e;obtain⟨w0,e0,e⟩:=e;replace e:=bQ e;obtain⟨⟨a,aw⟩,e1,e⟩:=e;replace e:=bQ e;obtain⟨⟨b,aB⟩,e2,e⟩:=e;replace e:=bQ e;obtain⟨u,eu,e⟩:=e;replace e:=bQ e;obtain⟨w,ew,e⟩:=e;obtain⟨v0,jQ,_⟩:=s.rs.rep i w0 (MC e0);refine hv ρ σ H a aw _ s.rs e1 λv H1 g1 k1=>⟨v0,jQ,?_⟩;refine hy aw σ H1 b aB _ g1.rs e2 λy H2 g2 k2=>?_;have pv:=k1.later s.rs g1 g2 eu;have py:=k2.now g1.rs g2 ew;dsimp only at e;split at e
 .rename_i x yd kvs ex
  replace e:=bQ e;obtain⟨ks,ek,e⟩:=e;split at e
  .rename_i hz
   cases e;obtain⟨w',eS,p1⟩:=g2.rs.rep i _ ex;obtain⟨l,us,rfl,hl,ds⟩:=p1;rw[jQ]at eS;cases eS;obtain⟨kb,rfl,xV⟩:=wH py ek;refine⟨l,_,rfl,pd.t hl xV (by rw[ds.len]; exact hz),k _ _ ((s.go (g1.trans g2)).go (Go.own (u':=.t (jn kvs ks x)) g2.rs ex rfl jQ ?_))⟩;have kp:=jW hl trivial (.dT (fS us ks v));exact⟨l,_,rfl,zx,(ds.kp kp).put ks (DF.kp kp pv)⟩
  .cases e
 .rename_i x yd kvs ex
  replace e:=bQ e;obtain⟨ks,ek,e⟩:=e;split at e
  .rename_i hz
   cases e;obtain⟨w',eS,p1⟩:=g2.rs.rep i _ ex;obtain⟨l,us,rfl,hl,ds⟩:=p1;rw[jQ]at eS;cases eS;cases Kk py ek;refine⟨l,_,rfl,pd.k hl (by rw[ds.len]; exact hz),k _ _ ((s.go (g1.trans g2)).go (Go.own (u':=.k (jn kvs ks x)) g2.rs ex rfl jQ ?_))⟩;have kp:=jW hl trivial (.dK (fS us ks v));exact⟨l,_,rfl,zx,(ds.kp kp).put ks (DF.kp kp pv)⟩
  .cases e
 .cases e
def kD:U->Qb (Qa D)
 | .d (.dict kvs)=>if jG kvs=true then some (kvs.map (·.1))else none
 | _=>none
theorem Mg:∀ {ws:Qa (Qa Key×V)} {kvs:Qa (D×D)},gZ K H ws kvs->kvs.map (·.1)=ws.map λp=>jL p.1
 | [],_,.nil=>rfl
 | _::_,_,.cons _ t=>by rw[List.map_cons,List.map_cons,Mg t]
theorem pX{me:ME}(h:VE K te me):VI K (Kt K te) (cq kD me):=by
 intro ρ σ H ds av R r e q;obtain⟨⟨a,aw⟩,e1,e⟩:=bQ e;obtain⟨u,eu,e⟩:=bQ e;obtain⟨xs,ex,e⟩:=bQ e;cases e;refine h ρ σ H a _ _ r e1 λv H1 g1 k1=>?_;have p:=k1.now r g1 eu;unfold kD at ex;split at ex
 .split at ex
  rotate_left
  .cases ex
  rename_i nx;cases ex;obtain⟨b,o,ws,rfl,h1,h2⟩:=DF.cH p nx;refine⟨b,ws,rfl,.inr ⟨o,h1,q _ _ g1 λH2 k i=>?_⟩⟩;rw[Mg h2];have jc:=k.aS _ _ _ h1;refine⟨λd ed=>?_,λei=>?_⟩
  .rw[List.getElem?_map]at ed
   obtain⟨⟨ks,w⟩,ew,rfl⟩:=qu.mp ed;refine⟨⟨jc,(qm.mp ew).1⟩,λx H' y=>?_⟩;obtain⟨rfl,y⟩:=y;obtain⟨kb,rfl,xV⟩:=y ks w ew;exact⟨λ_ _ z=>z,.tup xV AS⟩
  .rw[List.length_map]at ei
   exact⟨jc,ý ei.symm⟩
 .cases ex
end
section
variable{ρ av:En}
abbrev MO:=En->Qb (Qb Int×En)
def yE(K:qe)(t:TO)(m:MO):Prop :=
 ∀ (ρ:En) (σ:St) (H:Hp) (o:Qb Int) (av:En) (Q:Qb Int->Hp->Prop),Rs K ρ σ H->m ρ=some (o,av)->(∀ H',Go K ρ σ H av H'->Q o H')->t σ H Q
def sG:MO:=λρ=>some (none,ρ)
def kC(me:ME):MO:=λρ=>(me ρ).bind λp=>(p.1.get p.2).bind λu=>match u with | .d (.int i)=>some (some i,p.2) | _=>none
theorem AR:yE K E8 sG:=λρ σ H o av Q r e q=>by cases e; exact q H (Go.refl r)
theorem pW{me:ME}(h:VE K te me):yE K (DZ te) (kC me):=by
 intro ρ σ H o av Q r e q;replace e:=bQ e;obtain⟨⟨a,aw⟩,e1,e⟩:=e;replace e:=bQ e;obtain⟨u,eu,e⟩:=e;refine h ρ σ H a aw _ r e1 λv H1 g1 k1=>?_;have p:=k1.now r g1 eu;dsimp only at e;split at e
 .rename_i i
  cases e;exact⟨i,DF.int_inv p,q _ g1⟩
 .cases e
def fV(xs:Qa D)(lo hi:Qb Int):Qa D:=(xs.drop (HT.aP xs.length 0 lo)).take (HT.aP xs.length xs.length hi - HT.aP xs.length 0 lo)
theorem aM.cut{ds:Qa D}(h:aM K H xs ds)(lo hi:Qb Int):aM K H (jT xs lo hi) (fV ds lo hi):=by
 unfold jT fV;rw[h.len];exact(h.drop _).take _
def IL(K:qe)(r:V->Qb Int->Qb Int->Hp->VK->Prop)(f:U->Qb Int->Qb Int->Qb U):Prop :=
 ∀ (x:V) (a u:U) (lo hi:Qb Int) (H:Hp) (Q:VK),Rp K H x a->f a lo hi=some u->(∀ v H',b9 H H'->Rp K H' v u->Nw H v u->Q v H')->r x lo hi H Q
def oE(f:U->Qb Int->Qb Int->Qb U)(me:ME)(ml mh:MO):ME:=λρ=>(me ρ).bind λp=>(ml p.2).bind λl=>(mh l.2).bind λh=>(p.1.get h.2).bind λx=>(f x l.1 h.1).bind λu=>some (.u u,h.2)
theorem t9{r:V->Qb Int->Qb Int->Hp->VK->Prop}{f:U->Qb Int->Qb Int->Qb U}{tl th:TO}{me:ME}{ml mh:MO}(hs:IL K r f)(he:VE K te me)(hl:yE K tl ml)(hh:yE K th mh):VE K (G3 r te tl th) (oE f me ml mh):=by
 intro ρ σ H a av Q rs e q;obtain⟨⟨a1,aw⟩,e1,e⟩:=bQ e;obtain⟨⟨lo,aB⟩,e2,e⟩:=bQ e;obtain⟨⟨hi,gN⟩,e3,e⟩:=bQ e;obtain⟨x,ex,e⟩:=bQ e;obtain⟨u,eu,e⟩:=bQ e;cases e;refine he ρ σ H a1 aw _ rs e1 λv1 H1 g1 k1=>hl aw σ H1 lo aB _ g1.rs e2 λH2 g2=>hh aB σ H2 hi _ _ g2.rs e3 λH3 g3=>?_;refine hs _ x u lo hi H3 _ (k1.later rs g1 (g2.trans g3) ex) eu λv H4 s p n=>?_;have g:=g1.trans (g2.trans g3);exact q v H4 (g.trans (Go.grow g.rs s)) ⟨p,n.mono g.dm⟩
def pq(u:U)(lo hi:Qb Int):Qb U:=match u with
 | .l xs=>some (.l (fV xs lo hi))
 | .d (.list xs)=>some (.l (fV xs lo hi))
 | _=>none
theorem AQ:IL K (Dr K) pq:=by
 intro x a u lo hi H Q p e q;unfold pq at e;split at e
 .cases e
  obtain⟨b,us,rfl,h1,h2⟩:=p;refine⟨b,us,rfl,bo.of h1,λl hl=>?_⟩;have sm:=zW hl (.lst (jT us lo hi));exact q _ _ sm ⟨l,_,rfl,zx,(h2.cut lo hi).kp sm.kp⟩ λ_=>⟨l,rfl,hl⟩
 .cases e
  obtain⟨b,us,rfl,h1,h2⟩:=DF.lst_inv p;refine⟨b,us,rfl,h1.sq,λl hl=>?_⟩;have sm:=zW hl (.lst (jT us lo hi));exact q _ _ sm ⟨l,_,rfl,zx,(h2.cut lo hi).kp sm.kp⟩ λ_=>⟨l,rfl,hl⟩
 .cases e
def Pz(K:qe):V->Qb Int->Qb Int->Hp->VK->Prop:=λx lo hi H Q=>∃ a xs,x=.ref a/\aT K H a xs/\∀ p H',b9 H H'->aT K H' p (jT xs lo hi)->Q (.ref p) H'
theorem Py{X:Cx}:vN X (Pz X.K):=by
 intro pins s σ H x v vl vu lo hi sl Q I rx hs pl pu h;obtain⟨a,xs,rfl,vA,q⟩:=h;have hx:bt X.K H a xs:=vA.sq
 by_cases hw:HT.aP xs.length 0 lo=0/\HT.aP xs.length xs.length hi=xs.length
 .cases rx
  obtain⟨ah,r,ht,hz⟩:=I.tuple hx;have hlen:ah.toArray.size=xs.length:=by rw[List.size_toArray]; exact r.length.symm
  refine⟨"tuple",_,PyProof.Rows.slot_tuple_getitem.lookup,ht.typeIs,?_⟩;refine HT.dg ht hs pl pu (by rw[hlen]; exact hw) ⟨.ref a,H,I,rfl,q a H (b9.refl _) ?_⟩;unfold jT;rw[hw.1,hw.2];simpa using vA
 .exact Tx pins s σ H _ v vl vu lo hi sl Q I rx hs pl pu ⟨a,xs,rfl,hx,hw,λp hp=>q p _ (zW hp _) (.inl zx)⟩
def vW(u:U)(lo hi:Qb Int):Qb U:=match u with
 | .d (.tuple xs)=>some (.d (.tuple (fV xs lo hi)))
 | _=>none
theorem Kw:IL K (Pz K) vW:=by
 intro x a u lo hi H Q p e q;unfold vW at e;split at e
 .cases e
  obtain⟨b,us,rfl,h1,h2⟩:=DF.aH p;exact⟨b,us,rfl,h1,λl H' sm hl=>q _ _ sm (.tup hl ((h2.cut lo hi).kp sm.kp)) Nw.data⟩
 .cases e
def wo:U->U->Qb U
 | .d (.tuple xs),.d (.tuple ys)=>if xs≠[]/\xs.length+ys.length<=sizeLine then some (.d (.tuple (xs++ys)))else none
 | _,_=>none
theorem Vv:VO K (DY K) wo:=by
 intro x y a b u H Q ha hb e q;unfold wo at e;split at e
 .split at e
  .rename_i xs ys hc
   cases e;obtain⟨p,us,rfl,h1,h2⟩:=DF.aH ha;obtain⟨p',gc,rfl,jc,iI⟩:=DF.aH hb;refine⟨p,p',us,gc,rfl,rfl,(aT.sq h1),(aT.sq jc),?_,by rw[h2.len,iI.len]; exact hc.2,λz=>?_,λ_ r hr=>?_⟩
   .rintro rfl
    cases h2;exact hc.1 rfl
   .subst z
    cases iI;exact q _ _ (λ_ _ z=>z) (by rw[List.append_nil]; exact .tup h1 h2) Nw.data
   .have s:=zW hr (.tup (us++gc))
    exact q _ _ s (.tup (.inl zx) ((h2.app iI).kp s.kp)) Nw.data
  .cases e
 .cases e
def zA2:Qa Int->Int->Int
 | [],d=>d
 | n::ns,_=>ns.foldl (λa b=>if a < b then b else a) n
def zCw:Qa U->Qa U->Qb U
 | [u],[.d (.int d)]=>u.items.bind λxs=>(kE xs).map λns=>.d (.int (zA2 ns d))
 | _,_=>none
theorem NI{r:α->α->Prop}(as:∀ a b,r a b->¬r b a):∀ {L M:Qa α},L.Perm M->L.Pairwise r->M.Pairwise r->L=M
 | [],M,p,_,_=>(List.nil_perm.mp p).symm▸rfl
 | a::L,[],p,_,_=>by have:=p.length_eq; simp at this
 | a::L,b::M,p,h1,h2=>by
  obtain⟨a1,a2⟩:=Ï.mp h1;obtain⟨b1,b2⟩:=Ï.mp h2;have e:a=b:=by
   rcases qx.mp (p.mem_iff.mp (qq (a:=a) (l:=L)))with z|z
   .exact z
   .rcases qx.mp (p.mem_iff.mpr (qq (a:=b) (l:=M)))with y|y
    .exact y.symm
    .exact absurd (b1 a z) (as a b (a1 b y))
  subst e;rw[NI as p.cons_inv a2 b2]
def pk:D->Qb (Qa Int)
 | .tuple [.tuple ks,_]=>kE ks
 | _=>none
def vj:Qa D->Qb (Qa (Qa Int))
 | []=>some []
 | d::ds=>(pk d).bind λk=>(vj ds).bind λks=>some (k::ks)
def rq(a b:D):Prop:=∃ k m,pk a=some k/\pk b=some m/\dq k m=true
theorem rq.II(a b:D)(h:rq a b):¬rq b a:=by
 rintro⟨k',m',e1,e2,h'⟩;obtain⟨k,m,e3,e4,h⟩:=h;rw[e3]at e2;rw[e4]at e1;cases e1;cases e2;have:=u9 h h';rw[sI]at this;cases this
open Classical in
def Ak(xs:Qa D):Qa D:=if h:∃ L,L.Perm xs/\L.Pairwise rq then h.choose else []
theorem Mf{xs L:Qa D}(p:L.Perm xs)(s:L.Pairwise rq):Ak xs=L:=by
 have h:∃ L:Qa D,L.Perm xs/\L.Pairwise rq:=⟨L,p,s⟩;unfold Ak;rw[dif_pos h];exact NI rq.II (h.choose_spec.1.trans p.symm) h.choose_spec.2 s
def U.lst:U->Qb (Qa D)
 | .l xs=>some xs
 | .d (.list xs)=>some xs
 | _=>none
theorem Rp.lst{u:U}{xs:Qa D}(h:Rp K H v u)(e:u.lst=some xs):∃ p ys,v=.ref p/\bo K H p ys/\aM K H ys xs:=by
 cases u with
 | d x=>
  cases x with
  | list ds=>cases e; obtain⟨a,ys,rfl,h1,h2⟩:=DF.lst_inv h; exact⟨a,ys,rfl,h1.sq,h2⟩
  | _=>cases e
 | l ds=>cases e; obtain⟨a,ys,rfl,h1,h2⟩:=h; exact⟨a,ys,rfl,bo.of h1,h2⟩
 | t=>cases e
 | k=>cases e
def Az(u:U):Qb U:=u.lst.bind λxs=>(vj xs).bind λks=>if xs.length < 64/\ks.Nodup then some (.l (Ak xs))else none
theorem Ly:∀ {xs:Qa D} {ks:Qa (Qa Int)},vj xs=some ks->ks.length=xs.length
 | [],ks,e=>by cases e; rfl
 | x::xs,ks,e=>by
  obtain⟨k,e1,e⟩:=bQ e;obtain⟨Hu,e2,e⟩:=bQ e;cases e;simp[Ly e2]
theorem Ay:∀ {xs:Qa D} {ks:Qa (Qa Int)} {i:Nat} {x:D},vj xs=some ks->xs[i]?=some x->pk x=some (ks.getD i [])
 | [],ks,i,x,e,ex=>by simp at ex
 | y::xs,ks,i,x,e,ex=>by
  obtain⟨k,e1,e⟩:=bQ e;obtain⟨Hu,e2,e⟩:=bQ e;cases e;cases i with
  | zero=>cases(show some y=some x from ex); exact e1
  | succ i=>exact Ay (i:=i) e2 ex
theorem Me:VC K (Ku K) (f1 Az):=nu λv a u H Q h e q=>by
 obtain⟨xs,ex,e⟩:=bQ e;obtain⟨ks,ek,e⟩:=bQ e;split at e
 .rename_i hc
  cases e;obtain⟨p,ys,rfl,sq,ds⟩:=h.lst ex;have ly:=ds.len;have lk:=Ly ek;refine⟨p,ys,ks,rfl,sq,by omega,⟨by omega,λi v ev=>?_⟩,hc.2,λis r hp hs hr=>?_⟩
  .obtain⟨d,ed,dv⟩:=ds.get' ev
   have kd:=Ay ek ed;unfold pk at kd;split at kd
   .rename_i kk y
    obtain⟨a,zs,rfl,h1,h2⟩:=DF.aH dv;cases h2 with
    | @cons z1 _ _ _ h3 t=>
     cases t with
     | @cons z2 _ _ _ h4 t=>
      cases t;obtain⟨b,ns,rfl,h5,h6⟩:=DF.aH h3;exact⟨a,b,z2,rfl,(aT.sq h1),by rw[<-Fv h6 kd]; exact(aT.sq h5)⟩
   .cases kd
  .have sm:=zW hr (.lst (is.map λi=>ys.getD i .aN))
   have lt:∀ i∈is,i < xs.length:=λi hi=>by
    have:=Ê.mp (hp.mem_iff.mp hi);omega
   have ext:(List.range xs.length).map (λi=>xs.getD i .none)=xs:=by
    apply List.ext_getElem?;intro j;rw[List.getElem?_map]
    by_cases hj:j < xs.length
    .rw[List.getElem?_range hj,Option.map_some,qD,qo hj]
     rfl
    .rw[List.getElem?_eq_none (by simpa using hj),List.getElem?_eq_none (by omega)]
     rfl
   have qR:(is.map λi=>xs.getD i .none).Perm xs:=by
    have:=hp.map λi=>xs.getD i .none;rw[ly,ext]at this;exact this
   have qP:(is.map λi=>xs.getD i .none).Pairwise rq:=by
    rw[List.pairwise_map]at hs ⊢;refine hs.imp_of_mem λ{i j} hi hj dU=>?_;have gi:=qo (lt i hi);have gj:=qo (lt j hj);refine⟨_,_,?_,?_,dU⟩
    .rw[qD,gi]
     exact Ay ek gi
    .rw[qD,gj]
     exact Ay ek gj
   rw[Mf qR qP]at q;refine q _ _ sm ⟨r,_,rfl,zx,?_⟩ λ_=>⟨r,rfl,hr⟩;refine aM.kp sm.kp ?_;clear hs hp qR qP q sm
   induction is with
   | nil=>exact .nil
   | cons i is ih=>
    refine .cons ?_ (ih λj hj=>lt j (qp _ hj));have gi:=qo (lt i qq);obtain⟨v,ev,dv⟩:=ds.get gi;dsimp only;rw[qD,qD,gi,ev];exact dv
 .cases e
end
section
variable{ρ av:En}
def zA3(ma:MA):ME:=λρ=>(ma ρ).bind λp=>(bw p.2 p.1).bind λus=>match us with
 | [.d (.int j)]=>if(-(2^62)<=j/\j < 2^62)/\j.toNat<=sizeLine then some (.u (.l (f9 0 j.toNat)),p.2)else none
 | _=>none
def iU:MT:=λρ=>some (true,ρ)
theorem kH:VT K Dm iU:=λρ σ H b av Q r e q=>by cases e; exact q H (Go.refl r)
def sV:D->Qb V
 | .none=>some .aN
 | .bool b=>some (.bl b)
 | .int i=>some (.int i)
 | .str x=>some (.str x)
 | _=>none
theorem yD{x:D}{w:V}(h:DF K H v x)(e:sV x=some w):v=w:=by
 cases h<;>cases e<;>rfl
def bL(neg:Bool):U->U->Qb U
 | .d x,.d y=>(sV x).bind λv=>(sV y).bind λw=>if CZ v w=true then some (.d (.bool (if neg=true then !decide (v=w)else decide (v=w))))else none
 | _,_=>none
theorem dE:VO K PX (bL false):=by
 intro x y a b u H Q ha hb e q;unfold bL at e;split at e
 .obtain⟨v,ev,e⟩:=bQ e
  obtain⟨w,ew,e⟩:=bQ e;split at e
  .rename_i hs
   cases e;cases yD ha ev;cases yD hb ew;exact⟨hs,q _ _ (λ_ _ z=>z) (.bl _) Nw.data⟩
  .cases e
 .cases e
theorem wA:VO K PV (bL true):=by
 intro x y a b u H Q ha hb e q;unfold bL at e;split at e
 .obtain⟨v,ev,e⟩:=bQ e
  obtain⟨w,ew,e⟩:=bQ e;split at e
  .rename_i hs
   cases e;cases yD ha ev;cases yD hb ew;exact⟨hs,q _ _ (λ_ _ z=>z) (.bl _) Nw.data⟩
  .cases e
 .cases e
theorem Sg{F:FD}{E:XK}(hO:yI H)(hS:bo K H a (ns.map V.int))(h:∃ outs,F [.d (.list (ns.map .int))]=some (.d (.bool true),outs)):qH K 1 F [.ref a] H (λv _=>v=.bl true) E:=by
 obtain⟨outs,ho⟩:=h;have pl:PL K H a (ns.map V.int):=by
  rcases hS with (h|⟨o,h⟩) | h
  .rcases hO a with z|⟨o,xs,z⟩
   .rw[z]at h; cases h
   .rw[z]at h; cases h
  .exact .inl ⟨o,h⟩
  .exact .inr h
 have dd:aM K H (ns.map V.int) (ns.map PyData.int):=by
  clear ho hS pl
  induction ns with
  | nil=>exact .nil
  | cons n ns ih=>exact .cons (.int n) ih
 refine⟨[.d (.list (ns.map .int))],.d (.bool true),outs,rfl,⟨rfl,λi u e=>?_,λi j u w ei ej ou ow es=>?_⟩,ho,λv H' g p n=>DF.dN p⟩
 .have e':=f7.mp e
  cases i with
  | zero=>cases e'; exact⟨.ref a,rfl,DF.lst pl dd⟩
  | succ i=>simp at e'
 .have e':=f7.mp ei
  cases i with
  | zero=>cases e'; cases ou
  | succ i=>simp at e'
end
section
variable{ρ:En}{me ma mb mk mi md my mv:ME}{mA mK:MA}{mt mu:MT}{m1 m2:MS}{u:U}{x:D}{f:U->U->Qb U}
theorem bd{a:α}{f:α->Qb β}:(some a).bind f=f a:=rfl
theorem Vc{u:U}:Ar.get ρ (.u u)=some u:=rfl
theorem Y2:Ar.get ρ (.s i)=(ρ[i]?).join:=rfl
theorem zoC{u:U}:(some (some u)).join=some u:=rfl
theorem Sf:zi i ρ=(ρ[i]?).join.bind λ_=>some (.s i,ρ):=by
 unfold zi;cases ρ[i]? with
 | none=>rfl
 | some o=>cases o<;>rfl
theorem zCl:mC x ρ=some (.u (.d x),ρ):=rfl
theorem zA4:af f ma mb ρ=(ma ρ).bind λp=>(mb p.2).bind λq=>(p.1.get q.2).bind λx=>(q.1.get q.2).bind λy=>(f x y).bind λu=>some (.u u,q.2):=rfl
theorem zA5{f:U->Qb U}:cp f ma ρ=(ma ρ).bind λp=>(p.1.get p.2).bind λx=>(f x).bind λu=>some (.u u,p.2):=rfl
theorem Se:zq ρ=some ([],ρ):=rfl
theorem Vu:zf me mA ρ=(me ρ).bind λp=>(mA p.2).bind λq=>some (p.1::q.1,q.2):=rfl
theorem zlQ:bw ρ []=some []:=rfl
theorem NW{a:Ar}{as:Qa Ar}:bw ρ (a::as)=(a.get ρ).bind λu=>(bw ρ as).bind λus=>some (u::us):=rfl
theorem zjQ:iy []=some []:=rfl
theorem ziF{us:Qa U}:iy (.d x::us)=(iy us).bind λxs=>some (x::xs):=rfl
theorem Sd:bY mA ρ=(mA ρ).bind λp=>(bw p.2 p.1).bind λus=>(iy us).bind λds=>if ds.length<=sizeLine then some (.u (.d (.tuple ds)),p.2)else none:=rfl
theorem Sb:fK mA ρ=(mA ρ).bind λp=>(bw p.2 p.1).bind λus=>(iy us).bind λds=>if ds.length<=sizeLine then some (.u (.l ds),p.2)else none:=rfl
theorem zA6{f:Qa U->Qb U}:aY f mA ρ=(mA ρ).bind λp=>(bw p.2 p.1).bind λus=>(f us).bind λu=>some (.u u,p.2):=rfl
theorem Sa{f:FD}:zR f mA ρ=(mA ρ).bind λp=>if gD p.2 p.1=true then(bw p.2 p.1).bind λus=>(f us).bind λo=>some (.u o.1,wb p.2 p.1 o.2)else none:=rfl
theorem zlR:gD ρ []=true:=rfl
theorem R9{as:Qa Ar}:gD ρ (.s j::as)=((match ρ[j]? with|some (some u)=>!u.own || !(as.any λa=>match a with | .s k=>decide (k=j) | _=>false) | _=>true) && gD ρ as):=rfl
theorem zA7{as:Qa Ar}{o:U}{os:Qa U}:wb ρ (.s j::as) (o::os)=wb (ρ.set j (some o)) as os:=rfl
theorem zA8{as:Qa Ar}{o:U}{os:Qa U}:wb ρ (.u u::as) (o::os)=wb ρ as os:=rfl
theorem Y1:wb ρ [] []=ρ:=rfl
def kr(m2:MS):Fl->Qb Fl
 | .nx av=>m2 av
 | f=>some f
theorem bind_fn{o:Qb α}{f g:α->Qb β}(h:∀ a,f a=g a):o.bind f=o.bind g:=by cases o with|none=>rfl|some a=>exact h a
theorem R8:zD m1 m2 ρ=(m1 ρ).bind (kr m2):=bind_fn λf=>by cases f<;>rfl
theorem zoD:kr m2 (.nx ρ)=m2 ρ:=rfl
theorem zoE:kr m2 (.rt u ρ)=some (.rt u ρ):=rfl
theorem zoF:kr m2 (.ct ρ)=some (.ct ρ):=rfl
def U.dat:U->Qb U
 | .d x=>some (.d x)
 | _=>none
theorem Vb:U.dat (.d x)=some (.d x):=rfl
theorem Va:put (.s i,ρ)=(ρ[i]?).join.bind λu=>u.dat.bind λd=>some (d,ρ):=by
 unfold put;dsimp only;cases ρ[i]? with
 | none=>rfl
 | some o=>
  cases o with
  | none=>rfl
  | some u=>cases u<;>rfl
theorem U9:put (.u u,ρ)=some (u,ρ):=rfl
theorem R7:zU i me ρ=(me ρ).bind λp=>(put p).bind λq=>some (.nx (q.2.set i (some q.1))):=rfl
theorem R6:bB me ρ=(me ρ).bind λp=>(put p).bind λq=>some (.rt q.1 q.2):=rfl
theorem Wf:jV pn i ρ=if i∈pn then none else(ρ[i]?).join.bind λu=>some (.rt u (ρ.set i none)):=by
 unfold jV;split
 .rfl
 .cases ρ[i]? with
  | none=>rfl
  | some o=>cases o<;>rfl
theorem We:cO ρ=some (.nx ρ):=rfl
theorem Wd:cN me ρ=(me ρ).bind λp=>some (.nx p.2):=rfl
theorem R5:br mt m1 m2 ρ=(mt ρ).bind λp=>if p.1=true then m1 p.2 else m2 p.2:=rfl
def U.yo:U->Qb Bool
 | .d (.bool b)=>some b
 | _=>none
theorem U8{b:Bool}:U.yo (.d (.bool b))=some b:=rfl
theorem zCm:mB me ρ=(me ρ).bind λp=>(p.1.get p.2).bind λu=>u.yo.bind λb=>some (b,p.2):=by
 unfold mB;congr 1
 funext p
 congr 1
 funext u
 cases u with
 | d x=>cases x<;>rfl
 | l=>rfl
 | t=>rfl
 | k=>rfl
theorem R4:vX mt mu ρ=(mt ρ).bind λp=>if p.1=true then mu p.2 else some (false,p.2):=rfl
theorem zA9:mS mt mu ρ=(mt ρ).bind λp=>if p.1=true then some (true,p.2)else mu p.2:=rfl
theorem R3:rG mt ρ=(mt ρ).bind λp=>some (!p.1,p.2):=rfl
theorem Wc:Ag ma mb ρ=(mB ma ρ).bind λp=>if p.1=true then mb p.2 else some (.u (.d (.bool false)),p.2):=rfl
theorem Wb:Af ma ρ=(mB ma ρ).bind λp=>some (.u (.d (.bool (!p.1))),p.2):=rfl
theorem R1:yG ma ρ=(ma ρ).bind λp=>(p.1.get p.2).bind λu=>u.xk.bind λb=>some (b,p.2):=rfl
theorem zoG{n:Int}:U.xk (.d (.int n))=some (n != 0):=rfl
theorem R0:iU ρ=some (true,ρ):=rfl
def U.lo:U->Qb (Qa D)
 | .l xs=>some xs
 | _=>none
theorem zBa{xs:Qa D}:U.lo (.l xs)=some xs:=rfl
def U.da:U->Qb D
 | .d x=>some x
 | _=>none
theorem zBb:U.da (.d x)=some x:=rfl
def U.num:U->Qb Int
 | .d (.int i)=>some i
 | _=>none
theorem U7{n:Int}:U.num (.d (.int n))=some n:=rfl
theorem RZ:cJ i me ρ=(ρ[i]?).join.bind λw=>w.lo.bind λ_=>(me ρ).bind λp=>(p.1.get p.2).bind λu=>u.da.bind λx=>(p.2[i]?).join.bind λw=>w.lo.bind λxs=>if xs.length < sizeLine then some (.u (.d .none),p.2.set i (some (.l (xs++[x]))))else none:=by
 unfold cJ;cases ρ[i]? with
 | none=>rfl
 | some o=>
  cases o with
  | none=>rfl
  | some w=>
   cases w with
   | l xs0=>
    show((me ρ).bind _)=((me ρ).bind _);congr 1
    funext p
    congr 1
    funext u
    cases u with
    | d x=>
     show(match U.d x,p.2[i]? with | .d x,some (some (.l xs))=>_|_,_=>none)=((p.2[i]?).join.bind _);cases p.2[i]? with
     | none=>rfl
     | some o=>
      cases o with
      | none=>rfl
      | some w=>cases w<;>rfl
    | l=>rfl
    | t=>rfl
    | k=>rfl
   | d=>rfl
   | t=>rfl
   | k=>rfl
theorem Y0:sv i me mi ρ=(ρ[i]?).join.bind λ_=>(me ρ).bind λp=>(mi p.2).bind λq=>(p.1.get q.2).bind λu=>(q.1.get q.2).bind λw=>u.da.bind λx=>w.num.bind λk=>(q.2[i]?).join.bind λz=>z.lo.bind λxs=>(dS xs.length k).bind λj=>some (.nx (q.2.set i (some (.l (xs.set j x))))):=by
 unfold sv;congr 1; funext _; congr 1; funext p; congr 1; funext q; congr 1; funext u; congr 1; funext w;cases u with
 | d x=>
  cases w with
  | d y=>
   cases y with
   | int k=>
    show(match U.d x,U.d (.int k),q.2[i]? with | .d x,.d (.int k),some (some (.l xs))=>_|_,_,_=>none)=((q.2[i]?).join.bind _);cases q.2[i]? with
    | none=>rfl
    | some o=>
     cases o with
     | none=>rfl
     | some w=>cases w<;>rfl
   | _=>rfl
  | l=>rfl
  | t=>rfl
  | k=>rfl
 | l=>rfl
 | t=>rfl
 | k=>rfl
theorem Wa:ix md my ρ=(md ρ).bind λp=>(my p.2).bind λq=>(p.1.get q.2).bind λu=>(q.1.get q.2).bind λy=>(l6 u y).bind λo=>o.bind λd=>some (.u (.d d),q.2):=rfl
theorem YZ:kI ρ=some (.u (.t []),ρ):=rfl
def Cc(x:D):Ar×En->En
 | (.s i,ρ)=>ρ.set i (some (.d x))
 | (.u _,ρ)=>ρ
theorem zBc:dA me ρ=(me ρ).bind λp=>(p.1.get p.2).bind λu=>u.fz.bind λx=>some (.u (.d x),Cc x p):=by
 unfold dA;congr 1; funext p; congr 1; funext u; congr 1; funext x;obtain⟨a,aw⟩:=p;cases a<;>rfl
theorem Vt:Cc x (.s i,ρ)=ρ.set i (some (.d x)):=rfl
theorem Vs:Cc x (.u u,ρ)=ρ:=rfl
theorem zBd:U.fz (.d x)=some x:=rfl
theorem zBe{xs:Qa D}:U.fz (.l xs)=some (.list xs):=rfl
theorem zBf{kvs:Qa (Qa Key×D)}:U.fz (.t kvs)=some (.dict (kvs.map λp=>(jL p.1,p.2))):=rfl
theorem zBg{g:U->Qb (Qa D)}:cq g me ρ=(me ρ).bind λp=>(p.1.get p.2).bind λu=>(g u).bind λds=>some (ds,p.2):=rfl
theorem YY{xs:Qa D}:yF (.d (.list xs))=some xs:=rfl
theorem YX{xs:Qa D}:jo (.d (.tuple xs))=some xs:=rfl
theorem zoH{kvs:Qa (D×D)}:kD (.d (.dict kvs))=if jG kvs=true then some (kvs.map (·.1))else none:=rfl
def yO:Qa U->Qb (Qa D)
 | [.d (.int j)]=>if -(2^62)<=j/\j < 2^62 then some (f9 0 j.toNat)else none
 | _=>none
theorem RY{n:Int}:yO [.d (.int n)]=if -(2^62)<=n/\n < 2^62 then some (f9 0 n.toNat)else none:=rfl
theorem V9:mw mA ρ=(mA ρ).bind λp=>(bw p.2 p.1).bind λus=>(yO us).bind λds=>some (ds,p.2):=bind_fn λp=>bind_fn λus=>match us with
 | []=>rfl
 | [.d (.int j)]=>by
  show(if _ then _ else _)=(if _ then _ else _:Qb (Qa D)).bind _;split<;>rfl
 | [.d .none]=>rfl
 | [.d (.bool _)]=>rfl
 | [.d (.str _)]=>rfl
 | [.d (.list _)]=>rfl
 | [.d (.tuple _)]=>rfl
 | [.d (.dict _)]=>rfl
 | [.l _]=>rfl
 | [.t _]=>rfl
 | [.k _]=>rfl
 | .d x::b::us=>by cases x<;>rfl
 | .l x::b::us=>rfl
 | .t x::b::us=>rfl
 | .k x::b::us=>rfl
theorem RW{mI:MI}{mg:MG}:cW mI mg m1 ρ=(mI ρ).bind λp=>fZ mg m1 p.1 p.2:=rfl
theorem zBh{mI:MI}{mg:MG}:iB mI nt js mg mt me ρ=(mI ρ).bind λp=>(iC nt mg mt me p.1 (eB nt js p.2) []).bind λq=>some (.u (.l q.1),back js (q.2.drop nt) p.2):=rfl
theorem zBi{f:U->Qb Int->Qb Int->Qb U}{ml mh:MO}:oE f me ml mh ρ=(me ρ).bind λp=>(ml p.2).bind λl=>(mh l.2).bind λh=>(p.1.get h.2).bind λx=>(f x l.1 h.1).bind λu=>some (.u u,h.2):=rfl
theorem Y6:sG ρ=some (none,ρ):=rfl
theorem V8:kC me ρ=(me ρ).bind λp=>(p.1.get p.2).bind λu=>u.num.bind λi=>some (some i,p.2):=bind_fn λp=>bind_fn λu=>by
 cases u with
 | d x=>cases x<;>rfl
 | l=>rfl
 | t=>rfl
 | k=>rfl
def CN:Qa U->Qb (D×D)
 | [.d x,.d y]=>some (x,y)
 | _=>none
theorem YW{y:D}:CN [.d x,.d y]=some (x,y):=rfl
theorem RV:ua i j mA ρ=(mA ρ).bind λp=>(bw p.2 p.1).bind λus=>(CN us).bind λz=>some (.nx ((p.2.set i (some (.d z.1))).set j (some (.d z.2)))):=by
 refine bind_fn λp=>bind_fn λus=>?_
 match us with
 | []=>rfl
 | [a]=>cases a<;>rfl
 | [.d x,.d y]=>rfl
 | [.d x,.l y]=>rfl
 | [.d x,.t y]=>rfl
 | [.d x,.k y]=>rfl
 | [.l x,b]=>rfl
 | [.t x,b]=>rfl
 | [.k x,b]=>rfl
 | a::b::c::us=>cases a<;>(try rfl)<;>(cases b<;>rfl)
theorem RU{mg:MG}:ub me mg ρ=(me ρ).bind λp=>(p.1.get p.2).bind λu=>u.da.bind λd=>(mg d p.2).bind λav=>some (.nx av):=by
 unfold ub;congr 1; funext p; congr 1; funext u;cases u<;>rfl
theorem YV:zy i x ρ=some (ρ.set i (some (.d x))):=rfl
theorem V7{gs:Qa D->En->Qb En}{ds:Qa D}:eZ n gs (.tuple ds) ρ=if ds.length=n then gs ds ρ else none:=rfl
theorem YU{g:MG}{gs:Qa D->En->Qb En}{ds:Qa D}:zX g gs (x::ds) ρ=(g x ρ).bind λaw=>gs ds aw:=rfl
theorem V6:fL [] ρ=some ρ:=rfl
theorem uw{c:Int->Int->Prop}{g:Int->Int->D}{a:Int}(h:c a b):m7 c g (.d (.int a)) (.d (.int b))=some (.d (g a b)):=by
 unfold m7;dsimp only;rw[if_pos h]
theorem Vr{a:Int}:cQ (.d (.int a)) (.d (.int b))=some (.d (.int (a+b))):=rfl
theorem Vq{a:Int}:kj (.d (.int a)) (.d (.int b))=some (.d (.int (a - b))):=rfl
theorem JE{a:Int}(h:um a b):ik (.d (.int a)) (.d (.int b))=some (.d (.int (a * b))):=uw h
theorem zBj{a:Int}(h:0 < b):iW (.d (.int a)) (.d (.int b))=some (.d (.int (a % b))):=uw (c:=λ_ j=>0 < j) h
theorem Em{a:Int}(h:uB a b):rS (.d (.int a)) (.d (.int b))=some (.d (.int (a / b))):=uw h
theorem uI{a:Int}(h:rV a b):pH (.d (.int a)) (.d (.int b))=some (.d (.int (a.fdiv b))):=uw h
theorem zBk{a:Int}(h:yQ a b):yH (.d (.int a)) (.d (.int b))=some (.d (.int (a^b.toNat))):=uw h
theorem zBl{a:Int}:lM (.d (.int a)) (.d (.int b))=some (.d (.bool (decide (a < b)))):=rfl
theorem zBm{a:Int}:Cs (.d (.int a)) (.d (.int b))=some (.d (.bool (decide (a<=b)))):=rfl
theorem zBn{a:Int}:yj (.d (.int a)) (.d (.int b))=some (.d (.bool (decide (b < a)))):=rfl
theorem zBo{a:Int}:Iw (.d (.int a)) (.d (.int b))=some (.d (.bool (decide (b<=a)))):=rfl
theorem Vp{a:Int}:l7 (.d (.int a))=some (.d (.int (-a))):=rfl
theorem Vo{a:Int}:rJ (.d (.int a))=some (.d (.int (if a < 0 then -a else a))):=rfl
theorem Yb{b:Bool}:uz (.d (.bool b))=some (.d (.int (if b then 1 else 0))):=rfl
theorem Ya{a:Int}:uy [.d (.int a),.d (.int b)]=some (.d (.int (if b > a then b else a))):=rfl
theorem zBp{f:U->Qb U}:f1 f [u]=f u:=rfl
theorem Vn{xs:Qa D}:cT (.l xs)=some (.d (.int xs.length)):=rfl
theorem Vm{xs:Qa D}:cT (.d (.tuple xs))=some (.d (.int xs.length)):=rfl
theorem Vl{xs:Qa D}:cT (.d (.list xs))=some (.d (.int xs.length)):=rfl
theorem zoI{xs:Qa D}:kJ (.l xs)=some (.d (.tuple xs)):=rfl
theorem Uk{xs:Qa D}{k:Int}:ba (.l xs) (.d (.int k))=(bS xs k).map .d:=rfl
theorem Uj{xs:Qa D}{k:Int}:ba (.d (.list xs)) (.d (.int k))=(bS xs k).map .d:=rfl
theorem Ui{xs:Qa D}{k:Int}:zZ (.d (.tuple xs)) (.d (.int k))=(bS xs k).map .d:=rfl
theorem Uh{xs:Qa D}{lo hi:Qb Int}:pq (.l xs) lo hi=some (.l (fV xs lo hi)):=rfl
theorem Ug{xs:Qa D}{lo hi:Qb Int}:pq (.d (.list xs)) lo hi=some (.l (fV xs lo hi)):=rfl
theorem Ue{a:Int}:bL false (.d (.int a)) (.d (.int b))=some (.d (.bool (decide (a=b)))):=by
 show some (U.d (.bool (decide (V.int a=V.int b))))=_;congr 3;exact decide_eq_decide.mpr ⟨λh=>by cases h; rfl,λh=>by rw[h]⟩
theorem Ud{a:Int}:bL true (.d (.int a)) (.d (.int b))=some (.d (.bool (!decide (a=b)))):=by
 show some (U.d (.bool (!decide (V.int a=V.int b))))=_;congr 4;exact decide_eq_decide.mpr ⟨λh=>by cases h; rfl,λh=>by rw[h]⟩
theorem Uc{a b:Str}:bL false (.d (.str a)) (.d (.str b))=some (.d (.bool (decide (a=b)))):=by
 show some (U.d (.bool (decide (V.str a=V.str b))))=_;congr 3;exact decide_eq_decide.mpr ⟨λh=>by cases h; rfl,λh=>by rw[h]⟩
def CM(pn:Qa Nat)(us:Qa U):Fl->Qb (U×Qa U)
 | .rt u ρ=>(gQ pn ρ 0 us).bind λos=>some (u,os)
 | .nx ρ=>(gQ pn ρ 0 us).bind λos=>some (.d .none,os)
 | _=>none
theorem SM{us:Qa U}:bM n pn m1 us=(m1 (sm us++List.replicate (n - us.length) none)).bind (CM pn us):=by
 exact bind_fn λf=>by cases f<;>rfl
theorem zoJ{us:Qa U}:CM pn us (.rt u ρ)=(gQ pn ρ 0 us).bind λos=>some (u,os):=rfl
theorem zlS:gQ pn ρ n []=some []:=rfl
theorem zjS{us:Qa U}:gQ pn ρ n (u::us)=(if n∈pn then(ρ[n]?).join.bind λo=>if o.own=true/\u.own=false then none else some o else if u.own=true then none else some u).bind λo=>(gQ pn ρ (n+1) us).bind λos=>some (o::os):=rfl
theorem Ub:U.own (.d x)=false:=rfl
theorem Ua{xs:Qa D}:U.own (.l xs)=true:=rfl
theorem X9:sm []=[]:=rfl
theorem zoK{us:Qa U}:sm (u::us)=some u::sm us:=rfl
theorem zBq{a:α}{xs:Qa α}:bS (a::xs) 0=some a:=by
 unfold bS dS;rw[if_pos (by decide),if_pos (by simp only[qw]; omega)];rfl
theorem zBr{a b:α}{xs:Qa α}:bS (a::b::xs) 1=some b:=by
 unfold bS dS;rw[if_pos (by decide),if_pos (by simp only[qw]; omega)];rfl
theorem zBs{a b c:α}{xs:Qa α}:bS (a::b::c::xs) 2=some c:=by
 unfold bS dS;rw[if_pos (by decide),if_pos (by simp only[qw]; omega)];rfl
theorem zBt:dS (n+1) 0=some 0:=by
 unfold dS;rw[if_pos (by decide),if_pos (by omega)];rfl
theorem zBu:dS (n+1+1) 1=some 1:=by
 unfold dS;rw[if_pos (by decide),if_pos (by omega)];rfl
theorem zBv{a:Int}(h:b.natAbs < 18446744073709551616):ik (.d (.int a)) (.d (.int b))=some (.d (.int (a * b))):=JE (.inr ⟨by omega,by omega⟩)
theorem zBw{a:Int}(h:a.natAbs < 18446744073709551616):ik (.d (.int a)) (.d (.int b))=some (.d (.int (a * b))):=JE (.inl ⟨by omega,by omega⟩)
theorem zBx{a:Int}(h:0 < b):iW (.d (.int a)) (.d (.int b))=some (.d (.int (a % b))):=zBj h
theorem zBy{a:Int}(h:0 < b)(h2:b<=340282366920938463463374607431768211456):rS (.d (.int a)) (.d (.int b))=some (.d (.int (a / b))):=Em (VL h (by omega))
theorem zBz{a:Int}(h:0<=b)(h2:b<=1000000)(h3:a.natAbs < 18446744073709551616):yH (.d (.int a)) (.d (.int b))=some (.d (.int (a^b.toNat))):=zBk ⟨h,h2,by omega⟩
theorem zl:sizeLine=16777216:=rfl
theorem zoL:reset nt ρ=List.replicate nt none++ρ.drop nt:=rfl
theorem T9:eB nt js ρ=List.replicate nt none++js.map λj=>ρ.getD j none:=rfl
def vn(j:Nat):Qa Ar->Bool
 | []=>true
 | .u _::as=>vn j as
 | .s k::as=>!decide (k=j) && vn j as
theorem El:∀ {as:Qa Ar},vn j as=!(as.any λa=>match a with | .s k=>decide (k=j) | _=>false)
 | []=>rfl
 | .u _::as=>by rw[List.any_cons]; exact El (as:=as)
 | .s k::as=>by
  unfold vn;rw[List.any_cons,El (as:=as),Bool.not_or]
def Cy:Qb U->Bool
 | some u=>!u.own
 | none=>true
theorem zoM:vn j []=true:=rfl
theorem zoN{as:Qa Ar}:gD ρ (.s j::as)=((vn j as || Cy (ρ[j]?).join) && gD ρ as):=by
 rw[R9,El];congr 1;cases ρ[j]? with
 | none=>simp[Cy]
 | some o=>
  cases o with
  | none=>simp[Cy]
  | some u=>simp[Cy,Bool.or_comm]
theorem X8{us:Qa (Qb U)}:back (j::js) (some u::us) ρ=back js us (ρ.set j (some u)):=rfl
theorem X7{us:Qa (Qb U)}:back [] us ρ=ρ:=by cases us<;>rfl
theorem Bm:∀ ks:Qa Int,kE (ks.map PyData.int)=some ks
 | []=>rfl
 | k::ks=>by show(kE (ks.map PyData.int)).bind _=_; rw[Bm ks]; rfl
theorem Ej{xs ys:Qa D}(h:xs.length+ys.length<=16777216):pz (.l xs) (.l ys)=some (.l (xs++ys)):=by
 unfold pz;dsimp only;rw[zl,if_pos h]
end
structure XT (K:qe) (tab:Qa (Str×Qa Str)) (fl:Qa Str):Prop where
 cl:∀ n ups C,tab.lookup n=some ups->XN K n C->XI K C/\∀ f∈fl,hV K C f
 is:∀ n ups C,tab.lookup n=some ups->XN K n C->∀ c C',(tab.lookup c).isSome=true->XN K c C'->PySem.W.kitOne K (.ref C) (.ref C')=some (decide (c=n) || ups.contains c)
 j0:∀ n ups C,tab.lookup n=some ups->XN K n C->PySem.W.kitOne K (.ref C) (.type "ValueError")=some (ups.contains ("ValueError":Str))
def rD(f:Str):Qa (D×D)->Qb D
 | (.str g,d)::ds=>if f=g then some d else rD f ds
 | _=>none
section
variable{f n:Str}
theorem g6.get:∀ {fs:Qa (Str×V)} {ds:Qa (D×D)} {d:D},g6 K H fs ds->rD f ds=some d->∃ v,fs.lookup f=some v/\DF K H v d
 | _,_,_,.nil,e=>by cases e
 | _,_,d,.cons (k:=k) (v:=v) (vs:=vs) h t,e=>by
  unfold rD at e;rw[List.lookup_cons];split at e
  .rename_i q
   cases e;exact⟨v,by rw[show(f==k)=true from beq_iff_eq.mpr q],h⟩
  .rename_i q
   obtain⟨w,e1,e2⟩:=g6.get t e;exact⟨w,by rw[show(f==k)=false from beq_eq_false_iff_ne.mpr q]; exact e1,e2⟩
end
section
variable{f n:Str}
end
section
variable{X:Cx}{c n:Str}
end
section
def nL:U->U->Qb U
 | .d (.str i),.d (.str j)=>if i.length+j.length<=sizeLine then some (.d (.str (i++j)))else none
 | _,_=>none
theorem AO:VO K (λx y H Q=>∃ i j,x=.str i/\y=.str j/\i.length+j.length<=sizeLine/\Q (.str (i++j)) H) nL:=by
 intro x y a b u H Q ha hb e q;unfold nL at e;split at e
 .split at e
  .rename_i i j hc
   cases e;exact⟨i,j,DF.str_inv ha,DF.str_inv hb,hc,q _ _ (b9.refl H) (DF.str _) Nw.data⟩
  .cases e
 .cases e
def rC:U->U->Qb U
 | .d (.str z),.d (.int i)=>if z.length<=sizeLine then(bS z.cps.toList i).map λc=>.d (.str ⟨#[c]⟩)else none
 | _,_=>none
theorem Ek:VO K Pe rC:=by
 intro x y a b u H Q ha hb e q;unfold rC at e;split at e
 .split at e
  .rename_i z i hc
   obtain⟨c,ec,rfl⟩:=qu.mp e;exact⟨z,i,c,DF.str_inv ha,DF.int_inv hb,hc,ec,q _ _ (b9.refl H) (DF.str _) Nw.data⟩
  .cases e
 .cases e
def B8(ty:U->Bool)(f:U->U->Qb U)(mo ma:ME):ME:=λρ=>(mo ρ).bind λp=>(p.1.get p.2).bind λx0=>if ty x0=true then(ma p.2).bind λq=>(p.1.get q.2).bind λx=>(q.1.get q.2).bind λy=>(f x y).bind λu=>some (.u u,q.2)else none
theorem Pb{r:V->Qa V->Hp->VK->Prop}{ty:U->Bool}{f:U->U->Qb U}{to:TE}{mo ma:ME}(ht:∀ (x:V) (a:U) (H:Hp),Rp K H x a->ty a=true->xh K T x H)(h:VO K (λx y H Q=>r x [y] H Q) f)
  (ho:VE K to mo) (ha:VE K ta ma):VE K (BY K T r to (mF ta pe)) (B8 ty f mo ma):=by
 intro ρ σ H a av Q rs e q;obtain⟨⟨a1,aw⟩,e1,e⟩:=bQ e;obtain⟨x0,ex0,e⟩:=bQ e;split at e
 rotate_left
 .cases e
 rename_i oH;obtain⟨⟨b1,aB⟩,e2,e⟩:=bQ e;obtain⟨x,ex,e⟩:=bQ e;obtain⟨y,ey,e⟩:=bQ e;obtain⟨u,eu,e⟩:=bQ e;cases e;refine ho ρ σ H a1 aw _ rs e1 λv1 H1 g1 k1=>⟨ht _ _ _ (k1.now rs g1 ex0) oH,ha aw σ H1 b1 aB _ g1.rs e2 λv2 H2 g2 k2=>?_⟩;refine h _ _ x y u H2 _ (k1.later rs g1 g2 ex) (k2.now g1.rs g2 ey) eu λv H3 s p n=>?_;exact q v H3 ((g1.trans g2).trans (Go.grow g2.rs s)) ⟨p,n.mono (g1.trans g2).dm⟩
def tyL:U->Bool
 | .l _=>true
 | .d (.list _)=>true
 | _=>false
def xi:U->Bool
 | .d (.str _)=>true
 | _=>false
theorem J7(x:V)(a:U)(H:Hp)(h:Rp K H x a)(e:xi a=true):xh K "str" x H:=by
 unfold xi at e;split at e
 .cases DF.str_inv h; rfl
 .cases e
def yN:D->Qb Str
 | .str x=>some x
 | _=>none
theorem FQ:∀ {us:Qa V} {ds:Qa D} {ys:Qa Str},aM K H us ds->ds.mapM yN=some ys->us=ys.map V.str
 | _,_,ys,.nil,e=>by cases e; rfl
 | _,_,ys,.cons (d:=d) h t,e=>by
  rw[List.mapM_cons]at e;obtain⟨y,e1,e⟩:=bQ e;obtain⟨nZ,e2,e⟩:=bQ e;cases e;cases d with
  | str x=>cases e1; cases DF.str_inv h; rw[FQ t e2]; rfl
  | _=>cases e1
def uu:U->U->Qb U
 | .d (.str sep),.l ds=>(ds.mapM yN).bind λys=>if(ys.map (·.length)).sum+ys.length * sep.length<=16777216 then some (.d (.str (Txt.join sep ys)))else none
 | .d (.str sep),.d (.list ds)=>(ds.mapM yN).bind λys=>if(ys.map (·.length)).sum+ys.length * sep.length<=16777216 then some (.d (.str (Txt.join sep ys)))else none
 | _,_=>none
theorem Lx:VO K (λx y H Q=>Jx K x [y] H Q) uu:=by
 intro x y a b u H Q ha hb e q;unfold uu at e;split at e
 .obtain⟨ys,ey,e⟩:=bQ e
  split at e
  .rename_i hc
   cases e;obtain⟨l,us,rfl,h1,h2⟩:=hb;cases FQ h2 ey;exact⟨_,l,ys,DF.str_inv ha,rfl,bo.of h1,hc,q _ _ (b9.refl H) (DF.str _) Nw.data⟩
  .cases e
 .obtain⟨ys,ey,e⟩:=bQ e
  split at e
  .rename_i hc
   cases e;obtain⟨l,us,rfl,h1,h2⟩:=DF.lst_inv hb;cases FQ h2 ey;exact⟨_,l,ys,DF.str_inv ha,rfl,h1.sq,hc,q _ _ (b9.refl H) (DF.str _) Nw.data⟩
  .cases e
 .cases e
def vI:D->Qb V
 | .none=>some .aN
 | .bool b=>some (.bl b)
 | .int i=>some (.int i)
 | .str x=>some (.str x)
 | _=>none
theorem Lw{w:V}{d:D}(h:DF K H v d)(e:vI d=some w):v=w/\mD w=true:=by
 cases d with
 | none=>cases e; cases h; exact⟨rfl,rfl⟩
 | bool b=>cases e; cases DF.dN h; exact⟨rfl,rfl⟩
 | int i=>cases e; cases DF.int_inv h; exact⟨rfl,rfl⟩
 | str x=>cases e; cases DF.str_inv h; exact⟨rfl,rfl⟩
 | _=>cases e
theorem Lv:∀ {us:Qa V} {ds:Qa D} {ws:Qa V},aM K H us ds->ds.mapM vI=some ws->us=ws/\ws.all mD=true
 | _,_,ws,.nil,e=>by cases e; exact⟨rfl,rfl⟩
 | _,_,ws,.cons h t,e=>by
  rw[List.mapM_cons]at e;obtain⟨y,e1,e⟩:=bQ e;obtain⟨nZ,e2,e⟩:=bQ e;cases e;obtain⟨rfl,f1⟩:=Lw h e1;obtain⟨rfl,f2⟩:=Lv t e2;exact⟨rfl,by rw[List.all_cons,f1,f2]; rfl⟩
end
def CU(K:qe)(C:Qg):Bool:=match K.lookup C with
 | some ⟨.type "type",_,.cls cd,sl⟩=>(match cd.mro,sl.toList with
  | .ref C'::bm,[_,_,_,_,some (.builtin m),_]=>C'==C && m == "ValueError.__new__" && !cd.hasDel && cd.hasDict && PySem.W.tailIn K GY bm
  | _,_=>false)
 | _=>false
def yM(K:qe)(C:Qg):Bool:=CU K C && PySem.W.findIn K (.ref C) "__getattribute__"==some (some (.builtin "BaseException.__getattribute__")) && PySem.W.findIn K (.ref C) "__getattr__"==some none &&
 PySem.W.findIn K (.ref C) "__setattr__"==some (some (.builtin "object.__setattr__")) && PySem.W.findIn K (.ref C) "__class__"==some (some (.builtin "object.__class__")) &&
 PySem.W.specialIn K (.builtin "object.__class__") "__get__"==some (some (.builtin "getset_descriptor.__get__")) && PySem.W.takesIn K (.builtin "object.__class__")==some true && PySem.W.mroIn K C (.type "object")==some true
theorem zBB{C:Qg}(q:CU K C=true):∃ nm qn N bs bm sn sub ab col dd k0 k1 k2 k3 k5,K.lookup C=some (excClassObj nm qn C N bs bm true sn sub ab col dd k0 k1 k2 k3 k5 "ValueError.__new__")/\PySem.W.tailIn K GY bm=true:=by
 unfold CU at q;split at q
 .rename_i dd cd sl ho
  split at q
  .rename_i C' bm k0 k1 k2 k3 m k5 hm hs
   simp only[Bool.and_eq_true,beq_iff_eq,Bool.not_eq_true']at q;obtain⟨⟨⟨⟨rfl,rfl⟩,ya⟩,tO⟩,ht⟩:=q;obtain⟨nm,bs,mro,ns,qn,hd,sn,sub,ab,col,del⟩:=cd;dsimp only at hm ya tO;subst hm ya tO;obtain⟨l⟩:=sl;dsimp only at hs;subst hs;exact⟨nm,qn,ns,bs,bm,sn,sub,ab,col,dd,k0,k1,k2,k3,k5,ho,ht⟩
  .cases q
 .cases q
theorem zBC{C:Qg}(q:yM K C=true):XI K C:=by
 unfold yM at q;simp only[Bool.and_eq_true,beq_iff_eq]at q;obtain⟨⟨⟨⟨⟨⟨⟨h1,h2⟩,h3⟩,h4⟩,h5⟩,h6⟩,h7⟩,h8⟩:=q;exact⟨⟨zBB h1,h2,h3,h4⟩,h5,h6,h7,h8⟩
def vU(K:qe)(n:Str):Qb Qg:=match PySem.W.nsIn K mainGlobals n with
 | some (some (.ref C))=>some C
 | _=>none
theorem Lu{n:Str}{C:Qg}(h:XN K n C):vU K n=some C:=by
 unfold vU;rw[show PySem.W.nsIn K mainGlobals n=some (some (.ref C)) from h]
def CT(K:qe)(tab:Qa (Str×Qa Str))(fl:Qa Str):Bool:=tab.all λp=>match vU K p.1 with
 | some C=>yM K C && fl.all (λf=>PySem.W.findIn K (.ref C) f==some none) && PySem.W.kitOne K (.ref C) (.type "ValueError")==some (p.2.contains ("ValueError":Str)) &&
   tab.all λp'=>match vU K p'.1 with
    | some C'=>PySem.W.kitOne K (.ref C) (.ref C')==some (decide (p'.1=p.1) || p.2.contains p'.1)
    | none=>false
 | none=>false
theorem Gf:∀ {l:Qa (Str×β)} {n:Str} {b:β},l.lookup n=some b->(n,b)∈l
 | [],_,_,e=>by cases e
 | (m,c)::l,n,b,e=>by
  rw[List.lookup_cons]at e;cases q:(n==m)with
  | true=>
   rw[q]at e;cases e;rw[beq_iff_eq.mp q];exact qq
  | false=>
   rw[q]at e;exact qp _ (Gf e)
theorem zBD(h:CT K tab fl=true):XT K tab fl:=by
 unfold CT at h;have one:∀ n ups C,tab.lookup n=some ups->XN K n C->(yM K C && fl.all (λf=>PySem.W.findIn K (.ref C) f==some none) && PySem.W.kitOne K (.ref C) (.type "ValueError")==some (ups.contains ("ValueError":Str)) &&
   tab.all λp'=>match vU K p'.1 with
    | some C'=>PySem.W.kitOne K (.ref C) (.ref C')==some (decide (p'.1=n) || ups.contains p'.1)
    | none=>false)=true:=λn ups C hn xn=>by
  have z:=ć.mp h (n,ups) (Gf hn);dsimp only at z;rw[Lu xn]at z;exact z
 refine⟨λn ups C hn xn=>?_,λn ups C hn xn c C' hc xc=>?_,λn ups C hn xn=>?_⟩
 .have z:=one n ups C hn xn
  simp only[Bool.and_eq_true]at z;refine⟨zBC z.1.1.1,λf hf=>?_⟩;exact beq_iff_eq.mp (ć.mp z.1.1.2 f hf)
 .have z:=one n ups C hn xn
  simp only[Bool.and_eq_true]at z;obtain⟨GZ,hu'⟩:=Option.isSome_iff_exists.mp hc;have y:=ć.mp z.2 (c,GZ) (Gf hu');dsimp only at y;rw[Lu xc]at y;exact beq_iff_eq.mp y
 .have z:=one n ups C hn xn
  simp only[Bool.and_eq_true]at z;exact beq_iff_eq.mp z.1.2
section
variable{X:Cx}{C:Qg}{f:Str}{p:Pos}{es:Qa Expr}{t:TA}
end
abbrev RX(α:Type):=(α×En) ⊕ (D×En)
abbrev MX:=En->Qb (RX Ar)
abbrev MXA:=En->Qb (RX (Qa Ar))
section
variable{EX:iS}{ρ av:En}{A:Qg->Prop}
def mXR(n f:Str)(ma:MA):En->Qb (D×En):=λρ=>(ma ρ).bind λp=>(bw p.2 p.1).bind λus=>(iy us).bind λds=>match ds with
 | [x]=>some (.dict [(.none,.str n),(.str f,x)],p.2)
 | _=>none
def under(tab:Qa (Str×Qa Str))(c:Str):D->Bool
 | .dict ((.none,.str n)::_)=>match tab.lookup n with|some ups=>ups.contains c|none=>false
 | _=>false
end
abbrev FX:=Qa U->Qb ((U×Qa U) ⊕ (D×Qa U))
def spX(K:qe)(n:Nat)(f:FX):Sp:=λvs H Q E=>∃ us r,us.length=n/\Rs K (sm us) (eh vs) H/\f us=some r/\match r with
 | .inl o=>∀ v H',Go K (sm us) (eh vs) H (sm o.2) H'->Rp K H' v o.1->Nw H v o.1->Q v H'
 | .inr o=>∀ a H',Go K (sm us) (eh vs) H (sm o.2) H'->H a=none->Pj K H' a o.1->E (.ref a) none H'
structure IW (P:Qe) (w:Qh) (K:qe) (mg:Str->Qb Qc) (base:Heap) (x:Str) (k:Nat) (ps:Qa Str) (sp:Sp):Prop where
 ex:∃ (f:Qg) (fd:FuncData),cD P w K mg base (CXv P w K) k f fd ps sp/\mE K fd ps []/\PySem.W.keepIn K (.ref f)=true/\mg x=some (.ref f)
section
variable{X:Cx}{EX:iS}{k:Nat}{p:Pos}{es:Qa Expr}{t:TA}
end
section
variable{EX:iS}{ρ av:En}{A:Qg->Prop}
end
section
variable{X:Cx}{C:Qg}{f:Str}{p:Pos}{es:Qa Expr}{t:TA}{EX:iS}
end
def tyD:D->Qb String
 | .none=>some "NoneType"
 | .bool _=>some "bool"
 | .int _=>some "int"
 | .str _=>some "str"
 | .tuple _=>some "tuple"
 | _=>none
def PK:U->Qb String
 | .d x=>tyD x
 | .l _=>some "list"
 | _=>none
def j0(t T:String):Bool:=t==T || (t == "bool" && T == "int")
def DO:Qa String:=["NoneType", "bool", "int", "str", "tuple", "list"]
theorem V5(K:qe):∀ t∈DO,∀ T∈["int", "bool", "str", "tuple", "list"],PySem.W.kitOne K (.type t) (.type T)=some (j0 t T):=by
 have hm:∀ T∈["int", "bool", "str", "tuple", "list"],PySem.W.kitMeta T=true:=by decide +kernel
 have hs:∀ t∈DO,∀ T∈["int", "bool", "str", "tuple", "list"],(PySem.fastBuiltinMro t).map (·.contains (Value.type T))=some (j0 t T):=by decide +kernel
 intro t ht T hT;unfold PySem.W.kitOne;split
 .rename_i q
  have e:t=T:=Value.type.inj (beq_iff_eq.mp q);subst e;unfold j0;simp
 .unfold PySem.W.kitCls PySem.W.subIn
  simp only[hm T hT,if_true];exact hs t ht T hT
def pf(T:String)(u:U):Qb U:=(PK u).bind λt=>if t∈DO/\T∈["int", "bool", "str", "tuple", "list"]then some (.d (.bool (j0 t T)))else none
section
theorem SK{u:U}{t:String}(h:Rp K H v u)(e:PK u=some t):dh K H v (.type t):=by
 cases u with
 | d x=>
  cases x with
  | none=>cases e; cases h; exact .aN
  | bool b=>cases e; cases DF.dN h; exact .bl _
  | int i=>cases e; cases DF.int_inv h; exact .int _
  | str x=>cases e; cases DF.str_inv h; exact .str _
  | tuple ds=>cases e; obtain⟨a,ys,rfl,h1,_⟩:=DF.aH h; exact .tup h1
  | list ds=>cases e
  | dict ds=>cases e
 | l xs=>cases e; obtain⟨a,us,rfl,h1,_⟩:=h; exact .lst h1
 | t kvs=>cases e
 | k kvs=>cases e
theorem DN{me:ME}(h:VE K te me):VE K (mO (Dl K) (mF te (mF (tC (.ty T)) pe))) (cp (pf T) me):=by
 intro ρ σ H a av Q rs e q;obtain⟨⟨a1,aw⟩,e1,e⟩:=bQ e;obtain⟨x,ex,e⟩:=bQ e;obtain⟨u,eu,e⟩:=bQ e;cases e;refine h ρ σ H a1 _ _ rs e1 λv1 H1 g1 k1=>?_;have p:=k1.now rs g1 ex;unfold pf at eu;obtain⟨t,et,eu⟩:=bQ eu;split at eu
 .rename_i hc
  cases eu;exact⟨v1,.type t,T,_,rfl,SK p et,V5 K t hc.1 T hc.2,q _ _ g1 ⟨DF.bl _,Nw.data⟩⟩
 .cases eu
def rB(x:D)(ds:Qa D):Qb Bool:=(vI x).bind λw=>(ds.mapM vI).bind λws=>some (Cd w ws)
def m6(neg:Bool)(a b:U):Qb U:=match a with
 | .d x=>b.items.bind λds=>(rB x ds).bind λr=>some (.d (.bool (if neg=true then !r else r)))
 | _=>none
theorem Aj(neg:Bool):VO K (xt K neg) (m6 neg):=by
 intro x y a b u H Q ha hb e q;cases a with
 | d d=>
  obtain⟨ds,e1,e⟩:=bQ (show b.items.bind _=some u from e);obtain⟨r,e2,e⟩:=bQ e;obtain⟨w,e3,e2⟩:=bQ e2;obtain⟨ws,e4,e2⟩:=bQ e2;cases e2;cases e;obtain⟨p,ys,rfl,sq,df⟩:=hb.items e1;obtain⟨rfl,f1⟩:=Lw ha e3;obtain⟨rfl,f2⟩:=Lv df e4;exact⟨p,_,rfl,sq,f1,f2,q _ _ (b9.refl H) (by cases neg<;>exact DF.bl _) Nw.data⟩
 | _=>cases e
def IG:D->Qb Bool
 | .bool b=>some b
 | _=>none
theorem Ls:∀ {us:Qa V} {ds:Qa D} {bs:Qa Bool},aM K H us ds->ds.mapM IG=some bs->us=bs.map V.bl
 | _,_,bs,.nil,e=>by cases e; rfl
 | _,_,bs,.cons (d:=d) h t,e=>by
  rw[List.mapM_cons]at e;obtain⟨y,e1,e⟩:=bQ e;obtain⟨nZ,e2,e⟩:=bQ e;cases e;cases d with
  | bool x=>cases e1; cases DF.dN h; rw[Ls t e2]; rfl
  | _=>cases e1
def t7(u:U):Qb U:=u.items.bind λds=>(ds.mapM IG).bind λbs=>some (.d (.bool (bs.all id)))
theorem ED:VC K (Po K) (f1 t7):=nu λv a u H Q h e q=>by
 obtain⟨ds,ex,e⟩:=bQ e;obtain⟨bs,eb,e⟩:=bQ e;cases e;obtain⟨p,ys,rfl,s,d⟩:=h.items ex;cases Ls d eb;exact⟨p,bs,rfl,s,q _ _ (λ_ _ z=>z) (.bl _) Nw.data⟩
def wm:U->U->Qb U
 | .d (.str z),.d (.int n)=>if 0<=n/\n<=1 then some (.d (.str (ue z n)))else none
 | _,_=>none
theorem V4:VO K (λx y H Q=>∃ z n,x=.str z/\y=.int n/\0<=n/\n<=1/\Q (.str (ue z n)) H) wm:=by
 intro x y a b u H Q ha hb e q;unfold wm at e;split at e
 .split at e
  .rename_i z n hc
   cases e;exact⟨z,n,DF.str_inv ha,DF.int_inv hb,hc.1,hc.2,q _ _ (b9.refl H) (DF.str _) Nw.data⟩
  .cases e
 .cases e
end
section
variable{X:Cx}
end
section
variable{I:Qg}{ks:Qa Key}{P:Nat->Qc->Prop}{St:Nat->Qd->Prop}
end
section
def kG(led:Bool):Obj:={cls:=.type "set",dict:=none,data:=.set #[] 0 (.fresh 0 0 led)}
end
section
variable{X:Cx}
def J6(K:qe):R2:=λx y H Q=>DY K x y H Q\/∃ a b,x=.ref a/\y=.ref b/\bt K H a []/\(∃ ys,bt K H b ys)/\Q y H
end
section
variable{X:Cx}
theorem V3{t b:Qg}{ws:Qa Qc}(ht:IsTup s.heap t #[])(hb:IsTup s.heap b ws.toArray)(h:Q (.ref b) s):wpAny (model prog w) A (binaryOp .Add (.ref t) (.ref b)) Q E s:=by
 obtain⟨⟨c1,d1,o1,s1⟩,h1,z1,n1,y1⟩:=id ht;obtain⟨⟨c2,d2,o2,s2⟩,h2,z2,n2,y2⟩:=id hb;cases(show c1=_ from z1);cases(show c2=_ from z2);cases(show o1=_ from y1);cases(show o2=_ from y2);have mt:=tuple_addW0 t b #[] ws.toArray n1 n2 d1 d2 s1 s2 rfl;exact concat_meets ⟨_,h1,rfl⟩ ⟨_,h2,rfl⟩ noFill_tuple_add seq_tuple_add PySem.F.slot_tuple_add PySem.F.entry_tuple_add (PySem.F.args_tuple_add_2 _ _) mt ⟨h1,h2,h⟩
theorem wN(hK:X.K=K:=by rfl):cv X (binaryOp .Add) (J6 K):=by
 subst hK;intro pins s σ H x y v u Q I rx ry h;rcases h with h|⟨a,b,rfl,rfl,ha,⟨ys,hb⟩,q⟩
 .exact WZ pins s σ H x y v u Q I rx ry h
 .cases rx
  cases ry;obtain⟨ah,r1,p1,_⟩:=I.tuple ha;obtain⟨dJ,r2,p2,_⟩:=I.tuple hb;cases r1;exact V3 p1 p2 ⟨.ref b,H,I,rfl,q⟩
def nQ:U->U->Qb U
 | .d (.tuple []),.d (.tuple ys)=>some (.d (.tuple ys))
 | a,b=>wo a b
theorem wM:VO K (J6 K) nQ:=by
 intro x y a b u H Q ha hb e q;unfold nQ at e;split at e
 .cases e
  obtain⟨p,us,rfl,h1,h2⟩:=DF.aH ha;obtain⟨p',gc,rfl,jc,iI⟩:=DF.aH hb;cases h2;exact .inr ⟨p,p',rfl,rfl,(aT.sq h1),⟨gc,(aT.sq jc)⟩,q _ _ (b9.refl H) hb Nw.data⟩
 .exact .inl (Vv x y _ _ u H Q ha hb e q)
end
def yw(K:qe)(g:Qg)(ns:Qa Int):Prop:=∃ (o:Obj) (ah:Array Qc) (n:Nat),K.lookup g=some o/\o.cls=.type "tuple"/\o.data=.seq ah n/\ah.size<=sizeLine/\zV (ns.map V.int) ah.toList
section
variable{X:Cx}
end
theorem nr{α:Sort _}{a b:α}(h:a=b):a=b:=h
structure Ph {α:Type} (a:α):Type where
 n:Nat
def Wo(o:Qb α)(Q:α->Prop):Prop:=∃ a,o=some a/\Q a
def Co(f:α->Qb β)(t:Ph f)(Q:β->Prop)(a:α):Prop:=Wo (f a) Q
section
variable{a:α}{o:Qb α}{f:α->Qb β}{Q:α->Prop}{R:β->Prop}
theorem eL:Wo (some a) Q=Q a:=propext ⟨λ⟨_,e,h⟩=>(by cases e; exact h),λh=>⟨a,rfl,h⟩⟩
theorem zt:Wo (o.bind f) R=Wo o (Co f ⟨0⟩ R):=propext (by
 cases o with
 | none=>exact⟨λ⟨_,e,_⟩=>(by cases e),λ⟨_,e,_⟩=>(by cases e)⟩
 | some a=>rw[eL]; exact Iff.rfl)
theorem ir{t:Ph f}:Co f t R a=Wo (f a) R:=rfl
theorem Wo.mono(h:Wo o Q){Q':α->Prop}(k:∀ a,Q a->Q' a):Wo o Q':=h.elim λa z=>⟨a,z.1,k a z.2⟩
theorem ju{c:Prop}[Decidable c]{x y:Qb α}(h:c->Wo x Q)(h':¬c->Wo y Q):Wo (if c then x else y) Q:=by
 split
 .exact h ‹_›
 .exact h' ‹_›
end
section
variable{ρ:En}{me ma mb mc mk mi md my mv mo:ME}{mA mK:MA}{mt mu:MT}{mI:MI}{mg:MG}{m1 m2:MS}{u:U}{x:D}{mx:MX}{mXA:MXA}
variable{QE:Ar×En->Prop}{QA:Qa Ar×En->Prop}{QT:Bool×En->Prop}{QS:Fl->Prop}{QI:Qa D×En->Prop}{QO:Qb Int×En->Prop}{QG:En->Prop}{QX:RX Ar->Prop}{QXA:RX (Qa Ar)->Prop}{QR:D×En->Prop}{QF:U×Qa U->Prop}{QFX:(U×Qa U) ⊕ (D×Qa U)->Prop}
theorem LD:Wo (zi i ρ) QE=Wo (ρ[i]?).join (Co (λ_=>some (.s i,ρ)) ⟨0⟩ QE):=by rw[Sf,zt]
theorem Jb:Wo (mC x ρ) QE=QE (.u (.d x),ρ):=by rw[zCl,eL]
def yL(f:U->U->Qb U)(a:Ar)(q:Ar×En):Qb (Ar×En):=(a.get q.2).bind λx=>(q.1.get q.2).bind λy=>(f x y).bind λu=>some (.u u,q.2)
def Hy(f:U->U->Qb U)(mb:ME)(p:Ar×En):Qb (Ar×En):=(mb p.2).bind (yL f p.1)
theorem T8{f:U->U->Qb U}:Wo (af f ma mb ρ) QE=Wo (ma ρ) (Co (Hy f mb) ⟨0⟩ QE):=by rw[zA4,zt]; rfl
theorem X6{f:U->U->Qb U}{p:Ar×En}:Wo (Hy f mb p) QE=Wo (mb p.2) (Co (yL f p.1) ⟨0⟩ QE):=by unfold Hy; rw[zt]
theorem zBE{f:U->Qb U}:Wo (cp f ma ρ) QE=Wo (ma ρ) (Co (λp=>(p.1.get p.2).bind λx=>(f x).bind λu=>some (.u u,p.2)) ⟨0⟩ QE):=by rw[zA5,zt]
theorem LC:Wo (zq ρ) QA=QA ([],ρ):=by rw[Se,eL]
theorem V2:Wo (zf me mA ρ) QA=Wo (me ρ) (Co (λp=>(mA p.2).bind λq=>some (p.1::q.1,q.2)) ⟨0⟩ QA):=by rw[Vu,zt]
theorem X5:Wo (bY mA ρ) QE=Wo (mA ρ) (Co (λp=>(bw p.2 p.1).bind λus=>(iy us).bind λds=>if ds.length<=sizeLine then some (.u (.d (.tuple ds)),p.2)else none) ⟨0⟩ QE):=by rw[Sd,zt]
theorem X4:Wo (fK mA ρ) QE=Wo (mA ρ) (Co (λp=>(bw p.2 p.1).bind λus=>(iy us).bind λds=>if ds.length<=sizeLine then some (.u (.l ds),p.2)else none) ⟨0⟩ QE):=by rw[Sb,zt]
theorem zBF{f:Qa U->Qb U}:Wo (aY f mA ρ) QE=Wo (mA ρ) (Co (λp=>(bw p.2 p.1).bind λus=>(f us).bind λu=>some (.u u,p.2)) ⟨0⟩ QE):=by rw[zA6,zt]
theorem SJ{f:FD}:Wo (zR f mA ρ) QE=Wo (mA ρ) (Co (λp=>if gD p.2 p.1=true then(bw p.2 p.1).bind λus=>(f us).bind λo=>some (.u o.1,wb p.2 p.1 o.2)else none) ⟨0⟩ QE):=by rw[Sa,zt]
theorem X3:Wo (zD m1 m2 ρ) QS=Wo (m1 ρ) (Co (kr m2) ⟨0⟩ QS):=by rw[R8,zt]
theorem SH:Wo (zU i me ρ) QS=Wo (me ρ) (Co (λp=>(put p).bind λq=>some (.nx (q.2.set i (some q.1)))) ⟨0⟩ QS):=by rw[R7,zt]
theorem X2:Wo (bB me ρ) QS=Wo (me ρ) (Co (λp=>(put p).bind λq=>some (.rt q.1 q.2)) ⟨0⟩ QS):=by rw[R6,zt]
theorem zoV:Wo (jV pn i ρ) QS=Wo (if i∈pn then none else(ρ[i]?).join.bind λu=>some (.rt u (ρ.set i none))) QS:=by rw[Wf]
theorem Mw:Wo (cO ρ) QS=QS (.nx ρ):=by rw[We,eL]
theorem V1:Wo (cN me ρ) QS=Wo (me ρ) (Co (λp=>some (.nx p.2)) ⟨0⟩ QS):=by rw[Wd,zt]
theorem SG:Wo (br mt m1 m2 ρ) QS=Wo (mt ρ) (Co (λp=>if p.1=true then m1 p.2 else m2 p.2) ⟨0⟩ QS):=by rw[R5,zt]
theorem zCn:Wo (mB me ρ) QT=Wo (me ρ) (Co (λp=>(p.1.get p.2).bind λu=>u.yo.bind λb=>some (b,p.2)) ⟨0⟩ QT):=by rw[zCm,zt]
theorem X0:Wo (vX mt mu ρ) QT=Wo (mt ρ) (Co (λp=>if p.1=true then mu p.2 else some (false,p.2)) ⟨0⟩ QT):=by rw[R4,zt]
theorem T7:Wo (mS mt mu ρ) QT=Wo (mt ρ) (Co (λp=>if p.1=true then some (true,p.2)else mu p.2) ⟨0⟩ QT):=by rw[zA9,zt]
theorem XZ:Wo (rG mt ρ) QT=Wo (mt ρ) (Co (λp=>some (!p.1,p.2)) ⟨0⟩ QT):=by rw[R3,zt]
theorem zoW:Wo (Ag ma mb ρ) QE=Wo (mB ma ρ) (Co (λp=>if p.1=true then mb p.2 else some (.u (.d (.bool false)),p.2)) ⟨0⟩ QE):=by rw[Wc,zt]
theorem zoX:Wo (Af ma ρ) QE=Wo (mB ma ρ) (Co (λp=>some (.u (.d (.bool (!p.1))),p.2)) ⟨0⟩ QE):=by rw[Wb,zt]
theorem XY:Wo (yG ma ρ) QT=Wo (ma ρ) (Co (λp=>(p.1.get p.2).bind λu=>u.xk.bind λb=>some (b,p.2)) ⟨0⟩ QT):=by rw[R1,zt]
theorem XX:Wo (iU ρ) QT=QT (true,ρ):=by rw[R0,eL]
theorem XW:Wo (cJ i me ρ) QE=Wo (ρ[i]?).join (Co (λw=>w.lo.bind λ_=>(me ρ).bind λp=>(p.1.get p.2).bind λu=>u.da.bind λx=>(p.2[i]?).join.bind λw=>w.lo.bind λxs=>if xs.length < sizeLine then some (.u (.d .none),p.2.set i (some (.l (xs++[x]))))else none) ⟨0⟩ QE):=by rw[RZ,zt]
theorem zlV:Wo (sv i me mi ρ) QS=Wo (ρ[i]?).join (Co (λ_=>(me ρ).bind λp=>(mi p.2).bind λq=>(p.1.get q.2).bind λu=>(q.1.get q.2).bind λw=>u.da.bind λx=>w.num.bind λk=>(q.2[i]?).join.bind λz=>z.lo.bind λxs=>(dS xs.length k).bind λj=>some (.nx (q.2.set i (some (.l (xs.set j x)))))) ⟨0⟩ QS):=by rw[Y0,zt]
def wk(w:U)(y x:D):Qb U:=match w with
 | .t kvs=>(dI y).bind λk=>if kvs.length < sizeLine then some (.t (jn kvs k x))else none
 | .k kvs=>(rF y).bind λk=>if kvs.length < sizeLine then some (.k (jn kvs k x))else none
 | _=>none
theorem V0:jU i my mv ρ=(ρ[i]?).join.bind λ_=>(mv ρ).bind λp=>(my p.2).bind λq=>(p.1.get q.2).bind λx=>(q.1.get q.2).bind λy=>x.da.bind λx=>y.da.bind λy=>(q.2[i]?).join.bind λw=>(wk w y x).bind λz=>some (.nx (q.2.set i (some z))):=by
 unfold jU;refine bind_fn λ_=>bind_fn λp=>bind_fn λq=>bind_fn λx=>bind_fn λy=>?_;cases x with
 | l=>rfl
 | t=>rfl
 | k=>rfl
 | d x=>
  cases y with
  | l=>rfl
  | t=>rfl
  | k=>rfl
  | d y=>
   show _=((q.2[i]?).join.bind _);cases q.2[i]? with
   | none=>rfl
   | some o=>
    cases o with
    | none=>rfl
    | some w=>
     cases w with
     | l=>rfl
     | d=>rfl
     | t kvs=>
      show(dI y).bind _=((dI y).bind _).bind _;cases dI y with
      | none=>rfl
      | some k=>
       show(if _ then _ else _)=(if _ then _ else _:Qb U).bind _;split<;>rfl
     | k kvs=>
      show(rF y).bind _=((rF y).bind _).bind _;cases rF y with
      | none=>rfl
      | some k=>
       show(if _ then _ else _)=(if _ then _ else _:Qb U).bind _;split<;>rfl
theorem zoY:Wo (jU i my mv ρ) QS=Wo (ρ[i]?).join (Co (λ_=>(mv ρ).bind λp=>(my p.2).bind λq=>(p.1.get q.2).bind λx=>(q.1.get q.2).bind λy=>x.da.bind λx=>y.da.bind λy=>(q.2[i]?).join.bind λw=>(wk w y x).bind λz=>some (.nx (q.2.set i (some z)))) ⟨0⟩ QS):=by rw[V0,zt]
theorem Z9:Wo (ix md my ρ) QE=Wo (md ρ) (Co (λp=>(my p.2).bind λq=>(p.1.get q.2).bind λu=>(q.1.get q.2).bind λy=>(l6 u y).bind λo=>o.bind λd=>some (.u (.d d),q.2)) ⟨0⟩ QE):=by rw[Wa,zt]
theorem zlX:Wo (kI ρ) QE=QE (.u (.t []),ρ):=by rw[YZ,eL]
theorem T6:Wo (dA me ρ) QE=Wo (me ρ) (Co (λp=>(p.1.get p.2).bind λu=>u.fz.bind λx=>some (.u (.d x),Cc x p)) ⟨0⟩ QE):=by rw[zBc,zt]
theorem T5{g:U->Qb (Qa D)}:Wo (cq g me ρ) QI=Wo (me ρ) (Co (λp=>(p.1.get p.2).bind λu=>(g u).bind λds=>some (ds,p.2)) ⟨0⟩ QI):=by rw[zBg,zt]
theorem T4{n:Int}(h:-4611686018427387904<=n)(h2:n < 4611686018427387904):yO [.d (.int n)]=some (f9 0 n.toNat):=by rw[RY,if_pos ⟨by omega,by omega⟩]
theorem zo0:Wo (mw mA ρ) QI=Wo (mA ρ) (Co (λp=>(bw p.2 p.1).bind λus=>(yO us).bind λds=>some (ds,p.2)) ⟨0⟩ QI):=by rw[V9,zt]
def CS:Qa U->Qb (Qa D)
 | [.d (.int i),.d (.int j)]=>if -(2^62)<=i/\i < 2^62/\-(2^62)<=j/\j < 2^62 then some (f9 i (j - i).toNat)else none
 | _=>none
theorem T3{a:Int}(h:-4611686018427387904<=a)(h2:a < 4611686018427387904)(h3:-4611686018427387904<=b)(h4:b < 4611686018427387904):CS [.d (.int a),.d (.int b)]=some (f9 a (b - a).toNat):=by
 show(if _ then _ else _)=_;rw[if_pos ⟨by omega,by omega,by omega,by omega⟩]
theorem VZ:Ad mA ρ=(mA ρ).bind λp=>(bw p.2 p.1).bind λus=>(CS us).bind λds=>some (ds,p.2):=bind_fn λp=>bind_fn λus=>by
 match us with
 | []=>rfl
 | [.d (.int i),.d (.int j)]=>
  show(if _ then _ else _)=(if _ then _ else _:Qb (Qa D)).bind _;split<;>rfl
 | [.d x]=>cases x<;>rfl
 | [.l _]=>rfl
 | [.t _]=>rfl
 | [.k _]=>rfl
 | [.d x,.d y]=>cases x<;>(try rfl)<;>(cases y<;>(try rfl)<;>(show(if _ then _ else _)=(if _ then _ else _:Qb (Qa D)).bind _; split<;>rfl))
 | [.d x,.l y]=>cases x<;>rfl
 | [.d x,.t y]=>cases x<;>rfl
 | [.d x,.k y]=>cases x<;>rfl
 | [.l _,_]=>rfl
 | [.t _,_]=>rfl
 | [.k _,_]=>rfl
 | a::b::c::us=>
  cases a with
  | d x=>cases x<;>(try rfl)<;>(cases b with
   | d y=>cases y<;>rfl
   | l=>rfl
   | t=>rfl
   | k=>rfl)
  | l=>rfl
  | t=>rfl
  | k=>rfl
theorem zo1:Wo (Ad mA ρ) QI=Wo (mA ρ) (Co (λp=>(bw p.2 p.1).bind λus=>(CS us).bind λds=>some (ds,p.2)) ⟨0⟩ QI):=by rw[VZ,zt]
def DM:Qa U->Qb (Qa D)
 | [.d (.tuple ds)]=>some (sN 0 ds)
 | _=>none
theorem zo2{ds:Qa D}:DM [.d (.tuple ds)]=some (sN 0 ds):=rfl
theorem VY:Ac mA ρ=(mA ρ).bind λp=>(bw p.2 p.1).bind λus=>(DM us).bind λds=>some (ds,p.2):=bind_fn λp=>bind_fn λus=>by
 match us with
 | []=>rfl
 | [.d x]=>cases x<;>rfl
 | [.l _]=>rfl
 | [.t _]=>rfl
 | [.k _]=>rfl
 | .d x::b::us=>cases x<;>rfl
 | .l x::b::us=>rfl
 | .t x::b::us=>rfl
 | .k x::b::us=>rfl
theorem zo3:Wo (Ac mA ρ) QI=Wo (mA ρ) (Co (λp=>(bw p.2 p.1).bind λus=>(DM us).bind λds=>some (ds,p.2)) ⟨0⟩ QI):=by rw[VY,zt]
theorem XU:Wo (cW mI mg m1 ρ) QS=Wo (mI ρ) (Co (λp=>fZ mg m1 p.1 p.2) ⟨0⟩ QS):=by rw[RW,zt]
theorem XS:Wo (iB mI nt js mg mt me ρ) QE=Wo (mI ρ) (Co (λp=>(iC nt mg mt me p.1 (eB nt js p.2) []).bind λq=>some (.u (.l q.1),back js (q.2.drop nt) p.2)) ⟨0⟩ QE):=by rw[zBh,zt]
theorem T2{f:U->Qb Int->Qb Int->Qb U}{ml mh:MO}:Wo (oE f me ml mh ρ) QE=Wo (me ρ) (Co (λp=>(ml p.2).bind λl=>(mh l.2).bind λh=>(p.1.get h.2).bind λx=>(f x l.1 h.1).bind λu=>some (.u u,h.2)) ⟨0⟩ QE):=by rw[zBi,zt]
theorem zjU:Wo (sG ρ) QO=QO (none,ρ):=by rw[Y6,eL]
theorem zo4:Wo (kC me ρ) QO=Wo (me ρ) (Co (λp=>(p.1.get p.2).bind λu=>u.num.bind λi=>some (some i,p.2)) ⟨0⟩ QO):=by rw[V8,zt]
theorem XR:Wo (ua i j mA ρ) QS=Wo (mA ρ) (Co (λp=>(bw p.2 p.1).bind λus=>(CN us).bind λz=>some (.nx ((p.2.set i (some (.d z.1))).set j (some (.d z.2))))) ⟨0⟩ QS):=by rw[RV,zt]
theorem XQ:Wo (ub me mg ρ) QS=Wo (me ρ) (Co (λp=>(p.1.get p.2).bind λu=>u.da.bind λd=>(mg d p.2).bind λav=>some (.nx av)) ⟨0⟩ QS):=by rw[RU,zt]
theorem zlY:Wo (zy i x ρ) QG=QG (ρ.set i (some (.d x))):=by rw[YV,eL]
theorem zo5{gs:Qa D->En->Qb En}{ds:Qa D}:Wo (eZ n gs (.tuple ds) ρ) QG=Wo (if ds.length=n then gs ds ρ else none) QG:=by rw[V7]
theorem zlZ{g:MG}{gs:Qa D->En->Qb En}{ds:Qa D}:Wo (zX g gs (x::ds) ρ) QG=Wo (g x ρ) (Co (λaw=>gs ds aw) ⟨0⟩ QG):=by rw[YU,zt]
theorem zo6:Wo (fL [] ρ) QG=QG ρ:=by rw[V6,eL]
theorem T1{ty:U->Bool}{f:U->U->Qb U}:Wo (B8 ty f mo ma ρ) QE=Wo (mo ρ) (Co (λp=>(p.1.get p.2).bind λx0=>if ty x0=true then(ma p.2).bind λq=>(p.1.get q.2).bind λx=>(q.1.get q.2).bind λy=>(f x y).bind λu=>some (.u u,q.2)else none) ⟨0⟩ QE):=by
 show Wo (Option.bind _ _) QE=_;rw[zt]
theorem TZ{z:Str}:xi (.d (.str z))=true:=rfl
def x1:Qa D->Qb D
 | [x]=>some x
 | _=>none
theorem XM{us:Qa U}:Wo (bM n pn m1 us) QF=Wo (m1 (sm us++List.replicate (n - us.length) none)) (Co (CM pn us) ⟨0⟩ QF):=by rw[SM,zt]
def nK(Q:Fl->Prop)(P:En->Prop):Fl->Prop
 | .nx ρ=>P ρ
 | .ct ρ=>P ρ
 | .bk ρ=>Q (.nx ρ)
 | .rt u ρ=>Q (.rt u ρ)
 | .ex x ρ=>Q (.ex x ρ)
theorem zl0{Q:Fl->Prop}{P:En->Prop}:nK Q P (.nx ρ)=P ρ:=rfl
theorem zl1{Q:Fl->Prop}{P:En->Prop}:nK Q P (.ct ρ)=P ρ:=rfl
theorem nW{Q:Fl->Prop}(P:Nat->En->Prop){ds:Qa D}(h0:P 0 ρ)(st:∀ i d ρ,ds[i]?=some d->P i ρ->Wo (mg d ρ) (Co m1 ⟨0⟩ (nK Q (P (i+1)))))(hQ:∀ ρ,P ds.length ρ->Q (.nx ρ)):Wo (fZ mg m1 ds ρ) Q:=by
 have main:∀ (es:Qa D) (n:Nat) (ρ:En),n+es.length=ds.length->(∀ i,es[i]?=ds[n+i]?)->P n ρ->Wo (fZ mg m1 es ρ) Q:=by
  intro es
  induction es with
  | nil=>
   intro n ρ hn _ hp;show Wo (some _) Q;rw[eL];rw[List.length_nil,Nat.add_zero]at hn;exact hQ ρ (hn▸hp)
  | cons d es ih=>
   intro n ρ hn he hp;have e0:=he 0;rw[List.getElem?_cons_zero,Nat.add_zero]at e0;obtain⟨aw,e1,f,e2,k⟩:=st n d ρ e0.symm hp;have i6:∀ aB,P (n+1) aB->Wo (fZ mg m1 es aB) Q:=λaB z=>ih (n+1) aB (by rw[qw]at hn; omega) (λi=>by
    have:=he (i+1);rw[List.getElem?_cons_succ]at this;rw[this,show n+(i+1)=n+1+i by omega]) z
   unfold fZ;rw[zt];refine⟨aw,e1,?_⟩;rw[ir,zt];refine⟨f,e2,?_⟩;rw[ir];cases f with
   | nx aB=>exact i6 aB k
   | ct aB=>exact i6 aB k
   | bk aB=>exact⟨_,rfl,k⟩
   | rt u aB=>exact⟨_,rfl,k⟩
   | ex x aB=>exact⟨_,rfl,k⟩
 exact main ds 0 ρ (by omega) (λi=>by rw[Nat.zero_add]) h0
theorem jA{g:α->D}{Q:Fl->Prop}(P:Qa α->Qa α->En->Prop)(h0:P [] as ρ)(st:∀ bs a cs ρ,as=bs++a::cs->P bs (a::cs) ρ->Wo (mg (g a) ρ) (Co m1 ⟨0⟩ (nK Q (P (bs++[a]) cs))))(hQ:∀ ρ,P as [] ρ->Q (.nx ρ)):Wo (fZ mg m1 (as.map g) ρ) Q:=by
 have main:∀ (cs bs:Qa α) (ρ:En),as=bs++cs->P bs cs ρ->Wo (fZ mg m1 (cs.map g) ρ) Q:=by
  intro cs
  induction cs with
  | nil=>
   intro bs ρ e hp;rw[List.append_nil]at e;subst e;exact⟨_,rfl,hQ ρ hp⟩
  | cons a cs ih=>
   intro bs ρ e hp;obtain⟨aw,e1,f,e2,k⟩:=st bs a cs ρ e hp;have i6:∀ aB,P (bs++[a]) cs aB->Wo (fZ mg m1 (cs.map g) aB) Q:=λaB z=>ih (bs++[a]) aB (by rw[e,List.append_assoc]; rfl) z;rw[List.map_cons];unfold fZ;rw[zt];refine⟨aw,e1,?_⟩;rw[ir,zt];refine⟨f,e2,?_⟩;rw[ir];cases f with
   | nx aB=>exact i6 aB k
   | ct aB=>exact i6 aB k
   | bk aB=>exact⟨_,rfl,k⟩
   | rt u aB=>exact⟨_,rfl,k⟩
   | ex x aB=>exact⟨_,rfl,k⟩
 exact main as [] ρ rfl h0
def vz(nt:Nat)(me:ME)(ys:Qa D)(P:En->Qa D->Prop)(p:Bool×En):Prop:=if p.1=true then Wo (me p.2) (Co (λq=>(q.1.get q.2).bind λu=>u.da.bind λy=>some (reset nt q.2,ys++[y])) ⟨0⟩ λz=>P z.1 z.2)else P (reset nt p.2) ys
theorem Ke{ys:Qa D}{P:En->Qa D->Prop}:vz nt me ys P (true,ρ)=Wo (me ρ) (Co (λq=>(q.1.get q.2).bind λu=>u.da.bind λy=>some (reset nt q.2,ys++[y])) ⟨0⟩ λz=>P z.1 z.2):=rfl
theorem TY{ys:Qa D}{P:En->Qa D->Prop}:vz nt me ys P (false,ρ)=P (reset nt ρ) ys:=rfl
theorem Jd{Q:Qa D×En->Prop}(P:Nat->En->Qa D->Prop){ds:Qa D}(hz:ds.length<=sizeLine)(hP:∀ i ρ ys,P i ρ ys->ys.length<=i)(h0:P 0 ρ [])(st:∀ i d ρ ys,ds[i]?=some d->P i ρ ys->Wo (mg d ρ) (Co mt ⟨0⟩ (vz nt me ys (P (i+1)))))(hQ:∀ ρ ys,P ds.length ρ ys->Q (ys,ρ)):Wo (iC nt mg mt me ds ρ []) Q:=by
 have main:∀ (es:Qa D) (n:Nat) (ρ:En) (ys:Qa D),n+es.length=ds.length->(∀ i,es[i]?=ds[n+i]?)->P n ρ ys->Wo (iC nt mg mt me es ρ ys) Q:=by
  intro es
  induction es with
  | nil=>
   intro n ρ ys hn _ hp;rw[List.length_nil,Nat.add_zero]at hn;exact⟨_,rfl,hQ ρ ys (hn▸hp)⟩
  | cons d es ih=>
   intro n ρ ys hn he hp;have e0:=he 0;rw[List.getElem?_cons_zero,Nat.add_zero]at e0;obtain⟨aw,e1,⟨b,aB⟩,e2,k⟩:=st n d ρ ys e0.symm hp;have hl:=hP _ _ _ hp;rw[qw]at hn;have i6:∀ aB BQ,P (n+1) aB BQ->Wo (iC nt mg mt me es aB BQ) Q:=λaB BQ z=>ih (n+1) aB BQ (by omega) (λi=>by
    have:=he (i+1);rw[List.getElem?_cons_succ]at this;rw[this,show n+(i+1)=n+1+i by omega]) z
   unfold iC;rw[if_pos (by omega),zt];refine⟨aw,e1,?_⟩;rw[ir,zt];refine⟨_,e2,?_⟩;rw[ir];cases b with
   | false=>rw[if_neg qh]; exact i6 _ _ k
   | true=>
    rw[if_pos rfl,zt];obtain⟨q,e3,k⟩:=k;refine⟨q,e3,?_⟩;rw[ir,zt]at k ⊢;obtain⟨u,e4,k⟩:=k;refine⟨u,e4,?_⟩;rw[ir,zt]at k;obtain⟨y,e5,z,e6,k⟩:=k;cases u with
    | d y'=>cases e5; cases e6; exact i6 _ _ k
    | l=>cases e5
    | t=>cases e5
    | k=>cases e5
 exact main ds 0 ρ [] (by omega) (λi=>by rw[Nat.zero_add]) h0
theorem Mr{Q:Fl->Prop}(P:Nat->En->Prop)(k:Nat)(h0:P k ρ)(st:∀ k ρ,P k ρ->Wo (mt ρ) λp=>if p.1=true then Wo (m1 p.2) (nK Q λav=>∃ k',k' < k/\P k' av)else Q (.nx p.2)):Wo (sA mt m1 ρ) Q:=by
 have main:∀ (k:Nat) (ρ:En),P k ρ->∃ n f,gR mt m1 n ρ=some f/\Q f:=by
  intro k
  induction k using Nat.strongRecOn with
  | ind k ih=>
   intro ρ hp;obtain⟨⟨b,aw⟩,e1,z⟩:=st k ρ hp;cases b with
   | false=>
    rw[if_neg qh]at z;exact⟨1,_,by unfold gR; rw[e1]; rfl,z⟩
   | true=>
    rw[if_pos rfl]at z;obtain⟨f,e2,z⟩:=z;have i6:∀ aB,(∃ k',k' < k/\P k' aB)->f=.nx aB\/f=.ct aB->∃ n f,gR mt m1 n ρ=some f/\Q f:=by
     rintro aB ⟨k',hk,oJ⟩ hf;obtain⟨n,f',e3,q⟩:=ih k' hk aB oJ;refine⟨n+1,f',?_,q⟩;unfold gR;rw[e1,bd,if_pos rfl,e2,bd];rcases hf with rfl|rfl<;>exact e3
    cases f with
    | nx aB=>exact i6 aB z (.inl rfl)
    | ct aB=>exact i6 aB z (.inr rfl)
    | bk aB=>exact⟨1,_,by unfold gR; rw[e1,bd,if_pos rfl,e2]; rfl,z⟩
    | rt u aB=>exact⟨1,_,by unfold gR; rw[e1,bd,if_pos rfl,e2]; rfl,z⟩
    | ex u aB=>exact⟨1,_,by unfold gR; rw[e1,bd,if_pos rfl,e2]; rfl,z⟩
 obtain⟨n,f,e,q⟩:=main k ρ h0;exact⟨f,YO e,q⟩
end
theorem dX{o:Qb α}{b:α}(h:Wo o (λa=>a=b)):o=some b:=by
 obtain⟨a,e,rfl⟩:=h;exact e
theorem rQ:sizeLine=16777216:=Eq.trans zl (Eq.symm (Eq.symm (Nat.add_zero _)))
theorem Ys{dc:Decidable (n < 16777216)}{a b:Qb α}(h:n < 16777216):(if n < 16777216 then a else b)=a:=if_pos h
theorem Fi{xs:Qa α}{r:Int}(h0:0<=r)(h1:r < (xs.length:Int)):∃ a,bS xs r=some a/\a∈xs/\xs[r.toNat]?=some a:=by
 have hk:r.toNat < xs.length:=by omega
 have ek:r=((r.toNat:Nat):Int):=by omega
 have q:bS xs ((r.toNat:Nat):Int)=some xs[r.toNat]:=WY (qo hk);rw[<-ek]at q;exact⟨_,q,ą hk,qo hk⟩
theorem Kd{xs:Qa D}{r:Int}{Q:U->Prop}(h0:0<=r)(h1:r < (xs.length:Int))(k:∀ a∈xs,Q (.d a)):Wo ((bS xs r).map U.d) Q:=by
 obtain⟨a,e,m,_⟩:=Fi h0 h1;rw[e];exact⟨_,rfl,k a m⟩
theorem Ax{f:α->D}{xs:Qa α}{r:Int}{Q:U->Prop}(h0:0<=r)(h1:r < (xs.length:Int))(k:∀ a∈xs,xs[r.toNat]?=some a->Q (.d (f a))):Wo ((bS (xs.map f) r).map U.d) Q:=by
 obtain⟨a,e,m,z⟩:=Fi (xs:=xs.map f) h0 (by rw[List.length_map]; exact h1);rw[List.getElem?_map]at z;obtain⟨b,hb,rfl⟩:=qu.mp z;rw[e];exact⟨_,rfl,k b (å hb) hb⟩
theorem DP{lo:Int}{d:D}(h:(f9 lo n)[i]?=some d):i < n/\d=.int (lo+(i:Nat)):=FY h
theorem Aw{lo:Int}:(f9 lo n).length=n:=by
 unfold f9;rw[List.length_map,List.length_range]
theorem Al{ρ:En}{mg:MG}{m1:MS}{Q:Fl->Prop}(P:Nat->En->Prop)(h0:P 0 ρ)(st:∀ i ρ,i < n->P i ρ->Wo (mg (.int (0+(i:Nat))) ρ) (Co m1 ⟨0⟩ (nK Q (P (i+1)))))(hQ:∀ ρ,P n ρ->Q (.nx ρ)):Wo (fZ mg m1 (f9 0 n) ρ) Q :=
 nW P h0 (λi d ρ hd hp=>by
  obtain⟨hi,rfl⟩:=DP hd;exact st i ρ hi hp) λρ hp=>hQ ρ (by rw[Aw]at hp; exact hp)
theorem LA{ρ:En}{mg:MG}{mt:MT}{me:ME}{Q:Qa D×En->Prop}(P:Nat->En->Qa D->Prop)(hz:n<=sizeLine)(h0:P 0 ρ [])(hP:∀ i ρ ys,P i ρ ys->ys.length<=i)(st:∀ i ρ ys,i < n->P i ρ ys->Wo (mg (.int (0+(i:Nat))) ρ) (Co mt ⟨0⟩ (vz nt me ys (P (i+1)))))(hQ:∀ ρ ys,P n ρ ys->Q (ys,ρ)):Wo (iC nt mg mt me (f9 0 n) ρ []) Q :=
 Jd P (by rw[Aw]; exact hz) hP h0 (λi d ρ ys hd hp=>by
  obtain⟨hi,rfl⟩:=DP hd;exact st i ρ ys hi hp) λρ ys hp=>hQ ρ ys (by rw[Aw]at hp; exact hp)
def bz(n:Nat)(z:Str):Prop:=z.length<=n/\∀ c∈z.cps.toList,c < 128
theorem bz.mono{z:Str}(h:bz n z)(hm:n<=m):bz m z:=⟨qB h.1 hm,h.2⟩
theorem bz.app{y:Str}(hx:bz n x)(hy:bz m y):bz (n+m) (x++y):=⟨by rw[PySem.Str.length_append]; have:=hx.1; have:=hy.1; omega,λc hc=>by
 rw[PySem.Str.cps_append,Array.toList_append,List.mem_append]at hc;exact hc.elim (hx.2 c) (hy.2 c)⟩
theorem bz.one{c:Nat}(h:c < 128):bz 1 ⟨#[c]⟩:=⟨qg _,λd hd=>by
 cases qr.mp hd;exact h⟩
theorem bz.join:∀ {ys:Qa Str},(∀ z∈ys,bz n z)->bz (ys.length * n) (PySem.Str.join "" ys)
 | [],_=>⟨È _,λc hc=>by cases hc⟩
 | [x],h=>(h x qq).mono (by simp)
 | x::y::r,h=>by
  have:=((h x qq).app (show bz 0 "" from⟨qg _,λc hc=>by cases hc⟩)).app (bz.join λz hz=>h z (qp _ hz));exact this.mono (by simp only[qw,Nat.add_mul]; omega)
theorem Y5{ys:Qa Str}(h:∀ z∈ys,bz n z):bz (ys.length * n) (Txt.join "" ys):=by
 show bz _ (PySem.Builtin.Str.glued "" ys);rw[PySem.StrLaws.glued_eq_join];exact bz.join h
theorem SF{y:Str}(h:x.length+y.length<=16777216):nL (.d (.str x)) (.d (.str y))=some (.d (.str (x++y))):=by
 unfold nL;dsimp only;rw[if_pos (by rw[zl]; exact h)]
theorem wz{y:Str}{Q:U->Prop}(hx:bz n x)(hy:bz m y)(hn:n+m<=1000)(k:bz (n+m) (x++y)->Q (.d (.str (x++y)))):Wo (nL (.d (.str x)) (.d (.str y))) Q:=by
 rw[SF (by have:=hx.1; have:=hy.1; omega)];exact⟨_,rfl,k (hx.app hy)⟩
theorem AN{z:Str}{r:Int}{Q:U->Prop}(h0:0<=r)(h1:r < (z.length:Int))(hz:z.length<=1000)(k:∀ c∈z.cps.toList,Q (.d (.str ⟨#[c]⟩))):Wo (rC (.d (.str z)) (.d (.int r))) Q:=by
 have hl:z.length=z.cps.toList.length:=by rw[Array.length_toList]; rfl
 obtain⟨c,e,m,_⟩:=Fi (xs:=z.cps.toList) h0 (by rw[<-hl]; exact h1);unfold rC;dsimp only;rw[if_pos (by rw[zl]; omega),e];exact⟨_,rfl,k c m⟩
theorem MB:∀ (zs:Qa Str),(zs.map PyData.str).mapM yN=some zs
 | []=>rfl
 | z::zs=>by
  rw[List.map_cons,List.mapM_cons,MB zs];rfl
theorem Mq:∀ {ys:Qa Str},(∀ z∈ys,z.length<=n)->(ys.map (·.length)).sum<=ys.length * n
 | [],_=>by simp
 | y::ys,h=>by
  have:=Mq (ys:=ys) λz hz=>h z (qp _ hz);have:=h y qq;simp only[List.map_cons,List.sum_cons,qw,Nat.add_mul];omega
theorem Lz{zs:Qa Str}{Q:U->Prop}(h:∀ z∈zs,bz n z)(hl:zs.length<=m)(hm:m * n<=1000)(k:bz (m * n) (Txt.join "" zs)->Q (.d (.str (Txt.join "" zs)))):Wo (uu (.d (.str "")) (.l (zs.map PyData.str))) Q:=by
 have h1:=Mq (n:=n) λz hz=>(h z hz).1;have h2:zs.length * n<=m * n:=Æ _ hl;unfold uu;dsimp only;rw[MB,bd,if_pos (by rw[show(("":Str)).length=0 by decide,Nat.mul_zero]; omega)];exact⟨_,rfl,k ((Y5 h).mono h2)⟩
theorem FO:∀ (zs:Qa Str),(zs.map PyData.str).mapM vI=some (zs.map V.str)
 | []=>rfl
 | z::zs=>by
  rw[List.map_cons,List.mapM_cons,FO zs];rfl
theorem Yr{xs:Qa D}{lo hi:Qb Int}:vW (.d (.tuple xs)) lo hi=some (.d (.tuple (fV xs lo hi))):=rfl
theorem Mv{xs ys:Qa D}(h:xs.length+ys.length<=16777216):nQ (.d (.tuple xs)) (.d (.tuple ys))=some (.d (.tuple (xs++ys))):=by
 cases xs with
 | nil=>rfl
 | cons x xs=>
  show wo (.d (.tuple (x::xs))) (.d (.tuple ys))=_;unfold wo;dsimp only;rw[if_pos ⟨by simp,by rw[zl]; exact h⟩]
theorem TX{i:Int}:pf "int" (.d (.int i))=some (.d (.bool true)):=rfl
theorem TV{i:Int}:pf "bool" (.d (.int i))=some (.d (.bool false)):=rfl
theorem TU{xs:Qa D}:pf "tuple" (.d (.tuple xs))=some (.d (.bool true)):=rfl
theorem Yq{a b:String}:(PySem.Str.ofString a=PySem.Str.ofString b)=(a=b):=propext ⟨λh=>by
 rw[PySem.Str.ofString_eq_toList,PySem.Str.ofString_eq_toList]at h;have h1:=congrArg (λz:Str=>z.cps.toList) h;dsimp only at h1;exact String.toList_inj.mp (List.map_inj_right (λx y e=>Char.ext (UInt32.toNat_inj.mp e)) |>.mp h1),λh=>by rw[h]⟩
theorem SE{xs:Qa D}{k:Int}(h:0<=k):fV xs none (some k)=xs.take k.toNat:=by
 have e:k=((k.toNat:Nat):Int):=by omega
 unfold fV;rw[e,HT.gf,HT.k9,List.drop_zero,Nat.sub_zero];rw[show((k.toNat:Nat):Int).toNat=k.toNat by omega];rw[Nat.min_def];split
 .rfl
 .rw[List.take_of_length_le (qg _),List.take_of_length_le (by omega)]
section
variable{X:Cx}
end
section
variable{X:Cx}
end
section
def zCx:U->Qb U
 | .d (.int i)=>if i.natAbs.log2 < 1920 then some (.d (.str (toString i)))else none
 | .d (.str z)=>if z.length<=sizeLine then some (.d (.str z))else none
 | _=>none
abbrev MJ:=En->Str->Qb (Str×En)
def U.sr:U->Qb Str
 | .d (.str z)=>some z
 | _=>none
end
section
variable{ρ:En}{me:ME}{mj:MJ}{QE:Ar×En->Prop}{QJ:Str×En->Prop}{acc z y:Str}{i:Int}
end
end L2
namespace L2
open PySem PySem.Spec PyProof.Rows PySem.NumText
abbrev ts(n:Int):Str:=PySem.Str.ofString (toString n)
end L2
namespace L2
open PySem PySem.Spec PyProof.Rows
section
variable{X:Cx}{f:Expr}{tx:TE}{k:Nat}
theorem AM(hr:aK k X.A)(ho:Wr (PE X o td))(he:Wr (PE X e ty))(hf:Wr (PE X f tx))(m:M2 X o "get" apos e f aZ):Wr (PE X (.Call (.Attribute o "get" apos) [e,f] [] aZ) (ES X.K td ty tx)):=⟨YF (wc hr) ho.run he.run hf.run m⟩
end
section
def ur:U->Bool
 | .t _=>true
 | .k _=>true
 | .d (.dict kvs)=>jG kvs
 | _=>false
theorem Yp{x:V}{u:U}(h:Rp K H x u)(e:ur u=true):∃ a,x=.ref a/\IS H a:=by
 unfold ur at e;split at e
 .obtain⟨a,ws,rfl,h1,_⟩:=h
  exact⟨a,rfl,.inr ⟨_,.inl h1⟩⟩
 .obtain⟨a,ws,rfl,h1,_⟩:=h
  exact⟨a,rfl,.inl ⟨_,.inl h1⟩⟩
 .obtain⟨a,ob,ws,rfl,h1,_⟩:=DF.cH h e
  exact⟨a,rfl,.inr ⟨_,.inr ⟨ob,h1⟩⟩⟩
 .cases e
def pL(md my mx:ME):ME:=λρ=>(md ρ).bind λp=>(p.1.get p.2).bind λu0=>if ur u0=true then(my p.2).bind λq=>(mx q.2).bind λz=>(p.1.get z.2).bind λu=>(q.1.get z.2).bind λy=>(z.1.get z.2).bind λx=>(l6 u y).bind λo=>match x with
 | .d x=>some (.u (.d (o.getD x)),z.2)
 | _=>none else none
theorem AL{tx:TE}{md my mx:ME}(hd:VE K td md)(hy:VE K ty my)(hx:VE K tx mx):VE K (ES K td ty tx) (pL md my mx):=by
 intro ρ σ H a av Q r e q;obtain⟨⟨a1,aw⟩,e1,e⟩:=bQ e;obtain⟨u0,e0,e⟩:=bQ e;split at e
 rotate_left
 .cases e
 rename_i hu0;obtain⟨⟨b1,aB⟩,e2,e⟩:=bQ e;obtain⟨⟨c1,gN⟩,e3,e⟩:=bQ e;obtain⟨u,eu,e⟩:=bQ e;obtain⟨y,ey,e⟩:=bQ e;obtain⟨x,ex,e⟩:=bQ e;obtain⟨o,eo,e⟩:=bQ e;split at e
 rotate_left
 .cases e
 cases e;refine hd ρ σ H a1 aw _ r e1 λv1 H1 g1 k1=>?_;obtain⟨b,rfl,hb⟩:=Yp (k1.now r g1 e0) hu0;refine⟨b,rfl,hb,hy aw σ H1 b1 _ _ g1.rs e2 λv2 H2 g2 k2=>hx aB σ H2 c1 _ _ g2.rs e3 λv3 H3 g3 k3=>?_⟩;obtain⟨b',eb,h⟩:=K8 (k1.later r g1 (g2.trans g3) eu) (k2.later g1.rs g2 g3 ey) eo;cases eb;have p3:=k3.now g2.rs g3 ex;rcases h with⟨w,d',rfl,g,p⟩|⟨rfl,g⟩
 .exact⟨_,g,q w H3 ((g1.trans g2).trans g3) ⟨p,Nw.data⟩⟩
 .exact⟨_,g,q v3 H3 ((g1.trans g2).trans g3) ⟨p3,Nw.data⟩⟩
end
theorem Yo:Manifest.canonical (String.map (λc=>if(c.isAlphanum || c=='_' || c=='.')=true then c else '_') "dict_itemiterator.__iter__") ++ "" = "dict_keyiterator.__iter__":=by decide +kernel
theorem Yn:entryFor table "dict_itemiterator.__iter__"=some Builtin.«dict_keyiterator.__iter__»:=entryFor_alias (by kernel_rfl) (by kernel_rfl) Yo (by kernel_rfl)
section
variable{d:Qg}{ok ov:Qc}
theorem mq{T:Qc}{vs:Array Qc}{x:Qc}{Q:Unit->Qd->Prop}(e:s.heap.get? it=some {cls:=T,data:=.fields vs})(hj:j < vs.size)
  (q:∀ h':Heap,h'.get? it=some {cls:=T,data:=.fields (vs.setIfInBounds j x)}->h'.objs.size=s.heap.objs.size->(∀ b o,b≠it->s.heap.get? b=some o->h'.get? b=some o)->Q () {s with heap:=h'}):wpAny (model prog w) A (setField (.ref it) j x) Q E s:=by
 refine wpAny_setField e rfl hj (q _ ?_ ?_ λb o hb z=>?_)
 .exact Ë _ e (Ù (Õ rfl _))
 .exact Heap.size_update ..
 .exact((É ..).2 b hb).trans z
theorem Y4{Q:Qb Qc->Qd->Prop}(k:IsItemIter s.heap it d i es.size ep ok ov)(r:g8 s.heap d es ep){x:DictEntry}(hx:es[i]?=some x)
  (q:∀ h':Heap,IsItemIterOut h' it d (i+1) es.size ep x.key x.val s.heap.objs.size->h'.get? s.heap.objs.size=some {cls:=.type "tuple",data:=.seq #[x.key,x.val]}->(∀ b o,b≠it->s.heap.get? b=some o->h'.get? b=some o)->Q (some (.ref s.heap.objs.size)) {s with heap:=h'}):wpAny (model prog w) A (pyNext (.ref it)) Q E s:=by
 have kT:s.TypeIs (.ref it) "dict_itemiterator":=⟨_,k,rfl⟩;obtain⟨o,e,_,dat⟩:=r;have jH:s.heap.objs.size≠it:=Ne.symm (ql (qj k));unfold pyNext;refine qc (wpAny_attempt (wpAny_callSpecial?_slot (name:=Str.ofString "__next__") kT Ö
  (wpAny_call_entry Ö kT F.entry_dict_itemiterator_next ?_ (F.args_dict_itemiterator_next_1 _))))
 refine qc (qd (qc (qc ?_)));refine qc (wpAny_typeNameOfWhole_itemiter kT (qd (qc (wpAny_fieldsOf k rfl ?_))));simp only[show Builtin.Dict_items.ownsTuple "dict_itemiterator"=true by decide,if_true];show wpAny _ _ (if(Value.ref d==Value.none)=true then _ else _) _ _ s;rw[if_neg (show ¬((Value.ref d==Value.none)=true) from qh)];refine qc (qd (qc (wpAny_dictEntries e dat ?_)));rw[if_neg (by simp)];refine qc (qd (qc (wpAny_dictEpoch e dat ?_)));rw[if_neg (by simp)];refine qd ?_;simp only[show ¬((i:Int) < 0) from by omega,if_false,Int.toNat_natCast,hx];refine qc (qc (wpAny_typeNameOfWhole_itemiter kT (qd (qc (wpAny_isOneOf_itemiter kT ?_)))));show wpAny _ _ (setField (.ref it) 3 (rawInt ((i:Int)+1)) >>= _) _ _ s;refine qc (mq k (by simp) λh1 k1 z1 f1=>?_);refine qc (wpAny_holding ?_);have Qj:Shared.TypeIs {s with heap:=h1} (.ref it) "dict_itemiterator":=⟨_,k1,rfl⟩;refine qc (wpAny_isOneOf_itemiter Qj ?_);show wpAny _ _ (Builtin.Dict_items.isOneOf (.ref it) _ >>= _) _ _ _;refine qc (wpAny_isOneOf_itemiter Qj ?_);show wpAny _ _ (Builtin.Dict_items.pairFromOwner (.ref it) 6 x.key x.val) _ _ _;unfold Builtin.Dict_items.pairFromOwner;simp only[newTuple];refine qc (qC ?_ (by show(2:Nat)<=sizeLine; decide));have k2:(h1.push {cls:=.type "tuple",data:=.seq #[x.key,x.val]}).get? it=_:=qf _ k1;have t2:(h1.push {cls:=.type "tuple",data:=.seq #[x.key,x.val]}).get? h1.objs.size=_:=qi _ rfl;have f2:∀ b o,b≠it->s.heap.get? b=some o->(h1.push {cls:=.type "tuple",data:=.seq #[x.key,x.val]}).get? b=some o:=λb o hb z=>qf _ (f1 b o hb z);rw[z1]at t2;show wpAny _ _ _ _ _ {s with heap:=h1.push {cls:=.type "tuple",data:=.seq #[x.key,x.val]}};generalize h1.push {cls:=.type "tuple",data:=.seq #[x.key,x.val]}=h2 at k2 t2 f2 ⊢;rw[z1];unfold Builtin.Dict_items.ownedTupleIsFree;refine qc (qc (wpAny_field k2 rfl (x:=.none) rfl (qd ?_)));show wpAny _ _ (if true=true then _ else _) _ _ _;rw[if_pos rfl];show wpAny _ _ (field (.ref it) 6 >>= _) _ _ _;refine qc (wpAny_field k2 rfl (x:=ok) rfl ?_);refine qc (wpAny_field k2 rfl (x:=ov) rfl ?_);refine qc (mq k2 (by simp) λh3 k3 z3 f3=>?_);refine qc (mq k3 (by simp) λh4 k4 z4 f4=>?_);refine qc (mq k4 (by simp) λh5 k5 z5 f5=>?_);refine qc (mq k5 (by simp) λh6 k6 z6 f6=>?_);refine qc (wpAny_letGo (qd (qd ⟨_,rfl,qd (q _ ?_ ?_ λb o hb z=>?_)⟩)))
 .show h6.get? it=_
  rw[k6];rfl
 .exact f6 _ _ jH (f5 _ _ jH (f4 _ _ jH (f3 _ _ jH t2)))
 .exact f6 b o hb (f5 b o hb (f4 b o hb (f3 b o hb (f2 b o hb z))))
theorem Ym{Q:Qb Qc->Qd->Prop}(hh:A.handled=none)(k:IsItemIter s.heap it d i es.size ep ok ov)(r:g8 s.heap d es ep)(hx:es.size<=i)
  (q:∀ h':Heap,Heap.ExtBut it s.heap h'->Q none {s with heap:=h'}):wpAny (model prog w) A (pyNext (.ref it)) Q E s:=by
 have kT:s.TypeIs (.ref it) "dict_itemiterator":=⟨_,k,rfl⟩;obtain⟨o,e,_,dat⟩:=r;unfold pyNext;refine qc (wpAny_attempt (wpAny_callSpecial?_slot (name:=Str.ofString "__next__") kT Ö
  (wpAny_call_entry Ö kT F.entry_dict_itemiterator_next ?_ (F.args_dict_itemiterator_next_1 _))))
 refine qc (qd (qc (qc ?_)));refine qc (wpAny_typeNameOfWhole_itemiter kT (qd (qc (wpAny_fieldsOf k rfl ?_))));simp only[show Builtin.Dict_items.ownsTuple "dict_itemiterator"=true by decide,if_true];show wpAny _ _ (if(Value.ref d==Value.none)=true then _ else _) _ _ s;rw[if_neg (show ¬((Value.ref d==Value.none)=true) from qh)];refine qc (qd (qc (wpAny_dictEntries e dat ?_)));rw[if_neg (by simp)];refine qc (qd (qc (wpAny_dictEpoch e dat ?_)));rw[if_neg (by simp)];refine qd ?_;simp only[show ¬((i:Int) < 0) from by omega,if_false,Int.toNat_natCast,Array.getElem?_eq_none hx];refine qc (qc (wpAny_typeNameOfWhole_itemiter kT (qd ?_)));show wpAny _ _ (setField (.ref it) 2 .none >>= _) _ _ s;refine qc (wpAny_setField k rfl (by simp) ?_);show wpAny _ _ (newExc (.type "StopIteration") [] >>= _) _ _ _;refine qc ?_;simp only[newExc,newTuple];refine qc (qC ?_ (by show(0:Nat)<=sizeLine; exact È _));refine qc (m:=firstArgMember _ _) (wpAny_of_eq (a:=Value.none) (by first|rfl | (simp only[firstArgMember]; rfl)) ?_);refine qC ?_ (by first|trivial|size_fits);simp only[raiseNew];refine qc (wpAny_handled ?_);rw[show A.in1.handled=none from hh];refine qc (qd (wpAny_throw ?_));refine qc (wpAny_isInstance (T := "StopIteration") (b:=true) ⟨_,qi _ rfl,rfl⟩ isSubtype_stop ?_);exact qd (q _ (((É ..).extBut.push _).push _))
theorem Y3(hd:(d==sysModules)=false)(r:g8 s.heap d es ep)
  (q:Q (.ref s.heap.objs.size) {s with heap:=s.heap.push {cls:=.type "dict_items",data:=.fields #[.ref d]}}):wpAny (model prog w) A (call (.builtin "dict.items") [.ref d]) Q E s:=by
 have hT:=r.typeIs;obtain⟨o,e,_,dat⟩:=r;refine wpAny_call_entry F.slot_dict_items hT F.entry_dict_items ?_ (F.args_dict_items_1 _);unfold Builtin.«dict.items» Builtin.Dict.noArgs;refine qc (qc (wpAny_notOrdered_dict hT ?_));refine qc (qd ?_);refine qc (qd (qd ?_));unfold Builtin.Dict.showsAll;rw[hd,if_neg qh];refine qc (qd ?_);unfold newFields;exact qc (qC (qd ⟨_,rfl,q⟩))
theorem ZF{v:Qg}(hv:s.heap.IsItemsView v d)(r:g8 s.heap d es ep)
  (q:∀ h':Heap,IsItemIter h' s.heap.objs.size d 0 es.size ep .none .none->(∀ b o,s.heap.get? b=some o->h'.get? b=some o)->Q (.ref s.heap.objs.size) {s with heap:=h'}):wpAny (model prog w) A (pyIter (.ref v)) Q E s:=by
 obtain⟨o,e,_,dat⟩:=r;obtain⟨o2,e2,c2,d2⟩:=id hv;have hT:=hv.typeIs (s:=s);refine wpAny_pyIter_slot hT F.slot_dict_items_iter (wpAny_call_entry F.slot_dict_items_iter hT F.entry_dict_items_iter ?_ (F.args_dict_items_iter_1 _));unfold Builtin.«dict_items.__iter__»;refine qc (qd ?_);unfold Builtin.Dict_items.dictOf;refine qc (qc (wpAny_field e2 d2 (x:=.ref d) rfl (qd ?_)));unfold Builtin.Dict_items.newIterator;refine qc (qc (wpAny_dictEntries e dat (qc (wpAny_dictEpoch e dat ?_))));unfold newFields;refine qC (qd ⟨_,rfl, "dict_itemiterator",_,⟨_,qi _ rfl,rfl⟩,Ö.lookup,?_⟩) (by rw[show Builtin.Dict_items.ownsTuple "dict_itemiterator"=true by decide,if_pos rfl]; show(8:Nat)<=sizeLine+2; decide);exact q _ (qi _ rfl) λb o z=>qf _ z
end
theorem u6{X:Cx}{o:Obj}(I:Inv X pins σ H s)(e:H a=some (.aS o (.dT kvs))):
  (a==sysModules)=false/\∃ (es:Array DictEntry) (ep:Nat),s.heap.get? a=some o/\o.ExactDict/\o.data=.dict es ep/\es.size=kvs.length/\∀ (i:Nat) (k:Qa Key) (v:V),kvs[i]?=some (k,v)->∃ (b:Qg) (x:DictEntry),es[i]?=some x/\x.key=.ref b/\aT X.K H b (k.map kV)/\zY v x.val:=by
 obtain⟨ea,z,y,xs,r,o',es,ep,h1,h2,h3,h4,h5⟩:=(show bT X.prog X.w X.K H s.heap a (.aS o (.dT kvs)) from I.aD a _ e);rw[ea]at h1;cases h1;refine⟨y,es,ep,ea,h2,h3,?_,λi k v hi=>?_⟩
 .have:=congrArg List.length h4
  rw[Array.length_toList,List.length_map,<-wX r]at this;exact this
 .obtain⟨q,hq,r1,r2,r3⟩:=Gi r i (k,v) hi
  refine⟨q.2.1,entryOfKey (tupleKind (e9 X.prog X.w)) q,?_,rfl,r2,r3⟩;have:es.toList[i]?=some (entryOfKey (tupleKind (e9 X.prog X.w)) q):=by rw[h4,List.getElem?_map,hq]; rfl
  simpa using this
def RH(K:qe)(a:Qg)(o:Obj)(kvs:Qa (Qa Key×V)):It :=
 ⟨λi H=>H a=some (.aS o (.dT kvs))/\i < kvs.length,λi H x H'=>∃ T,H T=none/\x=.ref T/\∀ k v,kvs[i]?=some (k,v)->∃ b,aT K H b (k.map kV)/\H'=upd H T (.tup [.ref b,v]),λi H=>H a=some (.aS o (.dT kvs))/\kvs.length<=i⟩
theorem znD{k:Nat}(a it:Qg)(o:Obj)(kvs:Qa (Qa Key×V))(ep:Nat)(qW:∃ es,o.data=.dict es ep):Turn P w K (.Tuple elts k pos) (RH K a o kvs) [it] it (λi h=>∃ ok ov,IsItemIter h it a i kvs.length ep ok ov) where
 mem:=by simp
 obj:=λi h st b hb=>by
  have e:b=it:=by simpa using hb
  subst e;obtain⟨ok,ov,e⟩:=st;exact⟨_,e,λv z=>by
   have z':Data.fields _=Data.cell v:=z;cases z'⟩
 keep:=λi h h' st k=>by
  obtain⟨ok,ov,e⟩:=st;exact⟨ok,ov,k it (by simp) _ e⟩
 item:=by
  intro X hP hw hK hc i pins s σ H E I hf st hg;subst hP hw hK;obtain⟨e,hi⟩:=hg;obtain⟨ok,ov,st⟩:=st;obtain⟨lJ,es,fH,ea,xd,dat,hsz,ent⟩:=u6 I e;have lP:fH=ep:=by
   obtain⟨fB,z⟩:=qW;rw[dat]at z;injection z
  subst lP;obtain⟨b,x,ex,kx,hb,rv⟩:=ent i kvs[i].1 kvs[i].2 (qo hi);refine Y4 (es:=es) (by rw[hsz]; exact st) ⟨o,ea,xd,dat⟩ ex λh1 og j0 kk=>?_;refine⟨_,rfl,wpAny_letOwnedTupleGo_items (s:={s with heap:=h1}) og λh2 jY sb=>?_⟩;have jH:s.heap.objs.size≠it:=Ne.symm (ql (qj st));have I2:Inv X pins σ H {s with heap:=h2}:=I.cY (t':=s.toks) (wr:=[it]) (λb o hb q=>(sb.2 b (by simpa using hb)).trans (kk b o (by simpa using hb) q)) hf;have fT:fU X pins H s.heap.objs.size:=I.cS (qg _) (I.aD.fresh (qg _));rw[kx]at j0;have I3:Inv X pins σ (upd H s.heap.objs.size (.tup [.ref b,kvs[i].2])) {s with heap:=h2}:=I2.kY fT I.sz ⟨by show 2<=sizeLine; decide,[.ref b,x.val],.cons rfl (.cons rv .nil),_,(sb.2 _ jH).trans j0,rfl,⟨_,rfl⟩,.inl rfl⟩;refine⟨.ref s.heap.objs.size,_,I3,rfl,⟨_,I.aD.fresh (qg _),rfl,λk v mX=>⟨b,?_,?_⟩⟩,⟨_,_,by rw[<-hsz]; exact jY⟩,λc hc=>?_⟩
  .rw[qo hi]at mX
   rw[qA mX]at hb;exact hb
  .rw[qo hi]at mX
   rw[qA mX]
  .have e:c=it:=by simpa using hc
   subst e;rw[zH (Ne.symm jH)];exact(hf c hc).1
 done:=by
  intro X hP hw hK hc i pins s σ H E I hf st hg;subst hP hw hK;obtain⟨e,hi⟩:=hg;obtain⟨ok,ov,st⟩:=st;obtain⟨lJ,es,fH,ea,xd,dat,hsz,ent⟩:=u6 I e;have lP:fH=ep:=by
   obtain⟨fB,z⟩:=qW;rw[dat]at z;injection z
  subst lP;obtain⟨f0,f1,f2,f3,f4,f5⟩:=hf it (by simp);exact Ym (es:=es) (I.ok.hd hc) (by rw[hsz]; exact st) ⟨o,ea,xd,dat⟩ (by omega) λh' eb=>⟨rfl,I.turned (t':=s.toks) (λb o hb e=>eb b o hb e) f0 f1 f3 f4 f5⟩
 self:=λ_ _ _ _ _ st h=>by
  obtain⟨ok,ov,st⟩:=st;exact wpAny_pyIter_slot ⟨_,st,rfl⟩ F.slot_dict_itemiterator_iter (wpAny_call_entry F.slot_dict_itemiterator_iter ⟨_,st,rfl⟩ Yn (qd ⟨_,rfl, "dict_itemiterator",_,⟨_,st,rfl⟩,Ö.lookup,h⟩) (F.args_dict_itemiterator_iter_1 _))
section
variable{X:Cx}{kk:Nat}
def Kc(K:qe)(td:TE):TI:=λσ H R=>td σ H λx H1=>∃ a o kvs,x=.ref a/\H1 a=some (.aS o (.dT kvs))/\R (RH K a o kvs) H1
theorem sF{d:Expr}(hd:Wr (PE X d td))(cB:attributeBase d "items" X.env (eval d X.env)=eval d X.env:=by rfl)(cz:(apos.endLine==aZ.line)=true:=by rfl):Wr (PI X (.Tuple elts kk n8) (.Call (.Attribute d "items" apos) [] [] aZ) (Kc X.K td)):=by
 refine⟨?_⟩;intro pins s σ H R I h;refine wpAny_Call_method0_late cB cz (aI (hd.run pins s σ H _ I h) λv s1 ⟨x,H1,I1,r1,q1⟩=>?_);obtain⟨a,o,kvs,rfl,e,q⟩:=q1;cases r1;obtain⟨lJ,es,ep,ea,xd,dat,hsz,_⟩:=u6 I1 e;have xr:g8 s1.heap a es ep:=⟨o,ea,xd,dat⟩;refine⟨"dict", "dict.items",F.plainAttrs_dict,F.slot_dict_items,F.type_dict_items,xr.typeIs,λb hb=>?_,í rfl (PySem.evalArgs_none (Y3 lJ xr ?_))⟩
 .cases hb
  exact⟨o,ea,xd.2.1⟩
 have I2:Inv X pins σ H1 {s1 with heap:=s1.heap.push {cls:=.type "dict_items",data:=.fields #[.ref a]}}:=I1.kept (t':=s1.toks) λb o z=>qf _ z;refine ZF (v:=s1.heap.objs.size) (s:={s1 with heap:=s1.heap.push {cls:=.type "dict_items",data:=.fields #[.ref a]}}) ⟨_,qi _ rfl,rfl,rfl⟩ ⟨o,qf _ ea,xd,dat⟩ λh' hit vw=>?_;refine⟨_,_,_,_,H1,rfl,I2.kept (t':=s1.toks) vw,znD a _ o kvs ep ⟨es,dat⟩,⟨_,_,by rw[<-hsz]; exact hit⟩,λb hb=>?_,q⟩;rw[qr.mp hb];exact I2.cS (qg _) (I2.aD.fresh (qg _))
end
def mG:U->Qb (Qa D)
 | .d (.dict kvs)=>if jG kvs=true then some (kvs.map λp=>.tuple [p.1,p.2])else none
 | _=>none
theorem Fh:∀ {ws:Qa (Qa Key×V)} {kvs:Qa (D×D)},gZ K H ws kvs->∀ {i:Nat} {p:D×D},kvs[i]?=some p->∃ k v,ws[i]?=some (k,v)/\p.1=jL k/\DF K H v p.2
 | _,_,.nil,i,p,h=>by simp at h
 | _,_,.cons hv t,0,p,h=>by cases h; exact⟨_,_,rfl,rfl,hv⟩
 | _,_,.cons hv t,i+1,p,h=>Fh t (i:=i) h
theorem Ff:∀ {ws:Qa (Qa Key×V)} {kvs:Qa (D×D)},gZ K H ws kvs->ws.length=kvs.length
 | _,_,.nil=>rfl
 | _,_,.cons hv t=>congrArg (·+1) (Ff t)
theorem sM{me:ME}(h:VE K te me):VI K (Kc K te) (cq mG me):=by
 intro ρ σ H ds av R r e q;obtain⟨⟨a,aw⟩,e1,e⟩:=bQ e;obtain⟨u,eu,e⟩:=bQ e;obtain⟨xs,ex,e⟩:=bQ e;cases e;refine h ρ σ H a _ _ r e1 λv H1 g1 k1=>?_;have p:=k1.now r g1 eu;unfold mG at ex;split at ex
 .split at ex
  rotate_left
  .cases ex
  rename_i nx;cases ex;obtain⟨b,o,ws,rfl,h1,h2⟩:=DF.cH p nx;refine⟨b,o,ws,rfl,h1,q _ _ g1 λH2 k i=>?_⟩;have jc:=k.aS _ _ _ h1;refine⟨λd ed=>?_,λei=>?_⟩
  .rw[List.getElem?_map]at ed
   obtain⟨⟨kd,vd⟩,ew,rfl⟩:=qu.mp ed;obtain⟨ks,w,eS,rfl,dv⟩:=Fh h2 ew;refine⟨⟨jc,(qm.mp eS).1⟩,λx H' y=>?_⟩;obtain⟨T,nT,rfl,y⟩:=y;obtain⟨kb,xV,rfl⟩:=y ks w eS;have sm:=zW nT (.tup [.ref kb,w]);exact⟨sm,.tup (.inl zx) (.cons (DF.kp sm.kp (.tup xV AS)) (.cons ((dv.kp k).kp sm.kp) .nil))⟩
  .rw[List.length_map,<-Ff h2]at ei
   exact⟨jc,ý ei.symm⟩
 .cases ex
abbrev uF(h:Heap)(t1:Qg):Heap:=h.push {cls:=.type "tuple_iterator",data:=.fields #[.ref t1,.int 0 0]}
abbrev wC(h:Heap)(t1 t2:Qg):Heap:=(uF h t1).push {cls:=.type "tuple_iterator",data:=.fields #[.ref t2,.int 0 0]}
abbrev uE(h:Heap)(t1 t2:Qg):Heap:=(wC h t1 t2).push {cls:=.type "tuple",data:=.seq #[.ref h.objs.size,.ref (uF h t1).objs.size]}
abbrev A5(h:Heap)(t1 t2:Qg):Heap:=(uE h t1 t2).push {cls:=.type "tuple",data:=.seq #[.none,.none]}
abbrev FU(h:Heap)(t1 t2:Qg):Heap:=(A5 h t1 t2).push {cls:=.type "zip",data:=.fields #[.none,.bool false,.bool false,.ref (wC h t1 t2).objs.size,.ref (uE h t1 t2).objs.size]}
theorem Yl(t1 t2:Qg)(xs ys:Array Qc):
  Meets (Builtin.«zip.__new__» ⟨[.type "zip",.ref t1,.ref t2],[]⟩) (λ_ R s=>s.heap.IsTuple t1 xs/\s.heap.IsTuple t2 ys/\
   R (.ok (.ret (.ref (A5 s.heap t1 t2).objs.size))) {s with heap:=FU s.heap t1 t2}):=
 .of_wp λprog w A R s h=>by
  obtain⟨hp,g,d,tk,os⟩:=s;obtain⟨h1,h2,h⟩:=h;have iI:Heap.IsTuple (uF hp t1) t2 ys:=by
   obtain⟨o,e,r⟩:=h2;exact⟨o,qf _ e,r⟩
  have xN:=sub_zip
  wp_walk using wpAny_pyIter_tuple h1,wpAny_pyIter_tuple iI
  exact⟨_,rfl,h⟩
section
variable{z TI TO i1 i2 t1 t2:Qg}{k:Nat}{xs ys:Array Qc}{x y a b:Qc}
theorem ZE{Q:Qb Qc->Qd->Prop}(ap:ZipApart z TI TO i1 i2 t1 t2)(hz:IsZip s.heap z TI TO .none)(hI:IsPair s.heap TI (.ref i1) (.ref i2))(hO:IsPair s.heap TO a b)
  (h1:s.heap.IsTupleIter i1 t1 k) (h2:s.heap.IsTupleIter i2 t2 k) (g1:s.heap.IsTuple t1 xs) (g2:s.heap.IsTuple t2 ys) (ex:xs[k]?=some x) (ey:ys[k]?=some y)
  (q:∀ h':Heap,IsZip h' z TI TO (rawInt s.heap.objs.size)->IsPair h' TO x y->h'.IsTupleIter i1 t1 (k+1)->h'.IsTupleIter i2 t2 (k+1)->IsPair h' s.heap.objs.size x y->
   (∀ c o,c≠z->c≠TO->c≠i1->c≠i2->s.heap.get? c=some o->h'.get? c=some o)->Q (some (.ref s.heap.objs.size)) {s with heap:=h'}):wpAny (model prog w) A (pyNext (.ref z)) Q E s:=by
 have kT:s.TypeIs (.ref z) "zip":=⟨_,hz,rfl⟩;unfold pyNext;refine qc (wpAny_attempt (wpAny_callSpecial?_slot (name:=Str.ofString "__next__") kT F.slot_zip_next (wpAny_call_entry F.slot_zip_next kT F.entry_zip_next ?_ (F.args_zip_next_1 _))));unfold Builtin.«zip.__next__»;refine qc (qd ?_);refine qc (wpAny_field hz rfl (x:=.bool false) rfl ?_);refine qc (wpAny_field hz rfl (x:=.ref TI) rfl ?_);refine qc (wpAny_seqItems hI rfl ?_);show wpAny _ _ (Builtin.SmallTypes.ownedTupleIsFree (.ref z) >>= _) _ _ s;unfold Builtin.SmallTypes.ownedTupleIsFree;refine qc (qc (wpAny_field hz rfl (x:=.none) rfl (qd ?_)));show wpAny _ _ (if true=true then _ else _) _ _ _;rw[if_pos rfl];refine qc (wpAny_rule (qc (wpAny_field hz rfl (x:=.ref TO) rfl ?_)));refine qc (mq hz (by simp) λha ka za fa=>?_);have QQ:IsPair ha TO a b:=fa _ _ ap.TOz hO;have yg:ha.IsTupleIter i1 t1 k:=by
  obtain⟨o,e,r⟩:=h1;exact⟨o,fa _ _ ap.i1z e,r⟩
 have Io:ha.IsTuple t1 xs:=by
  obtain⟨o,e,r⟩:=g1;exact⟨o,fa _ _ ap.l1z e,r⟩
 refine qc ?_;show wpAny _ _ (forIn [(Value.ref i1,0),(Value.ref i2,1)] (none,()) _) _ _ _;rw[List.forIn_cons];refine qc (qc (wpAny_onRaise ?_));show wpAny _ _ (Builtin.SmallTypes.nextOf (.ref i1) >>= _) _ _ _;refine qc (Gn (s:={s with heap:=ha}) yg Io ex λhb kb sb=>qd ?_);refine qc (wpAny_seqItems (s:={s with heap:=hb}) (o:=_) ((sb.2 _ ap.TOi1).trans QQ) rfl ?_);refine qc (wpAny_updateSeq_pair (s:={s with heap:=hb}) ((sb.2 _ ap.TOi1).trans QQ) λhc kc sc=>?_);refine qc (wpAny_letGo (qd ?_));show wpAny _ _ (forIn [(Value.ref i2,1)] (none,()) _) _ _ _;rw[List.forIn_cons];have lH:∀ c o,c≠z->c≠TO->c≠i1->s.heap.get? c=some o->hc.get? c=some o:=λc o n1 n2 n3 e=>(sc.2 c n2).trans ((sb.2 c n3).trans (fa c o n1 e));have h22:hc.IsTupleIter i2 t2 k:=by
  obtain⟨o,e,r⟩:=h2;exact⟨o,lH _ _ ap.i2z (Ne.symm ap.TOi2) (Ne.symm ap.i12) e,r⟩
 have g22:hc.IsTuple t2 ys:=by
  obtain⟨o,e,r⟩:=g2;exact⟨o,lH _ _ ap.l2z ap.l2TO ap.l2i1 e,r⟩
 refine qc (qc (wpAny_onRaise ?_));show wpAny _ _ (Builtin.SmallTypes.nextOf (.ref i2) >>= _) _ _ _;refine qc (Gn (s:={s with heap:=hc}) h22 g22 ey λhd kd sd=>qd ?_);have QM:IsPair hd TO x b:=(sd.2 _ ap.TOi2).trans kc;refine qc (wpAny_seqItems (s:={s with heap:=hd}) QM rfl ?_);refine qc (wpAny_updateSeq_pair (s:={s with heap:=hd}) QM λhe ke se=>?_);refine qc (wpAny_letGo (qd ?_));show wpAny _ _ (forIn ([]:Qa (Qc×Nat)) (none,()) _) _ _ _;rw[List.forIn_nil];refine qd ?_;have QL:IsPair he TO x y:=ke;show wpAny _ _ (seqItems? (.ref TO) >>= _) _ _ _;refine qc (wpAny_seqItems (s:={s with heap:=he}) QL rfl ?_);simp only[newTuple];refine qc (qC ?_ (by show(2:Nat)<=sizeLine; decide));have sz:he.objs.size=s.heap.objs.size:=by rw[se.1,sd.1,sc.1,sb.1]; exact za
 show wpAny _ _ (Builtin.SmallTypes.ownedTupleHandOut (.ref z) (.ref he.objs.size) >>= _) _ _ {s with heap:=he.push {cls:=.type "tuple",data:=.seq #[x,y]}};have kz:(he.push {cls:=.type "tuple",data:=.seq #[x,y]}).get? z=some {cls:=.type "zip",data:=.fields #[.ellipsis,.bool false,.bool false,.ref TI,.ref TO]}:=
  qf _ ((se.2 _ (Ne.symm ap.TOz)).trans ((sd.2 _ (Ne.symm ap.i2z)).trans ((sc.2 _ (Ne.symm ap.TOz)).trans ((sb.2 _ (Ne.symm ap.i1z)).trans ka))))
 have kt:(he.push {cls:=.type "tuple",data:=.seq #[x,y]}).get? he.objs.size=some {cls:=.type "tuple",data:=.seq #[x,y]}:=qi _ rfl;have kO:(he.push {cls:=.type "tuple",data:=.seq #[x,y]}).get? TO=_:=qf _ QL;have k1:Heap.IsTupleIter (he.push {cls:=.type "tuple",data:=.seq #[x,y]}) i1 t1 (k+1):=by
  obtain⟨o,e,r⟩:=kb;exact⟨o,qf _ ((se.2 _ (Ne.symm ap.TOi1)).trans ((sd.2 _ ap.i12).trans ((sc.2 _ (Ne.symm ap.TOi1)).trans e))),r⟩
 have k2:Heap.IsTupleIter (he.push {cls:=.type "tuple",data:=.seq #[x,y]}) i2 t2 (k+1):=by
  obtain⟨o,e,r⟩:=kd;exact⟨o,qf _ ((se.2 _ (Ne.symm ap.TOi2)).trans e),r⟩
 have kk:∀ c o,c≠z->c≠TO->c≠i1->c≠i2->s.heap.get? c=some o->(he.push {cls:=.type "tuple",data:=.seq #[x,y]}).get? c=some o:=λc o n1 n2 n3 n4 e=>
  qf _ ((se.2 c n2).trans ((sd.2 c n4).trans (lH c o n1 n2 n3 e)))
 have nz:he.objs.size≠z:=by
  rw[sz];exact Ne.symm (ql (qj hz))
 generalize he.push {cls:=.type "tuple",data:=.seq #[x,y]}=hf at kz kt kO k1 k2 kk ⊢;unfold Builtin.SmallTypes.ownedTupleHandOut;refine qc (qc (mq (s:={s with heap:=hf}) kz (by simp) λhg kg zg fg=>?_));refine mq (s:={s with heap:=hg}) kg (by simp) λhh kh zh fh=>?_;have up:∀ c o,c≠z->hf.get? c=some o->hh.get? c=some o:=λc o n e=>fh c o n (fg c o n e);refine qd ⟨_,rfl,qd ?_⟩;rw[sz]at kt kh nz ⊢;refine q hh kh (up _ _ ap.TOz kO) ?_ ?_ (up _ _ nz kt) λc o n1 n2 n3 n4 e=>up _ _ n1 (kk c o n1 n2 n3 n4 e)
 .obtain⟨o,e,r⟩:=k1
  exact⟨o,up _ _ ap.i1z e,r⟩
 .obtain⟨o,e,r⟩:=k2
  exact⟨o,up _ _ ap.i2z e,r⟩
theorem Yk{Q:Qb Qc->Qd->Prop}(hh:A.handled=none)(ap:ZipApart z TI TO i1 i2 t1 t2)(hz:IsZip s.heap z TI TO .none)(hI:IsPair s.heap TI (.ref i1) (.ref i2))(hO:IsPair s.heap TO a b)
  (h1:s.heap.IsTupleIter i1 t1 k) (h2:s.heap.IsTupleIter i2 t2 k) (g1:s.heap.IsTuple t1 xs) (g2:s.heap.IsTuple t2 ys) (en:xs[k]?=none)
  (q:∀ h':Heap,(∀ c o,c≠z->c≠TO->c≠i1->c≠i2->s.heap.get? c=some o->h'.get? c=some o)->Q none {s with heap:=h'}):wpAny (model prog w) A (pyNext (.ref z)) Q E s:=by
 have kT:s.TypeIs (.ref z) "zip":=⟨_,hz,rfl⟩;unfold pyNext;refine qc (wpAny_attempt (wpAny_callSpecial?_slot (name:=Str.ofString "__next__") kT F.slot_zip_next (wpAny_call_entry F.slot_zip_next kT F.entry_zip_next ?_ (F.args_zip_next_1 _))));unfold Builtin.«zip.__next__»;refine qc (qd ?_);refine qc (wpAny_field hz rfl (x:=.bool false) rfl ?_);refine qc (wpAny_field hz rfl (x:=.ref TI) rfl ?_);refine qc (wpAny_seqItems hI rfl ?_);show wpAny _ _ (Builtin.SmallTypes.ownedTupleIsFree (.ref z) >>= _) _ _ s;unfold Builtin.SmallTypes.ownedTupleIsFree;refine qc (qc (wpAny_field hz rfl (x:=.none) rfl (qd ?_)));show wpAny _ _ (if true=true then _ else _) _ _ _;rw[if_pos rfl];refine qc (wpAny_rule (qc (wpAny_field hz rfl (x:=.ref TO) rfl ?_)));refine qc (mq hz (by simp) λha ka za fa=>?_);have yg:ha.IsTupleIter i1 t1 k:=by
  obtain⟨o,e,r⟩:=h1;exact⟨o,fa _ _ ap.i1z e,r⟩
 have Io:ha.IsTuple t1 xs:=by
  obtain⟨o,e,r⟩:=g1;exact⟨o,fa _ _ ap.l1z e,r⟩
 refine qc ?_;show wpAny _ _ (forIn [(Value.ref i1,0),(Value.ref i2,1)] (none,()) _) _ _ _;rw[List.forIn_cons];refine qc (qc (wpAny_onRaise ?_));show wpAny _ _ (Builtin.SmallTypes.nextOf (.ref i1) >>= _) _ _ _;refine qc (MK (s:={s with heap:=ha}) hh yg Io en λhb e sb ⟨oe,ge,ce⟩=>?_);have kb:=sb z _ (Ne.symm ap.i1z) ka;refine mq (s:={s with heap:=hb}) kb (by simp) λhc kc zc fc=>?_;have nez:e≠z:=λh=>by
  rw[h]at ge;have z1:=qA (ge.symm.trans kb);rw[z1]at ce;have z2 : "zip" = "StopIteration":=Value.type.inj ce;exact absurd z2 (by decide)
 show wpAny _ _ (isInstance (.ref e) (.type "StopIteration") >>= _) _ _ _;refine qc (wpAny_isInstance (T := "StopIteration") (b:=true) ⟨oe,fc _ _ nez ge,ce⟩ isSubtype_stop ?_);exact qd (q hc λc o n1 n2 n3 n4 e=>fc c o n1 (sb c o n3 (fa c o n1 e)))
end
def RE(K:qe)(a b:Qg):It :=
 ⟨λi H=>∃ xs ys x y,bt K H a xs/\bt K H b ys/\xs[i]?=some x/\ys[i]?=some y,λi H x H'=>∃ T,H T=none/\x=.ref T/\∀ xs ys v u,bt K H a xs->bt K H b ys->xs[i]?=some v->ys[i]?=some u->H'=upd H T (.tup [v,u]),λi H=>∃ xs ys,bt K H a xs/\bt K H b ys/\xs.length=i⟩
abbrev RB(z TI TO i1 i2 t1 t2:Qg)(i:Nat)(h:Heap):Prop:=IsZip h z TI TO .none/\IsPair h TI (.ref i1) (.ref i2)/\(∃ a b,IsPair h TO a b)/\h.IsTupleIter i1 t1 i/\h.IsTupleIter i2 t2 i
theorem Yj{k:Nat}(z TI TO i1 i2 t1 t2:Qg)(ap:ZipApart z TI TO i1 i2 t1 t2):
  Turn P w K (.Tuple elts k pos) (RE K t1 t2) [z,TI,TO,i1,i2] z (RB z TI TO i1 i2 t1 t2) where
 mem:=by simp
 obj:=λi h st c hc=>by
  obtain⟨hz,hI,⟨a,b,hO⟩,⟨o1,e1,_,d1⟩,⟨o2,e2,_,d2⟩⟩:=st;simp only[qx,List.not_mem_nil,or_false]at hc;rcases hc with rfl|rfl|rfl|rfl|rfl
  .exact⟨_,hz,λv q=>by
    have q':Data.fields _=Data.cell v:=q;cases q'⟩
  .exact⟨_,hI,λv q=>by
    have q':Data.seq _ _=Data.cell v:=q;cases q'⟩
  .exact⟨_,hO,λv q=>by
    have q':Data.seq _ _=Data.cell v:=q;cases q'⟩
  .exact⟨o1,e1,λv q=>by rw[d1]at q; cases q⟩
  .exact⟨o2,e2,λv q=>by rw[d2]at q; cases q⟩
 keep:=λi h h' st kk=>by
  obtain⟨hz,hI,⟨a,b,hO⟩,⟨o1,e1,r1⟩,⟨o2,e2,r2⟩⟩:=st;exact⟨kk z (by simp) _ hz,kk TI (by simp) _ hI,⟨a,b,kk TO (by simp) _ hO⟩,⟨o1,kk i1 (by simp) _ e1,r1⟩,⟨o2,kk i2 (by simp) _ e2,r2⟩⟩
 item:=by
  intro X hP hw hK hc i pins s σ H E I hf st hg;subst hP hw hK;obtain⟨xs,ys,x,y,vE,qQ,hx,hy⟩:=hg;obtain⟨hz,hI,⟨a,b,hO⟩,h1,h2⟩:=st;obtain⟨tE,B1,vC,_⟩:=I.tuple vE;obtain⟨dJ,Hb,qO,_⟩:=I.tuple qQ;obtain⟨u1,eu1,r1⟩:=B1.get hx;obtain⟨u2,eu2,r2⟩:=Hb.get hy;refine ZE ap hz hI hO h1 h2 vC qO (by simpa using eu1) (by simpa using eu2) λh' z' O' k1 k2 j0 kk=>?_;refine⟨_,rfl,wpAny_letOwnedTupleGo_zip (s:={s with heap:=h'}) z' λiI z2 sb=>?_⟩;have nm:s.heap.objs.size∉[z,TI,TO,i1,i2]:=λhm=>by
   have:s.heap.objs.size < s.heap.objs.size:=by
    simp only[qx,List.not_mem_nil,or_false]at hm;obtain⟨_,e1,_⟩:=h1;obtain⟨_,e2,_⟩:=h2;rcases hm with h|h|h|h|h
    .exact qk (h▸qj hz) (qg _)
    .exact qk (h▸qj hI) (qg _)
    .exact qk (h▸qj hO) (qg _)
    .exact qk (h▸qj e1) (qg _)
    .exact qk (h▸qj e2) (qg _)
   exact Ì _ this
  have nz:s.heap.objs.size≠z:=λh=>nm (by rw[h]; simp);have I2:Inv X pins σ H {s with heap:=iI}:=I.cY (t':=s.toks) (wr:=[z,TI,TO,i1,i2]) (λc o hc q=>by
   simp only[qx,List.not_mem_nil,or_false,not_or]at hc;exact(sb.2 c hc.1).trans (kk c o hc.1 hc.2.2.1 hc.2.2.2.1 hc.2.2.2.2 q)) hf
  have fT:fU X pins H s.heap.objs.size:=I.cS (qg _) (I.aD.fresh (qg _));have I3:Inv X pins σ (upd H s.heap.objs.size (.tup [x,y])) {s with heap:=iI}:=I2.kY fT I.sz ⟨by show 2<=sizeLine; decide,[u1,u2],.cons r1 (.cons r2 .nil),_,(sb.2 _ nz).trans j0,rfl,⟨_,rfl⟩,.inl rfl⟩;refine⟨.ref s.heap.objs.size,_,I3,rfl,⟨_,I.aD.fresh (qg _),rfl,λvh nZ v u HM HL hv hu=>?_⟩,⟨z2,(sb.2 _ ap.TIz).trans (kk _ _ ap.TIz ap.TITO ap.TIi1 ap.TIi2 hI),⟨_,_,(sb.2 _ ap.TOz).trans O'⟩,?_,?_⟩,λc hc=>?_⟩
  .cases I.cE vE HM
   cases I.cE qQ HL;rw[hx]at hv;rw[hy]at hu;cases hv;cases hu;rfl
  .obtain⟨o,e,r⟩:=k1
   exact⟨o,(sb.2 _ ap.i1z).trans e,r⟩
  .obtain⟨o,e,r⟩:=k2
   exact⟨o,(sb.2 _ ap.i2z).trans e,r⟩
  .have ne:c≠s.heap.objs.size:=λh=>nm (h▸hc)
   rw[zH ne];exact(hf c hc).1
 done:=by
  intro X hP hw hK hc i pins s σ H E I hf st hg;subst hP hw hK;obtain⟨xs,ys,vE,qQ,hl⟩:=hg;obtain⟨hz,hI,⟨a,b,hO⟩,h1,h2⟩:=st;obtain⟨tE,B1,vC,_⟩:=I.tuple vE;obtain⟨dJ,Hb,qO,_⟩:=I.tuple qQ;refine Yk (I.ok.hd hc) ap hz hI hO h1 h2 vC qO (by
   have:=B1.length;simp;omega) λh' kk=>⟨rfl,I.cY (t':=s.toks) (wr:=[z,TI,TO,i1,i2]) (λc o hc q=>by
   simp only[qx,List.not_mem_nil,or_false,not_or]at hc;exact kk c o hc.1 hc.2.2.1 hc.2.2.2.1 hc.2.2.2.2 q) hf⟩
 self:=λ_ _ _ _ _ st h=>wpAny_pyIter_zip st.1 h
section
theorem ZD{t1 t2:Qg}{xs ys:Array Qc}(h1:s.heap.IsTuple t1 xs)(h2:s.heap.IsTuple t2 ys)
  (h:∀ h':Heap,RB (s.heap.objs.size+4) (s.heap.objs.size+2) (s.heap.objs.size+3) s.heap.objs.size (s.heap.objs.size+1) t1 t2 0 h'->(∀ b o,s.heap.get? b=some o->h'.get? b=some o)->Q (.ref (s.heap.objs.size+4)) {s with heap:=h'}):
  wpAny (model prog w) A (call (.type "zip") [.ref t1,.ref t2]) Q E s:=by
 refine callType_new F.called_zip (by decide) (F.typeCall_zip_2 _ _) (F.newCall_zip_2 _ _) (λobj=>F.args_object_init_3 obj _ _) F.entry_zip_new (Yl t1 t2 xs ys) ⟨h1,h2,?_⟩;have z1:(uF s.heap t1).objs.size=s.heap.objs.size+1:=þ ..;have z2:(wC s.heap t1 t2).objs.size=s.heap.objs.size+2:=by rw[Heap.size_push,z1]
 have z3:(uE s.heap t1 t2).objs.size=s.heap.objs.size+3:=by rw[Heap.size_push,z2]
 have z4:(A5 s.heap t1 t2).objs.size=s.heap.objs.size+4:=by rw[Heap.size_push,z3]
 show _/\_;rw[z4];have ez:(FU s.heap t1 t2).get? (s.heap.objs.size+4)=some {cls:=.type "zip",data:=.fields #[.none,.bool false,.bool false,.ref (s.heap.objs.size+2),.ref (s.heap.objs.size+3)]}:=by
  have:=qi (A5 s.heap t1 t2) (o:={cls:=.type "zip",data:=.fields #[.none,.bool false,.bool false,.ref (wC s.heap t1 t2).objs.size,.ref (uE s.heap t1 t2).objs.size]}) rfl;rw[z4,z2,z3]at this;rw[<-this];unfold FU;rw[z2,z3]
 refine⟨⟨_,ez,rfl⟩,h _ ⟨ez,?_,⟨.none,.none,?_⟩,⟨{cls:=.type "tuple_iterator",data:=.fields #[.ref t1,.int 0 0]},?_,rfl,rfl⟩,⟨{cls:=.type "tuple_iterator",data:=.fields #[.ref t2,.int 0 0]},?_,rfl,rfl⟩⟩ λb o x=>?_⟩
 .have:=qi (wC s.heap t1 t2) (o:={cls:=.type "tuple",data:=.seq #[.ref s.heap.objs.size,.ref (uF s.heap t1).objs.size]}) rfl
  rw[z2,z1]at this;refine qf _ (qf _ ?_);unfold uE;rw[z1];exact this
 .have:=qi (uE s.heap t1 t2) (o:={cls:=.type "tuple",data:=.seq #[.none,.none]}) rfl
  rw[z3]at this;exact qf _ this
 .exact qf _ (qf _ (qf _ (qf _ (qi _ rfl))))
 .have:=qi (uF s.heap t1) (o:={cls:=.type "tuple_iterator",data:=.fields #[.ref t2,.int 0 0]}) rfl
  rw[z1]at this;exact qf _ (qf _ (qf _ this))
 .exact qf _ (qf _ (qf _ (qf _ (qf _ x))))
end
section
variable{X:Cx}{k:Nat}
def Pa(K:qe)(ta:TA):TI:=λσ H R=>ta σ H λvs H1=>∃ a b,vs=[.ref a,.ref b]/\(∃ xs,bt K H1 a xs)/\(∃ ys,bt K H1 b ys)/\R (RE K a b) H1
theorem Kb{a b:Expr}{ta:TA}{p:Pos}(ha:Wr (PA X [a,b] ta))(hK:X.K=K:=by rfl)(hg:Gl X "zip":=by exact rfl)(hm:X.mg "zip"=none:=by exact pI ‹Bl _ _› (by decide))(hs:cX a=true:=by rfl)(mV:[b].all cX=true:=by rfl):
  Wr (PI X (.Tuple elts k n8) (.Call (.Name "zip" p) [a,b] [] pos) (Pa K ta)):=by
 subst hK;refine⟨?_⟩;intro pins s σ H R I h;refine Call_ (pO I hg hm boot_zip (Û (aI (ha.run pos pins s σ H _ I h) λus s1 ⟨vs,H1,I1,r1,q1⟩=>?_) (iX hs) (pU mV)));obtain⟨t1,t2,e,⟨xs,vE⟩,⟨ys,qQ⟩,q⟩:=q1;subst e;obtain⟨u1,u2,rfl,ru1,ru2⟩:=D0 r1;cases ru1;cases ru2;obtain⟨tE,B1,vC,hz1⟩:=I1.tuple vE;obtain⟨dJ,Hb,qO,hz2⟩:=I1.tuple qQ;have tl1:t1 < s1.heap.objs.size:=by
  obtain⟨o,e,_⟩:=vC;exact qj e
 have tl2:t2 < s1.heap.objs.size:=by
  obtain⟨o,e,_⟩:=qO;exact qj e
 have qM:∀ {x y:Nat},x < y->x≠y:=λh=>ql h;refine ZD (show s1.heap.IsTuple t1 tE.toArray from vC) (show s1.heap.IsTuple t2 dJ.toArray from qO) λh' vD kk=>?_;have I2:Inv X pins σ H1 {s1 with heap:=h'}:=I1.kept (t':=s1.toks) kk;refine wpAny_pyIter_zip vD.1 ?_;have f:∀ j:Nat,fU X pins H1 (s1.heap.objs.size+j):=λj=>I1.cS (Nat.le_add_right _ _) (I1.aD.fresh (Nat.le_add_right _ _));have ap:ZipApart (s1.heap.objs.size+4) (s1.heap.objs.size+2) (s1.heap.objs.size+3) s1.heap.objs.size (s1.heap.objs.size+1) t1 t2:=by
  generalize s1.heap.objs.size=n at tl1 tl2;constructor<;>(simp only[Qg]at *; omega)
 refine⟨_,_,_,_,H1,rfl,I2,Yj _ _ _ _ _ t1 t2 ap,vD,λc hc=>?_,q⟩;simp only[qx,List.not_mem_nil,or_false]at hc;rcases hc with rfl|rfl|rfl|rfl|rfl
 .exact f 4
 .exact f 2
 .exact f 3
 .exact f 0
 .exact f 1
end
def rM:Qa D->Qa D->Qa D
 | x::xs,y::ys=>.tuple [x,y]::rM xs ys
 | _,_=>[]
theorem KL:∀ {xs ys:Qa D} {i:Nat} {d:D},(rM xs ys)[i]?=some d->∃ x y,xs[i]?=some x/\ys[i]?=some y/\d=.tuple [x,y]
 | [],ys,i,d,h=>by simp[rM]at h
 | x::xs,[],i,d,h=>by simp[rM]at h
 | x::xs,y::ys,0,d,h=>by cases h; exact⟨x,y,rfl,rfl,rfl⟩
 | x::xs,y::ys,i+1,d,h=>KL (xs:=xs) (ys:=ys) (i:=i) h
theorem Mp:∀ (xs ys:Qa D),xs.length=ys.length->(rM xs ys).length=xs.length
 | [],[],_=>rfl
 | [],y::ys,h=>by cases h
 | x::xs,[],h=>by cases h
 | x::xs,y::ys,h=>congrArg (·+1) (Mp xs ys (Nat.succ.inj h))
def vV:Qa U->Qb (Qa D)
 | [.d (.tuple xs),.d (.tuple ys)]=>if xs.length=ys.length then some (rM xs ys)else none
 | _=>none
def yK(ma:MA):MI:=λρ=>(ma ρ).bind λp=>(bw p.2 p.1).bind λus=>(vV us).bind λds=>some (ds,p.2)
theorem Ka{ta:TA}{ma:MA}(h:jh K ta ma):VI K (Pa K ta) (yK ma):=by
 intro ρ σ H ds av R r e q;obtain⟨⟨as,aw⟩,e1,e⟩:=bQ e;obtain⟨us,eu,e⟩:=bQ e;obtain⟨zs,ez,e⟩:=bQ e;cases e;refine h ρ σ H as aw _ r e1 λvs H1 g1 s1=>?_;have rp:=s1.lj r g1 eu;unfold vV at ez;split at ez
 .split at ez
  rotate_left
  .cases ez
  rename_i xs ys hl;cases ez;cases rp with
  | cons p1 t=>
   cases t with
   | cons p2 t=>
    cases t;obtain⟨a,vx,rfl,h1,d1⟩:=DF.aH p1;obtain⟨b,vy,rfl,h2,d2⟩:=DF.aH p2;refine⟨a,b,rfl,⟨vx,(aT.sq h1)⟩,⟨vy,(aT.sq h2)⟩,q _ _ g1 λH2 kk i=>⟨λd ed=>?_,λei=>?_⟩⟩
    .obtain⟨x,y,ex,ey,rfl⟩:=KL ed
     obtain⟨v,ev,dv⟩:=(d1.kp kk).get ex;obtain⟨w,ew,dw⟩:=(d2.kp kk).get ey;refine⟨⟨vx,vy,v,w,(aT.kp kk h1).sq,(aT.kp kk h2).sq,ev,ew⟩,λz H' y=>?_⟩;obtain⟨T,nT,rfl,y⟩:=y;cases y vx vy v w ((aT.kp kk h1).sq) ((aT.kp kk h2).sq) ev ew;have sm:=zW nT (.tup [v,w]);exact⟨sm,.tup (.inl zx) (.cons (dv.kp sm.kp) (.cons (dw.kp sm.kp) .nil))⟩
    .exact⟨vx,vy,(aT.kp kk h1).sq,(aT.kp kk h2).sq,by rw[Mp _ _ hl]at ei; rw[d1.len]; exact ei.symm⟩
 .cases ez
section
theorem zl6{b:Qg}{Q:Bool->Qd->Prop}(hT:s.TypeIs (.ref b) "tuple")(h:Q false s):wpAny (model prog w) A (Builtin.Dict.quietEq (.ref b)) Q E s:=by
 unfold Builtin.Dict.quietEq;refine qc (wpAny_specialOf hT F.slot_tuple_eq.lookup (qd ?_));exact h
theorem zl7{id:String}{d:Qg}{o:Obj}{Q:Array DictEntry->Qd->Prop}(ho:s.heap.get? d=some o)(hd:o.data=.dict es ep)
  (hk:∀ e∈es.toList,∃ b,e.key=.ref b/\s.TypeIs (.ref b) "tuple") (hh:∀ e∈es.toList,¬(es.filter (·.hash==e.hash)).size > 1) (h:Q es s):
  wpAny (model prog w) A (Builtin.Dict.entriesForEmpty id d) Q E s:=by
 unfold Builtin.Dict.entriesForEmpty;refine qc (wpAny_dictEntries ho hd ?_);refine qc ?_;rw[<-Array.forIn_toList];refine wpAny_forIn_list _ (λeJ _ s'=>s'=s/\∀ e∈eJ,e∈es.toList) _ ?_ ?_ _ _ ⟨rfl,λe h=>h⟩
 .rintro e eJ b s' ⟨rfl,hr⟩
  obtain⟨c,ec,tc⟩:=hk e (hr e qq);rw[ec];refine qc (zl6 tc ?_);simp only[Bool.not_false,if_true];rw[if_neg (hh e (hr e qq))];exact qd ⟨rfl,λe h=>hr e (qp _ h)⟩
 .rintro b s' ⟨rfl,_⟩
  exact qd h
theorem SD(ne:es.isEmpty=false)(hk:∀ e∈es.toList,∃ b,e.key=.ref b):(decide (es.size<=8) && es.all λe=>(keyPart e.key).isSome)=false:=by
 have:(es.all λe=>(keyPart e.key).isSome)=false:=by
  rw[<-Array.all_toList];cases h:es.toList with
  | nil=>
   have:es=#[]:=by
    apply Array.ext';rw[h]
   rw[this]at ne;cases ne
  | cons e r=>
   obtain⟨b,eb⟩:=hk e (by rw[h]; exact qq);rw[List.all_cons,eb];rfl
 rw[this,Bool.and_false]
theorem zjl{d:Qg}{o:Obj}(hdS:(d==sysModules)=false)(ho:s.heap.get? d=some o)(hx:o.ExactDict)(hd:o.data=.dict es ep)(hz:es.size<=sizeLine)
  (hk:∀ e∈es.toList,∃ b,e.key=.ref b/\s.TypeIs (.ref b) "tuple") (hh:∀ e∈es.toList,¬(es.filter (·.hash==e.hash)).size > 1)
  (h:∀ h':Heap,(∃ o' fH,h'.get? s.heap.objs.size=some o'/\o'.ExactDict/\o'.data=.dict es fH)->(∀ b u,s.heap.get? b=some u->h'.get? b=some u)->Q (.ref s.heap.objs.size) {s with heap:=h'}):
  wpAny (model prog w) A (call (.type "dict") [.ref d]) Q E s:=by
 refine callType_codes (Q₁:=λobj aF=>obj=.ref s.heap.objs.size/\aF={s with heap:=s.heap.push {cls:=.type "dict",data:=.dict #[]}}) F.kt_called_dict (F.kt_typeCall_dict_1 _) F.entry_dict_init (kt_code_dict_new _ ⟨rfl,rfl⟩) ?_;rintro obj aF ⟨rfl,rfl⟩;have nd:s.heap.objs.size≠d:=Ne.symm (ql (qj ho));have hn:(s.heap.push {cls:=.type "dict",data:=.dict #[]}).get? s.heap.objs.size=some {cls:=.type "dict",data:=.dict #[]}:=qi _ rfl;have ja:(s.heap.push {cls:=.type "dict",data:=.dict #[]}).get? d=some o:=qf _ ho;have kk:∀ b u,s.heap.get? b=some u->(s.heap.push {cls:=.type "dict",data:=.dict #[]}).get? b=some u:=λb u e=>qf _ e;generalize s.heap.push {cls:=.type "dict",data:=.dict #[]}=h1 at hn ja kk ⊢;have tn:Shared.TypeIs {s with heap:=h1} (.ref s.heap.objs.size) "dict":=⟨_,hn,rfl⟩;have to:Shared.TypeIs {s with heap:=h1} (.ref d) "dict":=⟨_,ja,hx.1⟩;refine⟨tn,F.args_dict_init_2 _ _,?_⟩;unfold Builtin.«dict.__init__»;refine qc ?_;unfold Builtin.Dict.selfAndRest;refine qc (wpAny_notOrdered_dict tn ?_);show wpAny _ _ (pure (s.heap.objs.size,[Value.ref d])) _ _ _;refine qd ?_;show wpAny _ _ (Builtin.Dict.updateFrom "dict.__init__" s.heap.objs.size (.ref d) [] .none) _ _ _;unfold Builtin.Dict.updateFrom;refine qc (wpAny_typeOf to ?_);rw[if_neg (by decide)];refine qc ?_;unfold Builtin.Dict.merge;refine qc ?_;unfold Builtin.Dict.readDirectly;refine qc (wpAny_isInstance to isSubtype_dict_dict ?_);simp only[Bool.not_true,Bool.false_eq_true,if_false];refine qc (wpAny_specialOf to F.slot_dict_iter.lookup (qd ?_));simp only[beq_self_eq_true,if_true];refine qc (qd ?_);unfold Builtin.Dict.mergeDict;rw[if_neg (by simpa using nd)];unfold Builtin.Dict.showsAll;rw[if_neg (by rw[hdS]; exact qh)];refine qc (qd ?_);refine qc (wpAny_dictEntries ja hd ?_);cases ne:es.isEmpty with
 | true=>
  have e0:es=#[]:=Array.isEmpty_iff.mp ne;subst e0;have fw:(decide ((#[]:Array DictEntry).size<=8) && (#[]:Array DictEntry).all λe=>(keyPart e.key).isSome)=true:=by rw[<-Array.all_toList]; rfl
  simp only[fw,Bool.not_true,Bool.false_eq_true,if_false];refine qc (wpAny_dictEpoch (s:={s with heap:=h1}) ja hd ?_);refine qc (wpAny_dictEntries (s:={s with heap:=h1}) ja hd ?_);refine qc ?_;rw[Std.Legacy.Range.forIn_eq_forIn_range'];simp only[Std.Legacy.Range.size,Nat.sub_zero,Nat.add_sub_cancel,Nat.div_one,Array.size_empty,List.range'_zero,List.forIn_nil];refine qd (qd ?_);exact qc (qd (qd ⟨rfl,h h1 ⟨_,0,hn,⟨rfl,rfl,rfl⟩,rfl⟩ kk⟩))
 | false=>
  have fw:=SD ne λe he=>let ⟨b,eb,_⟩:=hk e he; ⟨b,eb⟩;simp only[fw,Bool.not_false,if_true];refine qc (wpAny_dictEntries hn rfl ?_);simp only[Array.isEmpty_empty,if_true];refine qc (zl7 (s:={s with heap:=h1}) ja hd (λe he=>?_) hh ?_)
  .obtain⟨b,eb,o2,eo,ec⟩:=hk e he
   exact⟨b,eb,o2,kk _ _ eo,ec⟩
  simp only[ne,Bool.not_false,if_true];refine qc (wpAny_updateDictKeysTo hn rfl ?_ (by show es.size<=_; omega));refine qd (qc (qd (qd ⟨rfl,h _ ⟨_,_,Ë _ hn rfl,⟨rfl,rfl,rfl⟩,rfl⟩ λb u e=>?_⟩)));exact((É ..).2 b (ql (qj e))).trans (kk b u e)
end
def hK:Key->Int
 | .inl i=>hashInt i
 | .inr _=>0
def hT(ks:Qa Key):Int:=reduceHash (Builtin.Tuple.tupleHashOf (ks.map hK))
def CQ(ks:Qa Key):Bool:=ks.all λk=>match k with | .inl _=>true | .inr _=>false
def sf(Qi:Qa (Qa Key)):Bool:=Qi.all CQ && decide ((Qi.map hT).Nodup)
theorem zBH:∀ {ks:Qa Key},CQ ks=true->(tupleKind (e9 P w)).hash ks=hT ks:=λ{ks} h=>by
 show reduceHash (Builtin.Tuple.tupleHashOf (ks.map (Pg w)))=_;unfold hT;congr 2;refine Ø λk hk=>?_;have:=ć.mp h k hk;cases k with
 | inl i=>rfl
 | inr x=>cases this
theorem znF{es:Qa DictEntry}(hn:(es.map (·.hash)).Nodup){e:DictEntry}(he:e∈es):(es.filter (·.hash==e.hash)).length<=1:=by
 induction es with
 | nil=>cases he
 | cons x es ih=>
  rw[List.map_cons,List.nodup_cons]at hn;rw[List.filter_cons];rcases qx.mp he with rfl|QD
  .rw[if_pos (by simp)]
   have:es.filter (·.hash==e.hash)=[]:=List.filter_eq_nil_iff.mpr λy hy z=>hn.1 (Ã.mpr ⟨y,hy,by simpa using z⟩);rw[this];simp
  .have:¬((x.hash==e.hash)=true):=λz=>hn.1 (Ã.mpr ⟨e,QD,by simpa using (beq_iff_eq.mp z).symm⟩)
   rw[if_neg this];exact ih hn.2 QD
section
variable{X:Cx}
theorem VX{l:Qa (Qa Key×V)}{m:Qa (Qa Key×Qg×Qc)}(r:KT X.K H l m):m.map (·.1)=l.map (·.1):=by
 induction r with
 | nil=>rfl
 | cons hq t ih=>rw[List.map_cons,List.map_cons,ih,hq.1]
theorem VW(I:Inv X pins σ H s)(e:Rd H a (.dT kvs))(hh:sf (kvs.map (·.1))=true)(h:∀ p s',H p=none->Inv X pins σ (upd H p (.dT kvs)) s'->Q (.ref p) s'):wpAny (model X.prog X.w) A (call (.type "dict") [.ref a]) Q E s:=by
 obtain⟨z,y,xs,r,o,es,ep,h1,h2,h3,h4,h5⟩:=(show bT X.prog X.w X.K H s.heap a (.dT kvs) from DX I.aD e);obtain⟨_,_,vh,r',dd⟩:=uC I.bZ I.aD e;have hlen:es.size=kvs.length:=by
  have:=congrArg List.length h4;rw[Array.length_toList,List.length_map,<-wX r]at this;exact this
 obtain⟨hi,hn⟩:=Bool.and_eq_true_iff.mp hh;have hn:=of_decide_eq_true hn;have lF:=VX r;have hashes:es.toList.map (·.hash)=(kvs.map (·.1)).map hT:=by
  rw[h4,<-lF,List.map_map,List.map_map];refine Ø λx hx=>?_;exact zBH (ć.mp hi x.1 (by rw[<-lF]; exact Ã.mpr ⟨x,hx,rfl⟩))
 refine zjl y h1 h2 h3 (by omega) (λq hq=>?_) (λq hq=>?_) λh' ⟨o',fH,n1,n2,n3⟩ kk=>?_
 .rw[h4]at hq
  obtain⟨x,hx,rfl⟩:=Ã.mp hq;have key:∀ {l:Qa (Qa Key×V)} {m:Qa (Qa Key×Qg×Qc)},KT X.K H l m->∀ x∈m,aT X.K H x.2.1 (x.1.map kV):=by
   intro l m q
   induction q with
   | nil=>intro x hx; cases hx
   | cons hq _ ih=>
    intro x hx;rcases qx.mp hx with e|hx
    .subst e
     rw[<-hq.1];exact hq.2.1
    .exact ih x hx
  exact⟨x.2.1,rfl,(rY I.bZ I.aD (key r x hx)).typeIs⟩
 .rw[<-hashes]at hn
  have:=znF hn hq;rw[<-Array.length_toList,Array.toList_filter];omega
 .refine h _ _ (I.aD.fresh (qg _)) (I.laid (a:=s.heap.objs.size) (o:=.dT kvs) (t':=s.toks) kk (qg _) ⟨z,beq_eq_false_iff_ne.mpr (Ne.symm (ql I.Cz)),xs,?_,o',es,fH,n1,n2,n3,h4,h5⟩)
  exact KT.keeps r λb ys hb=>by rw[zH (λz=>by rw[z,I.aD.fresh (qg _)]at hb; cases hb)]; exact hb
theorem znG:e8 X (.type "dict") (λxs H Q=>∃ a kvs,xs=[.ref a]/\Rd H a (.dT kvs)/\sf (kvs.map (·.1))=true/\∀ p,H p=none->Q (.ref p) (upd H p (.dT kvs))):=by
 intro pins s σ H xs us Q I r h;obtain⟨a,kvs,rfl,hr,hh,q⟩:=h;obtain⟨u,rfl,ru⟩:=jr r;cases ru;exact VW I hr hh λp s' hp I'=>⟨.ref p,_,I',rfl,q p hp⟩
end
def wx:Qa (D×D)->Qb (Qa (Qa Key×D))
 | []=>some []
 | (k,d)::r=>(dI k).bind λk=>(wx r).bind λr=>some ((k,d)::r)
def wG:U->Qb U
 | .t kvs=>if sf (kvs.map (·.1))=true then some (.t kvs)else none
 | .d (.dict kvs)=>if jG kvs=true then(wx kvs).bind λkvs=>if sf (kvs.map (·.1))=true then some (.t kvs)else none else none
 | _=>none
section
theorem Mn{ws:Qa (Qa Key×V)}{kvs:Qa (Qa Key×D)}(h:fE K H ws kvs):ws.map (·.1)=kvs.map (·.1):=by
 induction h with
 | nil=>rfl
 | cons hq t ih=>rw[List.map_cons,List.map_cons,ih,hq.1]
theorem LQ:∀ {kvs:Qa (D×D)} {ws:Qa (Qa Key×V)} {r:Qa (Qa Key×D)},gZ K H ws kvs->wx kvs=some r->fE K H ws r
 | [],ws,r,h,e=>by cases h; cases e; exact .nil
 | (k,d)::kvs,ws,r,h,e=>by
  obtain⟨k',ek,e⟩:=bQ (show(dI k).bind _=some r from e);obtain⟨r',er,e⟩:=bQ e;cases e;cases h with
  | @cons k2 v _ vs ds hv t=>
   rw[Bb]at ek;cases ek;exact .cons ⟨rfl,hv⟩ (LQ t er)
theorem ZC:VC K (λxs H Q=>∃ a kvs,xs=[.ref a]/\Rd H a (.dT kvs)/\sf (kvs.map (·.1))=true/\∀ p,H p=none->Q (.ref p) (upd H p (.dT kvs))) (f1 wG):=nu λv a u H Q h e q=>by
 unfold wG at e;split at e
 .split at e
  rotate_left
  .cases e
  rename_i kvs hh;cases e;obtain⟨b,ws,rfl,h1,h2⟩:=h;refine⟨b,ws,rfl,.inl h1,by rw[Mn h2]; exact hh,λp hp=>?_⟩;have sm:=zW hp (.dT ws);exact q _ _ sm ⟨p,ws,rfl,zx,h2.kp sm.kp⟩ λ_=>⟨p,rfl,hp⟩
 .split at e
  rotate_left
  .cases e
  rename_i nx;obtain⟨r,er,e⟩:=bQ e;split at e
  rotate_left
  .cases e
  rename_i hh;cases e;obtain⟨b,o,ws,rfl,h1,h2⟩:=DF.cH h nx;have kd:=LQ h2 er;refine⟨b,ws,rfl,.inr ⟨o,h1⟩,by rw[Mn kd]; exact hh,λp hp=>?_⟩;have sm:=zW hp (.dT ws);exact q _ _ sm ⟨p,ws,rfl,zx,kd.kp sm.kp⟩ λ_=>⟨p,rfl,hp⟩
 .cases e
end
def y0(i j:Int):Prop:=i.natAbs.log2 < 1000000/\j.natAbs.log2 < 1000000
theorem LP{n:Int}(h:n.natAbs.log2 < 1000000):Builtin.Int.intBits n<=2^20:=by
 refine intBits_le ?_
 by_cases z:n.natAbs=0
 .rw[z]; exact Nat.two_pow_pos _
 .exact qk ((Nat.log2_lt z).mp h) (Ý (by decide) (by decide))
section
variable{X:Cx}
theorem jw:cv X (binaryOp .Mult) (rI y0 λi j=>.int (i * j)):=vm λ_ _ _ _ _ _ _ hc q=>mul_int q (IntMulOk.of_bits (LP hc.1) (LP hc.2))
end
section
def iw:=m7 y0 λi j=>.int (i * j)
theorem jv:VO K (rI y0 λi j=>.int (i * j)) iw:=uA λi j H=>.int _
end
section
variable{ρ:En}{me ma mb mc mk mi md my mv mx mo:ME}{mA mK:MA}{mt mu:MT}{mI:MI}{mg:MG}{m1 m2:MS}{u:U}{x:D}
variable{QE:Ar×En->Prop}{QI:Qa D×En->Prop}
theorem zmc:Wo (pL md my mx ρ) QE=Wo (md ρ) (Co (λp=>(p.1.get p.2).bind λu0=>if ur u0=true then(my p.2).bind λq=>(mx q.2).bind λz=>(p.1.get z.2).bind λu=>(q.1.get z.2).bind λy=>(z.1.get z.2).bind λx=>(l6 u y).bind λo=>x.da.bind λx=>some (.u (.d (o.getD x)),z.2)else none) ⟨0⟩ QE):=by
 have e:pL md my mx ρ=(md ρ).bind λp=>(p.1.get p.2).bind λu0=>if ur u0=true then(my p.2).bind λq=>(mx q.2).bind λz=>(p.1.get z.2).bind λu=>(q.1.get z.2).bind λy=>(z.1.get z.2).bind λx=>(l6 u y).bind λo=>x.da.bind λx=>some (.u (.d (o.getD x)),z.2)else none:=by
  unfold pL;refine bind_fn λp=>bind_fn λu0=>?_;split
  .refine bind_fn λq=>bind_fn λz=>bind_fn λu=>bind_fn λy=>bind_fn λx=>bind_fn λo=>?_
   cases x<;>rfl
  .rfl
 rw[e,zt]
theorem Yi:Wo (yK mA ρ) QI=Wo (mA ρ) (Co (λp=>(bw p.2 p.1).bind λus=>(vV us).bind λds=>some (ds,p.2)) ⟨0⟩ QI):=by
 show Wo (Option.bind _ _) QI=_;rw[zt]
theorem ZT{kvs:Qa (Qa Key×D)}:ur (.t kvs)=true:=rfl
theorem jy{a:Int}(h:a.natAbs.log2 < 1000000)(h2:b.natAbs.log2 < 1000000):iw (.d (.int a)) (.d (.int b))=some (.d (.int (a * b))):=uw (c:=y0) ⟨h,h2⟩
theorem J9{g:α->D}{b:α->Bool}{e:α->D}{Q:Qa D×En->Prop}(hz:as.length<=sizeLine)
  (st:∀ a∈as,∀ ys,Wo (mg (g a) ρ) (Co mt ⟨0⟩ (vz nt me ys λav zs=>av=ρ/\zs=if b a=true then ys++[e a]else ys))) (q:Q ((as.filter b).map e,ρ)):Wo (iC nt mg mt me (as.map g) ρ []) Q:=by
 refine Jd (λi av ys=>av=ρ/\ys=((as.take i).filter b).map e) (by rw[List.length_map]; exact hz) (λi av ys h=>?_) ⟨rfl,rfl⟩ (λi d av ys hd h=>?_) λav ys h=>?_
 .rw[h.2,List.length_map]
  exact qB (Ā _ _) (by rw[List.length_take]; exact Nat.min_le_left _ _)
 .obtain⟨rfl,rfl⟩:=h
  rw[List.getElem?_map]at hd;obtain⟨a,ha,rfl⟩:=qu.mp hd;have:=st a (å ha) (((as.take i).filter b).map e);have en:((as.take (i+1)).filter b).map e=if b a=true then((as.take i).filter b).map e++[e a]else((as.take i).filter b).map e:=by
   rw[List.take_succ,ha,List.filter_append,List.map_append];show _++(([a]:Qa α).filter b).map e=_;rw[List.filter_cons];split<;>simp
  rw[en];exact this
 .obtain⟨rfl,rfl⟩:=h
  rw[List.length_map,List.take_of_length_le (qg _)];exact q
end
def yJ(K:qe)(tl:TE):TI:=λσ H R=>tl σ H λx H1=>∃ a,x=.ref a/\(((∃ xs,bo K H1 a xs)/\R (IP K a) H1)\/((∃ xs,bt K H1 a xs)/\R (IM K a) H1))
section
variable{X:Cx}
theorem SA{l:Expr}{tl:TE}(hl:PE X l tl):PI X tg l (yJ X.K tl):=by
 intro pins s σ H R I h;refine aI (hl pins s σ H _ I h) λv s1 ⟨x,H1,I1,r1,q1⟩=>?_;obtain⟨a,e,z⟩:=q1;subst e;cases r1;rcases z with⟨hx,q⟩|⟨hx,q⟩
 .obtain⟨xs,hq⟩:=hx
  obtain⟨ah,rv,p,hz⟩:=I1.list hq;refine wpAny_pyIter_list p.isList ?_;refine⟨s1.heap.objs.size,[s1.heap.objs.size],_,_,H1,rfl,I1.kept (t':=s1.toks) λb o e=>qf _ e,My a _,⟨_,qi _ rfl,rfl,rfl⟩,λb hb=>?_,q⟩;have e:b=s1.heap.objs.size:=by simpa using hb
  subst e;exact I1.cS (qg _) (I1.aD.fresh (qg _))
 .obtain⟨xs,hq⟩:=hx
  obtain⟨ah,rv,p,hz⟩:=I1.tuple hq;refine wpAny_pyIter_tuple (show s1.heap.IsTuple a ah.toArray from p) ?_;refine⟨s1.heap.objs.size,[s1.heap.objs.size],_,_,H1,rfl,I1.kept (t':=s1.toks) λb o e=>qf _ e,Na a _,⟨_,qi _ rfl,rfl,rfl⟩,λb hb=>?_,q⟩;have e:b=s1.heap.objs.size:=by simpa using hb
  subst e;exact I1.cS (qg _) (I1.aD.fresh (qg _))
theorem Sy{l:Expr}{tl:TE}(K:qe)(hK:X.K=K)(hl:Wr (PE X l tl)):Wr (PI X tg l (yJ K tl)):=hK▸⟨SA hl.run⟩
end
def yP:U->Qb (Qa D)
 | .d (.list xs)=>some xs
 | .d (.tuple xs)=>some xs
 | _=>none
theorem Sw{me:ME}(h:VE K te me):VI K (yJ K te) (cq yP me):=by
 intro ρ σ H ds av R r e q;obtain⟨⟨a,aw⟩,e1,e⟩:=bQ e;obtain⟨u,eu,e⟩:=bQ e;obtain⟨xs,ex,e⟩:=bQ e;cases e;refine h ρ σ H a _ _ r e1 λv H1 g1 k1=>?_;have p:=k1.now r g1 eu;unfold yP at ex;split at ex
 .cases ex
  obtain⟨b,ys,rfl,h1,h2⟩:=DF.lst_inv p;refine⟨b,rfl,.inl ⟨⟨ys,h1.sq⟩,q _ _ g1 λH2 k i=>⟨λd ed=>?_,λei=>?_⟩⟩⟩
  .obtain⟨v,ev,dv⟩:=(h2.kp k).get ed
   refine⟨⟨ys,v,(h1.kp k).sq,ev⟩,λx H' y=>?_⟩;obtain⟨rfl,y⟩:=y;have:=y ys (h1.kp k).sq;rw[ev]at this;cases this;exact⟨λ_ _ z=>z,dv⟩
  .exact⟨ys,(h1.kp k).sq,by rw[h2.len]; omega⟩
 .cases ex
  obtain⟨b,ys,rfl,h1,h2⟩:=DF.aH p;refine⟨b,rfl,.inr ⟨⟨ys,(aT.sq h1)⟩,q _ _ g1 λH2 k i=>⟨λd ed=>?_,λei=>?_⟩⟩⟩
  .obtain⟨v,ev,dv⟩:=(h2.kp k).get ed
   refine⟨⟨ys,v,(aT.kp k h1).sq,ev⟩,λx H' y=>?_⟩;obtain⟨rfl,y⟩:=y;have:=y ys ((aT.kp k h1).sq);rw[ev]at this;cases this;exact⟨λ_ _ z=>z,dv⟩
  .exact⟨ys,(aT.kp k h1).sq,by rw[h2.len]; omega⟩
 .cases ex
end L2
namespace L2
open PySem
def l5(n d:Int):Int:=(if d < 0 then -n else n) / (Int.gcd n d:Nat)
def ko(n d:Int):Int:=(if d < 0 then -d else d) / (Int.gcd n d:Nat)
theorem ZA{n d:Int}(hd:d≠0):l5 n d * d=n * ko n d/\1<=ko n d/\Int.gcd (l5 n d) (ko n d)=1/\ko n d<=d.natAbs/\(l5 n d).natAbs<=n.natAbs:=by
 have hg:0 < Int.gcd n d:=ā n hd;obtain⟨u,hu⟩:=Int.gcd_dvd_left n d;obtain⟨v,hv⟩:=Int.gcd_dvd_right n d;have Cm:(0:Int) < (Int.gcd n d:Nat):=Int.natCast_pos.mpr hg;have hc:Int.gcd (n / (Int.gcd n d:Nat)) (d / (Int.gcd n d:Nat))=1:=Int.gcd_ediv_gcd_ediv_gcd hg;unfold l5 ko;generalize (Int.gcd n d:Nat)=g at *;have Cr:(g:Int)≠0:=by omega
 have eu:n / (g:Int)=u:=by rw[hu]; exact ô u Cr
 have ev:d / (g:Int)=v:=by rw[hv]; exact ô v Cr
 have QW:(-n) / (g:Int)=-u:=by rw[hu,<-Int.mul_neg]; exact ô (-u) Cr
 have tX:(-d) / (g:Int)=-v:=by rw[hv,<-Int.mul_neg]; exact ô (-v) Cr
 rw[eu,ev]at hc;have g1:1<=g:=hg;have an:n.natAbs=g * u.natAbs:=by rw[hu,Int.natAbs_mul]; rfl
 have ad:d.natAbs=g * v.natAbs:=by rw[hv,Int.natAbs_mul]; rfl
 have lu:u.natAbs<=n.natAbs:=by rw[an]; exact Nat.le_mul_of_pos_left _ hg
 have lv:v.natAbs<=d.natAbs:=by rw[ad]; exact Nat.le_mul_of_pos_left _ hg
 by_cases c:d < 0
 .rw[if_pos c,if_pos c,QW,tX]
  have hv0:v < 0:=by
   rcases(by omega:v < 0\/0<=v)with z|z
   .exact z
   .have:=Č (â Cm) z
    omega
  refine⟨?_,by omega,?_,by omega,by omega⟩
  .rw[hu,hv]
   simp only[Int.neg_mul,Int.mul_neg,Int.neg_inj]
   ac_rfl
  .rw[Int.neg_gcd,Int.gcd_neg]
   exact hc
 .rw[if_neg c,if_neg c,eu,ev]
  have hv0:0 < v:=by
   rcases(by omega:0 < v\/v<=0)with z|z
   .exact z
   .have:=Č (â Cm) (show 0<=-v by omega)
    rw[Int.mul_neg,<-hv]at this;omega
  refine⟨?_,by omega,hc,by omega,by omega⟩;rw[hu,hv]
  ac_rfl
theorem Yh{n d N D:Int}(hd:d≠0)(h1:1<=D)(hc:Int.gcd N D=1)(he:N * d=n * D):N=l5 n d/\D=ko n d:=by
 obtain⟨e,y1,c,_,_⟩:=ZA (n:=n) hd;generalize l5 n d=x at *;generalize ko n d=y at *;have k:N * y=x * D:=by
  have z:(N * y) * d=(x * D) * d:=by grind
  exact Ĉ hd z
 have d1:D∣y:=by
  have t:D∣N * y:=⟨x,by rw[k]; ac_rfl⟩;have u:=î.mpr t;rw[Int.gcd_comm,hc]at u;simpa using u
 have d2:y∣D:=by
  have t:y∣x * D:=⟨N,by rw[<-k]; ac_rfl⟩;have u:=î.mpr t;rw[Int.gcd_comm,c]at u;simpa using u
 have l1:=Int.le_of_dvd (by omega) d1;have l2:=Int.le_of_dvd (by omega) d2;have e2:D=y:=by omega
 refine⟨?_,e2⟩;rw[e2]at k;exact Ĉ (by omega) k
theorem LO(n d:Int){g:Int}(hg:0 < g):n.fdiv (if d < 0 then 0 - g else g)=(if d < 0 then -n else n) / g:=by
 split
 .rw[Int.zero_sub,<-Int.fdiv_eq_ediv_of_nonneg _ (Int.le_of_lt hg)]
  have:=Int.neg_fdiv_neg (-n) g;rw[Int.neg_neg]at this;exact this
 .rw[Int.fdiv_eq_ediv_of_nonneg _ (Int.le_of_lt hg)]
theorem Yg(x y:Int):Int.gcd (if x < 0 then -x else x) (if y < 0 then -y else y)=Int.gcd x y:=by
 rw[E2];split
 .exact Int.gcd_neg
 .rfl
theorem Wq{n d:Int}(hd:d≠0):l5 n d=(Rat.divInt n d).num/\ko n d=((Rat.divInt n d).den:Int):=by
 have h:=Yh (n:=n) (d:=d) (N:=(Rat.divInt n d).num) (D:=((Rat.divInt n d).den:Int)) hd (by have:=(Rat.divInt n d).den_pos; omega) (by
  have:=(Rat.divInt n d).reduced;exact this) (by
  have e:Rat.divInt (Rat.divInt n d).num ((Rat.divInt n d).den:Int)=Rat.divInt n d:=Rat.num_divInt_den _;rw[Rat.divInt_eq_divInt_iff (by have:=(Rat.divInt n d).den_pos; omega) hd]at e;rw[e])
 exact⟨h.1.symm,h.2.symm⟩
def fR(r:Rat):D:=.tuple [.int r.num,.int (r.den:Int)]
theorem J8{n d:Int}(hd:d≠0):PyData.tuple [.int (l5 n d),.int (ko n d)]=fR (Rat.divInt n d):=by
 obtain⟨e1,e2⟩:=Wq (n:=n) hd;rw[e1,e2];rfl
theorem lZ(r:Rat):1<=(r.den:Int):=by have:=r.den_pos; omega
theorem Q3(r:Rat):Int.gcd r.num (r.den:Int)=1:=by
 have:=r.reduced;exact this
theorem Wp(a b:Rat):Rat.divInt (a.num * b.den+b.num * a.den) ((a.den:Int) * b.den)=a+b:=by
 rw[Rat.add_def',<-Rat.divInt_ofNat,Int.natCast_mul]
theorem Wn(a b:Rat):Rat.divInt (a.num * b.num) ((a.den:Int) * b.den)=a * b:=by
 rw[Rat.mul_def',<-Rat.divInt_ofNat,Int.natCast_mul]
theorem FL(r:Rat):r * (r.den:Rat)=(r.num:Rat):=by
 have e:(r.num:Rat) / ((r.den:Int):Rat)=r:=by rw[<-Rat.divInt_eq_div]; exact Rat.num_divInt_den r
 have n:((r.den:Int):Rat)≠0:=λh=>by
  have:=Rat.intCast_inj.mp (show((r.den:Int):Rat)=((0:Int):Rat) from h);have:=r.den_pos;omega
 have:=Rat.div_mul_cancel (a:=(r.num:Rat)) n;rw[e]at this;exact this
def Bd(M B:Nat)(r:Rat):Prop:=∃ k:Int,r * (M:Rat)=(k:Rat)/\k.natAbs<=B
section
variable{N C:Nat}{r s:Rat}
theorem Bd.le(h:Bd M B r)(c:B<=C):Bd M C r:=let ⟨k,e,b⟩:=h; ⟨k,e,qB b c⟩
theorem Bd.size(hM:0 < M)(h:Bd M B r):r.den<=M/\r.num.natAbs<=B:=by
 obtain⟨k,e,b⟩:=h;have e2:r.num * (M:Int)=k * (r.den:Int):=by
  have h1:=FL r;have h2:((r.num * (M:Int):Int):Rat)=((k * (r.den:Int):Int):Rat):=by
   rw[Rat.intCast_mul,Rat.intCast_mul,<-h1,<-e,Rat.intCast_natCast,Rat.intCast_natCast,Rat.mul_assoc,Rat.mul_assoc,Rat.mul_comm (r.den:Rat)]
  exact Rat.intCast_inj.mp h2
 have dv:(r.den:Int)∣(M:Int):=by
  have t:(r.den:Int)∣r.num * (M:Int):=⟨k,by rw[e2,Int.mul_comm]⟩;have u:=î.mpr t;rw[Int.gcd_comm,Q3]at u;simpa using u
 obtain⟨c,hc⟩:=dv;have dp:(0:Int) < r.den:=by have:=r.den_pos; omega
 have c0:0 < c:=by
  rcases(by omega:0 < c\/c<=0)with z|z
  .exact z
  .have:=Č (â dp) (show 0<=-c by omega)
   rw[Int.mul_neg,<-hc]at this;omega
 have ek:k=r.num * c:=by
  rw[hc]at e2;have:k * (r.den:Int)=(r.num * c) * (r.den:Int):=by rw[<-e2]; ac_rfl
  exact Ĉ (by omega) this
 constructor
 .have:(r.den:Int) * 1<=(r.den:Int) * c:=Int.mul_le_mul_of_nonneg_left (by omega) (by omega)
  omega
 .rw[ek,Int.natAbs_mul]at b
  exact qB (Nat.le_mul_of_pos_right _ (by omega)) b
theorem Bd.add(h:Bd M B r)(h':Bd M C s):Bd M (B+C) (r+s):=by
 obtain⟨k,e,b⟩:=h;obtain⟨l,f,c⟩:=h';exact⟨k+l,by rw[Rat.add_mul,e,f,Rat.intCast_add],qB (Int.natAbs_add_le _ _) (Nat.add_le_add b c)⟩
theorem Bd.mul(h:Bd M B r)(h':Bd N C s):Bd (M * N) (B * C) (r * s):=by
 obtain⟨k,e,b⟩:=h;obtain⟨l,f,c⟩:=h';refine⟨k * l,?_,by rw[Int.natAbs_mul]; exact ó b c⟩;rw[Rat.intCast_mul,<-e,<-f,Rat.natCast_mul];grind
theorem Bd.neg(h:Bd M B r):Bd M B (-r):=by
 obtain⟨k,e,b⟩:=h;exact⟨-k,by rw[Rat.neg_mul,e,Rat.intCast_neg],by rw[Int.natAbs_neg]; exact b⟩
theorem Bd.zero:Bd M B 0:=⟨0,by rw[Rat.zero_mul]; rfl,È _⟩
theorem Bd.wide(h:Bd M B r)(c:Nat):Bd (M * c) (B * c) r:=by
 obtain⟨k,e,b⟩:=h;refine⟨k * c,?_,by rw[Int.natAbs_mul,Int.natAbs_natCast]; exact Æ _ b⟩;rw[Rat.intCast_mul,<-e,Rat.natCast_mul,Rat.intCast_natCast,Rat.mul_assoc]
theorem Bd.one:Bd 1 1 1:=⟨1,by rw[Rat.one_mul]; rfl,qg _⟩
end
abbrev Pq(α:Type):=Qa (Qa Int×α)
section
def look(p:Pq α)(k:Qa Int):Qb α:=(p.find? λt=>decide (t.1=k)).map (·.2)
def bX(p:Pq α)(k:Qa Int)(x:α):Pq α:=if(p.any λt=>decide (t.1=k))=true then p.map (λt=>if t.1=k then(t.1,x)else t)else p++[(k,x)]
def aR(p:Pq α):Prop:=(p.map (·.1)).Nodup
theorem FW{p:Pq α}{k:Qa Int}:look p k=none↔(p.any λt=>decide (t.1=k))=false:=by
 induction p with
 | nil=>simp[look]
 | cons t p ih=>
  unfold look at ih ⊢;rw[List.find?_cons,List.any_cons]
  by_cases h:t.1=k
  .simp[h]
  .rw[decide_eq_false h,Bool.false_or]
   exact ih
theorem Yf{p:Pq α}{k:Qa Int}:(look p k).isSome=(p.any λt=>decide (t.1=k)):=by
 cases h:look p k with
 | none=>rw[FW.mp h]; rfl
 | some x=>
  cases z:(p.any λt=>decide (t.1=k))with
  | true=>rfl
  | false=>rw[FW.mpr z]at h; cases h
theorem Ye(p:Pq α)(k:Qa Int)(x:α):(bX p k x).map (·.1)=if(p.any λt=>decide (t.1=k))=true then p.map (·.1)else p.map (·.1)++[k]:=by
 unfold bX;split
 .rw[List.map_map]
  refine Ø λt _=>?_;show(if t.1=k then(t.1,x)else t).1=t.1;split<;>rfl
 .rw[List.map_append]
  rfl
theorem KJ{p:Pq α}{k:Qa Int}{x:α}{t:Qa Int×α}(h:t∈bX p k x):(t∈p/\t.1≠k)\/t=(k,x):=by
 unfold bX at h;split at h
 .obtain⟨u,hu,rfl⟩:=Ã.mp h
  by_cases c:u.1=k
  .rw[if_pos c]; exact .inr (by rw[c])
  .rw[if_neg c]; exact .inl ⟨hu,c⟩
 .rename_i hn
  rcases Í.mp h with z|z
  .exact .inl ⟨z,λe=>hn (Ć.mpr ⟨t,z,decide_eq_true e⟩)⟩
  .exact .inr (qr.mp z)
theorem aR.put{p:Pq α}(h:aR p)(k:Qa Int)(x:α):aR (bX p k x):=by
 unfold aR;rw[Ye];split
 .exact h
 .rename_i hn
  refine List.nodup_append.mpr ⟨h,by simp,λa ha b hb=>?_⟩;have:b=k:=by simpa using hb
  rw[this];obtain⟨t,ht,rfl⟩:=Ã.mp ha;exact λe=>hn (Ć.mpr ⟨t,ht,decide_eq_true e⟩)
theorem KI(p:Pq α)(k:Qa Int)(x:α):(bX p k x).length<=p.length+1:=by
 unfold bX;split
 .rw[List.length_map]; omega
 .rw[qv]; exact qg _
def aO[Add α][Zero α](acc:Pq α)(ts:Pq α):Pq α:=ts.foldl (λa t=>bX a t.1 ((look a t.1).getD 0+t.2)) acc
end
section
variable[Add α][Zero α]
theorem nP(ts:Pq α):∀ {acc:Pq α},aR acc->aR (aO acc ts):=by
 induction ts with
 | nil=>exact λh=>h
 | cons t ts ih=>exact λh=>ih (h.put _ _)
theorem pV(ts:Pq α):∀ (acc:Pq α),(aO acc ts).length<=acc.length+ts.length:=by
 induction ts with
 | nil=>intro acc; exact qg _
 | cons t ts ih=>
  intro acc;have h1:=ih (bX acc t.1 ((look acc t.1).getD 0+t.2));have h2:=KI acc t.1 ((look acc t.1).getD 0+t.2);rw[qw];show(aO (bX acc t.1 ((look acc t.1).getD 0+t.2)) ts).length<=_;omega
theorem Ba(acc ts:Pq α)(t:Qa Int×α):aO acc (ts++[t])=bX (aO acc ts) t.1 ((look (aO acc ts) t.1).getD 0+t.2):=by
 unfold aO;rw[List.foldl_append];rfl
theorem LN{Pk:Qa Int->Prop}(ts:Pq α):∀ {acc:Pq α},(∀ t∈acc,Pk t.1)->(∀ t∈ts,Pk t.1)->∀ t∈aO acc ts,Pk t.1:=by
 induction ts with
 | nil=>exact λh _=>h
 | cons t ts ih=>
  intro acc h1 h2;refine ih (acc:=bX acc t.1 _) (λu hu=>?_) λu hu=>h2 u (qp _ hu);rcases KJ hu with⟨z,_⟩|rfl
  .exact h1 u z
  .exact h2 t qq
end
theorem Yd{p:Pq α}{k:Qa Int}{x:α}(h:look p k=some x):(k,x)∈p:=by
 unfold look at h;obtain⟨t,ht,rfl⟩:=qu.mp h;have h1:=List.mem_of_find?_eq_some ht;have h2:t.1=k:=by simpa using List.find?_some ht
 rw[<-h2];exact h1
theorem kS{p:Pq α}(nd:aR p){t:Qa Int×α}(h:t∈p):look p t.1=some t.2:=by
 induction p with
 | nil=>cases h
 | cons u p ih=>
  have mR:u.1∉p.map (·.1)/\aR p:=ð.mp nd;unfold look at ih ⊢;rw[List.find?_cons];rcases qx.mp h with rfl|h
  .rw[decide_eq_true rfl]; rfl
  .rw[decide_eq_false (λe=>mR.1 (List.mem_map.mpr ⟨t,h,e.symm⟩))]
   exact ih mR.2 h
def aX(p:Pq Rat)(g:Qa Int->Rat):Rat:=(p.map λt=>t.2 * g t.1).sum
theorem kR(g:Qa Int->Rat):aX [] g=0:=rfl
theorem zP(t:Qa Int×Rat)(p:Pq Rat)(g:Qa Int->Rat):aX (t::p) g=t.2 * g t.1+aX p g:=rfl
theorem KH(p q:Pq Rat)(g:Qa Int->Rat):aX (p++q) g=aX p g+aX q g:=by
 induction p with
 | nil=>rw[List.nil_append,kR,Rat.zero_add]
 | cons t p ih=>rw[List.cons_append,zP,zP,ih,Rat.add_assoc]
theorem pR{p q:Pq Rat}(h:p.Perm q)(g:Qa Int->Rat):aX p g=aX q g:=by
 induction h with
 | nil=>rfl
 | cons t _ ih=>rw[zP,zP,ih]
 | swap t u p=>rw[zP,zP,zP,zP]; grind
 | trans _ _ i1 i2=>exact i1.trans i2
theorem EC(p:Pq Rat)(g:Qa Int->Rat):aX (p.filter λt=>decide (t.2≠0)) g=aX p g:=by
 induction p with
 | nil=>rfl
 | cons t p ih=>
  rw[List.filter_cons]
  by_cases h:t.2=0
  .rw[if_neg (by simp[h]),zP,h,ih]; grind
  .rw[if_pos (by simp[h]),zP,zP,ih]
theorem Yc{p:Pq Rat}(nd:aR p){k:Qa Int}{x:Rat}(h:look p k=some x)(y:Rat)(g:Qa Int->Rat):aX (p.map λt=>if t.1=k then(t.1,x+y)else t) g=aX p g+y * g k:=by
 induction p with
 | nil=>cases h
 | cons t p ih=>
  have mR:t.1∉p.map (·.1)/\aR p:=ð.mp nd;rw[List.map_cons,zP,zP]
  by_cases c:t.1=k
  .have e:p.map (λt=>if t.1=k then(t.1,x+y)else t)=p:=by
    have:∀ u∈p,(λt:Qa Int×Rat=>if t.1=k then(t.1,x+y)else t) u=id u:=λu hu=>if_neg λz=>mR.1 (Ã.mpr ⟨u,hu,z.trans c.symm⟩);rw[List.map_congr_left this,List.map_id]
   have ex:t.2=x:=by
    unfold look at h;rw[List.find?_cons,decide_eq_true c]at h;exact qA h
   rw[e,if_pos c,ex,c];grind
  .have h':look p k=some x:=by
    unfold look at h ⊢;rw[List.find?_cons,decide_eq_false c]at h;exact h
   rw[if_neg c,ih mR.2 h'];grind
theorem Wm{p:Pq Rat}(nd:aR p)(k:Qa Int)(y:Rat)(g:Qa Int->Rat):aX (bX p k ((look p k).getD 0+y)) g=aX p g+y * g k:=by
 unfold bX;cases h:look p k with
 | none=>
  rw[if_neg (by rw[FW.mp h]; exact qh),KH,zP,kR,Option.getD_none];grind
 | some x=>
  rw[if_pos (by rw[<-Yf,h]; rfl),Option.getD_some];exact Yc nd h y g
theorem wF(ts:Pq Rat)(g:Qa Int->Rat):∀ {acc:Pq Rat},aR acc->aX (aO acc ts) g=aX acc g+aX ts g:=by
 induction ts with
 | nil=>intro acc _; rw[kR,Rat.add_zero]; rfl
 | cons t ts ih=>
  intro acc nd;show aX (aO (bX acc t.1 _) ts) g=_;rw[ih (nd.put _ _),Wm nd,zP,Rat.add_assoc]
def vq(a b:Qa Int×α):Prop:=dq a.1 b.1=true
def ins(x:Qa Int×α):Pq α->Pq α
 | []=>[x]
 | y::l=>if dq x.1 y.1=true then x::y::l else y::ins x l
def ee:Pq α->Pq α
 | []=>[]
 | x::l=>ins x (ee l)
theorem FK(x:Qa Int×α):∀ l:Pq α,(ins x l).Perm (x::l)
 | []=>.refl _
 | y::l=>by
  unfold ins;split
  .exact .refl _
  .exact((FK x l).cons y).trans (List.Perm.swap x y l)
theorem iY:∀ l:Pq α,(ee l).Perm l
 | []=>.refl _
 | x::l=>(FK x (ee l)).trans ((iY l).cons x)
theorem LM(x:Qa Int×α):∀ {l:Pq α},l.Pairwise vq->(∀ y∈l,x.1≠y.1)->(ins x l).Pairwise vq
 | [],_,_=>by unfold ins; simp
 | y::l,h,ne=>by
  obtain⟨h1,h2⟩:=Ï.mp h;unfold ins;split
  .rename_i c
   refine Ï.mpr ⟨λw hw=>?_,h⟩;rcases qx.mp hw with rfl|hw
   .exact c
   .exact u9 c (h1 w hw)
  .rename_i c
   refine Ï.mpr ⟨λw hw=>?_,LM x h2 λw hw=>ne w (qp _ hw)⟩;rcases qx.mp ((FK x l).mem_iff.mp hw)with rfl|hw
   .exact(wU (ne y qq)).resolve_left c
   .exact h1 w hw
theorem u5:∀ {l:Pq α},aR l->(ee l).Pairwise vq
 | [],_=>.nil
 | x::l,nd=>by
  have mR:x.1∉l.map (·.1)/\aR l:=ð.mp nd;exact LM x (u5 mR.2) λy hy e=>mR.1 (Ã.mpr ⟨y,(iY l).mem_iff.mp hy,e.symm⟩)
structure Nf (p:Pq Rat):Prop where
 st:p.Pairwise vq
 nz:∀ t∈p,t.2≠0
theorem AK{p:Pq Rat}{k:Qa Int}(h:∀ t∈p,t.1≠k):aX p (λe=>if e=k then 1 else 0)=0:=by
 induction p with
 | nil=>rfl
 | cons t p ih=>
  rw[zP,ih λu hu=>h u (qp _ hu),if_neg (h t qq)];grind
theorem qM{a b:Qa Int×α}(h:vq a b):a.1≠b.1:=λe=>by
 unfold vq at h;rw[e,sI]at h;cases h
theorem Nf.tail{t:Qa Int×Rat}{p:Pq Rat}(h:Nf (t::p)):Nf p:=⟨(Ï.mp h.st).2,λu hu=>h.nz u (qp _ hu)⟩
theorem Nf.fW{t:Qa Int×Rat}{p:Pq Rat}(h:Nf (t::p)):aX (t::p) (λe=>if e=t.1 then 1 else 0)=t.2:=by
 rw[zP,AK λu hu e=>qM ((List.pairwise_cons.mp h.st).1 u hu) e.symm,if_pos rfl];grind
theorem Fe:∀ {p q:Pq Rat},Nf p->Nf q->(∀ g,aX p g=aX q g)->p=q
 | [],[],_,_,_=>rfl
 | [],t::q,_,hq,h=>by
  have:=h λe=>if e=t.1 then 1 else 0;rw[hq.fW,kR]at this;exact absurd this.symm (hq.nz t qq)
 | t::p,[],hp,_,h=>by
  have:=h λe=>if e=t.1 then 1 else 0;rw[hp.fW,kR]at this;exact absurd this (hp.nz t qq)
 | t::p,u::q,hp,hq,h=>by
  have key:t.1=u.1:=by
   by_cases c:t.1=u.1
   .exact c
   .exfalso
    rcases wU c with z|z
    .have:=h λe=>if e=t.1 then 1 else 0
     rw[hp.fW,AK]at this
     .exact hp.nz t qq this
     .intro w hw e
      rcases qx.mp hw with rfl|hw
      .exact c e.symm
      .have:=u9 z ((Ï.mp hq.st).1 w hw)
       rw[e,sI]at this;cases this
    .have:=h λe=>if e=u.1 then 1 else 0
     rw[hq.fW,AK]at this
     .exact hq.nz u qq this.symm
     .intro w hw e
      rcases qx.mp hw with rfl|hw
      .exact c e
      .have:=u9 z ((Ï.mp hp.st).1 w hw)
       rw[e,sI]at this;cases this
  have val:t.2=u.2:=by
   have:=h λe=>if e=t.1 then 1 else 0;rw[hp.fW,key,hq.fW]at this;exact this
  have tl:∀ g,aX p g=aX q g:=λg=>by
   have:=h g;rw[zP,zP,key,val]at this;grind
  rw[Fe hp.tail hq.tail tl,Prod.ext key val]
def nz(p:Pq Rat):Pq Rat:=p.filter λt=>decide (t.2≠0)
theorem DR{p:Pq Rat}(h:aR p):aR (nz p):=h.sublist (List.filter_sublist.map _)
theorem nd0:aR ([]:Pq Rat):=ß
def PB(M B:Nat)(p:Pq Rat):Prop:=∀ t∈p,Bd M B t.2
theorem AJ{p:Pq Rat}(h:PB M B p)(k:Qa Int):Bd M B ((look p k).getD 0):=by
 cases e:look p k with
 | none=>exact Bd.zero
 | some x=>exact h _ (Yd e)
theorem EB(ts:Pq Rat):∀ {C:Nat} {acc:Pq Rat},PB M C acc->PB M B ts->PB M (C+ts.length * B) (aO acc ts):=by
 induction ts with
 | nil=>intro C acc h _ t ht; exact(h t ht).le (by rw[List.length_nil]; omega)
 | cons t ts ih=>
  intro C acc h h' u hu;have hp:PB M (C+B) (bX acc t.1 ((look acc t.1).getD 0+t.2)):=λv hv=>by
   rcases KJ hv with⟨z,_⟩|rfl
   .exact(h v z).le (by omega)
   .exact(AJ h _).add (h' t qq)
  exact(ih hp (λv hv=>h' v (qp _ hv)) u hu).le (by rw[qw,Nat.add_mul]; omega)
theorem PZ:PB M B []:=λt ht=>by cases ht
def bA(a b:Qa Int):Qa Int:=List.zipWith (·+·) a b
def bj[Mul α](p q:Pq α):Pq α:=p.flatMap λs=>q.map λt=>(bA s.1 t.1,s.2 * t.2)
theorem Yz(s:Qa Int×Rat)(q:Pq Rat)(g:Qa Int->Rat):aX (q.map λt=>(bA s.1 t.1,s.2 * t.2)) g=s.2 * aX q λb=>g (bA s.1 b):=by
 induction q with
 | nil=>rw[List.map_nil,kR,kR,Rat.mul_zero]
 | cons t q ih=>rw[List.map_cons,zP,zP,ih]; grind
theorem KG(p q:Pq Rat)(g:Qa Int->Rat):aX (bj p q) g=aX p λa=>aX q λb=>g (bA a b):=by
 induction p with
 | nil=>rfl
 | cons s p ih=>
  show aX (_++bj p q) g=_;rw[KH,Yz,ih,zP]
theorem Zz{p:Pq Rat}{g h:Qa Int->Rat}(e:∀ t∈p,g t.1=h t.1):aX p g=aX p h:=by
 induction p with
 | nil=>rfl
 | cons t p ih=>rw[zP,zP,e t qq,ih λu hu=>e u (qp _ hu)]
theorem A9[Mul α](p q:Pq α):(bj p q).length=p.length * q.length:=by
 induction p with
 | nil=>simp[bj]
 | cons s p ih=>
  show(_++bj p q).length=_;rw[qv,ih,List.length_map,qw,Nat.add_mul,Nat.one_mul,Nat.add_comm]
theorem Fd[Mul α]{p q:Pq α}{t:Qa Int×α}(h:t∈bj p q):∃ u∈p,∃ v∈q,t=(bA u.1 v.1,u.2 * v.2):=by
 obtain⟨u,hu,h⟩:=List.mem_flatMap.mp h;obtain⟨v,hv,rfl⟩:=Ã.mp h;exact⟨u,hu,v,hv,rfl⟩
theorem Wl{N C:Nat}{p q:Pq Rat}(h:PB M B p)(h':PB N C q):PB (M * N) (B * C) (bj p q):=λt ht=>by
 obtain⟨u,hu,v,hv,rfl⟩:=Fd ht;exact(h u hu).mul (h' v hv)
def bJ(c:Int)(p:Pq Int):Pq Rat:=p.map λt=>(t.1,Rat.divInt t.2 c)
theorem Yy(φ:α->β)(p:Pq α)(k:Qa Int):look (p.map λt=>(t.1,φ t.2)) k=(look p k).map φ:=by
 unfold look
 induction p with
 | nil=>rfl
 | cons t p ih=>
  rw[List.map_cons,List.find?_cons,List.find?_cons]
  by_cases h:t.1=k
  .rw[decide_eq_true h]; rfl
  .rw[decide_eq_false h]; exact ih
theorem Wj(φ:α->β)(p:Pq α)(k:Qa Int)(x:α):(bX p k x).map (λt=>(t.1,φ t.2))=bX (p.map λt=>(t.1,φ t.2)) k (φ x):=by
 have any:((p.map λt=>(t.1,φ t.2)).any λt=>decide (t.1=k))=(p.any λt=>decide (t.1=k)):=by rw[List.any_map]; rfl
 unfold bX;rw[any];split
 .rw[List.map_map,List.map_map]
  refine Ø λt _=>?_;show(λt:Qa Int×α=>(t.1,φ t.2)) (if t.1=k then(t.1,x)else t)=if t.1=k then(t.1,φ x)else(t.1,φ t.2);split<;>rfl
 .rw[List.map_append]; rfl
theorem KE[Add α][Zero α][Add β][Zero β](φ:α->β)(h0:φ 0=0)(ha:∀ a b,φ (a+b)=φ a+φ b)(ts:Pq α):∀ acc:Pq α,(aO acc ts).map (λt=>(t.1,φ t.2))=aO (acc.map λt=>(t.1,φ t.2)) (ts.map λt=>(t.1,φ t.2)):=by
 induction ts with
 | nil=>intro acc; rfl
 | cons t ts ih=>
  intro acc;show(aO (bX acc t.1 _) ts).map _=aO (bX _ t.1 _) _;rw[ih,Wj,ha,Yy];cases look acc t.1 with
  | none=>rw[Option.getD_none,h0]; rfl
  | some x=>rfl
theorem Wi(hc:c≠0)(ts:Pq Int):bJ c (aO [] ts)=aO [] (bJ c ts):=KE (λk=>Rat.divInt k c) (Rat.zero_divInt c) (λa b=>by
 rw[Rat.divInt_eq_div,Rat.divInt_eq_div,Rat.divInt_eq_div,Rat.intCast_add,Rat.div_def,Rat.div_def,Rat.div_def,Rat.add_mul]) ts []
theorem Sv(hc:c≠0)(p:Pq Int):nz (bJ c p)=bJ c (p.filter λt=>!decide (t.2=0)):=by
 unfold nz bJ;rw[List.filter_map];congr 1;refine List.filter_congr λt _=>?_;show decide (Rat.divInt t.2 c≠0)=!decide (t.2=0);rw[Bool.eq_iff_iff,Bool.not_eq_true',decide_eq_false_iff_not,decide_eq_true_iff];refine not_congr ⟨λh=>?_,λh=>by rw[h]; exact Rat.zero_divInt c⟩;rw[<-Rat.zero_divInt c,Rat.divInt_eq_divInt_iff hc hc]at h;rcases Int.mul_eq_zero.mp (show t.2 * c=0 by omega)with z|z
 .exact z
 .exact absurd z hc
def iv(m:Nat)(r:Rat):Int:=r.num * ((m:Int) / (r.den:Int))
theorem Bd.dvd{r:Rat}(h:Bd M B r):r.den∣M:=by
 obtain⟨k,e,b⟩:=h;have e2:r.num * (M:Int)=k * (r.den:Int):=by
  have h1:=FL r;have h2:((r.num * (M:Int):Int):Rat)=((k * (r.den:Int):Int):Rat):=by
   rw[Rat.intCast_mul,Rat.intCast_mul,<-h1,<-e,Rat.intCast_natCast,Rat.intCast_natCast,Rat.mul_assoc,Rat.mul_assoc,Rat.mul_comm (r.den:Rat)]
  exact Rat.intCast_inj.mp h2
 have t:(r.den:Int)∣r.num * (M:Int):=⟨k,by rw[e2,Int.mul_comm]⟩;have u:=î.mpr t;rw[Int.gcd_comm,Q3]at u;have u:(r.den:Int)∣(M:Int):=by simpa using u
 exact ù.mp u
def bg(ks:Qa Int):D:=.tuple (ks.map PyData.int)
abbrev kL(ks:Qa Int):Qa Key:=ks.map Sum.inl
section
variable{c:α->D}
def aW(c:α->D)(p:Pq α):Qa (Qa Key×D):=p.map λt=>(kL t.1,c t.2)
def cu(c:α->D)(p:Pq α):Qa (D×D):=p.map λt=>(bg t.1,c t.2)
def cV(c:α->D)(p:Pq α):Qa D:=p.map λt=>.tuple [bg t.1,c t.2]
theorem uH(p:Pq α):cV c p=p.map λt=>.tuple [bg t.1,c t.2]:=rfl
theorem uG{a b:Qa Int}:kL a=kL b↔a=b:=EZ
theorem EA(k:Qa Int):jL (kL k)=bg k:=by
 unfold jL bg kL;rw[List.map_map];rfl
theorem sL(k:Qa Int):dI (bg k)=some (kL k):=by rw[<-EA,Bb]
theorem LB(p:Pq α):(aW c p).map (λp=>(jL p.1,p.2))=cu c p:=by
 unfold aW cu;rw[List.map_map];refine Ø λt _=>?_;show(jL (kL t.1),c t.2)=_;rw[EA]
theorem jx{p:Pq α}:U.fz (.t (aW c p))=some (.dict (cu c p)):=by
 show some (PyData.dict _)=_;rw[LB]
theorem Av(p:Pq α):jG (cu c p)=true:=by
 cases p with
 | nil=>rfl
 | cons t p=>rfl
theorem Wh(p:Pq α)(k:Qa Int):rE (aW c p) (kL k)=(look p k).map c:=by
 unfold rE aW look
 induction p with
 | nil=>rfl
 | cons t p ih=>
  rw[List.map_cons,List.find?_cons,List.find?_cons]
  by_cases h:t.1=k
  .rw[decide_eq_true h,decide_eq_true (uG.mpr h)]; rfl
  .rw[decide_eq_false h,decide_eq_false (λz=>h (uG.mp z))]; exact ih
theorem Yx(p:Pq α)(k:Qa Int):ux (cu c p) (kL k)=(look p k).map c:=by
 unfold ux cu look
 induction p with
 | nil=>rfl
 | cons t p ih=>
  rw[List.map_cons,List.find?_cons,List.find?_cons]
  by_cases h:t.1=k
  .rw[decide_eq_true h,decide_eq_true (show dI (bg t.1)=some (kL k) by rw[sL,h])]; rfl
  .rw[decide_eq_false h,decide_eq_false (show ¬dI (bg t.1)=some (kL k) by rw[sL]; exact λz=>h (uG.mp (qA z)))]; exact ih
theorem ZS{p:Pq α}{k:Qa Int}:l6 (.t (aW c p)) (.d (bg k))=some ((look p k).map c):=by
 show(dI (bg k)).map _=_;rw[sL,Option.map_some,Wh]
theorem ZR{p:Pq α}{k:Qa Int}:l6 (.d (.dict (cu c p))) (.d (bg k))=some ((look p k).map c):=by
 show(if jG (cu c p)=true then _ else _)=_;rw[if_pos (Av p)];show(dI (bg k)).map _=_;rw[sL,Option.map_some,Yx]
theorem Yw{p:Pq α}:jG (cu c p)=true:=Av p
theorem Yv{p:Pq α}:(cu c p).map (λx=>x.1)=p.map λt=>bg t.1:=by
 unfold cu;rw[List.map_map];rfl
theorem zmg{k:Qa Int}:dI (bg k)=some (kL k):=sL k
theorem Ez(p:Pq α)(k:Qa Int)(x:α):jn (aW c p) (kL k) (c x)=aW c (bX p k x):=by
 have any:((aW c p).any λkv=>decide (kv.1=kL k))=(p.any λt=>decide (t.1=k)):=by
  unfold aW;rw[List.any_map];congr 1
  funext t
  exact decide_eq_decide.mpr uG
 unfold jn bX;rw[any];split
 .unfold aW
  rw[List.map_map,List.map_map];refine Ø λt _=>?_;show(if kL t.1=kL k then _ else _)=(λt:Qa Int×α=>(kL t.1,c t.2)) (if t.1=k then(t.1,x)else t)
  by_cases h:t.1=k
  .rw[if_pos (uG.mpr h),if_pos h]
  .rw[if_neg (λz=>h (uG.mp z)),if_neg h]
 .unfold aW
  rw[List.map_append];rfl
theorem Kf(p:Pq α):(aW c p).length=p.length:=Î ..
theorem rL{p:Pq α}{k:Qa Int}{x:α}(h:p.length < 16777216):wk (.t (aW c p)) (bg k) (c x)=some (.t (aW c (bX p k x))):=by
 show(dI (bg k)).bind _=_;rw[sL,bd,if_pos (by rw[Kf]; exact h),Ez]
theorem zjX{p:Pq α}:mG (.d (.dict (cu c p)))=some (cV c p):=by
 show(if jG (cu c p)=true then _ else _)=_;rw[if_pos (Av p)];unfold cu cV;rw[List.map_map];rfl
theorem Yu:∀ p:Pq α,wx (cu c p)=some (aW c p)
 | []=>rfl
 | t::p=>by
  show(dI (bg t.1)).bind _=_;rw[sL,bd];show(wx (cu c p)).bind _=_;rw[Yu p,bd];rfl
theorem Yt(p:Pq α):(aW c p).map (·.1)=(p.map (·.1)).map kL:=by
 unfold aW;rw[List.map_map,List.map_map];rfl
def DQ(p:Pq α):Prop:=sf ((p.map (·.1)).map kL)=true
theorem Jc{p:Pq α}(h:DQ p):wG (.t (aW c p))=some (.t (aW c p)):=by
 show(if _ then _ else _)=_;rw[if_pos (by rw[Yt]; exact h)]
theorem DJ(k:Qa Int)(d:D):pk (.tuple [bg k,d])=some k:=Bm k
theorem JX:∀ p:Pq α,vj (cV c p)=some (p.map (·.1))
 | []=>rfl
 | t::p=>by
  show(pk (.tuple [bg t.1,c t.2])).bind _=_;rw[DJ,bd];show(vj (cV c p)).bind _=_;rw[JX p];rfl
theorem JW{p:Pq α}(nd:aR p)(hl:p.length < 64):Az (.l (cV c p))=some (.l (cV c (ee p))):=by
 have e:Ak (cV c p)=cV c (ee p):=Mf ((iY p).map _) (List.pairwise_map.mpr ((u5 nd).imp λ{a b} h=>⟨_,_,DJ a.1 _,DJ b.1 _,h⟩));show(some _).bind _=_;rw[bd,JX,bd,if_pos ⟨by unfold cV; rw[List.length_map]; exact hl,nd⟩,e]
end
theorem Uy{r:Rat}:zZ (.d (fR r)) (.d (.int 0))=some (.d (.int r.num)):=rfl
theorem Ux{r:Rat}:zZ (.d (fR r)) (.d (.int 1))=some (.d (.int (r.den:Int))):=rfl
theorem JV(r:Rat):(!decide (r.num=0))=decide (r≠0):=by
 rw[Bool.eq_iff_iff,Bool.not_eq_true',decide_eq_false_iff_not,decide_eq_true_iff];exact not_congr Rat.num_eq_zero
theorem LL{f:α->D}{g:β->D}:∀ (as:Qa α) (bs:Qa β),rM (as.map f) (bs.map g)=(as.zip bs).map λt=>.tuple [f t.1,g t.2]
 | [],bs=>by cases bs<;>rfl
 | a::as,[]=>rfl
 | a::as,b::bs=>by rw[List.map_cons,List.map_cons,List.zip_cons_cons,List.map_cons,<-LL as bs]; rfl
theorem Mu{f:α->D}(h:as.length=ks.length):vV [.d (.tuple (as.map f)),.d (bg ks)]=some ((as.zip ks).map λt=>.tuple [f t.1,.int t.2]):=by
 show(if _ then _ else _)=_;rw[if_pos (by rw[List.length_map,List.length_map]; exact h),LL]
theorem FV{as:Qa Int}(h:as.length=ks.length):vV [.d (bg as),.d (bg ks)]=some ((as.zip ks).map λt=>.tuple [.int t.1,.int t.2]):=Mu (f:=PyData.int) h
theorem pK{g:α->D}{e:α->D}{mg:MG}{mt:MT}{me:ME}{ρ:En}{Q:Qa D×En->Prop}(hz:as.length<=16777216)
  (st:∀ a∈as,∀ ys,Wo (mg (g a) ρ) (Co mt ⟨0⟩ (vz nt me ys λav zs=>av=ρ/\zs=ys++[e a]))) (q:Q (as.map e,ρ)):Wo (iC nt mg mt me (as.map g) ρ []) Q:=by
 refine J9 (b:=λ_=>true) (e:=e) (by rw[rQ]; exact hz) (λa ha ys=>?_) ?_
 .simp only[if_true]
  exact st a ha ys
 .rw[show as.filter (λ_=>true)=as from List.filter_eq_self.mpr λ_ _=>rfl]
  exact q
theorem Au:PyData.tuple [.int 1,.int 1]=fR 1:=rfl
theorem Xg{o:Qb Rat}:(Option.map fR o).getD (.tuple [.int 0,.int 1])=fR (o.getD 0):=by cases o<;>rfl
theorem Zy[Mul α](p q:Pq α)(s:Qa Int×α):bj (p++[s]) q=bj p q++q.map λt=>(bA s.1 t.1,s.2 * t.2):=by
 unfold bj;rw[List.flatMap_append];simp
def mon:Qa (Rat×Int)->Rat
 | []=>1
 | t::l=>t.1^t.2.toNat * mon l
def mono(pt:Qa Rat)(e:Qa Int):Rat:=mon (pt.zip e)
def gL(s:Int)(q:Pq Rat):Pq Rat:=q.map λt=>(t.1,(s:Rat) * t.2)
theorem Su{s:Int}(hs:s=1\/s=-1)(r:Rat):PyData.tuple [.int (s * r.num),.int (r.den:Int)]=fR ((s:Rat) * r):=by
 rcases hs with rfl|rfl
 .rw[Int.one_mul,show((1:Int):Rat)=1 from rfl,Rat.one_mul]; rfl
 .rw[show((-1:Int):Rat)=-1 from rfl,Rat.neg_mul,Rat.one_mul,Int.neg_mul,Int.one_mul]; rfl
theorem JU{s:Int}(hs:s=1\/s=-1){q:Pq Rat}(h:PB M B q):PB M B (gL s q):=λt ht=>by
 obtain⟨u,hu,rfl⟩:=Ã.mp ht;rcases hs with rfl|rfl
 .show Bd M B (((1:Int):Rat) * u.2)
  rw[show((1:Int):Rat)=1 from rfl,Rat.one_mul];exact h u hu
 .show Bd M B (((-1:Int):Rat) * u.2)
  rw[show((-1:Int):Rat)=-1 from rfl,Rat.neg_mul,Rat.one_mul];exact(h u hu).neg
theorem KD(q:Pq Rat):gL 1 q=q:=by
 unfold gL;have:∀ t∈q,(λt:Qa Int×Rat=>(t.1,((1:Int):Rat) * t.2)) t=id t:=λt _=>by
  show(t.1,((1:Int):Rat) * t.2)=t;rw[show((1:Int):Rat)=1 from rfl,Rat.one_mul]
 rw[List.map_congr_left this,List.map_id]
theorem Mz{p:Pq α}{k:Qa Int}{x:α}(h:∀ t∈p,t.1≠k):bX p k x=p++[(k,x)]:=by
 unfold bX;rw[if_neg];intro z;obtain⟨t,ht,e⟩:=Ć.mp z;exact h t ht (of_decide_eq_true e)
theorem LK{bs cs:Pq α}{t:Qa Int×α}(nd:aR (bs++t::cs)):∀ u∈bs,u.1≠t.1:=λu hu e=>by
 unfold aR at nd;rw[List.map_append,List.map_cons]at nd;exact(List.nodup_append.mp nd).2.2 u.1 (Ã.mpr ⟨u,hu,rfl⟩) t.1 qq e
theorem KC(bs:Pq Rat)(t:Qa Int×Rat):nz (bs++[t])=if t.2=0 then nz bs else nz bs++[t]:=by
 unfold nz;rw[List.filter_append,List.filter_cons]
 by_cases h:t.2=0
 .rw[if_pos h,if_neg (by simp[h])]; simp
 .rw[if_neg h,if_pos (by simp[h])]; rfl
theorem JT{bs cs:Pq Rat}{t:Qa Int×Rat}(nd:aR (bs++t::cs)):bX (nz bs) t.1 t.2=nz bs++[t]:=Mz λu hu=>LK nd u (Ú.mp hu).1
theorem As{f:α->β}:∀ {l:Qa α},(l.map f).Nodup->∀ a∈l,∀ b∈l,f a=f b->a=b
 | [],_,a,ha,_,_,_=>by cases ha
 | x::l,nd,a,ha,b,hb,e=>by
  rw[List.map_cons,List.nodup_cons]at nd;rcases qx.mp ha with h1|h1
  .rcases qx.mp hb with h2|h2
   .rw[h1,h2]
   .exact(nd.1 (Ã.mpr ⟨b,h2,by rw[<-e,h1]⟩)).elim
  .rcases qx.mp hb with h2|h2
   .exact(nd.1 (Ã.mpr ⟨a,h1,by rw[e,h2]⟩)).elim
   .exact As nd.2 a h1 b h2 e
theorem Ss{n d:Int}(hd:0 < d)(h:d∣(M:Int))(h0:0 < M):Bd M (n.natAbs * M) (Rat.divInt n d):=by
 obtain⟨c,hc⟩:=h;have c0:0 < c:=by
  rcases(by omega:0 < c\/c<=0)with z|z
  .exact z
  .have:=Č (â hd) (show 0<=-c by omega)
   rw[Int.mul_neg,<-hc]at this;omega
 have dr:((d:Int):Rat)≠0:=λz=>by
  have:=Rat.intCast_inj.mp (show((d:Int):Rat)=((0:Int):Rat) from z);omega
 refine⟨n * c,?_,?_⟩
 .have e:(M:Rat)=((d:Int):Rat) * ((c:Int):Rat):=by rw[<-Rat.intCast_mul,<-hc,Rat.intCast_natCast]
  rw[e,Rat.divInt_eq_div,Rat.intCast_mul];grind
 .rw[Int.natAbs_mul]
  refine ì _ ?_;have:1 * c<=d * c:=Int.mul_le_mul_of_nonneg_right (by omega) (by omega);omega
end L2
namespace L2
open PySem PySem.Spec PyProof.Rows
open PySem.AutoSeq1 (wpAny_loadPart')
theorem znN(t:Qg)(items:Array Qc)(n:Nat)(dd:Qb Qg)(sl:Array (Qb Qc))(u:Tok):
  Meets (Builtin.«tuple.__mul__» ⟨[.ref t,.int 1 u],[]⟩) (λ_ R s=>s.heap.get? t=some {cls:=.type "tuple",dict:=dd,data:=.seq items n,slots:=sl}/\R (.ok (.ret (.ref t))) s):=
 .of_wp λprog w A R s h=>by
  obtain⟨hp,g,d,tk,os⟩:=s;obtain⟨hl,h⟩:=h
  wp_walk using wpAny_loadPart' hl
  exact⟨_,rfl,h⟩
theorem znO(t:Qg)(items:Array Qc)(n:Nat)(dd:Qb Qg)(sl:Array (Qb Qc))(x:Int)(u:Tok)(hf:(decide (x < -2^63) || decide (x>=2^63))=false)(h1:(items.isEmpty || x==1)=false)(h0:(decide (x<=0) || items.isEmpty)=true):
  Meets (Builtin.«tuple.__mul__» ⟨[.ref t,.int x u],[]⟩) (λ_ R s=>s.heap.get? t=some {cls:=.type "tuple",dict:=dd,data:=.seq items n,slots:=sl}/\
   R (.ok (.ret (.ref s.heap.objs.size))) {s with heap:=s.heap.push {cls:=.type "tuple",data:=.seq #[]}}):=
 .of_wp λprog w A R s h=>by
  obtain⟨hp,g,d,tk,os⟩:=s;obtain⟨hl,h⟩:=h
  wp_walk using wpAny_loadPart' hl
  refine wpAny_ite_false (by rw[hf]; rfl) ?_
  wp_walk using wpAny_loadPart' hl
  exact⟨_,rfl,h⟩
theorem znP(t:Qg)(items:Array Qc)(n:Nat)(dd:Qb Qg)(sl:Array (Qb Qc))(x:Int)(u:Tok)(hf:(decide (x < -2^63) || decide (x>=2^63))=false)(h1:(items.isEmpty || x==1)=false)(h0:(decide (x<=0) || items.isEmpty)=false)
  (hm:¬((items.size:Int) * x > (2^63 - 1) / 8)) (ht:Builtin.Tuple.tupleTooMany ((items.size:Int) * x)=false) (hz:(List.foldl (λx1 x2=>x1++x2) #[] (List.replicate x.toNat items)).size<=sizeLine):
  Meets (Builtin.«tuple.__mul__» ⟨[.ref t,.int x u],[]⟩) (λ_ R s=>s.heap.get? t=some {cls:=.type "tuple",dict:=dd,data:=.seq items n,slots:=sl}/\
   R (.ok (.ret (.ref s.heap.objs.size))) {s with heap:=s.heap.push {cls:=.type "tuple",data:=.seq (List.foldl (λx1 x2=>x1++x2) #[] (List.replicate x.toNat items))}}):=
 .of_wp λprog w A R s h=>by
  obtain⟨hp,g,d,tk,os⟩:=s;obtain⟨hl,h⟩:=h
  wp_walk using wpAny_loadPart' hl
  refine wpAny_ite_false (by rw[hf]; rfl) ?_
  wp_walk using wpAny_loadPart' hl
  refine wpAny_ite_false (decide_eq_false hm) ?_
  wp_walk using wpAny_loadPart' hl
  exact⟨_,rfl,h⟩
theorem zg0:fillsNumberSlot (.type "tuple") "mul"=pure false :=
 PySem.fillsNumberSlot_seq (id := "tuple.__mul__") (r:=some (.builtin "tuple.__rmul__")) F.slot_tuple_mul.lookup (by decide +kernel) F.slot_tuple_rmul.lookup (by decide +kernel)
theorem zkW:seqRepeat? (.type "tuple")=pure (some (.builtin "tuple.__mul__")):=by
 unfold seqRepeat?;rw[PySem.seqSlot_of (T := "tuple") (name := "__mul__") (id := "tuple.__mul__") F.slot_tuple_mul.lookup (by decide +kernel),PySem.seqSlot_of (T := "tuple") (name := "__rmul__") (id := "tuple.__rmul__") F.slot_tuple_rmul.lookup (by decide +kernel)];rfl
theorem ziN(a:Int)(t:Tok)(l:Qg)(items:Array Qc)(n:Nat)(dd:Qb Qg)(sl:Array (Qb Qc)):
  Meets (Builtin.«int.__rmul__» ⟨[.int a t,.ref l],[]⟩) (λ_ R s=>s.heap.get? l=some {cls:=.type "tuple",dict:=dd,data:=.seq items n,slots:=sl}/\R (.ok (.ret Value.notImplemented)) s):=
 .of_wp λprog w A R s h=>by obtain⟨hp,g,d,tk,os⟩:=s; obtain⟨hl,h⟩:=h; wp_walk; exact⟨_,rfl,h⟩
section
variable{X:Cx}
def Jr(K:qe):R2:=λx y H Q=>∃ l k xs,x=.ref l/\y=.int k/\bt K H l xs/\xs≠[]/\k < 1000000/\-1000000 < k/\xs.length * k.toNat<=1000000/\
 ((k=1/\Q x H)\/(k≠1/\∀ p,H p=none->Q (.ref p) (upd H p (.tup (List.replicate k.toNat xs).flatten))))
theorem uU(K:qe)(hK:X.K=K:=by rfl):cv X (binaryOp .Mult) (Jr K):=by
 subst hK;intro pins s σ H x y v u Q I rx ry h;obtain⟨l,k,xs,rfl,rfl,hq,tL,hk,Qy,hz,q⟩:=h;cases rx;obtain⟨t,rfl⟩:=ry;obtain⟨ah,rv,ht,hzz⟩:=I.tuple hq;obtain⟨⟨c,gM,dt,sl⟩,hl,hc,n,hd⟩:=ht;replace hc:c=.type "tuple":=hc;replace hd:dt=.seq ah.toArray n:=hd;subst hc hd;have lv:=rv.length;have Ql:ah.toArray.isEmpty=false:=by
  cases ah with
  | nil=>cases rv; exact absurd rfl tL
  | cons a r=>rfl
 have hf:(decide (k < -2^63) || decide (k>=2^63))=false:=by
  rw[Bool.or_eq_false_iff];exact⟨decide_eq_false (by omega),decide_eq_false (by omega)⟩
 have f0:List.foldl (λx1 x2=>x1++x2) #[] (List.replicate k.toNat ah.toArray)=(List.replicate k.toNat ah).flatten.toArray:=by
  have:=F4 ah k.toNat [];rw[List.nil_append]at this;exact this
 have ln:(List.replicate k.toNat xs).flatten.length<=sizeLine:=by
  rw[E6,Nat.mul_comm];have:sizeLine=16777216:=rQ;omega
 refine wpAny_binaryOp_repeat_ref (T := "tuple") (U := "int") (by decide) ⟨_,hl,rfl⟩ (λs'=>typeIs_int s' k t) zg0 F.fills_int_mul F.slot_int_rmul zkW F.slot_int_index.lookup
  (call_meets F.slot_int_rmul (typeIs_int s k t) F.entry_int_rmul (F.args_int_rmul_2 _ _) (ziN k t l ah.toArray n gM sl) ⟨hl,rfl,⟨_,hl,rfl⟩,?_⟩)
 rcases q with⟨rfl,q⟩|⟨k1,q⟩
 .exact call_meets F.slot_tuple_mul ⟨_,hl,rfl⟩ F.entry_tuple_mul (F.args_tuple_mul_2 _ _) (znN l ah.toArray n gM sl t) ⟨hl,.ref l,H,I,rfl,q⟩
 .have h1:(ah.toArray.isEmpty || k==1)=false:=by rw[Ql,Bool.false_or]; simpa using k1
  by_cases k0:k<=0
  .refine call_meets F.slot_tuple_mul ⟨_,hl,rfl⟩ F.entry_tuple_mul (F.args_tuple_mul_2 _ _) (znO l ah.toArray n gM sl k t hf h1 (by rw[decide_eq_true k0]; rfl)) ⟨hl,.ref _,_,I.laid (t':=s.toks) (o:=.tup []) (λ_ _ q=>qf _ q) (qg _) ⟨È _,[],.nil,_,qi _ rfl,rfl,⟨_,rfl⟩,.inl rfl⟩,rfl,?_⟩
   have:=q _ I.fresh;rw[show k.toNat=0 by omega]at this;exact this
  .have m63:(ah.toArray.size:Int) * k<=1000000:=by
    have e1:(ah.toArray.size:Int)=(xs.length:Int):=by rw[List.size_toArray,lv]
    have e2:k=(k.toNat:Int):=by omega
    rw[e1,e2,<-Int.natCast_mul];omega
   refine call_meets F.slot_tuple_mul ⟨_,hl,rfl⟩ F.entry_tuple_mul (F.args_tuple_mul_2 _ _) (znP l ah.toArray n gM sl k t hf h1 (by rw[decide_eq_false k0,Ql]; rfl) (by omega) (decide_eq_false (by rw[show((sizeLine:Nat):Int)=16777216 by rw[rQ]; rfl]; omega)) ?_) ⟨hl,.ref _,_,I.laid (t':=s.toks) (o:=.tup (List.replicate k.toNat xs).flatten) (λ_ _ q=>qf _ q) (qg _) ⟨ln,(List.replicate k.toNat ah).flatten,rv.rep k.toNat,_,qi _ rfl,rfl,⟨0,?_⟩,.inl rfl⟩,rfl,q _ I.fresh⟩
   .rw[f0,List.size_toArray,E6,Nat.mul_comm]
    have:sizeLine=16777216:=rQ;rw[<-lv];omega
   .show Data.seq (List.foldl (λx1 x2=>x1++x2) #[] (List.replicate k.toNat ah.toArray)) _=_
    rw[f0]
end
def l9:U->U->Qb U
 | .d (.tuple xs),.d (.int k)=>if xs≠[]/\k < 1000000/\-1000000 < k/\xs.length * k.toNat<=1000000 then some (.d (.tuple (List.replicate k.toNat xs).flatten))else none
 | _,_=>none
theorem Fc{ds:Qa D}(h:aM K H vs ds):∀ n:Nat,aM K H (List.replicate n vs).flatten (List.replicate n ds).flatten
 | 0=>.nil
 | n+1=>by
  rw[List.replicate_succ,List.replicate_succ,List.flatten_cons,List.flatten_cons];exact h.app (Fc h n)
theorem uT:VO K (Jr K) l9:=by
 intro x y a b u H Q ha hb e q;unfold l9 at e;split at e
 .split at e
  rotate_left
  .cases e
  rename_i xs k hc;cases e;obtain⟨l,vs,rfl,h1,h2⟩:=DF.aH ha;cases DF.int_inv hb;have ln:=h2.len;refine⟨l,k,vs,rfl,rfl,(aT.sq h1),λz=>hc.1 (ë (by rw[<-ln,z]; rfl)),hc.2.1,hc.2.2.1,by rw[ln]; exact hc.2.2.2,?_⟩
  by_cases k1:k=1
  .subst k1
   refine .inl ⟨rfl,q _ _ (λ_ _ z=>z) ?_ Nw.data⟩;have e:(List.replicate (1:Int).toNat xs).flatten=xs:=by simp
   rw[e];exact DF.tup h1 h2
  .refine .inr ⟨k1,λp hp=>?_⟩
   have sm:=zW hp (.tup (List.replicate k.toNat vs).flatten);exact q _ _ sm (.tup (.inl zx) ((Fc h2 _).kp sm.kp)) Nw.data
 .cases e
theorem Mt{xs:Qa D}{k:Int}(h:0 < xs.length)(h2:k < 1000)(h3:-1000 < k)(h4:xs.length < 1000):l9 (.d (.tuple xs)) (.d (.int k))=some (.d (.tuple (List.replicate k.toNat xs).flatten)):=by
 show(if _ then _ else _)=_;rw[if_pos ⟨λz=>by rw[z]at h; exact Ì _ h,by omega,by omega,qB (ó (ċ h4) (show k.toNat<=1000 by omega)) (by decide)⟩]
end L2
namespace L2
open PySem PySem.Spec PyProof.Rows
def Ey(K:qe)(tk tv:TE):TE:=λσ H Q=>∀ p,H p=none->tk σ (upd H p (.dT [])) λx H1=>tv σ H1 λy H2=>H2 p=some (.dT [])/\∃ k b,x=.ref b/\aT K H2 b (k.map kV)/\Q (.ref p) (upd H2 p (.dT [(k,y)]))
theorem Xf{X:Cx}{k v:Expr}(hu:X.A.units+1 < cLine)(hk:PE X k tk)(hv:PE X v tv):PE X (.Dict [some k] [v] pos) (Ey X.K tk tv):=by
 intro pins s σ H Q I q;have hn:=I.aD.fresh (qg s.heap.objs.size);have I1:=I.laid (a:=s.heap.objs.size) (o:=.dT []) (h':=s.heap.push {cls:=.type "dict",data:=.dict #[]}) (t':=s.toks) (λ_ _ q=>qf _ q) (qg _) (FC s.heap I.Cz);refine wpAny_Dict_any rfl rfl (by simp) (by show 1<=15; decide) (pairTrees_cons_walk (aI (hk pins _ σ _ _ I1 (q _ hn)) λu s1 ⟨x,H1,I1,rx,q1⟩=>aI (hv pins s1 σ H1 _ I1 q1) λw2 s2 ⟨y,H2,I2,ry,e,ks,b,ex,eb,q2⟩=>pairTrees_nil_walk ?_));subst ex;cases rx;unfold storeAll;rw[List.forIn_cons];obtain⟨z,hd,xs,rel,dd⟩:=DW I2.bZ I2.aD e;cases rel;refine qc (qc (wpAny_dictSet_heap (hsz:=È _) (show X.A.units < cLine from Nat.lt_of_succ_lt hu) (rY I2.bZ I2.aD eb) dd λh' rh hs=>qd ?_));dsimp only;rw[List.forIn_nil];refine qd ?_;obtain⟨q',es,ep,hq,h2,h3,h4,_,h5⟩:=rh;refine⟨.ref s.heap.objs.size,_,AY (ob:=.dT [(ks,y)]) I2 (by rw[e]; exact True.intro) hs ⟨q',hq⟩ ⟨by show 1<=sizeLine; decide,hd,_,(KT.put (kvs:=[]) .nil ks eb ry).keeps λc ys ec=>?_,q',es,ep,hq,h2,h3,h4,h5⟩,rfl,q2⟩;rw[zH (nM ec e (λz=>nomatch z))];exact ec
theorem AI{X:Cx}{k v:Expr}(hr:aK n X.A)(hk:Wr (PE X k tk))(hv:Wr (PE X v tv)):Wr (PE X (.Dict [some k] [v] pos) (Ey X.K tk tv)):=⟨Xf (wc hr) hk.run hv.run⟩
section
variable{ρ aw av:En}
theorem Rs.free{p:Qg}{c o:HO}(r:Rs K ρ σ H)(hc:H p=some c)(m:Mo c)(n:¬Ow ρ σ p):Rs K ρ σ (upd H p o):=by
 have kp:=jW hc m o;refine⟨r.len,λi u e=>?_,r.apart⟩;obtain⟨v,ev,q⟩:=r.rep i u e;refine⟨v,ev,q.kp kp λou a c' ea ha=>?_⟩;have ne:a≠p:=by
  rintro rfl;exact n ⟨i,u,e,ou,by rw[ev,ea]⟩
 rw[zH ne];exact ha
theorem Go.free{p:Qg}{c o:HO}(g:Go K ρ σ H av H')(hp:H p=none)(hc:H' p=some c)(m:Mo c)(n:¬Ow av σ p):Go K ρ σ H av (upd H' p o):=by
 refine⟨g.rs.free hc m n,λa ob ha hn=>?_,g.shr,λa ha=>?_⟩
 .have ne:a≠p:=by
   rintro rfl;rw[hp]at ha;cases ha
  rw[zH ne];exact g.fr a ob ha hn
 .by_cases e:a=p
  .subst e
   exact hp
  .rw[zH e]at ha
   exact g.dm a ha
def uQ(mk mv:ME):ME:=λρ=>(mk ρ).bind λp=>(mv p.2).bind λq=>(p.1.get q.2).bind λk=>(q.1.get q.2).bind λv=>k.da.bind λk=>v.da.bind λv=>(dI k).bind λk=>some (.u (.t [(k,v)]),q.2)
theorem AH{w:U}{x:D}(h:w.da=some x):w=.d x:=by
 cases w<;>first | (cases h; rfl) | cases h
theorem AG{mk mv:ME}(hk:VE K tk mk)(hv:VE K tv mv):VE K (Ey K tk tv) (uQ mk mv):=by
 intro ρ σ H a av Q r e q;obtain⟨⟨a1,aw⟩,e1,e⟩:=bQ e;obtain⟨⟨b1,aB⟩,e2,e⟩:=bQ e;obtain⟨uk,ek,e⟩:=bQ e;obtain⟨uv,ev,e⟩:=bQ e;obtain⟨dk,IB,e⟩:=bQ e;obtain⟨dv,IA,e⟩:=bQ e;obtain⟨ks,Iy,e⟩:=bQ e;cases e;cases AH IB;cases AH IA;intro p hp;have sm:=zW hp (.dT []);have g0:=Go.grow r sm;have n0:¬Ow ρ σ p:=λz=>by
  obtain⟨c,hc,_⟩:=r.ow z;rw[hp]at hc;cases hc
 refine hk ρ σ (upd H p (.dT [])) a1 aw _ g0.rs e1 λx H1 g1 k1=>hv aw σ H1 b1 _ _ g1.rs e2 λy H2 g2 k2=>?_;have n1:¬Ow aw σ p:=λz=>n0 (g1.shr.ow z);have n2:¬Ow aB σ p:=λz=>n1 (g2.shr.ow z);have xQ:H2 p=some (.dT []):=g2.fr p _ (g1.fr p _ zx n0) n1;have pk:=k1.later g0.rs g1 g2 ek;have pv:=k2.now g1.rs g2 ev;obtain⟨b,rfl,hb⟩:=wH pk Iy;have kp:=jW xQ trivial (.dT [(ks,y)]);refine⟨xQ,ks,b,rfl,hb,q _ _ (((g0.trans g1).trans g2).free hp xQ trivial n2) ⟨⟨p,[(ks,y)],rfl,zx,.cons ⟨rfl,DF.kp kp pv⟩ .nil⟩,λ_=>⟨p,rfl,hp⟩⟩⟩
end
section
variable{X:Cx}{k:Nat}
end
def u4(hi:Int)(n:Nat):Qa D:=(List.range n).map λi=>.int (hi - (i:Nat))
theorem NV(hi:Int)(n:Nat):(u4 hi n).length=n:=by simp[u4]
theorem NH{hi:Int}{d:D}(h:(u4 hi n)[i]?=some d):i < n/\d=.int (hi - (i:Nat)):=by
 have hl:=(qm.mp h).1;rw[NV]at hl;refine⟨hl,?_⟩;unfold u4 at h;rw[List.getElem?_map,List.getElem?_range hl]at h;cases h;rfl
def yZ:Qa U->Qb (Qa D)
 | [.d (.int i),.d (.int j),.d (.int (-1))]=>if -(2^62)<=i/\i < 2^62/\-(2^62)<=j/\j < 2^62 then some (u4 i (i - j).toNat)else none
 | _=>none
def DI(ma:MA):MI:=λρ=>(ma ρ).bind λp=>(bw p.2 p.1).bind λus=>(yZ us).bind λds=>some (ds,p.2)
theorem Wg{ta:TA}{ma:MA}(h:jh K ta ma):VI K (Jw ta) (DI ma):=by
 intro ρ σ H ds av R r e q;obtain⟨⟨as,aw⟩,e1,e⟩:=bQ e;obtain⟨us,eu,e⟩:=bQ e;obtain⟨zs,ez,e⟩:=bQ e;cases e;refine h ρ σ H as aw _ r e1 λvs H1 g1 s1=>?_;have rp:=s1.lj r g1 eu;unfold yZ at ez;split at ez
 .split at ez
  rotate_left
  .cases ez
  rename_i i j hc;cases ez;cases rp with
  | cons h1 t=>
   cases t with
   | cons h2 t=>
    cases t with
    | cons h3 t=>
     cases t;cases DF.int_inv h1;cases DF.int_inv h2;cases DF.int_inv h3;refine⟨i,j,rfl,hc,q _ _ g1 λH k n=>⟨λd ed=>?_,λei=>?_⟩⟩
     .obtain⟨hi,rfl⟩:=NH ed
      refine⟨hi,λx H' y=>?_⟩;obtain⟨rfl,rfl⟩:=y;exact⟨λ_ _ z=>z,.int _⟩
     .rw[NV]at ei
      exact ý ei.symm
 .cases ez
section
variable{ρ:En}{mk mv:ME}{mA:MA}{f:Qa D->Qa D}{QE:Ar×En->Prop}{QI:Qa D×En->Prop}
theorem zmj:Wo (uQ mk mv ρ) QE=Wo (mk ρ) (Co (λp=>(mv p.2).bind λq=>(p.1.get q.2).bind λk=>(q.1.get q.2).bind λv=>k.da.bind λk=>v.da.bind λv=>(dI k).bind λk=>some (.u (.t [(k,v)]),q.2)) ⟨0⟩ QE):=by
 show Wo (Option.bind _ _) QE=_;rw[zt]
theorem ZQ:Wo (DI mA ρ) QI=Wo (mA ρ) (Co (λp=>(bw p.2 p.1).bind λus=>(yZ us).bind λds=>some (ds,p.2)) ⟨0⟩ QI):=by
 show Wo (Option.bind _ _) QI=_;rw[zt]
theorem Ms{i j:Int}(h:-1000000<=i)(h2:i < 1000000)(h3:-1000000<=j)(h4:j < 1000000):yZ [.d (.int i),.d (.int j),.d (.int (-1))]=some (u4 i (i - j).toNat):=by
 show(if _ then _ else _)=_;rw[if_pos ⟨by omega,by omega,by omega,by omega⟩]
end
end L2
namespace L2
open PySem
def ch:Nat->Nat->Nat
 | _,0=>1
 | 0,_+1=>0
 | n+1,k+1=>ch n k+ch n (k+1)
def IJ(i:Nat)(j:Int)(x:Qa Int):Qa Int:=x.set i (x.getD i 0+j)
theorem vT{a b:Qa Int}(h:a.length+b.length<=1000):nQ (.d (bg a)) (.d (bg b))=some (.d (bg (a++b))):=by
 have:=Mv (xs:=a.map PyData.int) (ys:=b.map PyData.int) (by rw[List.length_map,List.length_map]; omega);rw[<-List.map_append]at this;exact this
theorem JS{k:Int}:PyData.tuple [.int k]=bg [k]:=rfl
end L2
namespace L2
open PySem PySem.Spec PyProof.Rows
open PySem.AutoSeq1 (wpAny_loadPart')
open MeetsSeq MeetsSeq2 MeetsSeq3 SeqRoads2
end L2
namespace L2
open PySem PySem.Spec PyProof.Rows
section
variable{l b:Qg}{items bu:Array Qc}{xs ys:Qa Int}
end
section
variable{X:Cx}{k:Nat}
end
section
end
section
variable{X:Cx}{a b c d:Expr}{tb tc:TE}
end
section
end
section
variable{f f' f'':U->U->Qb U}{ma mb mc md:ME}{ρ:En}{QE:Ar×En->Prop}
end
end L2
namespace HT
open PySem PySem.Spec PyProof.Rows
section
variable{prog:Program} {w:World} {A:Around} {E:Value->Shared->Prop} {s:Shared}
end
end HT
namespace L2
open PySem PySem.Spec PyProof.Rows
section
variable{X:Cx}{st:Expr}{ts:TE}{p2:Pos}
end
section
end
section
end
section
end
end L2
namespace L2
open PySem PySem.Calls PySem.Spec PyProof.Rows
section
end
section
end
end L2
namespace L2
open PySem PySem.Spec PyProof.Rows
section
variable{X:Cx}{CX:jj}{k:Nat}{f C:Qg}{dvs:Qa V}{ds:Qa Qc}{E:XK}{m:Str}{p:Pos}{es:Qa Expr}{t:TA}
end
section
variable{X:Cx}{k:Nat}{p:Pos}{es:Qa Expr}{t:TA}
end
section
end
section
end
section
variable{X:Cx}{k:Nat}
end
section
end
end L2
namespace L2
open PySem
section
variable{mA:MA}{ρ:En}{QI:Qa D×En->Prop}
end
end L2
namespace L2
open PySem PySem.Spec PyProof.Rows
open Classical in
def hJ(i:Nat)(j7:Qa D)(mg:MG)(mb:MS):Qa D->En->Qb Fl
 | [],ρ=>if ρ[i]?=some (some (.l j7))then some (.nx ρ)else none
 | d::ds,ρ=>if ρ[i]?=some (some (.l j7))then(mg d ρ).bind λaw=>(mb aw).bind λf=>match f with
  | .nx aB=>hJ i j7 mg mb ds aB
  | .ct aB=>hJ i j7 mg mb ds aB
  | .bk aB=>some (.nx aB)
  | .rt u aB=>some (.rt u aB)
  | .ex x aB=>some (.ex x aB)else none
def rW(i:Nat)(mg:MG)(mb:MS):MS:=λρ=>match ρ[i]? with
 | some (some (.l ds))=>hJ i ds mg mb ds ρ
 | some (some (.d (.tuple ds)))=>fZ mg mb ds ρ
 | _=>none
section
variable{EX:iS}
theorem FJ{j7 ds:Qa D}{mg:MG}{mb:MS}{ρ:En}{f:Fl}(h:hJ i j7 mg mb ds ρ=some f):ρ[i]?=some (some (.l j7)):=by
 cases ds with
 | nil=>
  unfold hJ at h;split at h
  .assumption
  .cases h
 | cons d ds=>
  unfold hJ at h;split at h
  .assumption
  .cases h
theorem Sr{tb:TS}{mg:MG}{mb:MS}(hp:i∈pn)(hg:oW K pn g mg)(hb:VS K pn EX tb mb):VS K pn EX (yS (yJ K (ic i)) g tb) (rW i mg mb):=by
 intro ao A aA aC ρ σ H f D s e k;unfold rW at e;split at e
 .rename_i ds eu
  obtain⟨v,ev,p⟩:=s.rs.rep i _ eu;obtain⟨a,us,rfl,h1,h2⟩:=p;have sa:ao[i]?=some (some (.ref a)):=by rw[<-s.pin i hp]; exact ev
  refine⟨.ref a,ev,a,rfl,.inl ⟨⟨us,bo.of h1⟩,?_⟩⟩;refine⟨λj m aG H'=>m=ds.length - j/\j<=ds.length/\∃ av,Sn K pn ao A aA H av aG H'/\hJ i ds mg mb (ds.drop j) av=some f,⟨ds.length,by simp,È _,ρ,s.at,e⟩,?_⟩;rintro j m aG H' ⟨rfl,hj,av,s',el⟩;have now:∃ gc,H' a=some (.lst gc)/\aM K H' gc ds:=by
   obtain⟨v',e1,p'⟩:=s'.rs.rep i _ (FJ el);obtain⟨a',gc,rfl,q1,q2⟩:=p';have:some (some (V.ref a'))=some (some (V.ref a)):=by rw[<-e1,s'.pin i hp,sa]
   cases this;exact⟨gc,q1,q2⟩
  obtain⟨gc,q1,q2⟩:=now
  by_cases cM:j < ds.length
  .rw[List.drop_eq_getElem_cons cM]at el
   have iL:=el;unfold hJ at iL;rw[if_pos (FJ el)]at iL;obtain⟨aB,e2,iL⟩:=bQ iL;obtain⟨fb,eb,iL⟩:=bQ iL;obtain⟨x,ex,dx⟩:=q2.get (qo cM);refine .inr ⟨⟨gc,x,bo.of q1,ex⟩,λcP H3=>∃ gN,Sn K pn ao A aA H gN cP H3/\hJ i ds mg mb (ds.drop (j+1)) gN=some f,λcP H3 ⟨gN,s3,e3⟩=>⟨ds.length - (j+1),by omega,rfl,cM,gN,s3,e3⟩,λy H2 hy=>?_⟩;obtain⟨rfl,hy⟩:=hy;have:=hy gc (bo.of q1);rw[ex]at this;cases this;refine hg.run ao A aA H av aG H2 x ds[j] aB _ s' dx e2 λcP s3=>?_;refine hb ao A aA H aB cP H2 fb _ s3 eb ?_;cases fb with
   | nx b8=>exact λeV H4 s4=>⟨b8,s4,iL⟩
   | ct b8=>exact λeV H4 s4=>⟨b8,s4,iL⟩
   | bk b8=>cases iL; exact λeV H4 s4=>k eV H4 (s4.re s.kp)
   | rt u b8=>cases iL; exact λv eV H4 s4 p n=>k v eV H4 (s4.re s.kp) p n
   | ex x b8=>cases iL; exact λa eV H4 s4 p n=>k a eV H4 (s4.re s.kp) p n
  .have ej:j=ds.length:=by omega
   subst ej;rw[List.drop_length]at el;have iL:=el;unfold hJ at iL;rw[if_pos (FJ el)]at iL;cases iL;exact .inl ⟨⟨gc,bo.of q1,by rw[q2.len]; exact qg _⟩,k aG H' (s'.re s.kp)⟩
 .rename_i ds eu
  have g1:zi i ρ=some (.s i,ρ):=by unfold zi; rw[eu]
  have g2:Ar.get ρ (.s i)=some (.d (.tuple ds)):=by show(ρ[i]?).join=_; rw[eu]; rfl
  have e':cW (cq yP (zi i)) mg mb ρ=some f:=by
   simp only[cW,cq,g1,Option.bind_some,g2,yP];exact e
  exact d4 (Sw ze) hg hb ao A aA aC ρ σ H f D s e' k
 .cases e
end
section
variable{mg:MG}{mb:MS}{ρ:En}{Q:Fl->Prop}
theorem Sq{ds:Qa D}(h:ρ[i]?=some (some (.l ds))):rW i mg mb ρ=hJ i ds mg mb ds ρ:=by unfold rW; rw[h]
theorem So{ds:Qa D}(h:ρ[i]?=some (some (.d (.tuple ds)))):rW i mg mb ρ=fZ mg mb ds ρ:=by unfold rW; rw[h]
theorem Xe{j7:Qa D}(P:Nat->En->Prop){ds:Qa D}(h0:P 0 ρ)(hP:∀ i' ρ,P i' ρ->ρ[i]?=some (some (.l j7)))(st:∀ i d ρ,ds[i]?=some d->P i ρ->Wo (mg d ρ) (Co mb ⟨0⟩ (nK Q (P (i+1)))))(hQ:∀ ρ,P ds.length ρ->Q (.nx ρ)):Wo (hJ i j7 mg mb ds ρ) Q:=by
 have main:∀ (es:Qa D) (n:Nat) (ρ:En),n+es.length=ds.length->(∀ j,es[j]?=ds[n+j]?)->P n ρ->Wo (hJ i j7 mg mb es ρ) Q:=by
  intro es
  induction es with
  | nil=>
   intro n ρ hn _ hp;unfold hJ;rw[if_pos (hP n ρ hp),eL];rw[List.length_nil,Nat.add_zero]at hn;exact hQ ρ (hn▸hp)
  | cons d es ih=>
   intro n ρ hn he hp;have e0:=he 0;rw[List.getElem?_cons_zero,Nat.add_zero]at e0;obtain⟨aw,e1,f,e2,k⟩:=st n d ρ e0.symm hp;have i6:∀ aB,P (n+1) aB->Wo (hJ i j7 mg mb es aB) Q:=λaB z=>ih (n+1) aB (by rw[qw]at hn; omega) (λj=>by
    have:=he (j+1);rw[List.getElem?_cons_succ]at this;rw[this,show n+(j+1)=n+1+j by omega]) z
   unfold hJ;rw[if_pos (hP n ρ hp),zt];refine⟨aw,e1,?_⟩;rw[ir,zt];refine⟨f,e2,?_⟩;rw[ir];cases f with
   | nx aB=>exact i6 aB k
   | ct aB=>exact i6 aB k
   | bk aB=>exact⟨_,rfl,k⟩
   | rt u aB=>exact⟨_,rfl,k⟩
   | ex x aB=>exact⟨_,rfl,k⟩
 exact main ds 0 ρ (by omega) (λj=>by rw[Nat.zero_add]) h0
end
end L2
namespace L2
open PySem PySem.Spec PyProof.Rows
theorem Zx{X:Cx}{b:Qg}{r:Qc}{k:Qa Key}{Q:Unit->Qd->Prop}(hu:A.units+1 < cLine)(I:Inv X pins σ H s)
  (e:H a=some (.dT kvs)) (eb:aT X.K H b (k.map kV)) (l:kvs.length < sizeLine) (rv:zY v r) (h:∀ s',Inv X pins σ (upd H a (.dT (fS kvs k v))) s'->Q () s'):wpAny (model X.prog X.w) A (dictSet a (.ref b) r) Q E s:=by
 obtain⟨z,hd,xs,rel,dd⟩:=DW I.bZ I.aD e;have hz:xs.length<=sizeLine:=by rw[<-Paired.length rel]; exact z
 have hl:(fS kvs k v).length<=sizeLine:=by have:=Gr kvs k v; omega
 refine wpAny_dictSet_heap (hsz:=hz) (show A.units < cLine from Nat.lt_of_succ_lt hu) (rY I.bZ I.aD eb) dd λh' rh hs=>h _ ?_;obtain⟨q,es,ep,hq,h2,h3,h4,_,h5⟩:=rh;refine AY I (by rw[e]; exact True.intro) hs ⟨q,hq⟩ ⟨hl,hd,_,(rel.put k eb rv).keeps λc ys ec=>?_,q,es,ep,hq,h2,h3,h4,h5⟩;rw[zH (nM ec e (λz=>nomatch z))];exact ec
theorem zmk{kx vx target:Expr}{it:Qc}{D:Qg}(I:Nat->Qd->Prop)
  (turn:∀ n s,I n s->∀ E,wpAny (model prog w) A (pyNext it) (λr s1=>match r with
   | none=>R (.ok .next) s1
   | some v=>wpAny (model prog w) A (letOwnedTupleGo target it v) (λ_ s2=>wpAny (model prog w) A (assign target env v) (λ_ s3=>
     wpAny (model prog w) A (forIn ifs true λc r=>if r=true then do let ok <-isTrue c env (eval c env); pure (ForInStep.yield ok)else pure (ForInStep.yield r)) (λok s4=>
      (ok=true->wpAny (model prog w) A (eval kx env) (λk s5=>wpAny (model prog w) A (eval vx env) (λv s6=>wpAny (model prog w) A (dictSet D k v) (λ_ s7=>∃ m,m < n/\I m s7) E s6) E s5) E s4)/\
      (ok=false->∃ m,m < n/\I m s4)) E s3) E s2) E s1) E s)
  (n:Nat) (h:I n s):codeAny (model prog w) A (.compLoop (.DictComp kx vx [⟨target,iter,ifs,0⟩] scope pos) 0 it (.ref D) env) R s:=by
 refine codeAny_loop rfl I (λn s hI=>?_) n h;show wpAny _ A ((compTurn _ 0 it (.ref D) env).onRaise (λx=>do noteFrame x env; theTreesLotGoes x)) _ _ s;refine wpAny_noted ?_;rw[compTurn_dict];refine qc (wpAny_standAt (qc (wpAny_mono (turn n s hI _) (λr s1 h1=>?_) λ_ _ z=>z)));cases r with
 | none=>exact qd h1
 | some v=>
  refine qc (wpAny_mono h1 (λ_ s2 h2=>?_) λ_ _ z=>z);refine qc (wpAny_mono h2 (λ_ s3 h3=>?_) λ_ _ z=>z);refine qc (wpAny_mono h3 (λok s4 h4=>?_) λ_ _ z=>z);cases ok with
  | false=>exact qd ⟨rfl,h4.2 rfl⟩
  | true=>
   refine qc (qc (wpAny_mono (h4.1 rfl) (λx s5 h5=>?_) λ_ _ z=>z));refine qc (wpAny_holding (wpAny_mono h5 (λy s6 h6=>?_) λ_ _ z=>z));exact qc (wpAny_standAt (wpAny_holding (wpAny_mono h6 (λ_ s7 h7=>qd ⟨rfl,h7⟩) λ_ _ z=>z)))
def CP(K:qe)(J:It)(jk:St)(g:TG)(tt:TT)(tk tv:TE)(D:Qg)(Z:Hp->Prop)(H1:Hp):Prop :=
 ∃ W:Nat->Nat->Hp->Prop,(∃ m,W 0 m H1)/\∀ i m H,W i m H->
  (J.stop i H/\Z H)\/(J.go i H/\∃ N:Hp->Prop,(∀ H',N H'->∃ m',m' < m/\W (i+1) m' H')/\
   ∀ x H',J.vg i H x H'->g x jk H' λeW H2=>tt eW H2 λb H3=>if b=true then tk eW H3 λy H4=>tv eW H4 λv H5=>∃ kvs k p,y=.ref p/\H5 D=some (.dT kvs)/\aT K H5 p (k.map kV)/\kvs.length < sizeLine/\N (upd H5 D (.dT (fS kvs k v)))else N H3)
section
variable{X:Cx}{xs:Qa Str}{ts:Qa Str}
theorem znR{kx vx:Expr}{J:It}{D:Qg}{Z:Hp->Prop}{h1:Heap}{m1:Str->Qb Qc}{t1:Nat}
  (hu:X.A.units+1 < cLine) (hc:X.calm=true) (I:Inv X pins σ H s) (S:oX scope xs) (f:aQ X cl xs js) (hZ:ts.length=nt) (T:Turn X.prog X.w X.K tg J fp it tn) (st:tn 0 s.heap) (hf:∀ b∈fp,fU X pins H b)
  (hg:∀ C s H ex,PG (zQ X scope cl (ts++xs) C s H ex) tg g) (ht:∀ C s H ex,km (zQ X scope cl (ts++xs) C s H ex) ifs tt) (hk:∀ C s H ex,PE (zQ X scope cl (ts++xs) C s H ex) kx tk) (hv:∀ C s H ex,PE (zQ X scope cl (ts++xs) C s H ex) vx tv)
  (gw:GW (c0 nt js σ) g) (h:CP X.K J (c0 nt js σ) g tt tk tv D Z H) (qU:h1.Ns s.heap.objs.size m1) (old:∀ b o,s.heap.get? b=some o->h1.get? b=some o) (ck:CellsOk h1 (s.heap.objs.size+1) (cellsFrom (s.heap.objs.size+1) scope.names []))
  (hR:∀ (m:Str->Qb Qc) (s':Qd) (H':Hp),Z H'->Inv X pins σ H' s'->s'.heap.Ns s.heap.objs.size m->H' s.heap.objs.size=none->s.heap.objs.size≠X.env.locals->
   (∀ x c,X.env.cells.lookup x=some c->c≠s.heap.objs.size)->X.be.heap.objs.size<=s.heap.objs.size->(∀ p∈X.pn++pins,p.1≠s.heap.objs.size)->R (.ok .next) s'):
  codeAny (model X.prog X.w) X.A (.compStart (.DictComp kx vx [⟨tg,iter,ifs,0⟩] scope pos) 0 (.ref it) (.ref D) (compEnvC scope (cellsFrom (s.heap.objs.size+1) scope.names cl) s.heap.objs.size X.env)) R {s with heap:=h1,toks:=t1}:=by
 have hl:∀ b∈fp,b < s.heap.objs.size:=λb hb=>by
  obtain⟨o,e,_⟩:=T.obj _ _ st b hb;exact qj e
 have J0:Inv (zQ X scope cl (ts++xs) s.heap.objs.size s H fp) [] (c0 nt js σ) H {s with heap:=h1,toks:=t1}:=L7 I S f hZ (qg _) hf hl old qU ck;obtain⟨W,⟨m0,w0⟩,turn⟩:=h;have og:tn 0 h1:=T.keep _ _ _ st λb hb o e=>old b o e;have tV:∀ {H':Hp},(∀ b∈fp,H' b=none)->∀ b∈fp,fU (zQ X scope cl (ts++xs) s.heap.objs.size s H fp) [] H' b:=λ{H'} hn b hb=>by
  refine⟨hn b hb,ql (hl b hb),λz=>?_,.inl hb,λx c e=>((E4 I S f ck (qg _) hf hl (ts:=ts)).yk b hb).2 x c e,λp HN=>by cases HN⟩;rcases qx.mp (I.ft b z)with q|q
  .exact(hf b hb).2.1 q
  .exact(hf b hb).2.2.1 q
 have loop:codeAny (model X.prog X.w) X.A (.compLoop (.DictComp kx vx [⟨tg,iter,ifs,0⟩] scope pos) 0 (.ref it) (.ref D) (compEnvC scope (cellsFrom (s.heap.objs.size+1) scope.names cl) s.heap.objs.size X.env)) R {s with heap:=h1,toks:=t1}:=by
  refine zmk (λn s'=>∃ i H',Inv (zQ X scope cl (ts++xs) s.heap.objs.size s H fp) [] (c0 nt js σ) H' s'/\tn i s'.heap/\(∀ b∈fp,H' b=none)/\W i n H') ?_ m0 ⟨0,H,J0,og,λb hb=>(hf b hb).1,w0⟩;rintro n s3 ⟨i,H3,I3,qF,q5,w3⟩ E';rcases turn i n H3 w3 with⟨stop,qz⟩|⟨go,N,hN,step⟩
  .refine aI (T.done (zQ X scope cl (ts++xs) s.heap.objs.size s H fp) rfl rfl rfl hc i _ s3 _ H3 E' I3 (tV q5) qF stop) λr s4 ⟨hr,I4⟩=>?_
   subst hr;obtain⟨m4,n4,_⟩:=I4.loc;refine hR m4 s4 H3 qz (I.rl I4.os I4.base I4.aD I4.bare λb hb=>⟨(hf b hb).2.2.2.1,(hf b hb).2.1,(hf b hb).2.2.2.2.1,λp hp=>(hf b hb).2.2.2.2.2 p hp⟩) n4 I4.free ?_ ?_ I.sz ?_
   .exact λz=>absurd I.lt (by rw[<-z]; exact Ì _)
   .intro x c e z
    obtain⟨v,ob,q,_⟩:=I.cell x c e;exact absurd (qj q) (by rw[z]; exact Ì _)
   .intro p hp z
    have q:=(I.pin p hp).1;exact absurd (qj q) (by rw[z]; exact Ì _)
  .refine aI (T.item (zQ X scope cl (ts++xs) s.heap.objs.size s H fp) rfl rfl rfl hc i _ s3 _ H3 E' I3 (tV q5) qF go) λr s4 ⟨u,hr,h4⟩=>?_
   subst hr;refine aI h4 λ_ s5 ⟨x,H5,I5,r5,y5,kZ,yi⟩=>?_;have yt:=I5.pinned (tV yi) (T.obj _ _ kZ);refine rO (hg _ _ _ _ _ s5 _ H5 x u _ yt r5 (gw _ _ _ (step x H5 y5))) λ_ s6 ⟨lX,H6,I6,xf,q6⟩=>?_;refine rO (ht _ _ _ _ _ s6 lX H6 _ I6 q6) λok s7 ⟨H7,I7,q7⟩=>?_;have after:∀ {H8:Hp} {s8:Qd},Inv (zQ X scope cl (ts++xs) s.heap.objs.size s H fp) ([]++uN fp s5.heap) lX H8 s8->
     tn (i+1) s8.heap/\(∀ b∈fp,H8 b=none)/\Inv (zQ X scope cl (ts++xs) s.heap.objs.size s H fp) [] (c0 nt js σ) H8 s8:=λ{H8 s8} I8=>by
    refine⟨T.keep _ _ _ kZ λb hb o e=>(I8.pin (b,o) (qy _ (qy _ (va hb e)))).1,λb hb=>?_,?_⟩
    .obtain⟨o,e,d⟩:=T.obj _ _ kZ b hb
     exact(I8.pin (b,o) (qy _ (qy _ (va hb e)))).2.1
    .exact(I8.weak xf.1 xf.2).cZ λp hp=>by cases hp
   refine⟨λaD=>?_,λaD=>?_⟩
   .subst aD
    rw[if_pos rfl]at q7;refine rO (hk _ _ _ _ _ s7 lX H7 _ I7 q7) λkv s8 ⟨y,H8,I8,ry,q8⟩=>?_;refine rO (hv _ _ _ _ _ s8 lX H8 _ I8 q8) λvv s9 ⟨v,H9,I9,rv,q9⟩=>?_;obtain⟨kvs,k,p,ey,eD,ep,hz,q10⟩:=q9;subst ey;cases(show kv=Value.ref p from ry);refine Zx (X:=zQ X scope cl (ts++xs) s.heap.objs.size s H fp) hu I9 eD ep hz rv λs10 I10=>?_;obtain⟨G8,Ir,IU⟩:=after I10;obtain⟨m',hm,w10⟩:=hN _ q10;exact⟨m',hm,i+1,_,IU,G8,Ir,w10⟩
   .subst aD
    rw[if_neg qh]at q7;obtain⟨G7,Iq,IT⟩:=after I7;obtain⟨m',hm,w7⟩:=hN _ q7;exact⟨m',hm,i+1,H7,IT,G7,Iq,w7⟩
 exact codeAny_compStart_dict loop (T.self _ _ _ _ _ og loop)
theorem zml{kx vx:Expr}{J:It}{Z:Qg->Hp->Prop}
  (hu:X.A.units+1 < cLine) (hc:X.calm=true) (I:Inv X pins σ H s) (S:oX scope xs) (f:aQ X cl xs js) (hZ:ts.length=nt) (T:Turn X.prog X.w X.K tg J fp it tn) (st:tn 0 s.heap) (hf:∀ b∈fp,fU X pins H b)
  (hg:∀ C s H ex,PG (zQ X scope cl (ts++xs) C s H ex) tg g) (ht:∀ C s H ex,km (zQ X scope cl (ts++xs) C s H ex) ifs tt) (hk:∀ C s H ex,PE (zQ X scope cl (ts++xs) C s H ex) kx tk) (hv:∀ C s H ex,PE (zQ X scope cl (ts++xs) C s H ex) vx tv)
  (gw:GW (c0 nt js σ) g) (h:∀ D,H D=none->CP X.K J (c0 nt js σ) g tt tk tv D (Z D) (upd H D (.dT [])))
  (Ih:∀ (D C:Qg) (m:Str->Qb Qc) (s':Qd) (H':Hp),Z D H'->Inv X pins σ H' s'->s'.heap.Ns C m->H' C=none->C≠X.env.locals->
   (∀ x c,X.env.cells.lookup x=some c->c≠C)->X.be.heap.objs.size<=C->(∀ p∈X.pn++pins,p.1≠C)->RR (.ref D) C (.ok .next) s'):
  wpAny (model X.prog X.w) X.A newDict (λacc s3=>wpAny (model X.prog X.w) X.A (newFunctionEnv scope X.env.globals cl [] X.env.qual none .none (some X.env)) (λlQ s4=>
   codeAny (model X.prog X.w) X.A (.compStart (.DictComp kx vx [⟨tg,iter,ifs,0⟩] scope pos) 0 (.ref it) acc {lQ with scope:=relabel scope X.env}) (RR acc lQ.locals) s4) E s3) E s:=by
 refine qC (L8 λh1 qU iG ck=>?_);dsimp only at qU iG ck ⊢;have Ij:H s.heap.objs.size=none:=I.aD.fresh (qg _);have I1:=I.laid (a:=s.heap.objs.size) (o:=.dT []) (h':=s.heap.push {cls:=.type "dict",data:=.dict #[]}) (t':=s.toks) (λ_ _ q=>qf _ q) (qg _) (FC s.heap I.Cz);have h2:=h _ Ij;have xT:∀ b∈fp,b < s.heap.objs.size:=λb hb=>by
  obtain⟨o,e,_⟩:=T.obj _ _ st b hb;exact qj e
 have st0:tn 0 (s.heap.push {cls:=.type "dict",data:=.dict #[]}):=T.keep _ _ _ st λb hb o e=>qf _ e;have hf0:∀ b∈fp,fU X pins (upd H s.heap.objs.size (.dT [])) b:=λb hb=>⟨by rw[zH (ql (xT b hb))]; exact(hf b hb).1,(hf b hb).2⟩;have hp:s.heap.objs.size < (s.heap.push {cls:=.type "dict",data:=.dict #[]}).objs.size:=by rw[Heap.size_push]; exact Ü _
 refine znR (s:={s with heap:=s.heap.push {cls:=.type "dict",data:=.dict #[]},toks:=s.toks}) hu hc I1 S f hZ T st0 hf0 hg ht hk hv gw h2 qU iG ck λm s' H' z I' hn tT oO oN mZ tS=>Ih _ _ m s' H' z I' hn tT oO oN mZ tS
def PN(K:qe)(wi:TI)(nt:Nat)(js:Qa Nat)(g:TG)(tt:TT)(tk tv:TE):TE:=λσ H Q=>wi σ H λJ H1=>
 ∀ D,H1 D=none->CP K J (c0 nt js σ) g tt tk tv D (λH2=>Q (.ref D) H2) (upd H1 D (.dT []))
theorem DH{y:Str}{py k7:Pos}{kx vx:Expr}(hr:aK n X.A)(hi:Wr (PI X tg iter wi))(hg:∀ {C s H ex},Wr (PG (zQ X scope (g9 X js) (iZ tg++gO X js) C s H ex) tg g))(ht:∀ {C s H ex},Wr (km (zQ X scope (g9 X js) (iZ tg++gO X js) C s H ex) ifs tt))
  (hk:∀ {C s H ex},Wr (PE (zQ X scope (g9 X js) (iZ tg++gO X js) C s H ex) kx tk)) (hv:∀ {C s H ex},Wr (PE (zQ X scope (g9 X js) (iZ tg++gO X js) C s H ex) vx tv))
  (hN:X.N.Nodup:=by first|assumption|exact wK rfl) (fF:X.N[i]?=some y:=by rfl) (hy:Loc X.env.scope y:=by first|exact Or.inl rfl|exact Or.inr rfl)
  (f:aQ X (g9 X js) (gO X js) js:=by repeat (first|exact aQ.nil|refine aQ.cons rfl (by first|exact Or.inl rfl|exact Or.inr rfl) rfl ?_)) (fA:closureFor scope X.env=pure (g9 X js):=by rfl) (S:oX scope (gO X js):=by exact⟨rfl,of_decide_eq_true rfl,of_decide_eq_true rfl,of_decide_eq_true rfl,of_decide_eq_true rfl⟩) (hZ:(iZ tg).length=nt:=by rfl) (hc:X.calm=true:=by rfl) (gw:∀ σ:St,GW (c0 nt js σ) g:=by first|exact E3 (by decide) | exact D9 (E1 (by repeat (first|exact FA|refine F0 (by decide) ?_)))) (hs:∀ x,foldedSetIterable iter X.env x=pure x:=by intro _; rfl)
  (HK:swapsWith (.DictComp kx vx [⟨tg,iter,ifs,0⟩] scope pos) (some (.Name y py)) k7.line X.env=pure true:=by rfl)
  (hf:X.fn y=true\/X.env.scope.names.lookup y=some .local:=by first|exact .inl rfl|exact .inr rfl|assumption):
  Wr (PS X (.Assign [.Name y py] (.DictComp kx vx [⟨tg,iter,ifs,0⟩] scope pos) k7) (nC (PN X.K wi nt js g tt tk tv) (jt i))):=by
 refine⟨?_⟩;intro pins s σ H D I h;rw[exec_Assign_Name_used _ _ _ _ HK];refine qc (wpAny_standAt (qc ?_));show wpAny _ X.A (do let _ <-comprehension (.DictComp kx vx [⟨tg,iter,ifs,0⟩] scope pos) scope X.env _ newDict false (eval iter X.env) (some (assign (.Name y py) X.env))) _ _ s;refine qc (wpAny_mono (wpAny_comprehension_free (use:=some (assign (.Name y py) X.env)) (Q:=λ_ s'=>SP X pins D .next s') rfl hs fA S.kind S.names
  (aI (hi.run pins s σ H _ I h) λv s1 h1=>aI h1 λxM s2 h2=>?_)) (λ_ s' hq=>qd (qd hq)) λ_ _ e=>e)
 obtain⟨it,fp,tn,J,H2,e,I2,T,jY,f2,q⟩:=h2;subst e;refine zml (RR:=λacc C=>compPost (model X.prog X.w) X.A X.xe (some (assign (.Name y py) X.env)) (λ_ s'=>SP X pins D .next s') acc C) (wc hr) hc I2 S f hZ T jY f2 (λC s H ex=>hg.run) (λC s H ex=>ht.run) (λC s H ex=>hk.run) (λC s H ex=>hv.run) (gw σ) q ?_;intro D' C m s' H' z I' hn tT oO oN mZ tS;show wpAny _ _ (assign (.Name y py) X.env (.ref D')) _ _ _;refine wpAny_assign_Name (F8 (v:=.ref D') I' hN fF hy rfl (λxq IV ⟨a,sb,ha⟩=>?_) hf);have ne:C≠a:=by
  rcases ha with rfl|ha
  .exact oO
  .exact(oN _ _ ha).symm
 exact⟨m,hn.sameBut sb ne,λh' gy=>⟨_,_,IV.turned (it:=C) (λb o hb e=>gy.extBut b o hb e) tT oO (.inr mZ) oN tS,z⟩⟩
end
section
variable{ρ av aw:En}{H1:Hp}
theorem Sn.free{A:Qg->Prop}{D:Qg}{c o:HO}(s:Sn K pn ao A aA aC ρ σ H)(hc:H D=some c)(m:Mo c)(n:¬Ow ρ σ D)(hA:A D):Sn K pn ao A aA aC ρ σ (upd H D o):=by
 refine⟨s.rs.free hc m n,λa ob h nA=>?_,s.ow,s.pin,λa h=>?_,s.kp.trans (jW hc m o)⟩
 .have ne:a≠D:=by rintro rfl; exact nA hA
  rw[zH ne];exact s.fr a ob h nA
 .by_cases e:a=D
  .subst e; rw[zx]at h; cases h
  .rw[zH e]at h; exact s.dm a h
theorem DG{D:Qg}{A:Qg->Prop}{vQ:En}{I0:St}{Hx:Hp}(r:Rs K aw σ H1)(hD:H1 D=none)(s:Sn K (gC nt js.length) (c0 nt js σ) A (upd H1 D (.dT [])) H1 vQ I0 Hx)
  (own:∀ (i:Nat) (u:U),nt<=i->vQ[i]?=some (some u)->u.own=true->∃ w,(eB nt js aw)[i]?=some (some w)/\w.own=true):¬Ow vQ I0 D:=by
 rintro⟨i,u,e,ou,es⟩;rcases s.ow i u D e ou es with⟨hi,_⟩|z
 .have fF:=pZ.mp hi
  obtain⟨w,ew,ow⟩:=own i u fF.1 e ou;obtain⟨p,j,rfl,hj,hr⟩:=uJ ew;rw[s.pin _ hi,D2 hj]at es;have e2:σ[j]?=some (some (.ref D)):=by
   rw[qD]at es;cases q:σ[j]? with
   | none=>rw[q]at es; cases es
   | some o=>rw[q]at es; exact congrArg some (qA es)
  obtain⟨c,hc,_⟩:=r.ow ⟨j,w,hr,ow,e2⟩;rw[hD]at hc;cases hc
 .rw[zx]at z; cases z
def ng(nt:Nat)(mg:MG)(mt:MT)(mk mv:ME):Qa D->En->Qa (Qa Key×D)->Qb (Qa (Qa Key×D)×En)
 | [],ρ,ys=>some (ys,ρ)
 | d::ds,ρ,ys=>if ys.length < sizeLine then(mg d ρ).bind λaw=>(mt aw).bind λb=>if b.1=true then(mk b.2).bind λp=>(mv p.2).bind λq=>(p.1.get q.2).bind λuk=>(q.1.get q.2).bind λuv=>uk.da.bind λdk=>uv.da.bind λdv=>(dI dk).bind λk=>
   ng nt mg mt mk mv ds (reset nt q.2) (jn ys k dv)else ng nt mg mt mk mv ds (reset nt b.2) ys else none
def vp(mi:MI)(nt:Nat)(js:Qa Nat)(mg:MG)(mt:MT)(mk mv:ME):ME:=λρ=>(mi ρ).bind λp=>(ng nt mg mt mk mv p.1 (eB nt js p.2) []).bind λq=>some (.u (.t q.1),back js (q.2.drop nt) p.2)
theorem CO{mi:MI}{mg:MG}{mt:MT}{mk mv:ME}(hi:VI K wi mi)(hg:oW K (gC nt js.length) g mg)(ht:VT K tt mt)(hk:VE K tk mk)(hv:VE K tv mv)(nd:js.Nodup:=by decide):
  VE K (PN K wi nt js g tt tk tv) (vp mi nt js mg mt mk mv):=by
 intro ρ σ H a av Q r e q;obtain⟨⟨ds,aw⟩,e1,e⟩:=bQ e;obtain⟨⟨zs,rA⟩,e2,e⟩:=bQ e;cases e;refine hi ρ σ H ds aw _ r e1 λJ H1 g1 run=>λD hD=>?_;have sm0:=zW hD (.dT []);have s0:=K9 (nt:=nt) (js:=js) g1.rs nd;have s1:Sn K (gC nt js.length) (c0 nt js σ) (λa=>kA aw σ js a\/a=D) (upd H1 D (.dT [])) H1 (eB nt js aw) (c0 nt js σ) (upd H1 D (.dT [])):=by
  have s2:=s0.go (Go.grow s0.rs sm0);refine⟨s2.rs,λa o h n=>h,λi u a e o es=>?_,s2.pin,λa h=>h,s2.kp⟩;rcases s2.ow i u a e o es with z|z
  .exact .inl ⟨z.1,.inl z.2⟩
  .exact absurd z (by
    obtain⟨v,ev,p⟩:=s0.rs.rep i u e;rw[es]at ev;cases ev;obtain⟨b,c,eb,hb,_⟩:=p.own o;cases eb;rw[hb];exact λz=>nomatch z)
 refine⟨λi m H'=>m=ds.length - i/\i<=ds.length/\∃ fJ kd ws,Sn K (gC nt js.length) (c0 nt js σ) (λa=>kA aw σ js a\/a=D) (upd H1 D (.dT [])) H1 fJ (c0 nt js σ) H'/\eT (eB nt js aw) fJ/\(∀ k,k < nt->fJ[k]?=some none)/\H' D=some (.dT ws)/\fE K H' ws kd/\ng nt mg mt mk mv (ds.drop i) fJ kd=some (zs,rA),
  ⟨ds.length,by simp,È _,_,[],[],s1,eT.refl _,λk hk=>Km hk,zx,.nil,e2⟩,?_⟩
 rintro i m H' ⟨rfl,fF,fJ,kd,ws,s',sh,lo,hw,dy,el⟩;have lc:fJ.length=nt+js.length:=by rw[sh.len,Fn]
 by_cases cM:i < ds.length
 .rw[List.drop_eq_getElem_cons cM]at el
  unfold ng at el;split at el
  .rename_i hz
   obtain⟨aB,e3,el⟩:=bQ el;obtain⟨⟨b,gN⟩,e4,el⟩:=bQ el;obtain⟨l2,p2⟩:=hg.ok _ _ _ e3;obtain⟨go,yl⟩:=(run H' s'.kp i).1 ds[i] (qo cM);refine .inr ⟨go,λH2=>∃ dB Ca BS,Sn K (gC nt js.length) (c0 nt js σ) (λa=>kA aw σ js a\/a=D) (upd H1 D (.dT [])) H1 dB (c0 nt js σ) H2/\eT (eB nt js aw) dB/\(∀ k,k < nt->dB[k]?=some none)/\H2 D=some (.dT BS)/\fE K H2 BS Ca/\ng nt mg mt mk mv (ds.drop (i+1)) dB Ca=some (zs,rA),
    λH2 ⟨dB,Ca,BS,z⟩=>⟨ds.length - (i+1),by omega,rfl,cM,dB,Ca,BS,z⟩,λx H2 y=>?_⟩
   obtain⟨sm,dx⟩:=yl x H2 y;have s2:=s'.go (Go.grow s'.rs sm);refine hg.run _ _ _ _ fJ _ H2 x ds[i] aB _ s2 dx e3 λcP s3=>?_;have Hh:∀ (i:Nat) (u:U),nt<=i->aB[i]?=some (some u)->u.own=true->∃ w,(eB nt js aw)[i]?=some (some w)/\w.own=true:=λk u hk ek ou=>by
    have lk:k < nt+js.length:=by rw[<-l2.trans lc]; exact(qm.mp ek).1
    rw[p2 k (pZ.mpr ⟨hk,lk⟩)]at ek;exact sh.own k u ek ou
   have n2:¬Ow aB cP D:=DG g1.rs hD s3 Hh;have toEnd:∀ {b8:En} {H4:Hp},Go K aB cP H2 b8 H4->Sn K (gC nt js.length) (c0 nt js σ) (λa=>kA aw σ js a\/a=D) (upd H1 D (.dT [])) H1 (L2.reset nt b8) (c0 nt js σ) H4/\eT (eB nt js aw) (L2.reset nt b8):=λ{b8 H4} g4=>by
    have l4:b8.length=nt+js.length:=by rw[g4.shr.len,l2,lc]
    refine⟨(s3.go g4).reset l4 Ep,sh.trans (eT.lr lc lo l4 (λk u hk ek ou=>?_) λk u hk ek=>?_)⟩
    .obtain⟨w,ew,ow⟩:=g4.shr.own k u ek ou
     have lk:k < nt+js.length:=by rw[<-l2.trans lc]; exact(qm.mp ew).1
     rw[p2 k (pZ.mpr ⟨hk,lk⟩)]at ew;exact⟨w,ew,ow⟩
    .have lk:k < nt+js.length:=by rw[<-lc]; exact(qm.mp ek).1
     rw[<-p2 k (pZ.mpr ⟨hk,lk⟩)]at ek;exact g4.shr.live k u ek
   have HH:H2 D=some (.dT ws):=sm _ _ hw;refine ht aB cP H2 b gN _ s3.rs e4 λH3 g3=>?_;dsimp only at el;split at el
   .rename_i hb
    rw[if_pos hb];obtain⟨⟨a4,b8⟩,e5,el⟩:=bQ el;obtain⟨⟨a5,Ja⟩,e6,el⟩:=bQ el;obtain⟨uk,ek,el⟩:=bQ el;obtain⟨uv,ev,el⟩:=bQ el;obtain⟨dk,IB,el2⟩:=bQ el;obtain⟨dv,IA,el3⟩:=bQ el2;obtain⟨ks,Iy,el4⟩:=bQ el3;cases AH IB;cases AH IA;refine hk gN cP H3 a4 b8 _ g3.rs e5 λkx H4 g4 k4=>hv b8 cP H4 a5 Ja _ g4.rs e6 λvx H5 g5 k5=>?_;have pk:=k4.later g3.rs g4 g5 ek;have pv:=k5.now g4.rs g5 ev;obtain⟨p,rfl,hp⟩:=wH pk Iy;have Im:=(g3.trans g4).trans g5;have HG:H5 D=some (.dT ws):=Im.fr D _ HH n2;obtain⟨sn,sr⟩:=toEnd Im;have Q1:fE K H5 ws kd:=(dy.kp sm.kp).kp (Im.kp s3.rs);have kp:=jW HG trivial (.dT (fS ws ks vx));have nE:¬Ow (L2.reset nt Ja) (c0 nt js σ) D:=DG g1.rs hD sn λk u _ ek ou=>sr.own k u ek ou;exact⟨ws,ks,p,rfl,HG,hp,by rw[Q1.len]; exact hz,_,_,_,sn.free HG trivial nE (.inr rfl),sr,λk hk=>Be hk,zx,(Q1.kp kp).put ks (DF.kp kp pv),el4⟩
   .rename_i hb
    rw[if_neg hb];obtain⟨sn,sr⟩:=toEnd g3;exact⟨_,_,_,sn,sr,λk hk=>Be hk,g3.fr D _ HH n2,(dy.kp sm.kp).kp (g3.kp s3.rs),el⟩
  .cases el
 .have ei:i=ds.length:=by omega
  subst ei;rw[List.drop_length]at el;cases el;refine .inl ⟨(run H' s'.kp _).2 rfl,?_⟩;have nE:¬Ow rA (c0 nt js σ) D:=DG g1.rs hD s' λk u _ ek ou=>sh.own k u ek ou;have s4:Sn K (gC nt js.length) (c0 nt js σ) (kA aw σ js) H1 H1 rA (c0 nt js σ) H':=by
   refine⟨s'.rs,λa o h n=>?_,λi u a e o es=>?_,s'.pin,λa h=>?_,s'.kp⟩
   .have ne:a≠D:=by rintro rfl; rw[hD]at h; cases h
    exact s'.fr a o (by rw[zH ne]; exact h) λz=>z.elim n ne
   .rcases s'.ow i u a e o es with⟨z1,z2|z2⟩|z
    .exact .inl ⟨z1,z2⟩
    .subst z2; exact absurd ⟨i,u,e,o,es⟩ nE
    .by_cases ea:a=D
     .subst ea; exact .inr hD
     .rw[zH ea]at z; exact .inr z
   .have z:=s'.dm a h
    by_cases ea:a=D
    .subst ea; exact hD
    .rw[zH ea]at z; exact z
  have gb:=Sn.comp_back g1.rs s4 lc sh;exact q _ _ (g1.trans gb) ⟨⟨D,ws,rfl,hw,dy⟩,λ_=>⟨D,rfl,g1.dm _ hD⟩⟩
end
section
variable{d:Qg}
theorem Zw{Q:Qb Qc->Qd->Prop}(k:s.heap.IsValIter it d i es.size ep)(r:g8 s.heap d es ep){x:DictEntry}(hx:es[i]?=some x)
  (q:∀ h':Heap,h'.IsValIter it d (i+1) es.size ep->Heap.SameBut it s.heap h'->Q (some x.val) {s with heap:=h'}):wpAny (model prog w) A (pyNext (.ref it)) Q E s:=by
 have kT:=k.typeIs;obtain⟨oi,ei,ci,fi⟩:=id k;obtain⟨o,e,_,dat⟩:=r;unfold pyNext;refine qc (wpAny_attempt (wpAny_callSpecial?_slot (name:=Str.ofString "__next__") kT á
  (wpAny_call_entry á kT F.entry_dict_valueiterator_next ?_ (F.args_dict_valueiterator_next_1 _))))
 refine qc (qd (qc (qc ?_)));refine qc (wpAny_typeNameOfWhole_valiter kT (qd (qc (wpAny_fieldsOf ei fi ?_))));simp only[show Builtin.Dict_items.ownsTuple "dict_valueiterator"=false by decide,Bool.false_eq_true,if_false];show wpAny _ _ (if(Value.ref d==Value.none)=true then _ else _) _ _ s;rw[if_neg (show ¬((Value.ref d==Value.none)=true) from qh)];refine qc (qd (qc (wpAny_dictEntries e dat ?_)));rw[if_neg (by simp)];refine qc (qd (qc (wpAny_dictEpoch e dat ?_)));rw[if_neg (by simp)];refine qd ?_;simp only[show ¬((i:Int) < 0) from by omega,if_false,Int.toNat_natCast,hx];refine qc (qc (wpAny_typeNameOfWhole_valiter kT (qd (qc (wpAny_isOneOf_valiter kT ?_)))));show wpAny _ _ (setField (.ref it) 1 (rawInt ((i:Int)+1)) >>= _) _ _ s;refine qc (wpAny_setField ei fi (by simp) ?_);have k':(s.heap.update it (Obj.mapFields (·.setIfInBounds 1 (rawInt ((i:Int)+1))))).IsValIter it d (i+1) es.size ep :=
  ⟨_,Ë _ ei (Ù (Õ fi _)),(Obj.cls_mapFields ..).trans ci,by rw[Obj.data_mapFields fi]; simp[rawInt]⟩
 refine qc (wpAny_holding (qc (wpAny_isOneOf_valiter (s:={s with heap:=s.heap.update it (Obj.mapFields (·.setIfInBounds 1 (rawInt ((i:Int)+1))))}) k'.typeIs ?_)));refine qc (wpAny_isOneOf_valiter (s:={s with heap:=s.heap.update it (Obj.mapFields (·.setIfInBounds 1 (rawInt ((i:Int)+1))))}) k'.typeIs ?_);show wpAny _ _ (pure x.val) _ _ _;exact qd (qd ⟨_,rfl,qd (q _ k' (É ..))⟩)
theorem Xd{Q:Qb Qc->Qd->Prop}(hh:A.handled=none)(k:s.heap.IsValIter it d i es.size ep)(r:g8 s.heap d es ep)(hx:es.size<=i)
  (q:∀ h':Heap,Heap.ExtBut it s.heap h'->Q none {s with heap:=h'}):wpAny (model prog w) A (pyNext (.ref it)) Q E s:=by
 have kT:=k.typeIs;obtain⟨oi,ei,ci,fi⟩:=id k;obtain⟨o,e,_,dat⟩:=r;unfold pyNext;refine qc (wpAny_attempt (wpAny_callSpecial?_slot (name:=Str.ofString "__next__") kT á
  (wpAny_call_entry á kT F.entry_dict_valueiterator_next ?_ (F.args_dict_valueiterator_next_1 _))))
 refine qc (qd (qc (qc ?_)));refine qc (wpAny_typeNameOfWhole_valiter kT (qd (qc (wpAny_fieldsOf ei fi ?_))));simp only[show Builtin.Dict_items.ownsTuple "dict_valueiterator"=false by decide,Bool.false_eq_true,if_false];show wpAny _ _ (if(Value.ref d==Value.none)=true then _ else _) _ _ s;rw[if_neg (show ¬((Value.ref d==Value.none)=true) from qh)];refine qc (qd (qc (wpAny_dictEntries e dat ?_)));rw[if_neg (by simp)];refine qc (qd (qc (wpAny_dictEpoch e dat ?_)));rw[if_neg (by simp)];refine qd ?_;simp only[show ¬((i:Int) < 0) from by omega,if_false,Int.toNat_natCast,Array.getElem?_eq_none hx];refine qc (qc (wpAny_typeNameOfWhole_valiter kT (qd ?_)));show wpAny _ _ (setField (.ref it) 0 .none >>= _) _ _ s;refine qc (wpAny_setField ei fi (by simp) ?_);show wpAny _ _ (newExc (.type "StopIteration") [] >>= _) _ _ _;refine qc ?_;simp only[newExc,newTuple];refine qc (qC ?_ (by show(0:Nat)<=sizeLine; exact È _));refine qc (m:=firstArgMember _ _) (wpAny_of_eq (a:=Value.none) (by first|rfl | (simp only[firstArgMember]; rfl)) ?_);refine qC ?_ (by first|trivial|size_fits);simp only[raiseNew];refine qc (wpAny_handled ?_);rw[show A.in1.handled=none from hh];refine qc (qd (wpAny_throw ?_));refine qc (wpAny_isInstance (T := "StopIteration") (b:=true) ⟨_,qi _ rfl,rfl⟩ isSubtype_stop ?_);exact qd (q _ (((É ..).extBut.push _).push _))
theorem znS(hd:(d==sysModules)=false)(r:g8 s.heap d es ep)
  (q:Q (.ref s.heap.objs.size) {s with heap:=s.heap.push {cls:=.type "dict_values",data:=.fields #[.ref d]}}):wpAny (model prog w) A (call (.builtin "dict.values") [.ref d]) Q E s:=by
 have hT:=r.typeIs;obtain⟨o,e,_,dat⟩:=r;refine wpAny_call_entry F.slot_dict_values hT F.entry_dict_values ?_ (F.args_dict_values_1 _);refine qc ?_;unfold Builtin.Dict.noArgs;refine qc (wpAny_notOrdered_dict hT ?_);show wpAny _ _ (pure d) _ _ s;refine qd ?_;show wpAny _ _ (Builtin.Dict.showsAll d >>= _) _ _ s;unfold Builtin.Dict.showsAll;rw[if_neg (by rw[hd]; exact qh)];refine qc (qd ?_);exact qc (qC (qd ⟨_,rfl,q⟩))
theorem Zv{v:Qg}(hv:s.heap.IsValuesView v d)(r:g8 s.heap d es ep)
  (q:∀ h':Heap,h'.IsValIter s.heap.objs.size d 0 es.size ep->(∀ b o,s.heap.get? b=some o->h'.get? b=some o)->Q (.ref s.heap.objs.size) {s with heap:=h'}):wpAny (model prog w) A (pyIter (.ref v)) Q E s:=by
 obtain⟨o,e,_,dat⟩:=r;obtain⟨o2,e2,c2,d2⟩:=id hv;have hT:=hv.typeIs (s:=s);refine wpAny_pyIter_slot hT F.slot_dict_values_iter (wpAny_call_entry F.slot_dict_values_iter hT F.entry_dict_values_iter ?_ (F.args_dict_values_iter_1 _));unfold Builtin.«dict_values.__iter__»;refine qc (qd ?_);unfold Builtin.Dict_items.dictOf;refine qc (qc (wpAny_field e2 d2 (x:=.ref d) rfl (qd ?_)));unfold Builtin.Dict_items.newIterator;refine qc (qc (wpAny_dictEntries e dat (qc (wpAny_dictEpoch e dat ?_))));have HP:Builtin.Dict_items.ownsTuple "dict_valueiterator"=false:=by decide
 simp only[HP,Bool.false_eq_true,if_false];refine qC (qd ⟨_,rfl, "dict_valueiterator",_,⟨_,qi _ rfl,rfl⟩,á.lookup,?_⟩);exact q _ ⟨_,qi _ rfl,rfl,by simp[rawInt]⟩ λb o z=>qf _ z
end
def RG(a:Qg)(o:Obj)(kvs:Qa (Qa Key×V)):It :=
 ⟨λi H=>H a=some (.aS o (.dT kvs))/\i < kvs.length,λi H x H'=>H'=H/\∀ k v,kvs[i]?=some (k,v)->x=v,λi H=>H a=some (.aS o (.dT kvs))/\kvs.length<=i⟩
theorem Zu(a it:Qg)(o:Obj)(kvs:Qa (Qa Key×V))(ep:Nat)(qW:∃ es,o.data=.dict es ep):Turn P w K tg (RG a o kvs) [it] it (λi h=>h.IsValIter it a i kvs.length ep) where
 mem:=by simp
 obj:=λi h st b hb=>by
  have e:b=it:=by simpa using hb
  subst e;obtain⟨oi,e,c,d⟩:=st;exact⟨oi,e,λv z=>by rw[d]at z; cases z⟩
 keep:=λi h h' st k=>by
  obtain⟨oi,e,c,d⟩:=st;exact⟨oi,k it (by simp) _ e,c,d⟩
 item:=by
  intro X hP hw hK hc i pins s σ H E I hf st hg;subst hP hw hK;obtain⟨e,hi⟩:=hg;obtain⟨lJ,es,fH,ea,xd,dat,hsz,ent⟩:=u6 I e;have lP:fH=ep:=by
   obtain⟨fB,z⟩:=qW;rw[dat]at z;injection z
  subst lP;obtain⟨b,x,ex,kx,hb,rv⟩:=ent i kvs[i].1 kvs[i].2 (qo hi);obtain⟨f0,f1,f2,f3,f4,f5⟩:=hf it (by simp);refine Zw (es:=es) (by rw[hsz]; exact st) ⟨o,ea,xd,dat⟩ ex λh' dR sb=>?_;have I1:Inv X pins σ H {s with heap:=h'}:=I.turned (t':=s.toks) (λb o hb e=>(sb.2 b hb).trans e) f0 f1 f3 f4 f5;obtain⟨oi,e',c',d'⟩:=id dR;refine⟨x.val,rfl,uo (s:={s with heap:=h'}) e' c' d' (by decide) ⟨kvs[i].2,H,I1,rv,⟨rfl,λk v mX=>?_⟩,by rw[hsz]at dR; exact dR,λb hb=>(hf b hb).1⟩⟩;rw[qo hi]at mX;rw[qA mX]
 done:=by
  intro X hP hw hK hc i pins s σ H E I hf st hg;subst hP hw hK;obtain⟨e,hi⟩:=hg;obtain⟨lJ,es,fH,ea,xd,dat,hsz,ent⟩:=u6 I e;have lP:fH=ep:=by
   obtain⟨fB,z⟩:=qW;rw[dat]at z;injection z
  subst lP;obtain⟨f0,f1,f2,f3,f4,f5⟩:=hf it (by simp);exact Xd (es:=es) (I.ok.hd hc) (by rw[hsz]; exact st) ⟨o,ea,xd,dat⟩ (by omega) λh' eb=>⟨rfl,I.turned (t':=s.toks) (λb o hb e=>eb b o hb e) f0 f1 f3 f4 f5⟩
 self:=λ_ _ _ _ _ st h=>wpAny_pyIter_valiter st h
section
variable{X:Cx}
def Jq(td:TE):TI:=λσ H R=>td σ H λx H1=>∃ a o kvs,x=.ref a/\H1 a=some (.aS o (.dT kvs))/\R (RG a o kvs) H1
theorem Sm{d:Expr}(hd:Wr (PE X d td))(cB:attributeBase d "values" X.env (eval d X.env)=eval d X.env:=by rfl)(cz:(apos.endLine==aZ.line)=true:=by rfl):Wr (PI X tg (.Call (.Attribute d "values" apos) [] [] aZ) (Jq td)):=by
 refine⟨?_⟩;intro pins s σ H R I h;refine wpAny_Call_method0_late cB cz (aI (hd.run pins s σ H _ I h) λv s1 ⟨x,H1,I1,r1,q1⟩=>?_);obtain⟨a,o,kvs,rfl,e,q⟩:=q1;cases r1;obtain⟨lJ,es,ep,ea,xd,dat,hsz,_⟩:=u6 I1 e;have xr:g8 s1.heap a es ep:=⟨o,ea,xd,dat⟩;refine⟨"dict", "dict.values",F.plainAttrs_dict,F.slot_dict_values,F.type_dict_values,xr.typeIs,λb hb=>?_,í rfl (PySem.evalArgs_none (znS lJ xr ?_))⟩
 .cases hb
  exact⟨o,ea,xd.2.1⟩
 have I2:Inv X pins σ H1 {s1 with heap:=s1.heap.push {cls:=.type "dict_values",data:=.fields #[.ref a]}}:=I1.kept (t':=s1.toks) λb o z=>qf _ z;refine Zv (v:=s1.heap.objs.size) (s:={s1 with heap:=s1.heap.push {cls:=.type "dict_values",data:=.fields #[.ref a]}}) ⟨_,qi _ rfl,rfl,rfl⟩ ⟨o,qf _ ea,xd,dat⟩ λh' hit vw=>?_;refine⟨_,_,_,_,H1,rfl,I2.kept (t':=s1.toks) vw,Zu a _ o kvs ep ⟨es,dat⟩,by rw[<-hsz]; exact hit,λb hb=>?_,q⟩;rw[qr.mp hb];exact I2.cS (qg _) (I2.aD.fresh (qg _))
end
def yY:U->Qb (Qa D)
 | .d (.dict kvs)=>if jG kvs=true then some (kvs.map (·.2))else none
 | _=>none
theorem U6{me:ME}(h:VE K te me):VI K (Jq te) (cq yY me):=by
 intro ρ σ H ds av R r e q;obtain⟨⟨a,aw⟩,e1,e⟩:=bQ e;obtain⟨u,eu,e⟩:=bQ e;obtain⟨xs,ex,e⟩:=bQ e;cases e;refine h ρ σ H a _ _ r e1 λv H1 g1 k1=>?_;have p:=k1.now r g1 eu;unfold yY at ex;split at ex
 .split at ex
  rotate_left
  .cases ex
  rename_i nx;cases ex;obtain⟨b,o,ws,rfl,h1,h2⟩:=DF.cH p nx;refine⟨b,o,ws,rfl,h1,q _ _ g1 λH2 k i=>?_⟩;have jc:=k.aS _ _ _ h1;refine⟨λd ed=>?_,λei=>?_⟩
  .rw[List.getElem?_map]at ed
   obtain⟨⟨kd,vd⟩,ew,rfl⟩:=qu.mp ed;obtain⟨ks,w,eS,rfl,dv⟩:=Fh h2 ew;refine⟨⟨jc,(qm.mp eS).1⟩,λx H' y=>?_⟩;obtain⟨rfl,y⟩:=y;rw[y ks w eS];exact⟨λ_ _ z=>z,dv.kp k⟩
  .rw[List.length_map,<-Ff h2]at ei
   exact⟨jc,ý ei.symm⟩
 .cases ex
section
variable{X:Cx}{C dx:Qg}{fs:Qa (Str×V)}{f:Str}
theorem Inv.Ip(I:Inv X pins σ H s)(e:H a=some (.ins C dx fs)):∃ o,Inv X pins σ (upd H a (.aS o (.ins C dx fs))) s:=by
 have ok:=(show bT X.prog X.w X.K H s.heap a (.ins C dx fs) from I.aD a _ e);obtain⟨d,z,ne,ob,_⟩:=id ok;refine⟨PySem.W.instObj C dx,?_⟩;have xv:bT X.prog X.w X.K (upd H a (.aS (PySem.W.instObj C dx) (.ins C dx fs))) s.heap a (.ins C dx fs):=
  ok.d9 (λ_ _ _ q=>q) (λb q=>by rw[zH (nM q e (by intro z; cases z))]; exact q) λb ys q=>by rw[zH (nM q e (by intro z; cases z))]; exact q
 exact I.write (t':=s.toks) (h':=s.heap) (by rw[e]; trivial) (.inl rfl) (λ_ _ _ q=>q) ⟨_,ob⟩ ⟨ob,xv⟩
theorem zmm{b:Bool}{o:Obj}(I:Inv X pins σ H s)(e:H a=some (.aS o (.ins C dx fs)))(c:nj X.K C)(n:hV X.K C f)(l:fs.lookup f=some v)
  (h:∀ u s',Inv X pins σ H s'->zY v u->Q u s'):wpAny (model X.prog X.w) A (getAttr (.ref a) f b) Q E s:=by
 obtain⟨_,d,z,ne,ob,mA,nn,r,q⟩:=(show bT X.prog X.w X.K H s.heap a (.aS o (.ins C dx fs)) from I.aD a _ e);obtain⟨u,hu,ru⟩:=ie.some_of (v:=v) (o:=mA f) (by rw[<-l]; exact r f);exact WG I.bZ (⟨ob,nn,ne⟩:iQ s.heap a dx C mA) (c.get f) c.hd n hu (Z4 ru) (h u _ (I.tok _) ru)
end
def Jp(K:qe)(f:Str):V->Hp->VK->Prop:=λx H Q=>∃ a C dx o fs v,x=.ref a/\H a=some (.aS o (.ins C dx fs))/\nj K C/\hV K C f/\fs.lookup f=some v/\Q v H
section
variable{X:Cx}{value:Expr}{f:Str}
theorem hU(K:qe)(hK:X.K=K)(he:Wr (PE X e ta))(hb:attributeBase e f X.env (eval e X.env)=eval e X.env):Wr (PE X (.Attribute e f pos) (BX (Jp K f) ta)):=by
 subst hK;refine⟨?_⟩;intro pins s σ H Q I h;refine W5 hb (aI (he.run pins s σ H _ I h) λu s1 ⟨x,H1,I1,rx,a,C,dx,oo,fs,v,ex,ea,c,n,l,q⟩=>?_);subst ex;obtain rfl:u=Value.ref a:=rx;exact zmm I1 ea c n l λu' s2 I2 ru=>⟨v,H1,I2,ru,q⟩
end
def BZ(K:qe)(C:Qg)(fl:Qa Str):Sp:=λvs H Q _=>∃ a dx us,vs=.ref a::us/\us.length=fl.length/\H a=some (.ins C dx [])/\Q .aN (upd H a (.ins C dx (fl.zip us)))
theorem U5{C:Qg}{Q:VK}{E:XK}(h:BZ K C fl vs H Q E):vs.length=fl.length+1:=by
 obtain⟨a,dx,us,rfl,l,_⟩:=h;rw[qw,l]
theorem Xc{C:Qg}{f g h:Str}{Q:VK}{E:XK}(c:nj K C)(n1:hV K C f)(n2:hV K C g)(n3:hV K C h)(d1:¬f=g)(d2:¬f=h)(d3:¬g=h)(q:BZ K C [f,g,h] vs H Q E):
  vY (yX K (ic 0) (ic 1) f) (vY (yX K (ic 0) (ic 2) g) (yX K (ic 0) (ic 3) h)) {nx:=λ_ H'=>Q .aN H',rt:=Q} (gI N vs) H:=by
 obtain⟨a,dx,us,rfl,l,e,q⟩:=q
 match us,l with
 | [u,v,w],_=>
  refine⟨u,rfl,.ref a,rfl,a,C,dx,[],rfl,e,c,n1,by decide,?_⟩;refine⟨v,rfl,.ref a,rfl,a,C,dx,_,rfl,zx,c,n2,?_,?_⟩
  .show(eY f u []).length < 1000
   simp[eY]
  refine⟨w,rfl,.ref a,rfl,a,C,dx,_,rfl,zx,c,n3,?_,?_⟩
  .simp only[eY]
   split<;>simp
  .show Q .aN _
   rw[AZ,AZ];have e3:eY h w (eY g v (eY f u []))=[f,g,h].zip [u,v,w]:=by
    simp[eY,d1,d2,d3,List.zip]
   rw[e3];exact q
def O9(K:qe)(C:Qg)(fl:Qa Str)(t:TA):TE:=λσ H Q=>JC C (BZ K C fl) [] E0 t σ H λv H2=>∃ a dx fs,v=.ref a/\H2 a=some (.ins C dx fs)/\∀ o,Q v (upd H2 a (.aS o (.ins C dx fs)))
structure t4 (P:Qe) (w:Qh) (K:qe) (mg:Str->Qb Qc) (base:Heap) (n:Str) (C:Qg) (fl:Qa Str):Prop where
 xn:XN K n C
 cl:nj K C
 na:∀ f∈fl,hV K C f
 gm:mg n=some (.ref C)
 fn:∃ (f:Qg) (fd:FuncData) (ps:Qa Str),Mk K C f/\mE K fd ps []/\cD P w K mg base iT 1 f fd ps (BZ K C fl)
section
variable{X:Cx}{C:Qg}{k:Nat}{p:Pos}{es:Qa Expr}{t:TA}
theorem DE(O:t4 X.prog X.w X.K X.mg X.base x C fl)(ha:Wr (PA X (e::es) t))(hr:aK 2 X.A:=by exact aK.mono ‹aK _ _› (by decide))(hg:Gl X x:=by exact rfl)(fQ:(x==("__debug__":Str))=false:=by decide)
  (he:cX e=true:=by rfl) (eQ:es.all cX=true:=by rfl):Wr (PE X (.Call (.Name x p) (e::es) [] pos) (O9 X.K C fl t)):=by
 obtain⟨f,fd,ps,M,hb,F⟩:=O.fn;refine⟨λpins s σ H Q I h=>?_⟩;refine aI (W2 (p:=p) (pos:=pos) (dvs:=[]) (E:=E0) M F hr hg O.gm hb .nil JA ha.run fQ (iX he) (pU eQ) pins s σ H _ I h) λu s1 ⟨v,H2,I2,r,a,dx,fs,ev,e,q⟩=>?_;obtain⟨o,I3⟩:=I2.Ip e;exact⟨v,_,I3,r,q o⟩
end
section
variable{n:Str}{C:Qg}{f:Str}
def vo:Qa Str->Qa D->Qa (D×D)
 | f::fl,d::ds=>(.str f,d)::vo fl ds
 | _,_=>[]
theorem JR:∀ {fl:Qa Str} {vs:Qa V} {ds:Qa D},aM K H vs ds->g6 K H (fl.zip vs) (vo fl ds)
 | [],_,_,_=>.nil
 | _::_,_,_,.nil=>.nil
 | _::_,_,_,.cons h t=>.cons h (JR t)
def rK(n:Str)(fl:Qa Str)(ds:Qa D):D:=.dict ((.bool true,.str n)::vo fl ds)
def uj(n:Str)(fl:Qa Str)(ma:MA):ME:=λρ=>(ma ρ).bind λp=>(bw p.2 p.1).bind λus=>(iy us).bind λds=>if ds.length=fl.length then some (.u (.d (rK n fl ds)),p.2)else none
theorem DD{t:TA}{m:MA}(xn:XN K n C)(h:jh K t m):VE K (O9 K C fl t) (uj n fl m):=by
 intro ρ σ H a av Q rs e q;obtain⟨⟨as,aw⟩,e1,e⟩:=bQ e;obtain⟨us,eu,e⟩:=bQ e;obtain⟨ds,ed,e⟩:=bQ e;split at e
 rotate_left
 .cases e
 rename_i hl;cases e;refine h ρ σ H as aw _ rs e1 λvs H1 g1 s1=>?_;have df:=Er (s1.lj rs g1 eu) ed;intro x dx hx hdx ne;refine⟨x,dx,vs,by rw[List.append_nil],by rw[df.len,hl],zx,rfl,x,dx,_,rfl,zx,λo=>?_⟩;rw[AZ,AZ];have sm:b9 H1 (upd (upd H1 dx (.own x)) x (.aS o (.ins C dx (fl.zip vs)))):=λb u hb=>by
  rw[zH (jz hb hx),zH (jz hb hdx)];exact hb
 exact q _ _ (g1.trans (Go.grow g1.rs sm)) ⟨DF.obj zx xn (JR (df.kp sm.kp)),Nw.data⟩
theorem DF.oB{ds:Qa (D×D)}(h:DF K H v (.dict ((.bool true,.str n)::ds))):∃ a C dx o fs,v=.ref a/\H a=some (.aS o (.ins C dx fs))/\XN K n C/\g6 K H fs ds:=by
 generalize eq:(PyData.dict ((.bool true,.str n)::ds))=z at h;cases h with
 | gM h t=>
  cases eq;generalize eq2:((PyData.bool true,PyData.str n)::ds)=y at t;cases t with
  | nil=>cases eq2
  | cons=>cases eq2
 | exc h e t=>cases eq
 | obj h e t=>cases eq; exact⟨_,_,_,_,_,rfl,h,e,t⟩
 | _=>cases eq
def eK(n f:Str):U->Qb U
 | .d (.dict ((.bool true,.str m)::ds))=>if m=n then(rD f ds).map .d else none
 | _=>none
theorem hW(xn:XN K n C)(c:nj K C)(na:hV K C f):VU K (Jp K f) (eK n f):=by
 intro x a u H Q h e q;unfold eK at e;split at e
 .rename_i m ds
  split at e
  .rename_i hn
   subst hn;obtain⟨d,ed,rfl⟩:=qu.mp e;obtain⟨a,C',dx,o,fs,rfl,ha,xn',t⟩:=DF.oB h;obtain⟨v,ev,hv⟩:=t.get ed;have:C'=C:=by
    have z:=(show PySem.W.nsIn K mainGlobals m=some (some (.ref C')) from xn').symm.trans (show PySem.W.nsIn K mainGlobals m=some (some (.ref C)) from xn);injection z with z;injection z with z;injection z
   subst this;exact⟨a,C',dx,o,fs,v,rfl,ha,c,na,ev,q v H (b9.refl H) hv Nw.data⟩
  .cases e
 .cases e
end
section
variable{X:Cx}
theorem FI:∀ (ns:Qa Int),aM K H (ns.map V.int) (ns.map PyData.int)
 | []=>.nil
 | n::ns=>.cons (.int n) (FI ns)
theorem Ex{g:Qg}(gt:yw K g ns)(hn:ns≠[]:=by decide):VE K (tC (.ref g)) (mC (.tuple (ns.map PyData.int))):=by
 intro ρ σ H a av Q rs e q;cases e;obtain⟨o,i,n,z1,z2,z3,z4,z5⟩:=gt;refine q _ _ (Go.refl rs) ⟨DF.tup (.inr ⟨o,i,n,z1,z2,z3,z4,z5,?_⟩) (FI ns),Nw.data⟩;cases ns with
 | nil=>exact absurd rfl hn
 | cons a r=>exact⟨a,_,rfl⟩
def nJ(i:Int):Int:=(Builtin.Int.intBits i:Nat)
def Jo:V->Qa V->Hp->VK->Prop:=λx xs H Q=>∃ i,x=.int i/\xs=[]/\Q (.int (nJ i)) H
theorem KA:vP X "int.bit_length" Jo:=by
 intro pins s σ H x xs v us Q I rx rv h;obtain⟨i,rfl,rfl,q⟩:=h;obtain⟨t,rfl⟩:=rx;cases rv;exact call_int_bit_length ⟨.int (nJ i),H,I.tok _,⟨_,rfl⟩,q⟩
def v5:U->Qb U
 | .d (.int i)=>some (.d (.int (nJ i)))
 | _=>none
theorem JQ{to:TE}{mo:ME}(h:VE K to mo):VE K (Dq K "int" Jo to) (cp v5 mo):=by
 intro ρ σ H a av Q rs e q;obtain⟨⟨a1,aw⟩,e1,e⟩:=bQ e;obtain⟨x,ex,e⟩:=bQ e;obtain⟨u,eu,e⟩:=bQ e;cases e;refine h ρ σ H a1 _ _ rs e1 λv1 H1 g1 k1=>?_;have p:=k1.now rs g1 ex;unfold v5 at eu;split at eu
 .rename_i z
  cases eu;cases DF.int_inv p;exact⟨rfl,z,rfl,rfl,q _ _ g1 ⟨DF.int _,Nw.data⟩⟩
 .cases eu
theorem znV{d:Qg}{Q:Bool->Qd->Prop}(hd:(d==sysModules)=false)(r:g8 s.heap d es ep)(xY:(es.size:Int) < 2^63)
  (h:Q (es.size != 0) {s with toks:=s.toks+1+1}):wpAny (model prog w) A (truthy (.ref d)) Q E s:=by
 have hT:=r.typeIs;obtain⟨o,e,_,dat⟩:=r;have tL:((es.size:Int) != 0)=(es.size != 0):=by
  cases z:es.size with
  | zero=>rfl
  | succ n=>
   rw[bne_iff_ne.mpr (by omega),bne_iff_ne.mpr (by omega)]
 have key:wpAny (model prog w) A (runValue (.builtin "len" ⟨[.ref d],[]⟩)) (λr s'=>r=.int es.size (s.toks+1)/\Q (es.size != 0) s') E s:=by
  refine wpAny_runValue (codeAny_builtin entry_len ?_);rw[Around.under_plainId plain_len _];unfold Builtin.«len»;refine qc (m:=oneArg "len" _) (qd ?_);refine qc (m:=callSpecial? (.ref d) (Str.ofString "__len__")) (wpAny_callSpecial?_slot (name:=Str.ofString "__len__") hT F.slot_dict_len
   (wpAny_call_entry F.slot_dict_len hT F.entry_dict_len ?_ (F.args_dict_len_1 _)))
  show wpAny _ _ (dictSize d >>= _) _ _ s;unfold dictSize;refine qc (qc (wpAny_dictEntries e dat (qd ?_)));show wpAny _ _ (Builtin.Dict.pendingCount d >>= _) _ _ s;refine qc (wpAny_pendingCount_other hd ?_);refine wpAny_ret_mkInt ?_;show wpAny _ _ _ _ _ {s with toks:=s.toks+1};refine qc (wpAny_holding (qd ?_));refine qc (wpAny_letGo ?_);show wpAny _ _ (if((es.size+0:Nat):Int) < 0 then _ else _) _ _ _;rw[if_neg (by omega)];show wpAny _ _ (if((es.size+0:Nat):Int)>=2^63 then _ else _) _ _ _;rw[if_neg (by rw[Nat.add_zero]; omega)];exact qc (wpAny_mkInt (qd ⟨rfl,h⟩))
 unfold truthy
 first
  | refine qc (wpAny_callSpecial?_none (name:=Str.ofString "__bool__") hT noBool_dict ?_)
  | refine qc (qd (qc (wpAny_callSpecial?_none (name:=Str.ofString "__bool__") hT noBool_dict ?_)))
 first
  | refine qc (wpAny_specialOf (name:=Str.ofString "__len__") hT F.slot_dict_len.lookup ?_)
  | refine qc (qd (qc (wpAny_specialOf (name:=Str.ofString "__len__") hT F.slot_dict_len.lookup ?_)))
 first
  | exact qc (wpAny_mono key (λr s' h'=>by obtain⟨rfl,hq⟩:=h'; exact qd (tL▸hq)) λ_ _ e=>e)
  | exact qc (qd (qc (wpAny_mono key (λr s' h'=>by obtain⟨rfl,hq⟩:=h'; exact qd (tL▸hq)) λ_ _ e=>e)))
def Jn(ta:TE):TT:=λσ H Q=>ta σ H λx H1=>∃ p kvs,x=.ref p/\H1 p=some (.dT kvs)/\Q (!kvs.isEmpty) H1
theorem Sl{a:Expr}(ha:Wr (PE X a ta))(he:∀ whole,isTrue a X.env whole=(do let v <-whole; standAt a.pos; holding [v] (truthy v)):=by intro _; rfl):Wr (PT X a (Jn ta)):=by
 refine⟨?_⟩;intro pins s σ H Q I h;refine isTrue_plain (aI (ha.run pins s σ H _ I h) λv s1 ⟨x,H1,I1,r1,p,kvs,ex,ep,q1⟩=>?_) (he _);subst ex;cases r1;obtain⟨z,y,xs,r,o,es,eq,h1,h2,h3,h4,h5⟩:=(show bT X.prog X.w X.K H1 s1.heap p (.dT kvs) from I1.aD p _ ep);have hl:es.size=kvs.length:=by
  have:=congrArg List.length h4;rw[Array.length_toList,List.length_map,<-wX r]at this;exact this
 have hs:sizeLine=16777216:=sizeLine_eq;refine znV y ⟨o,h1,h2,h3⟩ (by omega) ⟨H1,I1.tok _,?_⟩;have e2:(es.size != 0)=!kvs.isEmpty:=by
  rw[hl];cases kvs<;>rfl
 rw[e2];exact q1
def vZ(ma:ME):MT:=λρ=>(ma ρ).bind λp=>(p.1.get p.2).bind λu=>match u with
 | .t kvs=>some (!kvs.isEmpty,p.2)
 | _=>none
theorem U4{ma:ME}(ha:VE K ta ma):VT K (Jn ta) (vZ ma):=by
 intro ρ σ H b av Q r e q;obtain⟨⟨a,aw⟩,e1,e⟩:=bQ e;obtain⟨u,eu,e⟩:=bQ e;refine ha ρ σ H a _ _ r e1 λv H1 g1 k1=>?_;have p:=k1.now r g1 eu;cases u with
 | t kvs=>
  cases e;obtain⟨a,ws,rfl,h1,h2⟩:=p;refine⟨a,ws,rfl,h1,?_⟩;have e2:(!ws.isEmpty)=!kvs.isEmpty:=by cases h2<;>rfl
  rw[e2];exact q _ g1
 | _=>cases e
def ui(x:Int):Qa Int->Qa Int
 | []=>[x]
 | y::ys=>if x<=y then x::y::ys else y::ui x ys
def pG:Qa Int->Qa Int
 | []=>[]
 | x::xs=>ui x (pG xs)
theorem Gc(x:Int):∀ xs,(ui x xs).Perm (x::xs)
 | []=>.refl _
 | y::ys=>by
  unfold ui;split
  .exact .refl _
  .exact((Gc x ys).cons y).trans (.swap x y ys)
theorem Bu:∀ xs,(pG xs).Perm xs
 | []=>.refl _
 | x::xs=>(Gc x _).trans ((Bu xs).cons x)
theorem Kz(x:Int):∀ {xs:Qa Int},xs.Pairwise (·<=·)->(ui x xs).Pairwise (·<=·)
 | [],_=>List.pairwise_singleton _ _
 | y::ys,h=>by
  obtain⟨h1,h2⟩:=Ï.mp h;unfold ui;split
  .rename_i le
   refine Ï.mpr ⟨λz hz=>?_,h⟩;rcases qx.mp hz with e|hz
   .omega
   .have:=h1 z hz
    omega
  .rename_i le
   refine Ï.mpr ⟨λz hz=>?_,Kz x h2⟩;rcases qx.mp ((Gc x ys).mem_iff.mp hz)with e|hz
   .omega
   .exact h1 z hz
theorem LJ:∀ xs,(pG xs).Pairwise (·<=·)
 | []=>.nil
 | x::xs=>Kz x (LJ xs)
theorem Xb{xs ys:Qa Int}(p:ys.Perm xs)(s:ys.Pairwise (·<=·)):ys=pG xs:=by
 refine List.Perm.eq_of_pairwise (le:=(·<=·)) (λa b _ _ h1 h2=>Int.le_antisymm h1 h2) s (LJ xs) (p.trans (Bu xs).symm)
end
theorem na3{C:Qg}{f g h:Str}(a:hV K C f)(b:hV K C g)(c:hV K C h):∀ x∈[f,g,h],hV K C x:=λx hx=>by
 rcases qx.mp hx with rfl|hx
 .exact a
 rcases qx.mp hx with rfl|hx
 .exact b
 rcases qx.mp hx with rfl|hx
 .exact c
 cases hx
section
variable{c:β->D}{mI:MI}{mg:MG}{mt:MT}{mk mv me ma:ME}{mA:MA}{ρ:En}{QE:Ar×En->Prop}{QT:Bool×En->Prop}
theorem Xa:Wo (vp mI nt js mg mt mk mv ρ) QE=Wo (mI ρ) (Co (λp=>(ng nt mg mt mk mv p.1 (eB nt js p.2) []).bind λq=>some (.u (.t q.1),back js (q.2.drop nt) p.2)) ⟨0⟩ QE):=by
 unfold vp;rw[zt]
def CW(nt:Nat)(mk mv:ME)(ys:Qa (Qa Key×D))(P:En->Qa (Qa Key×D)->Prop)(p:Bool×En):Prop :=
 if p.1=true then Wo (mk p.2) (Co (λp=>(mv p.2).bind λq=>(p.1.get q.2).bind λuk=>(q.1.get q.2).bind λuv=>uk.da.bind λdk=>uv.da.bind λdv=>(dI dk).bind λk=>some (reset nt q.2,jn ys k dv)) ⟨0⟩ λz=>P z.1 z.2)else P (reset nt p.2) ys
theorem W9{ys:Qa (Qa Key×D)}{P:En->Qa (Qa Key×D)->Prop}:CW nt mk mv ys P (true,ρ)=Wo (mk ρ) (Co (λp=>(mv p.2).bind λq=>(p.1.get q.2).bind λuk=>(q.1.get q.2).bind λuv=>uk.da.bind λdk=>uv.da.bind λdv=>(dI dk).bind λk=>some (reset nt q.2,jn ys k dv)) ⟨0⟩ λz=>P z.1 z.2):=rfl
theorem W8{ys:Qa (Qa Key×D)}{P:En->Qa (Qa Key×D)->Prop}:CW nt mk mv ys P (false,ρ)=P (reset nt ρ) ys:=rfl
def IC(l:Pq β):Pq β:=l.foldl (λys t=>bX ys t.1 t.2) []
theorem U3{l:Pq β}:∀ {acc:Pq β},aR (acc++l)->l.foldl (λys t=>bX ys t.1 t.2) acc=acc++l:=by
 induction l with
 | nil=>intro acc _; simp
 | cons t l ih=>
  intro acc h;have e:bX acc t.1 t.2=acc++[t]:=by
   unfold bX;rw[if_neg];intro z;obtain⟨u,hu,e⟩:=Ć.mp z;have e:=of_decide_eq_true e;have:(acc++t::l).map (·.1)=acc.map (·.1)++t.1::l.map (·.1):=by simp
   rw[aR,this,List.nodup_append]at h;exact h.2.2 u.1 (Ã.mpr ⟨u,hu,rfl⟩) t.1 (by simp) e
  rw[List.foldl_cons,e,ih (by rw[List.append_assoc]; exact h)];simp
theorem JP{l:Pq β}(h:aR l):IC l=l:=U3 (acc:=[]) h
theorem AF{g:α->D}{b:α->Bool}{k:α->Qa Int}{v:α->β}{Q:Qa (Qa Key×D)×En->Prop}(hz:as.length<=16777216)
  (st:∀ a∈as,∀ ys:Pq β,Wo (mg (g a) ρ) (Co mt ⟨0⟩ (CW nt mk mv (aW c ys) λav zs=>av=ρ/\zs=aW c (if b a=true then bX ys (k a) (v a)else ys))))
  (q:Q (aW c (IC ((as.filter b).map λa=>(k a,v a))),ρ)):Wo (ng nt mg mt mk mv (as.map g) ρ []) Q:=by
 have main:∀ (es:Qa α) (acc:Pq β),(∀ a∈es,a∈as)->acc.length+es.length<=16777216->Q (aW c (((es.filter b).map λa=>(k a,v a)).foldl (λys t=>bX ys t.1 t.2) acc),ρ)->Wo (ng nt mg mt mk mv (es.map g) ρ (aW c acc)) Q:=by
  intro es
  induction es with
  | nil=>intro acc _ _ q; exact⟨_,rfl,q⟩
  | cons a es ih=>
   intro acc hm hl q;rw[qw]at hl;obtain⟨aw,e1,⟨bb,aB⟩,e2,kk⟩:=st a (hm a qq) acc;rw[List.map_cons];unfold ng;rw[if_pos (by rw[Kf]; show _ < 16777216; omega),zt];refine⟨aw,e1,?_⟩;rw[ir,zt];refine⟨_,e2,?_⟩;rw[ir];rw[List.filter_cons]at q;have pl:=KI acc (k a) (v a);cases bb with
   | false=>
    obtain⟨e3,e4⟩:=kk;rw[if_neg qh,e3,e4]
    by_cases hb:b a=true
    .rw[if_pos hb]
     rw[if_pos hb]at q;exact ih _ (λx hx=>hm x (qp _ hx)) (by omega) q
    .rw[if_neg hb]
     rw[if_neg hb]at q;exact ih _ (λx hx=>hm x (qp _ hx)) (by omega) q
   | true=>
    rw[if_pos rfl,zt];obtain⟨p,e3,kk⟩:=kk;refine⟨p,e3,?_⟩;rw[ir];obtain⟨z,e4,e5,e6⟩:=kk;obtain⟨q1,f1,e4⟩:=bQ e4;obtain⟨uk,f2,e4⟩:=bQ e4;obtain⟨uv,f3,e4⟩:=bQ e4;obtain⟨dk,f4,e4⟩:=bQ e4;obtain⟨dv,f5,e4⟩:=bQ e4;obtain⟨kk,f6,e4⟩:=bQ e4;cases e4;rw[f1,bd,f2,bd,f3,bd,f4,bd,f5,bd,f6,bd];dsimp only at e5 e6;rw[e5,e6]
    by_cases hb:b a=true
    .rw[if_pos hb]
     rw[if_pos hb]at q;exact ih _ (λx hx=>hm x (qp _ hx)) (by omega) q
    .rw[if_neg hb]
     rw[if_neg hb]at q;exact ih _ (λx hx=>hm x (qp _ hx)) (by omega) q
 exact main as [] (λ_ h=>h) (by simpa using hz) q
theorem W7{n:Str}:Wo (uj n fl mA ρ) QE=Wo (mA ρ) (Co (λp=>(bw p.2 p.1).bind λus=>(iy us).bind λds=>if ds.length=fl.length then some (.u (.d (rK n fl ds)),p.2)else none) ⟨0⟩ QE):=by
 unfold uj;rw[zt]
def jd(p:Pq Int)(b r:Int):D:=rK "Form" ["numbers", "beneath", "room"] [.dict (cu .int p),.int b,.int r]
theorem XB{p:Pq Int}{r:Int}:rK "Form" ["numbers", "beneath", "room"] [.dict (cu .int p),.int b,.int r]=jd p b r:=id rfl
theorem XA{p:Pq Int}{r:Int}:eK "Form" "numbers" (.d (jd p b r))=some (.d (.dict (cu .int p))):=by
 unfold jd rK;simp[eK,vo,rD]
theorem Xz{p:Pq Int}{r:Int}:eK "Form" "beneath" (.d (jd p b r))=some (.d (.int b)):=by
 unfold jd rK;simp only[eK,vo,rD,if_true];rw[if_neg (by decide)];rfl
theorem Xy{p:Pq Int}{r:Int}:eK "Form" "room" (.d (jd p b r))=some (.d (.int r)):=by
 unfold jd rK;simp only[eK,vo,rD,if_true];rw[if_neg (by decide),if_neg (by decide)];rfl
def DL:U->Qb Bool
 | .t kvs=>some (!kvs.isEmpty)
 | _=>none
theorem ZP:Wo (vZ ma ρ) QT=Wo (ma ρ) (Co (λp=>(p.1.get p.2).bind λu=>(DL u).bind λb=>some (b,p.2)) ⟨0⟩ QT):=by
 have e:vZ ma ρ=(ma ρ).bind λp=>(p.1.get p.2).bind λu=>(DL u).bind λb=>some (b,p.2):=by
  unfold vZ;congr 1
  funext p
  congr 1
  funext u
  cases u<;>rfl
 rw[e,zt]
theorem ZO{p:Pq β}:DL (.t (aW c p))=some (!p.isEmpty):=by
 show some (!(aW c p).isEmpty)=_;unfold aW;rw[List.isEmpty_map]
theorem zmq{p:Pq β}:yY (.d (.dict (cu c p)))=some (p.map λt=>c t.2):=by
 show(if jG (cu c p)=true then _ else _)=_;rw[if_pos (Av p)];unfold cu;rw[List.map_map];rfl
theorem ZN{i:Int}:v5 (.d (.int i))=some (.d (.int (nJ i))):=id rfl
end
section
variable{X:Cx}{i v f:Expr}{tx:TE}{k:Nat}(K:qe)(hK:X.K=K)
include hK
end
section
end
section
end
section
variable{g:Array GenState}{d:Drawn}{t:Nat}{os:OsState}{items:Array Qc}
end
section
variable{X:Cx}{D:Qg}
end
section
variable{X:Cx}
end
section
end
end L2
namespace L2
open PySem PySem.Calls PySem.Spec PyProof.Rows
section
end
section
end
end L2
namespace L2
open PySem PySem.Spec PyProof.Rows
section
variable{X:Cx}
end
section
def uh:U->U->Qb U
 | .l xs,.d (.int k)=>if -1000000 < k/\k < 1000000/\xs.length * k.toNat<=sizeLine then some (.l (List.replicate k.toNat xs).flatten)else none
 | _,_=>none
theorem SX:VO K Pw uh:=by
 intro x y a b u H Q ha hb e q;unfold uh at e;split at e
 .split at e
  .rename_i xs k hz
   cases e;obtain⟨p,us,rfl,h1,h2⟩:=ha;cases DF.int_inv hb;refine⟨p,k,us,rfl,rfl,h1,by omega,by omega,by rw[h2.len]; exact hz.2.2,λr hr=>?_⟩;have s:=zW hr (.lst (List.replicate k.toNat us).flatten);exact q _ _ s ⟨r,_,rfl,zx,(Fc h2 _).kp s.kp⟩ λ_=>⟨r,rfl,hr⟩
  .cases e
 .cases e
end
section
variable{X:Cx}{k:Nat}
end
section
variable{X:Cx}
end
section
variable{d:Qg}
end
section
variable{X:Cx}
end
section
end
theorem zCo:∀ {us:Qa α},us.length=1->∃ a,us=[a]
 | [a],_=>⟨a,rfl⟩
theorem zCp:∀ {us:Qa α},us.length=2->∃ a b,us=[a,b]
 | [a,b],_=>⟨a,b,rfl⟩
theorem zCq:∀ {us:Qa α},us.length=3->∃ a b c,us=[a,b,c]
 | [a,b,c],_=>⟨a,b,c,rfl⟩
theorem O8:∀ {us:Qa α},us.length=4->∃ a b c d,us=[a,b,c,d]
 | [a,b,c,d],_=>⟨a,b,c,d,rfl⟩
theorem zCr:∀ {us:Qa α},us.length=5->∃ a b c d e,us=[a,b,c,d,e]
 | [a,b,c,d,e],_=>⟨a,b,c,d,e,rfl⟩
structure Zs where
 P:Qe
 w:Qh
 K:qe
 mg:Str->Qb Qc
 base:Heap
def bU(K:qe)(x:Str)(st:Stmt):Prop:=∃ (f:Qg) (fd:FuncData),jR K x x st f fd/\PySem.W.nsIn K mainGlobals x=some (some (.ref f))
theorem fnK{f:Qg}{oc:Qc}{od an:Qb Qg}{kV doc pm bE ct:Qc}(a:PySem.W.nsIn K mainGlobals x=some (some (.ref f)))(l:K.lookup f=some ⟨oc,od,.func (PySem.W.fnOf x x (sJ st) (kU st) (fM st) .none kV doc pm an bE ct),lB⟩)
  (c:PySem.W.codeIn K bE x=true) (k:PySem.W.keepIn K (.ref f)=true):bU K x st:=⟨f,_,Kg l c k,a⟩
def b0(Z:Zs)(x:Str)(st:Stmt):Prop:=∃ (f:Qg) (fd:FuncData),jR Z.K x x st f fd/\Z.mg x=some (.ref f)
theorem bU.z{base:Heap}(a:bU K x st)(X:K.In h)(G:h.Ns mainGlobals mg):b0 ⟨P,w,K,mg,base⟩ x st:=by
 obtain⟨f,fd,F,g⟩:=a;exact⟨f,fd,F,ĉ X G g⟩
abbrev Zs.C(Z:Zs)(x:Str)(k:Nat)(ps:Qa Str)(n:Nat)(F:FD):Prop:=IX Z.P Z.w Z.K Z.mg Z.base x k ps (qH Z.K n F)
abbrev Zs.X(Z:Zs)(x:Str)(k:Nat)(ps:Qa Str)(n:Nat)(F:FX):Prop:=IW Z.P Z.w Z.K Z.mg Z.base x k ps (spX Z.K n F)
section
variable{Z:Zs}{k nn:Nat}{m:MS}{f:Qg}
abbrev Jm(Z:Zs)(x:Str)(st:Stmt)(k:Nat)(pn:Qa Nat)(m:MS)(N:Qa Str)(f:Qg):Prop:=∀ {bE:Qc} {A:Qf} {outer:Qa Env} {s:Qd} {H:Hp} {E:XK},N.Nodup->aK k (A.deeper (envOfC x (fM st) s.heap.objs.size f bE))->
 ∃ t,VS Z.K pn RJ t m/\Wr (eU (nB iT Z.P Z.w Z.K Z.mg Z.base N x (fM st) f bE A outer s H E).tj (kU st) t)
theorem P0(F:jR Z.K x x st f fd)(N:Qa Str)(cA:Jm Z x st k pn m N f)(S:bH N ps (fM st):=by exact⟨rfl,rfl,rfl,by decide +kernel,rfl,by decide +kernel,by decide +kernel⟩)(Cf:ps.length=n:=by rfl)(hN:N.length=nn:=by rfl)(Ci:n<=nn:=by decide):
  cD Z.P Z.w Z.K Z.mg Z.base iT (k+1) f fd ps (qH Z.K n (bM nn pn m)):=F.okV S Cf hN Ci λbE A outer s H E hr=>let ⟨t,a,b⟩:=cA S.nd hr; ⟨t,b,a⟩
theorem cc(A:b0 Z x st)(N:Qa Str)(cA:∀ {f},Jm Z x st k pn m N f)(S:bH N ps (fM st):=by exact⟨rfl,rfl,rfl,by decide +kernel,rfl,by decide +kernel,by decide +kernel⟩)(Cf:ps.length=n:=by rfl)(hN:N.length=nn:=by rfl)(Ci:n<=nn:=by decide)
  (hb:∀ (kV doc pm:Qc) (an:Qb Qg) (bE ct:Qc) (us:Qa Qc),us.length=ps.length->bindArgs (PySem.W.fnOf x x (sJ st) (kU st) (fM st) .none kV doc pm an bE ct) ⟨us,[]⟩=pure (ps.zip us):=by
   intro _ _ _ _ _ _ us hl
   first
   | (obtain⟨_,rfl⟩:=zCo hl; rfl)
   | (obtain⟨_,_,rfl⟩:=zCp hl; rfl)
   | (obtain⟨_,_,_,rfl⟩:=zCq hl; rfl)
   | (obtain⟨_,_,_,_,rfl⟩:=O8 hl; rfl)
   | (obtain⟨_,_,_,_,_,rfl⟩:=zCr hl; rfl)
   | (cases(ë hl); rfl)):Z.C x (k+1) ps n (bM nn pn m):=
 let ⟨f,fd,F,g⟩:=A; ⟨⟨f,fd,P0 F N cA S Cf hN Ci,F.binds hb,F.kp,g⟩⟩
end
section
variable{ρ:En}
end
end L2
namespace L2
open PySem
section
variable{a:α}{f:α->Qb β}{R:β->Prop}{t:Ph f}
theorem Uw:Wo (some a) (Co f t R)=Wo (f a) R:=eL
theorem Uv{x:Fl}{Q:Fl->Prop}{P:En->Prop}:Wo (some x) (nK Q P)=nK Q P x:=eL
end
end L2
namespace L2
open PySem PySem.Spec PyProof.Rows
section
variable{g:Array GenState}{d:Drawn}{t:Nat}{os:OsState}{items:Array Qc}
end
section
variable{X:Cx}{D:Qg}
end
section
variable{X:Cx}
end
end L2
namespace L2
open PySem PySem.Spec
def Tt(b:Bool):Prop:=b=true
theorem Uu{b:Bool}(h:b=true):Tt b:=h
def vL(ρ:En)(i:Nat):Bool:=((ρ[i]?).join).isSome
def gt(ρ:En)(i:Nat):U:=((ρ[i]?).join).getD (.d .none)
theorem zBK{ρ:En}:gt ρ i=((ρ[i]?).join).getD (.d .none):=rfl
theorem zBL{u v:U}:(some u:Qb U).getD v=u:=rfl
theorem Ky{ρ:En}(h:vL ρ i=true):(ρ[i]?).join=some (gt ρ i):=by
 unfold vL at h;unfold gt;cases e:(ρ[i]?).join with
 | none=>rw[e]at h; cases h
 | some u=>rfl
def tZ(ρ:En):Ar->Bool
 | .s i=>vL ρ i
 | .u _=>true
def ag(ρ:En):Ar->U
 | .s i=>gt ρ i
 | .u x=>x
theorem zBM{ρ:En}:ag ρ (.s i)=gt ρ i:=rfl
theorem zBN{ρ:En}{x:U}:ag ρ (.u x)=x:=rfl
theorem A6{ρ:En}{a:Ar}(h:tZ ρ a=true):a.get ρ=some (ag ρ a):=by
 cases a with
 | s i=>exact Ky h
 | u x=>rfl
def gs(ρ:En)(as:Qa Ar):Qa U:=as.map (ag ρ)
theorem zBO{ρ:En}:gs ρ []=[]:=rfl
theorem zBP{ρ:En}{a:Ar}{as:Qa Ar}:gs ρ (a::as)=ag ρ a::gs ρ as:=rfl
theorem Ew{ρ:En}:∀ {as:Qa Ar},as.all (tZ ρ)=true->bw ρ as=some (gs ρ as)
 | [],_=>rfl
 | a::as,h=>by
  rw[List.all_cons,Bool.and_eq_true_iff]at h;rw[NW,A6 h.1,bd,Ew h.2];rfl
def CF(m:En->Qb α)(ρ:En):Qb α:=m ρ
def Cu(ρ:En)(t:Ph ρ)(Q:Ar×En->Prop)(u:U):Prop:=Q (.u u,ρ)
def Cw(ρ:En)(as:Qa Ar)(t:Ph ρ)(Q:Ar×En->Prop)(o:U×Qa U):Prop:=Q (.u o.1,wb ρ as o.2)
def Hw(f:U->Qb U)(p:Ar×En):Qb (Ar×En):=(p.1.get p.2).bind λx=>(f x).bind λu=>some (.u u,p.2)
def Jl(mA:MA)(p:Ar×En):Qb (Qa Ar×En):=(mA p.2).bind λq=>some (p.1::q.1,q.2)
def J1(a:Ar)(q:Qa Ar×En):Qb (Qa Ar×En):=some (a::q.1,q.2)
def Hz(f:Qa U->Qb U)(p:Qa Ar×En):Qb (Ar×En):=(bw p.2 p.1).bind λus=>(f us).bind λu=>some (.u u,p.2)
def yC(f:FD)(p:Qa Ar×En):Qb (Ar×En):=if gD p.2 p.1=true then(bw p.2 p.1).bind λus=>(f us).bind λo=>some (.u o.1,wb p.2 p.1 o.2)else none
def CV(i:Nat)(p:Ar×En):Qb Fl:=(put p).bind λq=>some (.nx (q.2.set i (some q.1)))
def kB(p:Ar×En):Qb (Bool×En):=(p.1.get p.2).bind λu=>u.yo.bind λb=>some (b,p.2)
def Cb(m1 m2:MS)(p:Bool×En):Qb Fl:=if p.1=true then m1 p.2 else m2 p.2
def DK(p:Ar×En):Qb Fl:=some (.nx p.2)
section
variable{γ:Type}{ρ:En}{ma mb me:ME}{mA:MA}{mt:MT}{m1 m2:MS}{u x y:U}{d:D}{a b:Ar}{as:Qa Ar}{f:U->Qb U}{f2:U->U->Qb U}{fl:Qa U->Qb U}{F:FD}
variable{QE:Ar×En->Prop}{QA:Qa Ar×En->Prop}{QT:Bool×En->Prop}{QS:Fl->Prop}
theorem Ut{m:En->Qb α}{Q:α->Prop}:Wo (CF m ρ) Q=Wo (m ρ) Q:=rfl
theorem Us{g:Ar×En->Qb β}{t:Ph ρ}{t2:Ph g}{R:β->Prop}:Cu ρ t (Co g t2 R) u=Wo (g (.u u,ρ)) R:=rfl
theorem Xx{g:Ar×En->Qb β}{t:Ph g}{R:β->Prop}(h:Tt (vL ρ i)):Wo (zi i ρ) (Co g t R)=Wo (g (.s i,ρ)) R:=by
 rw[LD,Ky h,eL,ir,eL];rfl
theorem zBQ{g:Ar×En->Qb β}{t:Ph g}{R:β->Prop}:Wo (mC d ρ) (Co g t R)=Wo (g (.u (.d d),ρ)) R:=Jb
theorem ZM(h:Tt (tZ ρ a && tZ ρ b)):Wo (yL f2 a (b,ρ)) QE=Wo (f2 (ag ρ a) (ag ρ b)) (Cu ρ ⟨0⟩ QE):=by
 obtain⟨h1,h2⟩:=Bool.and_eq_true_iff.mp h;unfold yL;rw[A6 h1,bd,A6 h2,bd,zt];exact congrArg (Wo _) (funext λ_=>eL)
theorem Ur:Wo (cp f ma ρ) QE=Wo (ma ρ) (Co (Hw f) ⟨0⟩ QE):=zBE
theorem Xw(h:Tt (tZ ρ a)):Wo (Hw f (a,ρ)) QE=Wo (f (ag ρ a)) (Cu ρ ⟨0⟩ QE):=by
 unfold Hw;rw[A6 h,bd,zt];exact congrArg (Wo _) (funext λ_=>eL)
theorem ZL:Wo (zf me mA ρ) QA=Wo (me ρ) (Co (Jl mA) ⟨0⟩ QA):=V2
theorem zmr:Wo (Jl mA (a,ρ)) QA=Wo (mA ρ) (Co (J1 a) ⟨0⟩ QA):=zt
theorem zjZ{g:Qa Ar×En->Qb β}{t:Ph g}{R:β->Prop}:Wo (J1 a (as,ρ)) (Co g t R)=Wo (g (a::as,ρ)) R:=eL
theorem Xv{g:Qa Ar×En->Qb β}{t:Ph g}{R:β->Prop}:Wo (zq ρ) (Co g t R)=Wo (g ([],ρ)) R:=LC
theorem Uq:Wo (aY fl mA ρ) QE=Wo (mA ρ) (Co (Hz fl) ⟨0⟩ QE):=zBF
theorem Xu(h:Tt (as.all (tZ ρ))):Wo (Hz fl (as,ρ)) QE=Wo (fl (gs ρ as)) (Cu ρ ⟨0⟩ QE):=by
 unfold Hz;rw[Ew h,bd,zt];exact congrArg (Wo _) (funext λ_=>eL)
theorem Xt:Wo (zR F mA ρ) QE=Wo (mA ρ) (Co (yC F) ⟨0⟩ QE):=SJ
theorem ZK(h:Tt (gD ρ as && as.all (tZ ρ))):Wo (yC F (as,ρ)) QE=Wo (F (gs ρ as)) (Cw ρ as ⟨0⟩ QE):=by
 obtain⟨h1,h2⟩:=Bool.and_eq_true_iff.mp h;unfold yC;rw[if_pos h1,Ew h2,bd,zt];exact congrArg (Wo _) (funext λ_=>eL)
theorem Uo{us:Qa U}{g:Ar×En->Qb β}{t:Ph ρ}{t2:Ph g}{R:β->Prop}:Cw ρ as t (Co g t2 R) (u,us)=Wo (g (.u u,wb ρ as us)) R:=rfl
theorem Xs:Wo (zU i me ρ) QS=Wo (me ρ) (Co (CV i) ⟨0⟩ QS):=SH
theorem ZJ{t:Ph (kr m2)}:Wo (CV i (.u u,ρ)) (Co (kr m2) t QS)=Wo (CF m2 (ρ.set i (some u))) QS:=eL
theorem zBR:Wo (mB me ρ) QT=Wo (me ρ) (Co kB ⟨0⟩ QT):=zCn
theorem Um{c:Bool}{g:Bool×En->Qb β}{t:Ph g}{R:β->Prop}:Wo (kB (.u (.d (.bool c)),ρ)) (Co g t R)=Wo (g (c,ρ)) R:=eL
theorem Xr:Wo (br mt m1 m2 ρ) QS=Wo (mt ρ) (Co (Cb m1 m2) ⟨0⟩ QS):=SG
theorem Xq:Wo (Cb m1 m2 (true,ρ)) QS=Wo (m1 ρ) QS:=rfl
theorem Xp:Wo (Cb m1 m2 (false,ρ)) QS=Wo (m2 ρ) QS:=rfl
theorem ZI:Wo (cN me ρ) QS=Wo (me ρ) (Co DK ⟨0⟩ QS):=V1
theorem zms{t:Ph (kr m2)}:Wo (DK (a,ρ)) (Co (kr m2) t QS)=Wo (CF m2 ρ) QS:=eL
theorem ZZ{t:Ph (kr m2)}:Wo (cO ρ) (Co (kr m2) t QS)=Wo (CF m2 ρ) QS:=Mw
theorem ZY{p:Qa Ar×En}:yC F p=if gD p.2 p.1=true then(bw p.2 p.1).bind λus=>(F us).bind λo=>some (.u o.1,wb p.2 p.1 o.2)else none:=rfl
theorem ZX{p:Ar×En}:CV i p=(put p).bind λq=>some (.nx (q.2.set i (some q.1))):=rfl
theorem Ul{p:Ar×En}:kB p=(p.1.get p.2).bind λu=>u.yo.bind λb=>some (b,p.2):=rfl
theorem Xo{p:Bool×En}:Cb m1 m2 p=if p.1=true then m1 p.2 else m2 p.2:=rfl
theorem zmt{p:Ar×En}:DK p=some (.nx p.2):=rfl
end
end L2
namespace L2
open PySem
abbrev Ri(xs:Array Nat):Prop:=xs.toList.Pairwise (· < ·)
theorem Ab{xs:Array Nat}(h:Ri xs)(dU:i < j)(hj:j < xs.size):xs[i]'(by omega) < xs[j]:=by
 have:=é.mp h i j (by simp; omega) (by simpa using hj) dU;simpa using this
theorem zBS{xs:Array Nat}(h:Ri xs)(j:Nat):∀ (n lo hi:Nat),lo<=hi->hi<=xs.size->hi - lo<=n->(∀ i (q:i < xs.size),i < lo->xs[i] < j)->(∀ i (q:i < xs.size),hi<=i->j<=xs[i])->
  SetTable.below.go xs j n lo hi<=xs.size/\(∀ i (q:i < xs.size),i < SetTable.below.go xs j n lo hi->xs[i] < j)/\∀ i (q:i < xs.size),SetTable.below.go xs j n lo hi<=i->j<=xs[i]:=by
 intro n
 induction n with
 | zero=>
  intro lo hi h1 h2 h3 h4 h5;have e:lo=hi:=by omega
  subst e;exact⟨h2,h4,h5⟩
 | succ n ih=>
  intro lo hi h1 h2 h3 h4 h5;unfold SetTable.below.go;split
  .rename_i c
   have hm:(lo+hi) / 2 < xs.size:=by omega
   have eg:xs.getD ((lo+hi) / 2) j=xs[(lo+hi) / 2]:=by simp[Array.getD,hm]
   dsimp only;rw[eg];split
   .rename_i c2
    refine ih _ _ (by omega) h2 (by omega) (λi q fF=>?_) h5;rcases è i ((lo+hi) / 2)with z|z
    .exact Ô (Ab h z hm) c2
    .have e:i=(lo+hi) / 2:=by omega
     subst e;exact c2
   .rename_i c2
    refine ih _ _ (by omega) (by omega) (by omega) h4 (λi q fF=>?_);rcases è ((lo+hi) / 2) i with z|z
    .exact qB (Nat.le_of_not_lt c2) (ċ (Ab h z q))
    .have e:i=(lo+hi) / 2:=by omega
     subst e;exact Nat.le_of_not_lt c2
  .rename_i c
   have e:lo=hi:=by omega
   subst e;exact⟨h2,h4,h5⟩
theorem LI{xs:Array Nat}(h:Ri xs)(j:Nat):SetTable.below xs j<=xs.size/\(∀ i (q:i < xs.size),i < SetTable.below xs j->xs[i] < j)/\∀ i (q:i < xs.size),SetTable.below xs j<=i->j<=xs[i]:=
 zBS h j xs.size 0 xs.size (È _) (qg _) (by omega) (λi _ z=>absurd z (Ċ i)) (λi q z=>absurd q (by omega))
theorem Xn(xs:Array α)(p:Nat)(x:α):(SetTable.insertAt xs p x).toList=xs.toList.take p++x::xs.toList.drop p:=by
 unfold SetTable.insertAt;simp[Array.toList_extract,List.extract_eq_drop_take];exact List.take_of_length_le (by simp)
theorem SW{xs:Array Nat}(h:Ri xs)(hj:xs[SetTable.below xs j]?≠some j):Ri (SetTable.insertAt xs (SetTable.below xs j) j):=by
 obtain⟨b1,b2,b3⟩:=LI h j;unfold Ri;rw[Xn];generalize hb:SetTable.below xs j=b at *;refine List.pairwise_append.mpr ⟨h.take,Ï.mpr ⟨λa ha=>?_,h.drop⟩,λa ha c hc=>?_⟩
 .obtain⟨i,hi,rfl⟩:=ö ha
  rw[List.length_drop]at hi;rw[List.getElem_drop];have q:b+i < xs.size:=by simpa using (by omega:b+i < xs.toList.length)
  have l1:=b3 (b+i) q (by omega);have ne:xs[b+i]≠j:=λe=>by
   cases i with
   | zero=>exact hj (by rw[Array.getElem?_eq_getElem (by simpa using q)]; simpa using e)
   | succ i=>
    have l2:=b3 b (by omega) (qg _);have l3:=Ab h (i:=b) (j:=b+(i+1)) (by omega) q;omega
  show j < xs.toList[b+i];rw[Array.getElem_toList];omega
 .obtain⟨i,hi,rfl⟩:=ö ha
  rw[List.length_take]at hi;have q:i < xs.size:=by simpa using (by omega:i < xs.toList.length)
  have l1:=b2 i q (by omega);rw[List.getElem_take,Array.getElem_toList];rcases qx.mp hc with rfl|hc
  .exact l1
  .obtain⟨k,hk,rfl⟩:=ö hc
   rw[List.length_drop]at hk;have q2:b+k < xs.size:=by simpa using (by omega:b+k < xs.toList.length)
   rw[List.getElem_drop,Array.getElem_toList];exact qk l1 (b3 (b+k) q2 (by omega))
theorem Xm(n:Nat):Ri (Array.range n):=by
 unfold Ri;rw[Array.toList_range];exact List.pairwise_lt_range
theorem A8(t:SetTable)(n:Nat):Ri (t.standIn n).place:=Xm n
theorem Xl{t:SetTable}{hs:Nat->Int}{h:Int}:∀ (n:Nat) (p:SetTable.Probe),(∀ d,p.dummy=some d->t.slot d=.dummy)->∀ {j:Nat} {dm:Qb Nat},SetTable.probe.go t hs h n p=some (.empty j dm)->t.slot j=.empty/\∀ d,dm=some d->t.slot d=.dummy:=by
 intro n
 induction n with
 | zero=>intro p hp j dm e; cases e
 | succ n ih=>
  intro p hp j dm e;unfold SetTable.probe.go at e;have IJ:∀ q:SetTable.Probe,(t.advance q).dummy=q.dummy:=λq=>by
   unfold SetTable.advance;split<;>rfl
  split at e
  .rename_i gy
   cases e;exact⟨gy,hp⟩
  .rename_i gy
   exact ih _ (λd hd=>by rw[IJ]at hd; cases hd; exact gy) e
  .split at e
   .cases e
   .exact ih _ (λd hd=>by rw[IJ]at hd; exact hp d hd) e
theorem Xk{t:SetTable}(h:∀ i,t.slot j≠.live i):t.place[SetTable.below t.place j]?≠some j:=λe=>by
 refine h (SetTable.below t.place j) ?_;unfold SetTable.slot;dsimp only;rw[if_pos (by rw[e]; exact beq_self_eq_true _)]
theorem U2{t:SetTable}{h:Int}{b:Bool}(e:t.freeSlot h=some (j,b)):t.place[SetTable.below t.place j]?≠some j:=by
 unfold SetTable.freeSlot at e;split at e
 .rename_i j' dm hp
  cases e;obtain⟨h1,h2⟩:=Xl _ _ (λd hd=>by cases hd) hp;refine Xk λi=>?_;cases dm with
  | none=>show t.slot j'≠_; rw[h1]; exact λz=>by cases z
  | some d=>show t.slot d≠_; rw[h2 d rfl]; exact λz=>by cases z
 .cases e
theorem zBT{t:SetTable}(h:Ri t.place):Ri (t.orStandIn n).place:=by
 unfold SetTable.orStandIn;split
 .exact h
 .exact A8 _ _
theorem SV{t:SetTable}{es:Array (Int×Qc)}{h:Int}{x:Qc}(r:Ri t.place):Ri (layNew t es h x).2.1.place:=by
 unfold layNew;split
 .rename_i s b e
  exact zBT (t:=(t.put s).1) (SW r (U2 e))
 .exact A8 _ _
theorem U1{mask finger moves:Nat}{led plain:Bool}{hs:Array Int}{t:SetTable}{o:Array Nat}(e:SetTable.laid mask finger moves led plain hs=some (t,o)):Ri t.place:=by
 unfold SetTable.laid at e;cases ow:SetTable.layClean mask hs with
 | none=>rw[ow]at e; cases e
 | some owner=>
  rw[ow]at e;cases e;show(((List.range (mask+1)).filterMap λj=>(owner.getD j none).map (j,·)).map (·.1)).Pairwise (· < ·);rw[List.map_filterMap];have:(List.range (mask+1)).filterMap (λj=>((owner.getD j none).map (j,·)).map (·.1))=(List.range (mask+1)).filter λj=>(owner.getD j none).isSome:=by
   rw[<-List.filterMap_eq_filter];refine congrArg (λf=>List.filterMap f _) (funext λj=>?_);show _=Option.guard (λx=>(owner.getD x none).isSome) j;cases h:owner.getD j none<;>simp[Option.guard,h]
  rw[this];exact List.pairwise_lt_range.filter _
theorem Xj{t:SetTable}{es:Array (Int×Qc)}:Ri (relayAll t es n).2.1.place:=by
 unfold relayAll;split
 .rename_i t' o e
  dsimp only;split
  .exact U1 e
  .exact A8 _ _
 .exact A8 _ _
theorem U0{t:SetTable}{es:Array (Int×Qc)}{h:Int}{x:Qc}:(layNew t es h x).2.1.led=t.led:=by
 unfold layNew;split
 .dsimp only
  unfold SetTable.orStandIn;split<;>rfl
 .rfl
theorem Zt{t:SetTable}{es:Array (Int×Qc)}:(relayAll t es n).2.1.led=t.led:=by
 unfold relayAll;split
 .rename_i t' o e
  dsimp only;split
  .unfold SetTable.relaid SetTable.laid at e
   generalize SetTable.layClean _ _=z at e;cases z with
   | none=>cases e
   | some owner=>cases e; rfl
  .rfl
 .rfl
structure iP (w:Qh) (t:SetTable):Prop where
 ri:Ri t.place
 ld:w.params.followText "set-order"=true\/t.led=true
def tY:Qc->Qb Int
 | .int i _=>some i
 | _=>none
def SI(prog:Qe)(w:Qh)(h:Heap)(a:Qg)(ks:Qa Int):Prop :=
 ∃ o es ep t,h.get? a=some o/\o.ExactSet/\o.data=.set es ep t/\ElemsOf (intKind prog w) es.toList/\es.size < scanBound/\t.fits es.size=true/\iP w t/\(es.toList.map λe=>tY e.2).Perm (ks.map some)
section
variable{k:Int}{tk:Tok}
theorem JZ{o:Obj}{es fB:Array (Int×Qc)}{t t':SetTable}(ho:h.get? a=some o)(hex:o.ExactSet)(hd:o.data=.set es ep t)(vG:ElemsOf (intKind prog w) fB.toList)(hb:fB.size < scanBound)(hf:t'.fits fB.size=true)(st:iP w t')(pm:(fB.toList.map λe=>tY e.2).Perm (ks.map some)):
  (h.update a (Obj.putSet fB t')).get? a=some {o with data:=.set fB (ep+1) t'}/\SI prog w (h.update a (Obj.putSet fB t')) a ks:=by
 have g:=Ë (Obj.putSet fB t') ho (by rw[putSet_of fB t' hd]; rfl);rw[putSet_of fB t' hd]at g;exact⟨g,_,fB,ep+1,t',g,hex,rfl,vG,hb,hf,st,pm⟩
theorem gw{b:Bool}{s1:Qd}{Q:Unit->Qd->Prop}(q:Q () s1):wpAny (model prog w) A (match b with|true=>rule "set.scan.the-table-gave-way" | false=>pure ()) Q E s1:=by
 cases b
 .exact qd q
 .exact wpAny_rule q
theorem SU{Q:Bool->Qd->Prop}(S:SI prog w s.heap a ks)(room:ks.length+1 < scanBound)
  (q:∀ h' b,Heap.SameBut a s.heap h'->SI prog w h' a (if k∈ks then ks else ks++[k])->Q b {s with heap:=h'}):wpAny (model prog w) A (setAddHashed a (.int k tk) (hashInt k)) Q E s:=by
 obtain⟨o,es,ep,t,ho,hex,hd,vG,hb,hf,st,pm⟩:=id S;have kx:(intKind prog w).is k (.int k tk)=true:=by show Value.isInt k (.int k tk)=true; simp[Value.isInt]
 have sc:(Value.int k tk).scannable=true:=rfl;have lk:es.size=ks.length:=by
  have:=pm.length_eq;rw[List.length_map,List.length_map,Array.length_toList]at this;exact this
 have mem:k∈ks↔∃ e∈es.toList,(intKind prog w).is k e.2=true:=by
  have m1:k∈ks↔some k∈ks.map some:=by simp
  rw[m1,<-pm.mem_iff,List.mem_map];refine⟨λ⟨e,he,z⟩=>⟨e,he,?_⟩,λ⟨e,he,z⟩=>⟨e,he,?_⟩⟩
  .show Value.isInt k e.2=true
   cases hv:e.2 with
   | int i t'=>rw[hv]at z; cases z; simp[Value.isInt]
   | _=>rw[hv]at z; cases z
  .obtain⟨t',z'⟩:=Value.isInt_shape z
   rw[z'];rfl
 unfold setAddHashed setAddHashedIn;refine wpAny_holding (qc (wpAny_setState_of ho hd hf ?_));dsimp only;rw[byScan_of sc hb vG,if_pos rfl];unfold setAddByScan;refine qc (qc (wpAny_rule (qc (wpAny_setScan_of kx ho hd hf vG ?_))));cases hr:es.toList.findIdx? λe=>(intKind prog w).is k e.2 with
 | some j=>
  obtain⟨hj,pj,_⟩:=List.findIdx?_eq_some_iff_getElem.mp hr;have jK:k∈ks:=mem.mpr ⟨_,ą hj,pj⟩;have:=q s.heap false (Heap.SameBut.refl a s.heap) (by rw[if_pos jK]; exact S);exact qd (qd this)
 | none=>
  have Hv:k∉ks:=λz=>by
   obtain⟨e,he,p⟩:=mem.mp z;have:=List.findIdx?_eq_none_iff.mp hr e he;rw[p]at this;cases this
  rw[if_neg Hv]at q;dsimp only;have p1:=layNew_perm t es (hashInt k) (.int k tk);have f1:=layNew_fits t es (hashInt k) (.int k tk);have r1:iP w (layNew t es (hashInt k) (.int k tk)).2.1:=⟨SV st.ri,by rw[U0]; exact st.ld⟩;generalize layNew t es (hashInt k) (.int k tk)=L at p1 f1 r1;obtain⟨fG,t1,wd,gv⟩:=L;dsimp only at p1 f1 r1 ⊢;rw[Array.toList_push]at p1;have QY:ElemsOf (intKind prog w) fG.toList:=(vG.push kx sc).perm p1;have Hf:(fG.toList.map λe=>tY e.2).Perm ((ks++[k]).map some):=(p1.map _).trans (by rw[List.map_append,List.map_append]; exact pm.append_right _);have z1:fG.size=ks.length+1:=by
   have:=Hf.length_eq;rw[List.length_map,List.length_map,Array.length_toList,qv,List.length_singleton]at this;exact this
  refine qc (gw ?_);have tail:∀ {t2:SetTable},t2.fits fG.size=true->iP w t2->wpAny (model prog w) A (do
    storeSet a fG t2
    if(!wd && t2.tooFull)=true then do
      (match (relayAll t2 fG (SetTable.grown fG.size)).2.2 with|true=>rule "set.scan.the-table-gave-way" | false=>pure ())
      storeSet a (relayAll t2 fG (SetTable.grown fG.size)).1 (relayAll t2 fG (SetTable.grown fG.size)).2.1
      pure (some true)
     else pure (some true)) (λr s'=>r=some true/\∃ h',s'={s with heap:=h'}/\Heap.SameBut a s.heap h'/\SI prog w h' a (ks++[k])) E s:=by
   intro t2 f2 r2;obtain⟨g1,S1⟩:=JZ ho hex hd QY (by omega) f2 r2 Hf;have PU:=É s.heap a (Obj.putSet fG t2);refine qc (wpAny_storeSet_of ho hd ?_ (fits_of_scanBound (by omega)));split
   .have p2:=relayAll_perm t2 fG (SetTable.grown fG.size)
    have f3:=relayAll_fits t2 fG (SetTable.grown fG.size);have r3:iP w (relayAll t2 fG (SetTable.grown fG.size)).2.1:=⟨Xj,by rw[Zt]; exact r2.ld⟩;generalize relayAll t2 fG (SetTable.grown fG.size)=L at p2 f3 r3 ⊢;obtain⟨es2,t3,g3⟩:=L;dsimp only at p2 f3 r3 ⊢;have z2:es2.size=fG.size:=by rw[<-Array.length_toList,p2.length_eq,Array.length_toList]
    refine qc (gw (qc (wpAny_storeSet_of g1 rfl ?_ (fits_of_scanBound (by omega)))));obtain⟨_,S2⟩:=JZ (h:=s.heap.update a (Obj.putSet fG t2)) g1 hex rfl (QY.perm p2) (by omega) f3 r3 ((p2.map _).trans Hf);exact qd ⟨rfl,_,rfl,PU.trans (É _ a _),S2⟩
   .exact qd ⟨rfl,_,rfl,PU,S1⟩
  have fin:∀ (r:Qb Bool) (s':Qd),(r=some true/\∃ h',s'={s with heap:=h'}/\Heap.SameBut a s.heap h'/\SI prog w h' a (ks++[k]))->wpAny (model prog w) A (match r with|some added=>pure added|none=>setAddHashedIn a (.int k tk) (hashInt k) 99999) Q E s':=by
   rintro _ _ ⟨rfl,h',rfl,sb,S'⟩;exact qd (q h' true sb S')
  split
  .refine qc ?_
   rw[hashByValue_scannable 8 sc];refine qd ?_;exact wpAny_mono (tail f1 r1) fin λ_ _ z=>z
  .refine qc (qd ?_)
   exact wpAny_mono (tail f1 r1) fin λ_ _ z=>z
end
def dst(ns:Qa Int):Qa Int:=ns.foldl (λks k=>if k∈ks then ks else ks++[k]) []
theorem Fs(ns:Qa Int):(dst ns).length<=ns.length:=by
 have main:∀ (ns acc:Qa Int),(ns.foldl (λks k=>if k∈ks then ks else ks++[k]) acc).length<=acc.length+ns.length:=by
  intro ns
  induction ns with
  | nil=>intro acc; exact qg _
  | cons n ns ih=>
   intro acc;rw[List.foldl_cons,qw];refine qB (ih _) ?_;split
   .omega
   .rw[qv,List.length_singleton]; omega
 have:=main ns [];rw[List.length_nil,Nat.zero_add]at this;exact this
theorem Fq(x:SI prog w h a ks)(k:∀ o,h.get? a=some o->h'.get? a=some o):SI prog w h' a ks:=by
 obtain⟨o,es,ep,t,ho,r⟩:=x;exact⟨o,es,ep,t,k o ho,r⟩
section
variable{I:Qg}{P:Nat->Qc->Prop}{St:Nat->Qd->Prop}
theorem UZ(W:WalksS prog w A.in1 I fp wr G ns.length P St)(S:Qg)(Cq:S∉fp)(hv:∀ i v,P i v->∃ k tk,ns[i]?=some k/\v=.int k tk)(hb:ns.length+1 < scanBound):
  ∀ (m i:Nat) (s:Qd),i+m=ns.length->St i s->SI prog w s.heap S (dst (ns.take i))->
   (∀ s',Moved (S::wr) G s s'->SI prog w s'.heap S (dst ns)->R (.ok (.ret .none)) s')->codeAny (model prog w) A (.builtin "set.update.loop" ⟨[.ref S,.ref I],[]⟩) R s:=by
 have nw:S∉wr:=λz=>Cq (W.sub _ z);have up:∀ b∈wr,b∈S::wr:=λb=>qp _;intro m
 induction m with
 | zero=>
  intro i s hi st hS hR;cases(show i=ns.length by omega);refine codeAny_builtin PyProof.Rows.F.entry_set_update_loop ?_;rw[Around.under_plainId PyProof.Rows.F.plain_set_update_loop _];show wpAny _ A.in1 (pyNext (.ref I) >>= _) _ _ s;rw[List.take_length]at hS;exact qc (W.done s _ _ st λs1 mv=>qd (hR s1 (mv.mono up) (Fq hS λo e=>mv.heap S o nw e)))
 | succ m ih=>
  intro i s hi st hS hR;refine codeAny_builtin PyProof.Rows.F.entry_set_update_loop ?_;rw[Around.under_plainId PyProof.Rows.F.plain_set_update_loop _];show wpAny _ A.in1 (pyNext (.ref I) >>= _) _ _ s;refine qc (W.item i s _ _ (by omega) st λv s1 hP og mv=>?_);obtain⟨k,tk,ek,rfl⟩:=hv i v hP;have hS1:=Fq hS λo e=>mv.heap S o nw e;show wpAny _ A.in1 (holding [Value.int k tk] (setAdd S (.int k tk)) >>= _) _ _ s1;refine qc (wpAny_holding ?_);unfold setAdd;refine wpAny_holding (qc (wpAny_pyHash_int ?_));have room:(dst (ns.take i)).length+1 < scanBound:=by
   have:=Fs (ns.take i);rw[List.length_take]at this;omega
  refine SU (s:={s1 with toks:=s1.toks+1}) hS1 room λh2 b sb hS2=>?_;have hS3:SI prog w h2 S (dst (ns.take (i+1))):=by
   rw[List.take_add_one,ek];unfold dst;rw[List.foldl_append];exact hS2
  refine qd ⟨plainId_quiet PyProof.Rows.F.plain_set_update_loop _,ih (i+1) _ (by omega) (W.frame _ s1 _ _ og (ñ _) λb hb o e=>?_) hS3 λs2 mv2 hS4=>?_⟩
  .exact(sb.2 b λz:b=S=>Cq (z▸hb)).trans e
  .refine hR s2 (Moved.trans W.gtrans ((mv.mono up).then_heap (ñ _) λb o hb e=>?_) mv2) hS4
   exact(sb.2 b λz:b=S=>hb (z▸qq)).trans e
end
section
theorem Xi(x:Qc)(h:∀ led:Bool,(w.params.followText "set-order"=true\/led=true)->Q (.ref s.heap.objs.size) {s with heap:=s.heap.push (kG led)}):
  codeAny (model prog w) A (.call (.builtin "set.__new__") ⟨[.type "set",x],[]⟩) (wants Q E) s:=by
 refine codeAny_of_tree ?_;show wpAny _ A.in1 (do checkBuiltinCall "set.__new__" ⟨[.type "set",x],[]⟩; again (.builtin "set.__new__" ⟨[.type "set",x],[]⟩)) _ _ s;refine qc (wpAny_of_eq (PySem.F.newCall_set_1 x) (qd ⟨plainId_quiet PySem.F.plain_set_new _,codeAny_builtin PySem.F.entry_set_new ?_⟩));rw[Around.under_plainId PySem.F.plain_set_new _];unfold Builtin.«set.__new__» Builtin.Frozenset.newClass;have xN:=sub_set_self;obtain⟨hp,g,d,tk,os⟩:=s;dsimp only
 wp_walk
 refine wpAny_askSetting (qd ?_);dsimp only;simp only[newObj];refine qc (wpAny_alloc (qd ?_));refine qd (h _ ?_);show w.params.followText "set-order"=true\/(!w.params.followText "set-order")=true;cases w.params.followText "set-order"
 .exact .inr rfl
 .exact .inl rfl
theorem zmv{items:Array Qc}(hh:A.handled=none)(ht:s.heap.IsList a items)(hk:∀ (i:Nat) (v:Qc),items[i]?=some v->∃ k tk,ns[i]?=some k/\v=.int k tk)(hz:items.size=ns.length)(hb:ns.length+1 < scanBound)
  (h:∀ (h':Heap) (tk:Nat),SI prog w h' s.heap.objs.size (dst ns)->(∀ b o,s.heap.get? b=some o->h'.get? b=some o)->Q (.ref s.heap.objs.size) {s with heap:=h',toks:=tk}):
  wpAny (model prog w) A (call (.type "set") [.ref a]) Q E s:=by
 obtain⟨c,tl,hmro⟩:=ã.mro;have m1:=ã.made;have m2:=ã.sub;have m3:=ã.notType;have m4:=ã.canCreate;have m5:=PySem.F.typeCall_set_1 (.ref a);obtain⟨⟨oc,od,odt,lB⟩,ho,hc,n,hd⟩:=id ht;have cM:a < s.heap.objs.size:=qj ho;refine wpAny_call (codeAny_of_tree ?_);show wpAny _ _ (callAny (.type "set") _) _ _ _;refine qd ⟨Code.quiet_builtin _ (by decide +kernel),codeAny_builtin PySem.F.entry_type_call ?_⟩;rw[Around.under_plain (weight_type_call_type "set" [.ref a] []) rfl]
 repeat (any_goals (first|assumption|wp_step))
 refine codeAny_mono (Xi (.ref a) (E:=E) (Q:=λobj s1=>∃ led,(w.params.followText "set-order"=true\/led=true)/\obj=.ref s.heap.objs.size/\s1={s with heap:=s.heap.push (kG led)}) λled hl=>⟨led,hl,rfl,rfl⟩) λr s1 hr=>?_;cases r with
 | error e=>exact hr
 | ok fl=>
 cases fl with
 | next=>exact hr.elim
 | brk=>exact hr.elim
 | cont=>exact hr.elim
 | ret obj=>
 obtain⟨led,HV,rfl,rfl⟩:=hr;have hS:(s.heap.push (kG led)).get? s.heap.objs.size=some (kG led):=qi _ rfl;have hT:Shared.TypeIs {s with heap:=s.heap.push (kG led)} (.ref s.heap.objs.size) "set":=⟨_,hS,rfl⟩;have n1:=ã.init.lookup;have n2:=ã.init.bind (.ref s.heap.objs.size)
 repeat (any_goals (first|assumption|wp_step))
 refine codeAny_mono (codeAny_call_builtin (R:=wants (λr s2=>r=.none/\∃ h' tk,s2={s with heap:=h',toks:=tk}/\SI prog w h' s.heap.objs.size (dst ns)/\(∀ b o,s.heap.get? b=some o->h'.get? b=some o)) E) ã.init.plain PySem.F.entry_set_init (check_set_init_1 hT ?_)) λr s2 hr=>?_
 rotate_left
 .cases r with
  | error e=>exact hr
  | ok fl=>
  cases fl with
  | next=>exact hr.elim
  | brk=>exact hr.elim
  | cont=>exact hr.elim
  | ret obj=>
  obtain⟨rfl,h',tk,rfl,tR,iH⟩:=hr
  repeat (any_goals (first|assumption|wp_step))
  exact h _ _ tR iH
 .dsimp only at hc hd
  subst hc hd;have mW:(s.heap.push (kG led)).get? a=some ⟨.type "list",od,.seq items n,lB⟩:=qf _ ho;have qO:(s.heap.push (kG led)).IsList a items:=⟨_,mW,rfl,n,rfl⟩;have s1:=PySem.F.sub_list_set;have s2:=PySem.F.sub_list_frozenset;have s3:(Value.type "list"==Value.type "dict")=false:=by decide
  unfold Builtin.«set.__init__» noKeywords Builtin.Frozenset.updateFrom;generalize hPI:pyIter=PI
  wp_walk
  subst hPI;refine wpAny_pyIter_list qO (qc (wpAny_runValue ?_));have hsz:(s.heap.push (kG led)).objs.size=s.heap.objs.size+1:=þ ..;have ne:a≠(s.heap.push (kG led)).objs.size:=by rw[hsz]; exact ql (ç cM)
  have Cq:s.heap.objs.size∉[(s.heap.push (kG led)).objs.size,a]:=by
   rw[hsz];simp only[qx,List.not_mem_nil,or_false,not_or];exact⟨ql (Ü _),ü cM⟩
  have hh3:A.in1.in1.in1.handled=none:=by simp[hh]
  have WT:=(Walks.list (prog:=prog) (w:=w) hh3 _ a ne items).toS;rw[hz]at WT;refine UZ WT s.heap.objs.size Cq hk hb ns.length 0 _ (Nat.zero_add _) ⟨⟨_,qi _ rfl,rfl,rfl⟩,?_⟩ ?_ ?_
  .exact⟨_,qf _ mW,rfl,n,rfl⟩
  .exact⟨kG led,#[],0,_,qf _ hS,⟨rfl,rfl,rfl⟩,rfl,λe he=>by simp at he,by show 0 < scanBound; omega,rfl,⟨List.Pairwise.nil,HV⟩,List.Perm.nil⟩
  .intro s' mv tR
   obtain⟨h',g',d',tk',mQ⟩:=s';cases(show g'=s.gens from mv.gens);cases(show d'=s.drawn from mv.drawn);cases(show mQ=s.os from mv.os);refine qd (qd ⟨rfl,h',tk',rfl,tR,λb o e=>?_⟩);have Qw:=qj e;refine mv.heap b o ?_ (qf _ (qf _ e));simp only[qx,List.not_mem_nil,or_false,not_or];rw[hsz];exact⟨ql Qw,ql (ç Qw)⟩
end
end L2
namespace L2
open PySem PySem.Spec PyProof.Rows
theorem uS:Slot "set_iterator" "__next__" "set_iterator.__next__":=.of (owner := "set_iterator") (n := "__next__") (by rw[typeLookup_type,builtinLookup_eq_fast]; kernel_rfl) (by decide +kernel) (by decide +kernel) (by decide +kernel) (by first|exact .inl (by decide +kernel) | exact .inr (by decide +kernel)) (by rw[isSubtype_type]; kernel_rfl)
theorem K7:Slot "set_iterator" "__iter__" "set_iterator.__iter__":=.of (owner := "set_iterator") (n := "__iter__") (by rw[typeLookup_type,builtinLookup_eq_fast]; kernel_rfl) (by decide +kernel) (by decide +kernel) (by decide +kernel) (by first|exact .inl (by decide +kernel) | exact .inr (by decide +kernel)) (by rw[isSubtype_type]; kernel_rfl)
theorem K6:entryFor table "set_iterator.__next__"=some Builtin.«set_iterator.__next__»:=entryFor_of_tree (by kernel_rfl)
theorem UY:entryFor table "set_iterator.__iter__"=some Builtin.«dict_keyiterator.__iter__»:=entryFor_alias (id' := "dict_keyiterator.__iter__") (by kernel_rfl) rfl (by decide +kernel) (by kernel_rfl)
theorem UX:entryFor table "set.__iter__"=some Builtin.«frozenset.__iter__»:=entryFor_alias (id' := "frozenset.__iter__") (by kernel_rfl) rfl (by decide +kernel) (by kernel_rfl)
theorem JY:Manifest.owners.lookup (String.ofList "rotareti_tes".toList.reverse)=some Manifest.sig_set_iterator:=by kernel_rfl
theorem K5(a:Qc):argsOk "set_iterator.__next__" ⟨[a],[]⟩:=by
 unfold argsOk; rw[signature?_of (id := "set_iterator.__next__") (n := "__txen__".toList) (o := "rotareti_tes".toList) (by kernel_rfl) JY]; kernel_rfl
theorem UW(a:Qc):argsOk "set_iterator.__iter__" ⟨[a],[]⟩:=by
 unfold argsOk; rw[signature?_of (id := "set_iterator.__iter__") (n := "__reti__".toList) (o := "rotareti_tes".toList) (by kernel_rfl) JY]; kernel_rfl
theorem Fp:∀ (l:Qa α) {i:Nat} (h:i < l.length),(l[i]::l.eraseIdx i).Perm l
 | [],i,h=>by cases h
 | x::l,0,h=>.refl _
 | x::l,i+1,h=>(List.Perm.swap _ _ _).trans ((Fp l (i:=i) (Nat.lt_of_succ_lt_succ h)).cons x)
theorem M3(f:Nat->Nat):∀ (n k:Nat) (l:Qa α) (out:Array α),l.length=n->(pickOrder.go f n k l out).toList.Perm (out.toList++l)
 | 0,k,l,out,h=>by cases ë h; rw[List.append_nil]; exact .refl _
 | n+1,k,l,out,h=>by
  have hi:f k % l.length < l.length:=Nat.mod_lt _ (by omega);unfold pickOrder.go;rw[qo hi];refine(M3 f n (k+1) _ _ (by rw[List.length_eraseIdx,if_pos hi]; omega)).trans ?_;rw[Array.toList_push,List.append_assoc];exact .append_left _ (Fp _ hi)
section
variable{S:Qg}{o:Obj}{es:Array (Int×Qc)}{t:SetTable}
theorem Zr{Q:Nat->Qd->Prop}(hn:n≠0)(h:Q (w.draws .order (s.drawn.get .order) % n) {s with drawn:=s.drawn.bump .order}):wpAny (model prog w) A (choose .order n) Q E s:=λ_ _ _=>⟨hn,h⟩
theorem K4:∀ (n:Nat) (xs:Qa α) {s:Qd} {Q:Qa α->Qd->Prop},xs.length=n->(∀ ps d',ps.Perm xs->Q ps {s with drawn:=d'})->wpAny (model prog w) A (drawOrder n xs) Q E s
 | 0,xs,s,Q,h,q=>by cases ë h; exact qd (q _ s.drawn (.refl _))
 | n+1,[],s,Q,h,q=>by cases h
 | n+1,x::xs,s,Q,h,q=>by
  unfold drawOrder;refine qc (Zr (by simp) ?_);have hi:w.draws .order (s.drawn.get .order) % (x::xs).length < (x::xs).length:=Nat.mod_lt _ (by simp);rw[qo hi];refine qc (K4 n _ (by rw[List.length_eraseIdx,if_pos hi]; omega) λps d' hp=>qd ?_);exact q _ d' ((hp.cons _).trans (Fp _ hi))
structure Sx (s:Qd) (S:Qg) (o:Obj) (es:Array (Int×Qc)) (ep:Nat) (t:SetTable):Prop where
 ho:s.heap.get? S=some o
 hx:o.ExactSet
 hd:o.data=.set es ep t
 hf:t.fits es.size=true
theorem Zq{Q:Qb (Qc×Nat)->Qd->Prop}(x:Sx s S o es ep t)(hw:w.params.followText "set-order"=true)(q:Q (((pickOrder (w.params.setOrder S ep) es)[i]?).map λe=>(e.2,0)) s):wpAny (model prog w) A (setNext S 0 i ep) Q E s:=by
 obtain⟨ho,_,hd,hf⟩:=x;unfold setNext;refine qc (wpAny_setState_of ho hd hf ?_);unfold setsByText;refine qc (qc (wpAny_askSetting (qd ?_)));dsimp only;rw[show(model prog w).w.params.followText "set-order"=true from hw,if_pos rfl];rw[if_neg (by simp)];refine qc ?_;unfold setWalk;refine qc (wpAny_setState_of ho hd hf ?_);unfold setsByText;refine qc (qc (wpAny_askSetting (qd ?_)));dsimp only;rw[show(model prog w).w.params.followText "set-order"=true from hw,if_pos rfl];exact qc (wpAny_askSetting (qd (qd q)))
abbrev k8(t:SetTable)(i:Nat):Nat:=match i with|0=>0|k+1=>t.place.getD k 0+1
theorem Xh{t:SetTable}(r:Ri t.place)(hi:i<=t.place.size):SetTable.below t.place (k8 t i)=i:=by
 obtain⟨h1,h2,h3⟩:=LI r (k8 t i);generalize SetTable.below t.place (k8 t i)=b at h1 h2 h3;cases i with
 | zero=>
  rcases Nat.eq_zero_or_pos b with e|e
  .exact e
  .exact absurd (h2 0 (by omega) e) (Ċ _)
 | succ k=>
  have hk:k < t.place.size:=hi;have e:k8 t (k+1)=t.place[k]+1:=by simp[k8,Array.getD,hk]
  rw[e]at h2 h3;have l1:k < b:=Nat.lt_of_not_le λz=>by have:=h3 k hk z; omega
  rcases è (k+1) b with z|z
  .have l2:=h2 (k+1) (by omega) z
   have l3:=Ab r (i:=k) (j:=k+1) (by omega) (by omega);omega
  .omega
theorem XJ{Q:Qb (Qc×Nat)->Qd->Prop}(x:Sx s S o es ep t)(hw:w.params.followText "set-order"=false)(hl:t.led=true)(HZ:(!t.plain && decide (es.size > 1))=false)(r:Ri t.place)(hi:i<=es.size)(q:Q (es[i]?.map λe=>(e.2,k8 t (i+1))) s):wpAny (model prog w) A (setNext S (k8 t i) i ep) Q E s:=by
 obtain⟨ho,_,hd,hf⟩:=x;have hz:t.place.size=es.size:=by
  unfold SetTable.fits at hf;simp at hf;exact hf.1
 unfold setNext;refine qc (wpAny_setState_of ho hd hf ?_);unfold setsByText;refine qc (qc (wpAny_askSetting (qd ?_)));dsimp only;rw[show(model prog w).w.params.followText "set-order"=false from hw,if_neg qh];refine qc (qd ?_);show wpAny _ _ (if(!t.plain && decide (es.size > 1))=true then _ else _) _ _ s;rw[HZ,if_neg qh];show wpAny _ _ ((if(!t.led && !es.isEmpty)=true then _ else _) >>= _) _ _ s;rw[hl];refine qc (qd (qd ?_));rw[Xh r (by omega)];rcases è i es.size with z|z
 .rw[Array.getElem?_eq_getElem z]at q ⊢
  rw[Array.getElem?_eq_getElem (by omega:i < t.place.size)];rw[show k8 t (i+1)=t.place[i]'(by omega)+1 by simp[k8,Array.getD,hz,z]]at q;exact q
 .rw[Array.getElem?_eq_none z]at q ⊢
  exact q
end
section
variable{S:Qg}{o:Obj}{es:Array (Int×Qc)}{t:SetTable}{F:Nat->Qc}{os:Qa Qc}{tp:Qa (Qg×Obj)}
def RC(s:Qd)(it S:Qg)(F:Nat->Qc)(n ep i:Nat):Prop:=∃ oi,s.heap.get? it=some oi/\oi.cls=.type "set_iterator"/\oi.data=.fields #[F i,.int i 0,.ref S,.int n 0,.int ep 0]
def Ord(prog:Qe)(w:Qh)(S:Qg)(o:Obj)(es:Array (Int×Qc))(ep:Nat)(t:SetTable)(F:Nat->Qc)(os:Qa Qc)(tp:Qa (Qg×Obj)):Prop :=
 (∃ sl:Nat->Nat,(∀ i,F i=.int (sl i) 0)/\∀ (A:Qf) (E:Qc->Qd->Prop) (s:Qd) (i:Nat) (Q:Qb (Qc×Nat)->Qd->Prop),Sx s S o es ep t->i<=es.size->Q (os[i]?.map λv=>(v,sl (i+1))) s->wpAny (model prog w) A (setNext S (sl i) i ep) Q E s)\/
 ∃ (T:Qg) (oT:Obj) (n:Nat) (ps:Qa Nat),tp=[(T,oT)]/\(∀ i,F i=.ref T)/\oT.data=.seq (ps.map λp:Nat=>rawInt p).toArray n/\ps.length=es.size/\∀ i p:Nat,ps[i]?=some p->∃ e:Int×Qc,es[p]?=some e/\os[i]?=some e.2
abbrev CG(it S:Qg)(o:Obj)(es:Array (Int×Qc))(ep:Nat)(t:SetTable)(F:Nat->Qc)(tp:Qa (Qg×Obj))(i:Nat)(s:Qd):Prop:=RC s it S F es.size ep i/\Sx s S o es ep t/\∀ p∈tp,s.heap.get? p.1=some p.2
theorem XH{v:Qc}{Q:Qb Qc->Qd->Prop}(O:Ord prog w S o es ep t F os tp)(st:CG it S o es ep t F tp i s)(n1:S≠it)(hv:os[i]?=some v)(hi:i < es.size)
  (q:∀ h',RC {s with heap:=h'} it S F es.size ep (i+1)->Heap.SameBut it s.heap h'->Q (some v) {s with heap:=h'}):wpAny (model prog w) A (pyNext (.ref it)) Q E s:=by
 obtain⟨⟨oi,ei,ci,fi⟩,x,ht⟩:=st;have kT:s.TypeIs (.ref it) "set_iterator":=⟨oi,ei,ci⟩;obtain⟨ho,hx,hd,hf⟩:=id x;unfold pyNext;refine qc (wpAny_attempt (wpAny_callSpecial?_slot (name:=Str.ofString "__next__") kT uS (wpAny_call_entry uS kT K6 ?_ (K5 _))));unfold Builtin.«set_iterator.__next__»;refine qc (qd (qc (wpAny_fieldsOf ei fi ?_)));dsimp only;unfold setEntries;refine qc (qc (wpAny_setState_of ho hd hf (qd ?_)));rw[if_neg (by simp)];rcases O with⟨sl,e1,e2⟩|⟨T,oT,n,ps,rfl,e1,e2,e3,e4⟩
 .rw[e1]
  refine qc (e2 _ _ _ i _ x (ċ hi) ?_);rw[hv];show wpAny _ _ (setField (.ref it) 0 (rawInt (sl (i+1))) >>= λ_=>setField (.ref it) 1 (rawInt (i+1)) >>= λ_=>ret v) _ _ s;refine qc (wpAny_setField ei fi (by simp) ?_);have g1:=Ë (Obj.mapFields (·.setIfInBounds 0 (rawInt (sl (i+1))))) ei (Ù (Õ fi _));have d1:=Õ fi (·.setIfInBounds 0 (rawInt (sl (i+1))));refine qc (wpAny_setField (s:={s with heap:=s.heap.update it (Obj.mapFields (·.setIfInBounds 0 (rawInt (sl (i+1)))))}) g1 d1 (by simp) (qd ⟨v,rfl,qd (q _ ⟨_,Ë _ g1 (Ù (Õ d1 _)),?_,?_⟩ ((É ..).trans (É ..)))⟩))
  .rw[Obj.cls_mapFields,Obj.cls_mapFields]; exact ci
  .rw[Obj.data_mapFields d1]; simp[rawInt,e1]
 .rw[e1]
  obtain⟨p,hp⟩:∃ p,ps[i]?=some p:=⟨ps[i]'(by omega),qo _⟩;obtain⟨⟨k,y⟩,z1,z2⟩:=e4 i p hp;rw[hv]at z2;cases z2;show wpAny _ _ (seqItems? (.ref T) >>= _) _ _ s;unfold seqItems?;refine qc (qc (wpAny_load (ht _ (qr.mpr rfl)) ?_));rw[e2];refine qd ?_;have hg:((ps.map λp:Nat=>rawInt p).toArray)[(i:Int).toNat]?=some (rawInt p):=by simp[hp]
  dsimp only;rw[hg];show wpAny _ _ (setNextDrawn S p ep >>= λx=>setField (.ref it) 1 (rawInt (i+1)) >>= λ_=>ret x) _ _ s;refine qc ?_;unfold setNextDrawn;refine qc (wpAny_setState_of ho hd hf ?_);dsimp only;rw[if_neg (by simp),z1];refine qd (qc (wpAny_setField ei fi (by simp) (qd ⟨y,rfl,qd (q _ ⟨_,Ë _ ei (Ù (Õ fi _)),(Obj.cls_mapFields ..).trans ci,?_⟩ (É ..))⟩)));rw[Obj.data_mapFields fi,e1,e1]; simp[rawInt]
theorem LH{R:Fin->Qd->Prop}{Q:Qb Qc->Qd->Prop}(hh:A.handled=none)(q:∀ h':Heap,(∀ b o,s.heap.get? b=some o->h'.get? b=some o)->Q none {s with heap:=h'}):
  wpAny (model prog w) A.in1 (newExc (.type "StopIteration") [] >>= λe=>raiseNew e) R (λe s'=>wpAny (model prog w) A (do
    if <-isInstance e (.type "StopIteration")then pure none else throw e) Q E s') s:=by
 refine qc ?_;simp only[newExc,newTuple];refine qc (qC ?_ (by show(0:Nat)<=sizeLine; exact È _));refine qc (m:=firstArgMember _ _) (wpAny_of_eq (a:=Value.none) (by first|rfl | (simp only[firstArgMember]; rfl)) ?_);refine qC ?_ (by first|trivial|size_fits);simp only[raiseNew];refine qc (wpAny_handled ?_);rw[show A.in1.handled=none from hh];refine qc (qd (wpAny_throw ?_));refine qc (wpAny_isInstance (T := "StopIteration") (b:=true) ⟨_,qi _ rfl,rfl⟩ isSubtype_stop ?_);exact qd (q _ λb o e=>qf _ (qf _ e))
theorem UU{Q:Qb Qc->Qd->Prop}(hh:A.handled=none)(O:Ord prog w S o es ep t F os tp)(st:CG it S o es ep t F tp es.size s)(hz:os.length=es.size)
  (q:∀ h',Heap.ExtBut it s.heap h'->Q none {s with heap:=h'}):wpAny (model prog w) A (pyNext (.ref it)) Q E s:=by
 obtain⟨⟨oi,ei,ci,fi⟩,x,ht⟩:=st;have kT:s.TypeIs (.ref it) "set_iterator":=⟨oi,ei,ci⟩;obtain⟨ho,hx,hd,hf⟩:=id x;unfold pyNext;refine qc (wpAny_attempt (wpAny_callSpecial?_slot (name:=Str.ofString "__next__") kT uS (wpAny_call_entry uS kT K6 ?_ (K5 _))));unfold Builtin.«set_iterator.__next__»;refine qc (qd (qc (wpAny_fieldsOf ei fi ?_)));dsimp only;unfold setEntries;refine qc (qc (wpAny_setState_of ho hd hf (qd ?_)));rw[if_neg (by simp)];rcases O with⟨sl,e1,e2⟩|⟨T,oT,n,ps,rfl,e1,e2,e3,e4⟩
 .rw[e1]
  refine qc (e2 _ _ _ es.size _ x (qg _) ?_);rw[List.getElem?_eq_none (by omega)];show wpAny _ _ (setField (.ref it) 2 .none >>= λ_=>newExc (.type "StopIteration") [] >>= λe=>raiseNew e) _ _ s;refine qc (wpAny_setField ei fi (by simp) (LH hh λh' k=>q _ λb o hb e=>k b o ?_));exact(Ñ _ _ (Ne.symm hb)).trans e
 .rw[e1]
  show wpAny _ _ (seqItems? (.ref T) >>= _) _ _ s;unfold seqItems?;refine qc (qc (wpAny_load (ht _ (qr.mpr rfl)) ?_));rw[e2];refine qd ?_;have hg:((ps.map λp:Nat=>rawInt p).toArray)[(es.size:Int).toNat]?=none:=by simp[e3]
  dsimp only;rw[hg];show wpAny _ _ (setField (.ref it) 0 (rawInt 0) >>= λ_=>setField (.ref it) 2 .none >>= λ_=>newExc (.type "StopIteration") [] >>= λe=>raiseNew e) _ _ s;refine qc (wpAny_setField ei fi (by simp) ?_);have g1:=Ë (Obj.mapFields (·.setIfInBounds 0 (rawInt 0))) ei (Ù (Õ fi _));have d1:=Õ fi (·.setIfInBounds 0 (rawInt 0));refine qc (wpAny_setField (s:={s with heap:=s.heap.update it (Obj.mapFields (·.setIfInBounds 0 (rawInt 0)))}) g1 d1 (by simp) (LH hh λh' k=>q _ λb o hb e=>k b o ?_));exact(Ñ _ _ (Ne.symm hb)).trans ((Ñ _ _ (Ne.symm hb)).trans e)
theorem XG(O:Ord prog w S o es ep t F os tp)(hh:A.handled=none)(n1:S≠it)(n2:∀ p∈tp,p.1≠it)(hz:os.length=es.size):WalksS prog w A it (it::S::tp.map (·.1)) [it] (λa b=>b=a) es.size (λi v=>os[i]?=some v) (CG it S o es ep t F tp) where
 sub:=λb hb=>by rw[qr.mp hb]; exact qq
 grefl:=λ_=>rfl
 gtrans:=λ_ _ _ a b=>b.trans a
 frame:=λi s h' tk ⟨⟨oi,ei,r⟩,⟨ho,y1,y2,y3⟩,ht⟩ _ kk=>⟨⟨oi,kk it qq _ ei,r⟩,⟨kk S (by simp) _ ho,y1,y2,y3⟩,λp hp=>kk p.1 (by simp; exact .inr (.inr ⟨_,hp⟩)) _ (ht p hp)⟩
 item:=λi s Q E hi st hQ=>by
  have fF:i < os.length:=by omega
  refine XH O st n1 (qo fF) hi λh' dR sb=>hQ _ _ (qo fF) ⟨dR,⟨(sb.2 S n1).trans st.2.1.ho,st.2.1.hx,st.2.1.hd,st.2.1.hf⟩,λp hp=>(sb.2 p.1 (n2 p hp)).trans (st.2.2 p hp)⟩ ⟨λb o hb e=>(sb.2 b λz=>hb (by rw[z]; exact qr.mpr rfl)).trans e,rfl,rfl,rfl,qg _⟩
 done:=λs Q E st hQ=>UU hh O st hz λh' eb=>hQ _ ⟨λb o hb e=>eb b o (λz=>hb (by rw[z]; exact qr.mpr rfl)) e,rfl,rfl,rfl,qg _⟩
 self:=λi s Q E st h=>by
  obtain⟨⟨oi,ei,ci,_⟩,_⟩:=st;have kT:s.TypeIs (.ref it) "set_iterator":=⟨oi,ei,ci⟩;refine wpAny_pyIter_slot kT K7 (wpAny_call_entry K7 kT UY ?_ (UW _));show wpAny _ _ (ret (.ref it)) _ _ s;exact qd ⟨_,rfl, "set_iterator",_,kT,uS.lookup,h⟩
theorem XF(x:Sx s S o es ep t)(T:iP w t)(hb:es.size < scanBound)
  (q:∀ h' d' it F os tp,os.Perm (es.toList.map (·.2))->Ord prog w S o es ep t F os tp->(∀ b o,s.heap.get? b=some o->h'.get? b=some o)->s.heap.objs.size<=it->(∀ p∈tp,s.heap.objs.size<=p.1/\p.1≠it)->CG it S o es ep t F tp 0 {s with heap:=h',drawn:=d'}->Q (.ref it) {s with heap:=h',drawn:=d'}):
  wpAny (model prog w) A (pyIter (.ref S)) Q E s:=by
 obtain⟨ho,hx,hd,hf⟩:=id x;have hT:s.TypeIs (.ref S) "set":=⟨o,ho,hx.1⟩;have cM:S < s.heap.objs.size:=qj ho;refine wpAny_pyIter_slot hT F.slot_set_iter (wpAny_call_entry F.slot_set_iter hT UX ?_ (F.args_set_iter_1 _));unfold Builtin.«frozenset.__iter__»;refine qc (m:=Builtin.Frozenset.slot0 "__iter__" ⟨[.ref S],[]⟩) (qd ?_);unfold Builtin.Frozenset.sizeOf setEntries;refine qc (qc (qc (wpAny_setState_of ho hd hf (qd (qd ?_)))));unfold setDrawn;refine qc (qc (wpAny_setState_of ho hd hf ?_));unfold setsByText;refine qc (qc (wpAny_askSetting (qd (qd ?_))));have fin:∀ (f:Qc) (F:Nat->Qc) (os:Qa Qc) (tp:Qa (Qg×Obj)) (h1:Heap) (d':Drawn),F 0=f->os.Perm (es.toList.map (·.2))->Ord prog w S o es ep t F os tp->(∀ b o,s.heap.get? b=some o->h1.get? b=some o)->(∀ p∈tp,s.heap.objs.size<=p.1/\h1.get? p.1=some p.2)->s.heap.objs.size<=h1.objs.size->wpAny (model prog w) A.in1 (do
   let e <-setEpoch S
   ret (<-newFields "set_iterator" [f,rawInt 0,.ref S,rawInt es.size,rawInt e])) (λr s'=>∃ v,r=Fin.done (Flow.ret v)/\∃ T' r,s'.TypeIs v T'/\typeLookup (Value.type T') (Str.ofString "__next__")=pure (some r)/\Q v s') E {s with heap:=h1,drawn:=d'}:=by
  intro f F os tp h1 d' hF hp O k ht hs;have e:=k S o ho;unfold setEpoch newFields;refine qc (qc (wpAny_setState_of e hd hf (qd (qc (qC (qd ⟨_,rfl, "set_iterator",_,⟨_,qi _ rfl,rfl⟩,uS.lookup,?_⟩))))));refine q _ d' _ F os tp hp O (λb o z=>qf _ (k b o z)) hs (λp hp=>⟨(ht p hp).1,ql (qj (ht p hp).2)⟩) ⟨⟨_,qi _ rfl,rfl,by simp[rawInt,hF]⟩,⟨qf _ e,hx,hd,hf⟩,λp hp=>qf _ (ht p hp).2⟩
 show wpAny _ _ (if(!w.params.followText "set-order" && (!t.plain && decide (es.size > 1)))=true then(do
   let ps <-drawOrder es.size (List.range es.size)
   let f <-newTuple (ps.map λi:Nat=>rawInt i)
   let e <-setEpoch S
   ret (<-newFields "set_iterator" [f,rawInt 0,.ref S,rawInt es.size,rawInt e]))else(do
   let f <-pure (rawInt 0)
   let e <-setEpoch S
   ret (<-newFields "set_iterator" [f,rawInt 0,.ref S,rawInt es.size,rawInt e]))) _ _ s
 have k0:∀ b o,s.heap.get? b=some o->s.heap.get? b=some o:=λ_ _ e=>e;split
 .refine qc (K4 es.size _ List.length_range λps d' hp=>qc (wpAny_newTuple ?_ (by rw[List.length_map,hp.length_eq,List.length_range]; exact fits_of_scanBound hb)))
  have lp:ps.length=es.size:=by rw[hp.length_eq,List.length_range]
  have inr:∀ p∈ps,p < es.size:=λp hm=>Ê.mp (hp.mem_iff.mp hm);refine fin _ (λ_=>.ref s.heap.objs.size) ((ps.map λp=>(es.toList.map (·.2)).getD p .none)) [(s.heap.objs.size,⟨.type "tuple",none,.seq (ps.map λp:Nat=>rawInt p).toArray 0,#[]⟩)] _ d' rfl ?_ (.inr ⟨_,_,0,ps,rfl,λ_=>rfl,rfl,lp,λi p e=>?_⟩) (λb o e=>qf _ e) (λp h=>?_) (by rw[Heap.size_push]; exact ñ _)
  .refine(hp.map _).trans ?_
   have:(List.range es.size).map (λp=>(es.toList.map (·.2)).getD p .none)=es.toList.map (·.2):=by
    apply List.ext_getElem
    .simp
    .intro i h1 h2
     simp at h1;simp[h1]
   rw[this]
  .have hl:=inr p (å e)
   refine⟨_,Array.getElem?_eq_getElem hl,?_⟩;rw[List.getElem?_map,e];simp[hl]
  .cases qr.mp h
   exact⟨qg _,qi _ rfl⟩
 .rename_i hc
  refine qc (qd ?_);cases hw:w.params.followText "set-order" with
  | true=>
   have pp:=M3 (w.params.setOrder S ep) es.size 0 es.toList #[] Array.length_toList;refine fin _ (λ_=>.int 0 0) ((pickOrder (w.params.setOrder S ep) es).toList.map (·.2)) [] s.heap s.drawn rfl (pp.map _) (.inl ⟨λ_=>0,λ_=>rfl,λA E s i Q x _ q=>Zq x hw ?_⟩) k0 (λ_ z=>by cases z) (qg _);rw[List.getElem?_map,Array.getElem?_toList,Option.map_map]at q;exact q
  | false=>
   rw[hw]at hc;have HZ:(!t.plain && decide (es.size > 1))=false:=by simpa using hc
   refine fin _ (λi=>.int (k8 t i) 0) (es.toList.map (·.2)) [] s.heap s.drawn rfl (.refl _) (.inl ⟨k8 t,λ_=>rfl,λA E s i Q x hi q=>XJ x hw (T.ld.resolve_left (by rw[hw]; exact qh)) HZ T.ri hi ?_⟩) k0 (λ_ z=>by cases z) (qg _);rw[List.getElem?_map,Array.getElem?_toList,Option.map_map]at q;exact q
theorem XE{Q:Bool->Qd->Prop}(x:Sx s S o es ep t)(h:Q false s):wpAny (model prog w) A (Builtin.List.listLengthHint (.ref S)) Q E s:=by
 have hT:s.TypeIs (.ref S) "set":=⟨o,x.ho,x.hx.1⟩;unfold Builtin.List.listLengthHint;refine qc (wpAny_specialOf hT F.slot_set_len.lookup ?_);generalize Qz:("set.__len__":String)=id0
 wp_delta
 rw[show splitId id0=some ("set", "__len__") from by subst Qz; decide +kernel];subst Qz;refine qc (wpAny_isInstance (T := "set") (b:=true) hT (by rw[isSubtype_type]; kernel_rfl) ?_);refine wpAny_ite_split (λIe=>absurd Ie (by decide)) (λ_=>?_);refine wpAny_ite_split (λ_=>?_) (λIe=>absurd (by decide +kernel) Ie);exact qc (wpAny_typeOf hT (qd h))
theorem zmx{Q:Qa Qc->Qd->Prop}(hh:A.handled=none)(x:Sx s S o es ep t)(T:iP w t)(hb:es.size < scanBound)
  (hQ:∀ h' tk d' os,(∀ b o,s.heap.get? b=some o->h'.get? b=some o)->os.Perm (es.toList.map (·.2))->Q os {s with heap:=h',toks:=tk,drawn:=d'}):
  wpAny (model prog w) A (collect (.ref S)) Q E s:=by
 unfold collect;refine qc (wpAny_runValue (codeAny_builtin F.entry_proto_collect ?_));rw[Around.under_plainId F.plain_proto_collect _];show wpAny _ A.in1 (newList [] >>= λl=>again (.builtin "list.__iadd__" ⟨[l,.ref S],[]⟩)) _ _ s;refine qc (qC ?_);refine qd ⟨plainId_quiet F.plain_list_iadd _,codeAny_builtin F.entry_list_iadd ?_⟩;rw[Around.under_plainId F.plain_list_iadd _];show wpAny _ A.in1 (Builtin.List.listExtendWith (.ref s.heap.objs.size) (.ref S) (.ref s.heap.objs.size)) _ _ _;have cM:(S:Nat) < s.heap.objs.size:=qj x.ho;have hL:(s.heap.push {cls:=.type "list",data:=.seq ([]:Qa Qc).toArray}).get? s.heap.objs.size=some {cls:=.type "list",data:=.seq #[] 0}:=qi _ rfl;have PH:∀ b o,s.heap.get? b=some o->(s.heap.push {cls:=.type "list",data:=.seq ([]:Qa Qc).toArray}).get? b=some o:=λb o e=>qf _ e;have x1:Sx {s with heap:=s.heap.push {cls:=.type "list",data:=.seq ([]:Qa Qc).toArray}} S o es ep t:=⟨PH _ _ x.ho,x.hx,x.hd,x.hf⟩;have Iv:∀ (s':Qd),(∃ h' tk d' acc c' ,∃ os:Qa Qc,s'={s with heap:=h',toks:=tk,drawn:=d'}/\(∀ b o,s.heap.get? b=some o->h'.get? b=some o)/\
   h'.get? s.heap.objs.size=some {cls:=.type "list",dict:=none,data:=.seq acc c',slots:=#[]}/\os.Perm (es.toList.map (·.2))/\ItemsOf (λi v=>os[i]?=some v) acc es.size)->wpAny (model prog w) A (match Value.ref s.heap.objs.size with
   | Value.ref a=>do
    match (<-load a).data with
     | Data.seq xs _=>pure xs.toList
     | _=>unsupported "internal:collect"
   | _=>unsupported "internal:collect") Q E s':=by
  rintro s' ⟨h',tk,d',acc,c',os,rfl,hk,tR,pm,oM⟩;show wpAny _ A (load s.heap.objs.size >>= _) _ _ _;refine qc (wpAny_load tR (qd ?_));have:acc.toList=os:=by
   have lo:os.length=es.size:=by rw[pm.length_eq,List.length_map]; exact Array.length_toList
   refine List.ext_getElem? λi=>?_;rcases è i acc.size with z|z
   .rw[Array.getElem?_toList,Array.getElem?_eq_getElem z]
    exact(oM.2 i _ (Array.getElem?_eq_getElem z)).symm
   .rw[Array.getElem?_toList,Array.getElem?_eq_none z,List.getElem?_eq_none (by have:=oM.1; omega)]
  rw[this];exact hQ h' tk d' os hk pm
 have hT1:Shared.TypeIs {s with heap:=s.heap.push {cls:=.type "list",data:=.seq ([]:Qa Qc).toArray}} (.ref S) "set":=⟨o,x1.ho,x.hx.1⟩;unfold Builtin.List.listExtendWith;refine qc (wpAny_typeOf hT1 ?_);have h1:Builtin.List.listSameRef (.ref s.heap.objs.size) (.ref S)=false:=by simp[Builtin.List.listSameRef]; exact ü cM
 have h2:(Value.type "set"==Value.type "list")=false:=by decide
 have h3:(Value.type "set"==Value.type "tuple")=false:=by decide
 simp only[h1,h2,h3,Bool.or_false,Bool.false_eq_true,if_false];refine qc (XF x1 T hb λh' d' it F os tp pm O k hs Qn st=>?_);have gy:s.heap.objs.size+1<=it:=by
  have:=þ s.heap ({cls:=.type "list",data:=.seq ([]:Qa Qc).toArray}:Obj);dsimp only at hs;omega
 have lo:os.length=es.size:=by rw[pm.length_eq,List.length_map]; exact Array.length_toList
 refine qc (wpAny_holding (XE (s:={s with heap:=h',drawn:=d'}) st.2.1 ?_));have nf:s.heap.objs.size∉it::S::tp.map (·.1):=λhm=>by
  rcases qx.mp hm with e|hm
  .exact absurd e (ql gy)
  .rcases qx.mp hm with e|hm
   .exact absurd e (ü cM)
   .obtain⟨p,hp,e⟩:=Ã.mp hm
    have z:=(Qn p hp).1;rw[e,Heap.size_push]at z;exact Ì _ z
 have W:=XG (A:=A.in1) O hh (ql (Ô cM gy)) (λp hp=>(Qn p hp).2) lo;have key:∀ (h2:Heap) (c₁:Nat) (R:Result->Qd->Prop),(∀ s',wpAny (model prog w) A (match Value.ref s.heap.objs.size with
   | Value.ref a=>do
    match (<-load a).data with
     | Data.seq xs _=>pure xs.toList
     | _=>unsupported "internal:collect"
   | _=>unsupported "internal:collect") Q E s'->R (.ok (.ret (.ref s.heap.objs.size))) s')->(∀ b o,b≠s.heap.objs.size->h'.get? b=some o->h2.get? b=some o)->h2.get? s.heap.objs.size=some {cls:=.type "list",data:=.seq #[] c₁}->codeAny (model prog w) A (.builtin "list.extend.loop" ⟨[.ref s.heap.objs.size,.ref it,.ref s.heap.objs.size],[]⟩) R {s with heap:=h2,drawn:=d'}:=by
  intro h2 c₁ R hR hk gU;refine codeAny_extend_loopS W (fits_of_scanBound hb) s.heap.objs.size nf _ es.size 0 _ #[] c₁ rfl (È _) (W.frame 0 {s with heap:=h',drawn:=d'} h2 s.toks st (qg _) λb hb o e=>hk b o (λz=>nf (z▸hb)) e) gU (ItemsOf.nil _) λs' IK c' hm tR oM=>?_;refine hR s' (Iv s' ⟨s'.heap,s'.toks,d',IK,c',os,Moved.eq_with hm,λb o e=>hm.heap b o (λtM=>?_) (hk b o (ql (qj e)) (k b o (PH b o e))),tR,pm,oM⟩);have:=qj e;rcases qx.mp tM with e'|tM
  .exact ql this e'
  .exact ql (Ô this gy) (qr.mp tM)
 have gU:=k _ _ hL;refine wpAny_ite_split (λ_=>?_) (λ_=>qd ⟨plainId_quiet PySem.F.plain_extend_loop _,key _ 0 _ (λ_ z=>z) (λ_ _ _ e=>e) gU⟩);refine qc (wpAny_rule ?_);refine qc ?_;show wpAny _ _ (updateSeq s.heap.objs.size (·.push .none) >>= λ_=>updateSeq s.heap.objs.size (·.pop)) _ _ _;refine qc (wpAny_updateSeq gU rfl ?_);have qY:=Ë (Obj.mapSeq (·.push Value.none)) gU rfl;refine wpAny_updateSeq (hz:=by seq_fits) qY rfl ?_;have yf:=Ë (Obj.mapSeq (·.pop)) qY rfl;refine qd ⟨plainId_quiet PySem.F.plain_extend_loop _,key _ _ _ (λ_ z=>z) (λb o hb e=>?_) yf⟩;exact(Ñ _ _ (Ne.symm hb)).trans ((Ñ _ _ (Ne.symm hb)).trans e)
end
def B3(P:Qe)(w:Qh)(p:Qg)(ks:Qa Int):HO:=.ext λh=>SI P w h p ks
def Jk(P:Qe)(w:Qh):Qa V->Hp->VK->Prop:=λxs H Q=>∃ (a:Qg) (ns:Qa Int),xs=[.ref a]/\H a=some (.lst (ns.map V.int))/\ns.length < 64/\∀ p,H p=none->Q (.ref p) (upd H p (B3 P w p (dst ns)))
def J5(P:Qe)(w:Qh):Qa V->Hp->VK->Prop:=λxs H Q=>∃ (p:Qg) (ks:Qa Int),xs=[.ref p]/\H p=some (B3 P w p ks)/\ks.length < 64/\∀ (ms:Qa Int) l,ms.Perm ks->ms.Pairwise (·<=·)->H l=none->Q (.ref l) (upd H l (.lst (ms.map V.int)))
theorem K3:∀ (os:Qa Qc),(∀ x∈os,∃ k,tY x=some k)->∃ ns:Qa Int,zV (ns.map V.int) os/\os.map tY=ns.map some
 | [],_=>⟨[],.nil,rfl⟩
 | x::os,h=>by
  obtain⟨ns,h1,h2⟩:=K3 os λy hy=>h y (qp _ hy);obtain⟨k,e⟩:=h x qq;cases x with
  | int i t=>exact⟨i::ns,.cons ⟨t,rfl⟩ h1,by rw[List.map_cons,List.map_cons,h2]; rfl⟩
  | _=>cases e
section
variable{X:Cx}
theorem Zp(hc:X.calm=true:=by rfl):e8 X (.type "set") (Jk X.prog X.w):=by
 intro pins s σ H xs us Q I r h;obtain⟨a,ns,rfl,ha,hl,q⟩:=h;obtain⟨u,rfl,ru⟩:=jr r;cases ru;obtain⟨_,ah,n,rv,eo⟩:=I.aD a _ ha;have ll:=rv.length;rw[List.length_map]at ll;refine zmv (ns:=ns) (I.ok.hd hc) ⟨_,eo,rfl,n,rfl⟩ (λi v e=>?_) (by simp[ll]) (by unfold scanBound; omega) λh' tk hS up=>?_
 .have e':ah[i]?=some v:=by simpa using e
  have hi:i < ns.length:=by rw[ll]; exact(qm.mp e').1
  obtain⟨u,e1,e2⟩:=rv.get (i:=i) (x:=V.int ns[i]) (by rw[List.getElem?_map,qo hi]; rfl);rw[e']at e1;cases e1;obtain⟨t,rfl⟩:=e2;exact⟨ns[i],t,qo hi,rfl⟩
 .obtain⟨o,es,ep,t,ho,_⟩:=id hS
  exact⟨.ref s.heap.objs.size,_,I.laid (t':=tk) (o:=B3 X.prog X.w s.heap.objs.size (dst ns)) up (qg _) ⟨hS,⟨o,ho⟩,λh1 h2 x k=>Fq x k⟩,rfl,q _ (I.aD.fresh (qg _))⟩
theorem znX(hc:X.calm=true:=by rfl):e8 X (.builtin "sorted") (J5 X.prog X.w):=by
 intro pins s σ H xs us Q I r h;obtain⟨p,ks,rfl,hp,Il,q⟩:=h;obtain⟨u,rfl,ru⟩:=jr r;cases ru;obtain⟨⟨o,es,ep,t,ho,hx,hd,vG,hb,hf,T,pm⟩,_⟩:=I.aD p _ hp;have lk:es.size=ks.length:=by
  have:=pm.length_eq;rw[List.length_map,List.length_map,Array.length_toList]at this;exact this
 have line:(64:Nat)<=sizeLine:=by decide
 refine Calls.call_function_entry kind_sorted plain_sorted entry_sorted (args_sorted1 _) ?_;unfold Builtin.«sorted»;refine qc (m:=checkCount "sorted" 1 1 _) (qd ?_);refine qc (zmx (A:=_) (I.ok.hd hc) ⟨ho,hx,hd,hf⟩ T hb λh1 tk d' os keep po=>?_);have I1:Inv X pins σ H {s with heap:=h1,toks:=tk,drawn:=d'}:=by
  have J:Inv X pins σ H {s with heap:=h1,toks:=tk}:=I.kept keep;exact⟨J.ok,J.os,J.bare,J.base,J.loc,J.cell,J.free,J.bD,J.pin,J.aD,J.len⟩
 have pa:(os.map tY).Perm (ks.map some):=by
  have:=po.map tY;rw[List.map_map]at this;exact this.trans pm
 obtain⟨ns,e1,e2⟩:=K3 os λx hx=>by
  obtain⟨k,_,e⟩:=Ã.mp (pa.mem_iff.mp (List.mem_map_of_mem hx));exact⟨k,e.symm⟩
 have pn:ns.Perm ks:=by
  rw[e2]at pa;have:=pa.filterMap id;simpa using this
 have ln:=pn.length_eq;have lv:=e1.length;rw[List.length_map]at lv;refine qc (wpAny_newList ?_ (by omega));have oK:(h1.push (seqObj "list" os.toArray 0)).get? h1.objs.size=some (seqObj "list" os.toArray 0):=qi _ rfl;refine qc (wpAny_holding (wpAny_call_entry slot_list_sort ⟨_,oK,rfl⟩ entry_list_sort (list_sort_tree (s:={s with heap:=h1.push (seqObj "list" os.toArray 0),toks:=tk,drawn:=d'}) oK (M7 e1) (by omega) λout ms a1 a2 a3=>⟨_,rfl,?_⟩) (args_list_sort _)));refine qd ⟨_,rfl,?_⟩;obtain⟨en,ho⟩:=sortedHeap_at (vs:=os) (out:=out) oK;have lm:ms.length=ns.length:=a2.length_eq;refine⟨.ref h1.objs.size,_,I1.laid (t':=tk) (a:=h1.objs.size) (o:=.lst (ms.map V.int)) (λb o e=>?_) (qg _) ⟨by rw[List.length_map]; omega,out.toList,en,F2 a1,by simpa using ho⟩,rfl,q ms _ (a2.trans pn) a3 (I1.aD.fresh (qg _))⟩;have hb:b < h1.objs.size:=qj e;rw[sortedHeap_old (ql hb) (by rw[Heap.size_push]; exact ç hb)];exact qf _ e
def A7:U->Qb U
 | .l ds=>(kE ds).bind λns=>if ns.length < 64 then some (.l ((pG (dst ns)).map .int))else none
 | _=>none
theorem Zo{me:ME}(h:VE K te me):VE K (mO (J5 P w) (mF (mO (Jk P w) (mF te pe)) pe)) (cp A7 me):=by
 intro ρ σ H a av Q rs e q;obtain⟨⟨a1,aw⟩,e1,e⟩:=bQ e;obtain⟨x,ex,e⟩:=bQ e;obtain⟨u,eu,e⟩:=bQ e;cases e;refine h ρ σ H a1 _ _ rs e1 λv1 H1 g1 k1=>?_;have p:=k1.now rs g1 ex;unfold A7 at eu;split at eu
 .obtain⟨ns,ek,eu⟩:=bQ eu
  split at eu
  .rename_i hl
   cases eu;obtain⟨b,ys,rfl,h1,h2⟩:=p;cases Fv h2 ek;refine⟨b,ns,rfl,h1,hl,λpp hp=>⟨pp,_,rfl,zx,Ä (Fs ns) hl,λms l hm hs hl=>?_⟩⟩;rw[Xb hm hs];have s1:b9 H1 (upd H1 pp (B3 P w pp (dst ns))):=zW hp _;have s2:=zW hl (.lst ((pG (dst ns)).map V.int));have gg:=g1.trans (Go.grow g1.rs (s1.trans s2));refine q _ _ gg ⟨⟨l,_,rfl,zx,FI _⟩,Nw.mono (H':=H1) (λ_=>⟨l,rfl,?_⟩) g1.dm⟩;rcases Classical.em (l=pp)with e|e
   .rw[e,zx]at hl; cases hl
   .rw[zH e]at hl; exact hl
  .cases eu
 .cases eu
end
end L2
namespace K34
open PySem L2
def top(i:Nat):Stmt:=PySem.Challenge.pw_undivide_k34_shares.main.body.getD i (.Pass ⟨0,0,0,0⟩)
abbrev OU:Stmt:=top 3
abbrev Ni:Stmt:=top 4
abbrev Od:Stmt:=top 6
abbrev M1:Stmt:=top 10
abbrev Nh:Stmt:=top 11
abbrev O4:Stmt:=top 12
abbrev O3:Stmt:=top 13
abbrev OM:Stmt:=top 14
abbrev zev:Stmt:=top 15
abbrev Ng:Stmt:=top 17
abbrev NU:Stmt:=top 18
abbrev K2:Stmt:=top 20
abbrev NG:Stmt:=top 22
abbrev NT:Stmt:=top 23
abbrev Oc:Stmt:=top 24
abbrev OQ:Stmt:=top 25
abbrev NS:Stmt:=top 26
abbrev Ob:Stmt:=top 27
abbrev OP:Stmt:=top 28
abbrev OL:Stmt:=top 29
abbrev OZ:Stmt:=top 30
abbrev OY:Stmt:=top 31
abbrev OK:Stmt:=top 32
abbrev Oi:Stmt:=top 33
abbrev Oh:Stmt:=top 34
abbrev NF:Stmt:=top 35
abbrev Oa:Stmt:=top 36
abbrev NR:Stmt:=top 37
abbrev ND:Stmt:=top 38
abbrev NC:Stmt:=top 39
abbrev Og:Stmt:=top 40
abbrev OJ:Stmt:=top 41
abbrev Of:Stmt:=top 42
abbrev N9:Stmt:=top 43
abbrev OT:Stmt:=top 44
abbrev OC:Stmt:=top 45
abbrev Jj:Stmt:=top 46
def O7:Qa (Str×Qa Str):=[]
abbrev PD:Qa Str:=[]
def SS:Stmt->Stmt
 | .ClassDef _ _ _ (b::_) _ _ _ _ _ _ _=>b
 | s=>s
abbrev wD:Stmt:=SS (top 9)
theorem XD:bH ["self", "numbers", "beneath", "room"] ["self", "numbers", "beneath", "room"] (fM wD):=⟨rfl,rfl,rfl,by decide +kernel,rfl,by decide +kernel,by decide +kernel⟩
section
variable{base:Heap}{f:Qg}
end
section
def Bs(Z:Zs):Prop:=Bl Z.mg ["abs", "tuple", "zip", "max", "sorted", "len", "int", "range", "dict", "list", "enumerate", "isinstance", "bool", "all", "set", "sum"]/\XT Z.K O7 PD/\(∃ T,Z.mg "ROOM"=some (.int 256 T))/\(∃ G,Z.mg "NOUGHT"=some (.ref G)/\yw Z.K G [0,1])/\(∃ G,Z.mg "ONE"=some (.ref G)/\yw Z.K G [1,1])/\(∃ C,t4 Z.P Z.w Z.K Z.mg Z.base "Form" C ["numbers", "beneath", "room"])
variable{Z:Zs}
def OS:MS:=(zD (sA (yG (zi 1)) (ua 0 1 (zf (zi 1) (zf (af iW (zi 0) (zi 1)) zq))))
  (bB (zi 0)))
def p8:FD:=bM 2 [] OS
abbrev BC(Z:Zs):Prop:=Z.C "common_factor" 1 ["one", "other"] 2 p8
theorem zhE(B:Bs Z)(A:b0 Z "common_factor" OU):BC Z :=
 have hB:=B.1; cc A ["one", "other"] λnd hr=>⟨_,(zr (La (Sk ze) (D3 (zd ze (zd (zo kK ze ze) zk))))
 (bN ze)),
 (aE (Lh (zAN aa) (zI (D7 (ae aa (ae (zK kP aa aa) zj)))))
 (zI (bp aa)))⟩
def N8:MS:=(bB (aY (f1 kJ) (zf (iB (yK (zf (zi 0) (zf (zi 1) zq))) 2 [] (eZ 2 (zX (zy 0) (zX (zy 1) fL))) iU (af cQ (zi 0) (zi 1))) zq)))
def BN:FD:=bM 2 [0,1] N8
abbrev N7(Z:Zs):Prop:=Z.C "powers_plus" 1 ["one", "other"] 2 BN
theorem zjo(B:Bs Z)(A:b0 Z "powers_plus" Od):N7 Z :=
 have hB:=B.1; cc A ["one", "other"] λnd hr=>⟨_,(bN (bf pS (zd (ku (Ka (zd ze (zd ze zk))) (gE (zM zw (zM zw gF))) kH (zo du ze ze)) zk))),
 (zI (bp (iq p6 Ð (ae (pb (Kb (ae aa (ae aa zj))) (gG (bV zv (bV zv gH))) kN (zK dz aa aa)) zj))))⟩
def NB:MS:=(zD (zU 2 (af cQ (af ik (mC (.int 7919)) (zi 1)) (mC (.int 11))))
  (zD (br (mB (af lM (zi 1) (aY (f1 cT) (zf (zi 0) zq)))) (zU 2 (af ba (zi 0) (zi 1))) (br (mB (af yj (aY (f1 cT) (zf (zi 0) zq)) (mC (.int 0)))) (zU 2 (af cQ (zi 2) (af ik (af iW (af ba (zi 0) (af iW (zi 1) (aY (f1 cT) (zf (zi 0) zq)))) (mC (.int 2147483629))) (mC (.int 69623))))) cO))
  (zD (zU 3 (af cQ (af iW (af cQ (af ik (af iW (zi 2) (mC (.int 2147483629))) (mC (.int 48271))) (af ik (mC (.int 40692)) (zi 1))) (mC (.int 2147483629))) (mC (.int 1))))
  (bB (fK (zf (af ik (zi 2) (aY (f1 uz) (zf (af Iw (zi 2) (af yH (mC (.int 10)) (mC (.int 18)))) zq))) (zf (zi 3) zq)))))))
def wV:FD:=bM 4 [0,1] NB
abbrev NA(Z:Zs):Prop:=Z.C "_law_box" 1 ["_law_script", "_law_k"] 2 wV
theorem zmy(B:Bs Z)(A:b0 Z "_law_box" NG):NA Z :=
 have hB:=B.1; cc A ["_law_script", "_law_k", "_law_cell", "_law_seed"] λnd hr=>⟨_,(zr (zB (zo du (zo kM zm ze) zm))
 (zr (pM (bO (zE (zo nN ze (bf dP (zd ze zk)))) (zB (zo zN ze ze)) (bO (zE (zo D4 (bf dP (zd ze zk)) zm)) (zB (zo du ze (zo kM (zo kK (zo zN ze (zo kK ze (bf dP (zd ze zk)))) zm) zm))) dF)))
 (zr (zB (zo du (zo kK (zo du (zo kM (zo kK ze zm) zm) (zo kM zm ze)) zm) zm))
 (bN (gJ (zd (zo kM ze (bf EW (zd (zo zAU ze (zo TQ zm zm)) zk))) (zd ze zk))))))),
 (aE (zF (zK dz (zK kF zn aa) zn))
 (aE (pN (bP (zL nO aa (bI dQ Å (ae aa zj))) (zI (zF (zJ bq aa aa))) (zI (bP (zL Ed (bI dQ Å (ae aa zj)) zn) (zI (zF (zK dz aa (zK kF (zK kP (zJ bq aa (zK kP aa (bI dQ Å (ae aa zj)))) zn) zn)))) dG))))
 (aE (zF (zK dz (zK kP (zK dz (zK kF (zK kP aa zn) zn) (zK kF zn aa)) zn) zn))
 (zI (bp (gK (ae (zK kF aa (iq F6 Ă (ae (wa zAv aa (zK S3 zn zn)) zj))) (ae aa zj))))))))⟩
def NQ:MS:=(zD (br (mB (af yj (af ba (zi 0) (mC (.int 0))) (mC (.int 0)))) (zD (zU 2 (af iW (af ba (zi 0) (mC (.int 0))) (zi 1)))
  (zD (sv 0 (af rS (af ba (zi 0) (mC (.int 0))) (zi 1)) (mC (.int 0)))
  (bB (zi 2)))) cO)
  (zD (zU 3 (af iW (af ik (af ba (zi 0) (mC (.int 1))) (mC (.int 69623))) (mC (.int 2147483647))))
  (zD (sv 0 (af cQ (af iW (af cQ (af ik (zi 3) (mC (.int 48271))) (mC (.int 30103))) (mC (.int 2147483629))) (mC (.int 1))) (mC (.int 1)))
  (bB (af iW (af rS (af cQ (af ik (zi 3) (mC (.int 2147483647))) (af ba (zi 0) (mC (.int 1)))) (mC (.int 8191))) (zi 1))))))
def zu:FD:=bM 4 [0,1] NQ
abbrev p9(Z:Zs):Prop:=Z.C "_law_take" 1 ["_law_box_here", "_law_wide"] 2 zu
theorem zk3(B:Bs Z)(A:b0 Z "_law_take" NT):p9 Z :=
 have hB:=B.1; cc A ["_law_box_here", "_law_wide", "_law_digit", "_law_one"] λnd hr=>⟨_,(zr (bO (zE (zo D4 (zo zN ze zm) zm)) (zr (zB (zo kK (zo zN ze zm) ze))
 (zr (Fk (zo AW (zo zN ze zm) ze) zm)
 (bN ze))) dF)
 (zr (zB (zo kK (zo kM (zo zN ze zm) zm) zm))
 (zr (Fk (zo du (zo kK (zo du (zo kM ze zm) zm) zm) zm) zm)
 (bN (zo kK (zo AW (zo du (zo kM ze zm) (zo zN ze zm)) zm) ze))))),
 (aE (bP (zL Ed (zJ bq aa zn) zn) (aE (zF (zK kP (zJ bq aa zn) aa))
 (aE (wu (zK Bh (zJ bq aa zn) aa) (EN aa zn FG))
 (zI (bp aa)))) dG)
 (aE (zF (zK kP (zK kF (zJ bq aa zn) zn) zn))
 (aE (wu (zK dz (zK kP (zK dz (zK kF aa zn) zn) zn) zn) (EN aa zn FG))
 (zI (bp (zK kP (zK Bh (zK dz (zK kF aa zn) (zJ bq aa zn)) zn) aa))))))⟩
def OO:MS:=(zD (zU 2 (aY (f1 rJ) (zf (zi 0) zq)))
  (zD (zU 3 (aY (f1 rJ) (zf (zi 1) zq)))
  (zD (sA (mB (af (bL true) (zi 3) (mC (.int 0)))) (ua 2 3 (zf (zi 3) (zf (af iW (zi 2) (zi 3)) zq))))
  (zD (br (mB (af lM (zi 1) (mC (.int 0)))) (zU 2 (af kj (mC (.int 0)) (zi 2))) cO)
  (bB (bY (zf (af pH (zi 0) (zi 2)) (zf (af pH (zi 1) (zi 2)) zq))))))))
def sQ:FD:=bM 4 [0,1] OO
abbrev BD(Z:Zs):Prop:=Z.C "_law_fraction" 1 ["_law_n", "_law_d"] 2 sQ
theorem zg3(B:Bs Z)(A:b0 Z "_law_fraction" OQ):BD Z :=
 have hB:=B.1; cc A ["_law_n", "_law_d", "_law_one", "_law_two"] λnd hr=>⟨_,(zr (zB (bf Am (zd ze zk)))
 (zr (zB (bf Am (zd ze zk)))
 (zr (La (zE (zo wA ze zm)) (D3 (zd ze (zd (zo kK ze ze) zk))))
 (zr (pM (bO (zE (zo nN ze zm)) (zB (zo nS zm ze)) dF))
 (bN (cw (zd (zo uV ze ze) (zd (zo uV ze ze) zk)))))))),
 (aE (zF (bI Bi ă (ae aa zj)))
 (aE (zF (bI Bi ă (ae aa zj)))
 (aE (Lh (zL wg aa zn) (zI (D7 (ae aa (ae (zK kP aa aa) zj)))))
 (aE (pN (bP (zL nO aa zn) (zI (zF (zK nV zn aa))) dG))
 (zI (bp (cx (ae (zK u3 aa aa) (ae (zK u3 aa aa) zj)))))))))⟩
def OX:MS:=(zD (br (mB (af (bL false) (af zZ (zi 1) (mC (.int 0))) (mC (.int 0)))) (bB kI) cO)
  (bB (uQ (af l9 (bY (zf (mC (.int 0)) zq)) (zi 0)) (zi 1))))
def xa:FD:=bM 2 [0,1] OX
abbrev GC(Z:Zs):Prop:=Z.C "_law_poly_number" 1 ["_law_many", "_law_f"] 2 xa
theorem ze6(B:Bs Z)(A:b0 Z "_law_poly_number" OZ):GC Z :=
 have hB:=B.1; cc A ["_law_many", "_law_f"] λnd hr=>⟨_,(zr (bO (zE (zo dE (zo zC ze zm) zm)) (bN pY) dF)
 (bN (AG (zo uT (cw (zd zm zk)) ze) ze))),
 (aE (bP (zL dH (zJ zO aa zn) zn) (zI (bp p4)) dG)
 (zI (bp (AI hr (zK (uU _ rfl) (cx (ae zn zj)) aa) aa))))⟩
def OW:MS:=(bB (uQ (af nQ (af nQ (af l9 (bY (zf (mC (.int 0)) zq)) (zi 1)) (bY (zf (mC (.int 1)) zq))) (af l9 (bY (zf (mC (.int 0)) zq)) (af kj (af kj (zi 0) (zi 1)) (mC (.int 1))))) (bY (zf (mC (.int 1)) (zf (mC (.int 1)) zq)))))
def BO:FD:=bM 2 [0,1] OW
abbrev OV(Z:Zs):Prop:=Z.C "_law_poly_letter" 1 ["_law_many", "_law_k"] 2 BO
theorem ze7(B:Bs Z)(A:b0 Z "_law_poly_letter" OY):OV Z :=
 have hB:=B.1; cc A ["_law_many", "_law_k"] λnd hr=>⟨_,(bN (AG (zo wM (zo wM (zo uT (cw (zd zm zk)) ze) (cw (zd zm zk))) (zo uT (cw (zd zm zk)) (zo nS (zo nS ze ze) zm))) (cw (zd zm (zd zm zk))))),
 (zI (bp (AI hr (zK wN (zK wN (zK (uU _ rfl) (cx (ae zn zj)) aa) (cx (ae zn zj))) (zK (uU _ rfl) (cx (ae zn zj)) (zK nV (zK nV aa aa) zn))) (cx (ae zn (ae zn zj))))))⟩
def OI:MS:=(bB (aY (f1 kJ) (zf (aY (f1 Az) (zf (iB (cq kD (dA (zi 0))) 1 [0] (zy 0) iU (bY (zf (zi 0) (zf (ix (zi 1) (zi 0)) zq)))) zq)) zq)))
def w9:FD:=bM 1 [0] OI
abbrev GG(Z:Zs):Prop:=Z.C "_law_poly_told" 1 ["_law_sums"] 1 w9
theorem zgv(B:Bs Z)(A:b0 Z "_law_poly_told" OK):GG Z :=
 have hB:=B.1; cc A ["_law_sums"] λnd hr=>⟨_,(bN (bf pS (zd (bf Me (zd (ku (pX (eF ze)) zw kH (cw (zd ze (zd (mH ze ze) zk)))) zk)) zk))),
 (zI (bp (iq p6 Ð (ae (bI (M4 _ rfl hr) PyProof.Rows.boot_sorted (ae (pb (pT (eG aa)) zv kN (cx (ae aa (ae (mJ hr aa aa) zj)))) zj)) zj))))⟩
def Gv:MS:=(zD (zU 1 (fK zq))
  (zD (rW 0 (zy 2) (br (mB (af (bL false) (af zZ (zi 2) (mC (.int 0))) (mC (.str "letter")))) (cN (cJ 1 (mC (.int 1)))) (br (mB (af (bL false) (af zZ (zi 2) (mC (.int 0))) (mC (.str "mix")))) (cN (cJ 1 (af ba (zi 1) (af zZ (af zZ (af zZ (zi 2) (mC (.int 1))) (mC (.int 0))) (mC (.int 1)))))) (cN (cJ 1 (af cQ (af ba (zi 1) (af zZ (zi 2) (mC (.int 1)))) (af ba (zi 1) (af zZ (zi 2) (mC (.int 2))))))))))
  (jV [0] 1)))
def nY:FD:=bM 3 [0] Gv
abbrev Bz(Z:Zs):Prop:=Z.C "_law_high" 1 ["_law_nodes_here"] 1 nY
theorem zk4(B:Bs Z)(A:b0 Z "_law_high" NR):Bz Z :=
 have hB:=B.1; cc A ["_law_nodes_here", "_law_found", "_law_node"] λnd hr=>⟨_,(zr (zB (gJ zk))
 (zr (Sr (by decide) zw (bO (zE (zo dE (zo zC ze zm) cK)) (dY (d0 zm)) (bO (zE (zo dE (zo zC ze zm) cK)) (dY (d0 (zo zN ze (zo zC (zo zC (zo zC ze zm) zm) zm)))) (dY (d0 (zo du (zo zN ze (zo zC ze zm)) (zo zN ze (zo zC ze zm))))))))
 sC)),
 (aE (zF (gK zj))
 (aE (d5 (Sy _ rfl aa) zv (zI (bP (zL dH (zJ zO aa zn) cL) (zI (dZ (dD _ rfl Â À Á zS aa (ae zn zj)))) (zI (bP (zL dH (zJ zO aa zn) cL) (zI (dZ (dD _ rfl Â À Á zS aa (ae (zJ bq aa (zJ zO (zJ zO (zJ zO aa zn) zn) zn)) zj)))) (zI (dZ (dD _ rfl Â À Á zS aa (ae (zK dz (zJ bq aa (zJ zO aa zn)) (zJ bq aa (zJ zO aa zn))) zj)))))))))
 (zI (bp aa))))⟩
def N6:MS:=(bB (Ag (cp (pf "int") (zi 0)) (Af (cp (pf "bool") (zi 0)))))
def BM:FD:=bM 1 [0] N6
abbrev N5(Z:Zs):Prop:=Z.C "_law_whole" 1 ["_law_found"] 1 BM
theorem zjp(B:Bs Z)(A:b0 Z "_law_whole" N9):N5 Z :=
 have hB:=B.1; cc A ["_law_found"] λnd hr=>⟨_,(bN (TJ (DN (T := "int") ze) (TH (DN (T := "bool") ze)))),
 (zI (bp (zAK (bI D8 Ą (ae aa (ae (EO (v:=.ty "int") Ă rfl) zj))) (zAJ (w_not (bI D8 Ą (ae aa (ae (EO (v:=.ty "bool") PyProof.Rows.boot_bool rfl) zj))))))))⟩
def OB:MS:=(zD (zU 2 (fK (zf (zi 1) zq)))
  (zD (cW (DI (zf (zi 1) (zf (cp l7 (mC (.int 1))) (zf (cp l7 (mC (.int 1))) zq)))) (zy 3) (br (mB (af (m6 false) (zi 3) (zi 2))) (zD (zU 4 (af zZ (af zZ (zi 0) (mC (.int 1))) (zi 3)))
  (zD (br (mB (af (bL false) (af zZ (zi 4) (mC (.int 0))) (mC (.str "times")))) (zU 2 (af pz (zi 2) (aY (f1 wq) (zf (oE vW (zi 4) (kC (mC (.int 1))) sG) zq)))) cO)
  (br (mB (af (bL false) (af zZ (zi 4) (mC (.int 0))) (mC (.str "mix")))) (zU 2 (af pz (zi 2) (iB (cq jo (af zZ (zi 4) (mC (.int 1)))) 2 [] (eZ 2 (zX (zy 0) (zX (zy 1) fL))) iU (zi 1)))) cO))) cO))
  (bB (cp A7 (zi 2)))))
def BI:FD:=bM 5 [0,1] OB
abbrev OA(Z:Zs):Prop:=Z.C "_law_within" 1 ["_law_net_here", "_law_u"] 2 BI
theorem ziV(B:Bs Z)(A:b0 Z "_law_within" OC):OA Z :=
 have hB:=B.1; cc A ["_law_net_here", "_law_u", "_law_found", "_law_at", "_law_node"] λnd hr=>⟨_,(zr (zB (gJ (zd ze zk)))
 (zr (d4 (Wg (zd ze (zd (eX sD zm) (zd (eX sD zm) zk)))) zw (bO (zE (zo (Aj false) ze ze)) (zr (zB (zo zC (zo zC ze zm) ze))
 (zr (pM (bO (zE (zo dE (zo zC ze zm) cK)) (zB (zo Es ze (bf Ld (zd (t9 Kw ze (pW zm) AR) zk)))) dF))
 (bO (zE (zo dE (zo zC ze zm) cK)) (zB (zo Es ze (ku (nR (zo zC ze zm)) (gE (zM zw (zM zw gF))) kH ze))) dF))) dF))
 (bN (Zo ze)))),
 (aE (zF (gK (ae aa zj)))
 (aE (d5 (Ti (ae aa (ae (rN rZ zn) (ae (rN rZ zn) zj)))) zv (zI (bP (zL Dj aa aa rfl) (aE (zF (zJ zO (zJ zO aa zn) aa))
 (aE (pN (bP (zL dH (zJ zO aa zn) cL) (zI (zF (zK EU aa (iq L3 PyProof.Rows.boot_list (ae (uW Py aa (p5 zn) AX) zj))))) dG))
 (zI (bP (zL dH (zJ zO aa zn) cL) (zI (zF (zK EU aa (pb (nU (zJ zO aa zn)) (gG (bV zv (bV zv gH))) kN aa)))) dG)))) dG)))
 (zI (bp (bI znX PyProof.Rows.boot_sorted (ae (iq Zp rfl (ae aa zj)) zj))))))⟩
def Nd:MS:=(zD (br (mB (af lM (zi 1) (mC (.int 0)))) (ua 0 1 (zf (cp l7 (zi 0)) (zf (cp l7 (zi 1)) zq))) cO)
  (zD (zU 2 (zR p8 (zf (aY (f1 rJ) (zf (zi 0) zq)) (zf (zi 1) zq))))
  (bB (bY (zf (af rS (zi 0) (zi 2)) (zf (af rS (zi 1) (zi 2)) zq))))))
def Bx:FD:=bM 3 [] Nd
abbrev Nb(Z:Zs):Prop:=Z.C "fraction" 2 ["n", "d"] 2 Bx
theorem znY(B:Bs Z)(A:b0 Z "fraction" Ni)(c0:BC Z):Nb Z :=
 have hB:=B.1; cc A ["n", "d", "factor"] λnd hr=>⟨_,(zr (pM (bO (zE (zo nN ze zm)) (D3 (zd (eX sD ze) (zd (eX sD ze) zk))) dF))
 (zr (zB (zA 2 (zd (bf Am (zd ze zk)) (zd ze zk))))
 (bN (cw (zd (zo AW ze ze) (zd (zo AW ze ze) zk)))))),
 (aE (pN (bP (zL nO aa zn) (zI (D7 (ae (rN rZ aa) (ae (rN rZ aa) zj)))) dG))
 (aE (zF (zz (ae (bI Bi ă (ae aa zj)) (ae aa zj))))
 (zI (bp (cx (ae (zK Bh aa aa) (ae (zK Bh aa aa) zj)))))))⟩
def N4:MS:=(zD (zU 2 (mC (.str "abcdefghijklmnopqrstuvwxyz")))
  (zD (zU 3 (iB (mw (zf (af cQ (mC (.int 1)) (zR zu (zf (zi 0) (zf (mC (.int 4)) zq)))) zq)) 1 [0,2] (zy 0) iU (af rC (zi 2) (zR zu (zf (zi 1) (zf (mC (.int 26)) zq))))))
  (zD (zU 4 (zR zu (zf (zi 0) (zf (aY (f1 cT) (zf (zi 3) zq)) zq))))
  (zD (zU 5 (zR zu (zf (zi 0) (zf (mC (.int 26)) zq))))
  (zD (zU 6 (fK zq))
  (zD (cW (mw (zf (zi 1) zq)) (zy 7) (zD (zU 8 (af rC (zi 2) (af iW (af cQ (zi 5) (af ik (mC (.int 7)) (zi 7))) (mC (.int 26)))))
  (zD (zU 9 (af nL (af nL (B8 xi uu (mC (.str "")) (oE pq (zi 3) sG (kC (zi 4)))) (zi 8)) (B8 xi uu (mC (.str "")) (oE pq (zi 3) (kC (af cQ (zi 4) (mC (.int 1)))) sG))))
  (zD (zU 9 (af nL (zi 9) (af wm (mC (.str "q")) (zR zu (zf (zi 0) (zf (mC (.int 2)) zq))))))
  (zD (br (mS (mB (af (m6 false) (zi 9) (zi 6))) (mB (af (m6 false) (zi 9) (bY (zf (mC (.str "part")) (zf (mC (.str "end")) (zf (mC (.str "give")) (zf (mC (.str "rounds")) (zf (mC (.str "letters")) zq))))))))) (zU 9 (af nL (mC (.str "zz")) (af rC (zi 2) (zi 7)))) cO)
  (cN (cJ 6 (zi 9))))))))
  (zD (br (mB (af (bL false) (zR zu (zf (zi 0) (zf (mC (.int 5)) zq))) (mC (.int 0)))) (zD (zU 10 (af ba (fK (zf (mC (.str "ends")) (zf (mC (.str "pa")) (zf (mC (.str "gives")) (zf (mC (.str "giv")) (zf (mC (.str "x")) (zf (mC (.str "y")) (zf (mC (.str "r")) (zf (mC (.str "rk")) zq))))))))) (zR zu (zf (zi 0) (zf (mC (.int 8)) zq)))))
  (br (mB (af (m6 true) (zi 10) (zi 6))) (sv 6 (zi 10) (zR zu (zf (zi 0) (zf (zi 1) zq)))) cO)) cO)
  (bB (aY (f1 kJ) (zf (zi 6) zq))))))))))
def BL:FD:=bM 11 [0,1] N4
abbrev N3(Z:Zs):Prop:=Z.C "_law_names" 2 ["_law_box_here", "_law_many"] 2 BL
theorem zjq(B:Bs Z)(A:b0 Z "_law_names" Oc)(c0:p9 Z):N3 Z :=
 have hB:=B.1; cc A ["_law_box_here", "_law_many", "_law_alphabet", "_law_signs", "_law_spot", "_law_first", "_law_found", "_law_k", "_law_one", "_law_name", "_law_odd"] λnd hr=>⟨_,(zr (zB cK)
 (zr (zB (ku (sH (zd (zo du zm (zA 2 (zd ze (zd zm zk)))) zk)) zw kH (zo Ek ze (zA 2 (zd ze (zd zm zk))))))
 (zr (zB (zA 2 (zd ze (zd (bf dP (zd ze zk)) zk))))
 (zr (zB (zA 2 (zd ze (zd zm zk))))
 (zr (zB (gJ zk))
 (zr (d4 (sH (zd ze zk)) zw (zr (zB (zo Ek ze (zo kK (zo du ze (zo kM zm ze)) zm)))
 (zr (zB (zo AO (zo AO (Pb J7 Lx cK (t9 AQ ze AR (pW ze))) ze) (Pb J7 Lx cK (t9 AQ ze (pW (zo du ze zm)) AR))))
 (zr (zB (zo AO ze (zo V4 cK (zA 2 (zd ze (zd zm zk))))))
 (zr (pM (bO (rR (zE (zo (Aj false) ze ze)) (zE (zo (Aj false) ze (cw (zd cK (zd cK (zd cK (zd cK (zd cK zk))))))))) (zB (zo AO cK (zo Ek ze ze))) dF))
 (dY (d0 ze)))))))
 (zr (pM (bO (zE (zo dE (zA 2 (zd ze (zd zm zk))) zm)) (zr (zB (zo zN (gJ (zd cK (zd cK (zd cK (zd cK (zd cK (zd cK (zd cK (zd cK zk))))))))) (zA 2 (zd ze (zd zm zk)))))
 (bO (zE (zo (Aj true) ze ze)) (Fk ze (zA 2 (zd ze (zd ze zk)))) dF)) dF))
 (bN (bf pS (zd ze zk)))))))))),
 (aE (zF cL)
 (aE (D6 (sO (ae (zK dz zn (zz (ae aa (ae zn zj)))) zj)) zv kN (zJ EK aa (zz (ae aa (ae zn zj)))))
 (aE (zF (zz (ae aa (ae (bI dQ Å (ae aa zj)) zj))))
 (aE (zF (zz (ae aa (ae zn zj))))
 (aE (zF (gK zj))
 (aE (d5 (sO (ae aa zj)) zv (aE (zF (zJ EK aa (zK kP (zK dz aa (zK kF zn aa)) zn)))
 (aE (zF (zK Bv (zK Bv (dD _ rfl PySem.F.plainAttrs_str PySem.F.slot_str_join PySem.F.type_str_join (Lf _ rfl) cL (ae (uW Ah aa AX (p5 aa)) zj)) aa) (dD _ rfl PySem.F.plainAttrs_str PySem.F.slot_str_join PySem.F.type_str_join (Lf _ rfl) cL (ae (uW Ah aa (p5 (zK dz aa zn)) AX) zj))))
 (aE (zF (zK Bv aa (zK znc cL (zz (ae aa (ae zn zj))))))
 (aE (pN (bP (nv (rT (zL Dj aa aa rfl) (rX (zL Dj aa (cx (ae cL (ae cL (ae cL (ae cL (ae cL zj)))))) rfl)))) (zI (zF (zK Bv cL (zJ EK aa aa)))) dG))
 (zI (dZ (dD _ rfl Â À Á zS aa (ae aa zj)))))))))
 (aE (pN (bP (zL dH (zz (ae aa (ae zn zj))) zn) (aE (zF (zJ bq (gK (ae cL (ae cL (ae cL (ae cL (ae cL (ae cL (ae cL (ae cL zj))))))))) (zz (ae aa (ae zn zj)))))
 (zI (bP (zL VH aa aa rfl) (zI (wu aa (EN aa (zz (ae aa (ae aa zj))) FG))) dG))) dG))
 (zI (bp (iq p6 Ð (ae aa zj)))))))))))⟩
def NP:MS:=(bB (zR sQ (zf (af cQ (af iw (af zZ (zi 0) (mC (.int 0))) (af zZ (zi 1) (mC (.int 1)))) (af iw (af zZ (zi 1) (mC (.int 0))) (af zZ (zi 0) (mC (.int 1))))) (zf (af iw (af zZ (zi 0) (mC (.int 1))) (af zZ (zi 1) (mC (.int 1)))) zq))))
def w5:FD:=bM 2 [0,1] NP
abbrev Gy(Z:Zs):Prop:=Z.C "_law_plus" 2 ["_law_one", "_law_other"] 2 w5
theorem zk5(B:Bs Z)(A:b0 Z "_law_plus" NS)(c0:BD Z):Gy Z :=
 have hB:=B.1; cc A ["_law_one", "_law_other"] λnd hr=>⟨_,(bN (zA 2 (zd (zo du (zo jv (zo zC ze zm) (zo zC ze zm)) (zo jv (zo zC ze zm) (zo zC ze zm))) (zd (zo jv (zo zC ze zm) (zo zC ze zm)) zk)))),
 (zI (bp (zz (ae (zK dz (zK jw (zJ zO aa zn) (zJ zO aa zn)) (zK jw (zJ zO aa zn) (zJ zO aa zn))) (ae (zK jw (zJ zO aa zn) (zJ zO aa zn)) zj)))))⟩
def N2:MS:=(bB (zR sQ (zf (af iw (af zZ (zi 0) (mC (.int 0))) (af zZ (zi 1) (mC (.int 0)))) (zf (af iw (af zZ (zi 0) (mC (.int 1))) (af zZ (zi 1) (mC (.int 1)))) zq))))
def wY:FD:=bM 2 [0,1] N2
abbrev Gu(Z:Zs):Prop:=Z.C "_law_times" 2 ["_law_one", "_law_other"] 2 wY
theorem zjr(B:Bs Z)(A:b0 Z "_law_times" Ob)(c0:BD Z):Gu Z :=
 have hB:=B.1; cc A ["_law_one", "_law_other"] λnd hr=>⟨_,(bN (zA 2 (zd (zo jv (zo zC ze zm) (zo zC ze zm)) (zd (zo jv (zo zC ze zm) (zo zC ze zm)) zk)))),
 (zI (bp (zz (ae (zK jw (zJ zO aa zn) (zJ zO aa zn)) (ae (zK jw (zJ zO aa zn) (zJ zO aa zn)) zj)))))⟩
def Oz:MS:=(zD (zU 1 (zR zu (zf (zi 0) (zf (mC (.int 12)) zq))))
  (zD (br (mB (af lM (zi 1) (mC (.int 7)))) (bB (af ba (fK (zf (bY (zf (mC (.int 0)) (zf (mC (.int 1)) zq))) (zf (bY (zf (mC (.int 1)) (zf (mC (.int 1)) zq))) (zf (bY (zf (mC (.int 1)) (zf (mC (.int 1)) zq))) (zf (bY (zf (cp l7 (mC (.int 1))) (zf (mC (.int 1)) zq))) (zf (bY (zf (mC (.int 2)) (zf (mC (.int 1)) zq))) (zf (bY (zf (mC (.int 1)) (zf (mC (.int 2)) zq))) (zf (bY (zf (cp l7 (mC (.int 2))) (zf (mC (.int 3)) zq))) zq)))))))) (zi 1))) cO)
  (zD (br (mB (af lM (zi 1) (mC (.int 11)))) (bB (zR sQ (zf (af kj (zR zu (zf (zi 0) (zf (mC (.int 19)) zq))) (mC (.int 9))) (zf (af cQ (mC (.int 1)) (zR zu (zf (zi 0) (zf (mC (.int 4)) zq)))) zq)))) cO)
  (bB (zR sQ (zf (af kj (zR zu (zf (zi 0) (zf (mC (.int 1999999)) zq))) (mC (.int 999999))) (zf (af cQ (mC (.int 1)) (zR zu (zf (zi 0) (zf (mC (.int 4)) zq)))) zq)))))))
def w4:FD:=bM 2 [0] Oz
abbrev GA(Z:Zs):Prop:=Z.C "_law_number" 2 ["_law_box_here"] 1 w4
theorem ziY(B:Bs Z)(A:b0 Z "_law_number" Oi)(c0:p9 Z)(c1:BD Z):GA Z :=
 have hB:=B.1; cc A ["_law_box_here", "_law_kind"] λnd hr=>⟨_,(zr (zB (zA 2 (zd ze (zd zm zk))))
 (zr (bO (zE (zo nN ze zm)) (bN (zo zN (gJ (zd (cw (zd zm (zd zm zk))) (zd (cw (zd zm (zd zm zk))) (zd (cw (zd zm (zd zm zk))) (zd (cw (zd (eX sD zm) (zd zm zk))) (zd (cw (zd zm (zd zm zk))) (zd (cw (zd zm (zd zm zk))) (zd (cw (zd (eX sD zm) (zd zm zk))) zk)))))))) ze)) dF)
 (zr (bO (zE (zo nN ze zm)) (bN (zA 2 (zd (zo nS (zA 2 (zd ze (zd zm zk))) zm) (zd (zo du zm (zA 2 (zd ze (zd zm zk)))) zk)))) dF)
 (bN (zA 2 (zd (zo nS (zA 2 (zd ze (zd zm zk))) zm) (zd (zo du zm (zA 2 (zd ze (zd zm zk)))) zk))))))),
 (aE (zF (zz (ae aa (ae zn zj))))
 (aE (bP (zL nO aa zn) (zI (bp (zJ bq (gK (ae (cx (ae zn (ae zn zj))) (ae (cx (ae zn (ae zn zj))) (ae (cx (ae zn (ae zn zj))) (ae (cx (ae (rN rZ zn) (ae zn zj))) (ae (cx (ae zn (ae zn zj))) (ae (cx (ae zn (ae zn zj))) (ae (cx (ae (rN rZ zn) (ae zn zj))) zj)))))))) aa))) dG)
 (aE (bP (zL nO aa zn) (zI (bp (zz (ae (zK nV (zz (ae aa (ae zn zj))) zn) (ae (zK dz zn (zz (ae aa (ae zn zj)))) zj))))) dG)
 (zI (bp (zz (ae (zK nV (zz (ae aa (ae zn zj))) zn) (ae (zK dz zn (zz (ae aa (ae zn zj)))) zj))))))))⟩
def OR:MS:=(zD (br (mS (rG (mB (cp (pf "tuple") (zi 0)))) (mB (af (pA true) (zi 0) (zR w9 (zf (zi 1) zq))))) (bB (mC (.bool false))) cO)
  (zD (cW (cq jo (zi 0)) (eZ 2 (zX (zy 2) (zX (zy 3) fL))) (br (rG (mB (aY (f1 t7) (zf (iB (cq jo (af nQ (zi 2) (zi 3))) 1 [] (zy 0) iU (zR BM (zf (zi 0) zq))) zq)))) (bB (mC (.bool false))) cO))
  (bB (mC (.bool true)))))
def BK:FD:=bM 4 [0,1] OR
abbrev Ol(Z:Zs):Prop:=Z.C "_law_is_poly" 2 ["_law_found", "_law_due"] 2 BK
theorem zhF(B:Bs Z)(A:b0 Z "_law_is_poly" OT)(c0:GG Z)(c1:N5 Z):Ol Z :=
 have hB:=B.1; cc A ["_law_found", "_law_due", "_law_powers", "_law_f"] λnd hr=>⟨_,(zr (bO (rR (AB (rH (DN (T := "tuple") ze))) (zE (zo (Et true) ze (zA 1 (zd ze zk))))) (bN ud) dF)
 (zr (d4 (nR ze) (gE (zM zw (zM zw gF))) (bO (AB (rH (bf ED (zd (ku (nR (zo wM ze ze)) zw kH (zA 1 (zd ze zk))) zk)))) (bN ud) dF))
 (bN ud))),
 (aE (bP (nv (rT (Ap (Ao (bI D8 Ą (ae aa (ae (EO (v:=.ty "tuple") Ð rfl) zj))))) (rX (zL (Kr _ rfl hr) aa (zz (ae aa zj)))))) (zI (bp uf)) dG)
 (aE (d5 (nU aa) (gG (bV zv (bV zv gH))) (zI (bP (Ap (Ao (bI (D5 _ rfl rfl) PyProof.Rows.boot_all (ae (pb (nU (zK wN aa aa)) zv kN (zz (ae aa zj))) zj)))) (zI (bp uf)) dG)))
 (zI (bp uf))))⟩
def MZ:MS:=(zD (zU 3 (vp (cq mG (dA (zi 0))) 2 [] (eZ 2 (zX (zy 0) (zX (zy 1) fL))) (mB (af (bL true) (zi 1) (mC (.int 0)))) (zi 0) (zi 1)))
  (zD (br (vX (vZ (zi 3)) (mB (af Cs (cp v5 (zi 1)) (zi 2)))) (bB (uj "Form" ["numbers", "beneath", "room"] (zf (dA (zi 3)) (zf (zi 1) (zf (zi 2) zq))))) cO)
  (zD (zU 4 (zi 1))
  (zD (cW (cq yY (dA (zi 3))) (zy 5) (zU 4 (zR p8 (zf (zi 4) (zf (aY (f1 rJ) (zf (zi 5) zq)) zq)))))
  (zD (zU 6 (vp (cq mG (dA (zi 3))) 2 [4] (eZ 2 (zX (zy 0) (zX (zy 1) fL))) iU (zi 0) (af pH (zi 1) (zi 2))))
  (zD (zU 1 (af pH (zi 1) (zi 4)))
  (bB (uj "Form" ["numbers", "beneath", "room"] (zf (dA (zi 6)) (zf (zi 1) (zf (aY uy (zf (mC (.int 256)) (zf (af iw (mC (.int 2)) (cp v5 (zi 1))) zq))) zq)))))))))))
def u7:FD:=bM 7 [0,2] MZ
abbrev Bk(Z:Zs):Prop:=Z.C "settled" 3 ["numbers", "beneath", "room"] 3 u7
theorem Zn(B:Bs Z)(A:b0 Z "settled" M1)(c0:BC Z):Bk Z :=
 by obtain⟨hB,_,⟨ji,cR⟩,_,_,⟨bh,aj⟩⟩:=B; exact cc A ["numbers", "beneath", "room", "kept", "factor", "many", "lowest"] λnd hr=>⟨_,(zr (zB (CO (sM (eF ze)) (gE (zM zw (zM zw gF))) (zE (zo wA ze zm)) ze ze))
 (zr (bO (Kq (U4 ze) (zE (zo Ju (JQ ze) ze))) (bN (DD aj.xn (zd (eF ze) (zd ze (zd ze zk))))) dF)
 (zr (zB ze)
 (zr (d4 (U6 (eF ze)) zw (zB (zA 2 (zd ze (zd (bf Am (zd ze zk)) zk)))))
 (zr (zB (CO (sM (eF ze)) (gE (zM zw (zM zw gF))) kH ze (zo uV ze ze)))
 (zr (zB (zo uV ze ze))
 (bN (DD aj.xn (zd (eF ze) (zd ze (zd (bf Fo (zd zm (zd (zo jv zm (JQ ze)) zk))) zk))))))))))),
 (aE (DH hr (sF (eG aa)) (gG (bV zv (bV zv gH))) (Eu (zL wg aa zn)) aa aa)
 (aE (bP (nv (Kv (Sl aa) (Lj (zL JD (Jy _ rfl PySem.F.plainAttrs_int PySem.F.slot_int_bit_length PySem.F.type_int_bit_length KA aa) aa)))) (zI (bp (DE aj (ae (eG aa) (ae aa (ae aa zj)))))) dG)
 (aE (zF aa)
 (aE (d5 (Sm (eG aa)) zv (zI (zF (zz (ae aa (ae (bI Bi ă (ae aa zj)) zj))))))
 (aE (DH hr (sF (eG aa)) (gG (bV zv (bV zv gH))) kN aa (zK u3 aa aa))
 (aE (zF (zK u3 aa aa))
 (zI (bp (DE aj (ae (eG aa) (ae aa (ae (bI (F7 rfl) PyProof.Rows.boot_max (ae (uL (v:=.int 256) rfl cR ⟨_,rfl⟩) (ae (zK jw zn (Jy _ rfl PySem.F.plainAttrs_int PySem.F.slot_int_bit_length PySem.F.type_int_bit_length KA aa)) zj))) zj))))))))))))⟩
def O2:MS:=(bB (uj "Form" ["numbers", "beneath", "room"] (zf (dA (uQ (af nQ (af nQ (af l9 (bY (zf (mC (.int 0)) zq)) (zi 0)) (bY (zf (mC (.int 1)) zq))) (af l9 (bY (zf (mC (.int 0)) zq)) (af kj (af kj (zi 1) (zi 0)) (mC (.int 1))))) (mC (.int 1)))) (zf (mC (.int 1)) (zf (mC (.int 256)) zq)))))
def BP:FD:=bM 2 [0,1] O2
abbrev O1(Z:Zs):Prop:=Z.C "letter_by_powers" 3 ["k", "many_letters"] 2 BP
theorem zfR(B:Bs Z)(A:b0 Z "letter_by_powers" O3):O1 Z :=
 by obtain⟨hB,_,⟨ji,cR⟩,_,_,⟨bh,aj⟩⟩:=B; exact cc A ["k", "many_letters"] λnd hr=>⟨_,(bN (DD aj.xn (zd (eF (AG (zo wM (zo wM (zo uT (cw (zd zm zk)) ze) (cw (zd zm zk))) (zo uT (cw (zd zm zk)) (zo nS (zo nS ze ze) zm))) zm)) (zd zm (zd zm zk))))),
 (zI (bp (DE aj (ae (eG (AI hr (zK wN (zK wN (zK (uU _ rfl) (cx (ae zn zj)) aa) (cx (ae zn zj))) (zK (uU _ rfl) (cx (ae zn zj)) (zK nV (zK nV aa aa) zn))) zn)) (ae zn (ae (uL (v:=.int 256) rfl cR ⟨_,rfl⟩) zj))))))⟩
def Oy:MS:=(bB (aY (f1 Az) (zf (iB (cq mG (dA (cp (eK "Form" "numbers") (zi 0)))) 2 [0] (eZ 2 (zX (zy 0) (zX (zy 1) fL))) iU (bY (zf (zi 0) (zf (zR Bx (zf (zi 1) (zf (cp (eK "Form" "beneath") (zi 2)) zq))) zq)))) zq)))
def BH:FD:=bM 1 [0] Oy
abbrev Ox(Z:Zs):Prop:=Z.C "fractions_of" 3 ["form"] 1 BH
theorem ziZ(B:Bs Z)(A:b0 Z "fractions_of" zev)(c0:Nb Z):Ox Z :=
 by obtain⟨hB,_,_,_,_,⟨bh,aj⟩⟩:=B; exact cc A ["form"] λnd hr=>⟨_,(bN (bf Me (zd (ku (sM (eF (eX (hW aj.xn aj.cl (aj.na _ (by decide))) ze))) (gE (zM zw (zM zw gF))) kH (cw (zd ze (zd (zA 2 (zd ze (zd (eX (hW aj.xn aj.cl (aj.na _ (by decide))) ze) zk))) zk)))) zk))),
 (zI (bp (bI (M4 _ rfl hr) PyProof.Rows.boot_sorted (ae (pb (sF (eG (hU _ rfl aa rfl))) (gG (bV zv (bV zv gH))) kN (cx (ae aa (ae (zz (ae aa (ae (hU _ rfl aa rfl) zj))) zj)))) zj))))⟩
def ON:MS:=(zD (zU 3 (aY (f1 wG) (zf (zi 0) zq)))
  (zD (cW (cq kD (dA (zi 1))) (zy 4) (zD (zU 5 (bY (zf (af ik (zi 2) (af zZ (ix (zi 1) (zi 4)) (mC (.int 0)))) (zf (af zZ (ix (zi 1) (zi 4)) (mC (.int 1))) zq))))
  (jU 3 (zi 4) (zR w5 (zf (pL (zi 3) (zi 4) (bY (zf (mC (.int 0)) (zf (mC (.int 1)) zq)))) (zf (zi 5) zq))))))
  (zD (zU 6 kI)
  (zD (cW (cq kD (dA (zi 3))) (zy 4) (br (mB (af (bL true) (af zZ (ix (zi 3) (zi 4)) (mC (.int 0))) (mC (.int 0)))) (jU 6 (zi 4) (ix (zi 3) (zi 4))) cO))
  (jV [0,1,2] 6)))))
def xb:FD:=bM 7 [0,1,2] ON
abbrev GJ(Z:Zs):Prop:=Z.C "_law_poly_add" 3 ["_law_one", "_law_other", "_law_sign"] 3 xb
theorem zg4(B:Bs Z)(A:b0 Z "_law_poly_add" OP)(c0:Gy Z):GJ Z :=
 have hB:=B.1; cc A ["_law_one", "_law_other", "_law_sign", "_law_found", "_law_powers", "_law_more", "_law_kept"] λnd hr=>⟨_,(zr (zB (bf ZC (zd ze zk)))
 (zr (d4 (pX (eF ze)) zw (zr (zB (cw (zd (zo kM ze (zo zC (mH ze ze) zm)) (zd (zo zC (mH ze ze) zm) zk))))
 (si ze (zA 2 (zd (AL ze ze (cw (zd zm (zd zm zk)))) (zd ze zk))))))
 (zr (zB pY)
 (zr (d4 (pX (eF ze)) zw (bO (zE (zo wA (zo zC (mH ze ze) zm) zm)) (si ze (mH ze ze)) dF))
 sC)))),
 (aE (zF (iq znG PyProof.Rows.boot_dict (ae aa zj)))
 (aE (d5 (pT (eG aa)) zv (aE (zF (cx (ae (zK kF aa (zJ zO (mJ hr aa aa) zn)) (ae (zJ zO (mJ hr aa aa) zn) zj))))
 (zI (sE hr aa aa (zz (ae (AM hr aa aa (cx (ae zn (ae zn zj))) ⟨rfl,rfl,rfl,rfl⟩) (ae aa zj)))))))
 (aE (zF p4)
 (aE (d5 (pT (eG aa)) zv (zI (bP (zL wg (zJ zO (mJ hr aa aa) zn) zn) (zI (sE hr aa aa (mJ hr aa aa))) dG)))
 (zI (bp aa))))))⟩
def OH:MS:=(zD (zU 2 kI)
  (zD (cW (cq kD (dA (zi 0))) (zy 3) (cW (cq kD (dA (zi 1))) (zy 4) (zD (zU 5 (aY (f1 kJ) (zf (iB (yK (zf (zi 3) (zf (zi 4) zq))) 2 [] (eZ 2 (zX (zy 0) (zX (zy 1) fL))) iU (af cQ (zi 0) (zi 1))) zq)))
  (zD (zU 6 (zR wY (zf (ix (zi 0) (zi 3)) (zf (ix (zi 1) (zi 4)) zq))))
  (jU 2 (zi 5) (zR w5 (zf (pL (zi 2) (zi 5) (bY (zf (mC (.int 0)) (zf (mC (.int 1)) zq)))) (zf (zi 6) zq))))))))
  (zD (zU 7 kI)
  (zD (cW (cq kD (dA (zi 2))) (zy 5) (br (mB (af (bL true) (af zZ (ix (zi 2) (zi 5)) (mC (.int 0))) (mC (.int 0)))) (jU 7 (zi 5) (ix (zi 2) (zi 5))) cO))
  (jV [0,1] 7)))))
def w6:FD:=bM 8 [0,1] OH
abbrev GF(Z:Zs):Prop:=Z.C "_law_poly_mult" 3 ["_law_one", "_law_other"] 2 w6
theorem zgx(B:Bs Z)(A:b0 Z "_law_poly_mult" OL)(c0:Gy Z)(c1:Gu Z):GF Z :=
 have hB:=B.1; cc A ["_law_one", "_law_other", "_law_found", "_law_left", "_law_right", "_law_powers", "_law_more", "_law_kept"] λnd hr=>⟨_,(zr (zB pY)
 (zr (d4 (pX (eF ze)) zw (d4 (pX (eF ze)) zw (zr (zB (bf pS (zd (ku (Ka (zd ze (zd ze zk))) (gE (zM zw (zM zw gF))) kH (zo du ze ze)) zk)))
 (zr (zB (zA 2 (zd (mH ze ze) (zd (mH ze ze) zk))))
 (si ze (zA 2 (zd (AL ze ze (cw (zd zm (zd zm zk)))) (zd ze zk))))))))
 (zr (zB pY)
 (zr (d4 (pX (eF ze)) zw (bO (zE (zo wA (zo zC (mH ze ze) zm) zm)) (si ze (mH ze ze)) dF))
 sC)))),
 (aE (zF p4)
 (aE (d5 (pT (eG aa)) zv (zI (d5 (pT (eG aa)) zv (aE (zF (iq p6 Ð (ae (pb (Kb (ae aa (ae aa zj))) (gG (bV zv (bV zv gH))) kN (zK dz aa aa)) zj)))
 (aE (zF (zz (ae (mJ hr aa aa) (ae (mJ hr aa aa) zj))))
 (zI (sE hr aa aa (zz (ae (AM hr aa aa (cx (ae zn (ae zn zj))) ⟨rfl,rfl,rfl,rfl⟩) (ae aa zj))))))))))
 (aE (zF p4)
 (aE (d5 (pT (eG aa)) zv (zI (bP (zL wg (zJ zO (mJ hr aa aa) zn) zn) (zI (sE hr aa aa (mJ hr aa aa))) dG)))
 (zI (bp aa))))))⟩
def Ov:MS:=(zD (zU 1 (zR w4 (zf (zi 0) zq)))
  (zD (br (mB (af (bL false) (af zZ (zi 1) (mC (.int 0))) (mC (.int 0)))) (bB (bY (zf (mC (.int 3)) (zf (mC (.int 2)) zq)))) cO)
  (bB (zi 1))))
def BG:FD:=bM 2 [0] Ov
abbrev Ou(Z:Zs):Prop:=Z.C "_law_factor" 3 ["_law_box_here"] 1 BG
theorem zi0(B:Bs Z)(A:b0 Z "_law_factor" Oh)(c0:GA Z):Ou Z :=
 have hB:=B.1; cc A ["_law_box_here", "_law_f"] λnd hr=>⟨_,(zr (zB (zA 1 (zd ze zk)))
 (zr (bO (zE (zo dE (zo zC ze zm) zm)) (bN (cw (zd zm (zd zm zk)))) dF)
 (bN ze))),
 (aE (zF (zz (ae aa zj)))
 (aE (bP (zL dH (zJ zO aa zn) zn) (zI (bp (cx (ae zn (ae zn zj))))) dG)
 (zI (bp aa))))⟩
def Nz:MS:=(zD (zU 3 (zR nY (zf (zi 1) zq)))
  (zD (zU 4 (fK zq))
  (zD (cW (Ad (zf (mC (.int 1)) (zf (af cQ (zi 2) (mC (.int 1))) zq))) (zy 5) (zD (zU 6 (iB (mw (zf (aY (f1 cT) (zf (zi 1) zq)) zq)) 1 [3,5] (zy 0) (mB (af (bL false) (af ba (zi 1) (zi 0)) (zi 2))) (zi 0)))
  (zD (zU 7 (zR zu (zf (zi 0) (zf (mC (.int 4)) zq))))
  (br (mS (mB (af (bL false) (aY (f1 cT) (zf (zi 6) zq)) (mC (.int 0)))) (mB (af (bL false) (zi 7) (mC (.int 0))))) (cN (cJ 4 (mC .none))) (br (mB (af lM (zi 7) (mC (.int 3)))) (cN (cJ 4 (af ba (zi 6) (cp l7 (mC (.int 1)))))) (cN (cJ 4 (af ba (zi 6) (zR zu (zf (zi 0) (zf (aY (f1 cT) (zf (zi 6) zq)) zq)))))))))))
  (bB (bY (zf (zR w4 (zf (zi 0) zq)) (zf (aY (f1 kJ) (zf (oE pq (zi 4) sG (kC (af cQ (af ik (zR zu (zf (zi 0) (zf (mC (.int 2)) zq))) (zi 2)) (zR zu (zf (zi 0) (zf (af cQ (zi 2) (mC (.int 1))) zq)))))) zq)) zq)))))))
def Bt:FD:=bM 8 [0,1,2] Nz
abbrev Ny(Z:Zs):Prop:=Z.C "_law_top" 3 ["_law_box_here", "_law_nodes_here", "_law_deep"] 3 Bt
theorem zmz(B:Bs Z)(A:b0 Z "_law_top" ND)(c0:p9 Z)(c1:GA Z)(c2:Bz Z):Ny Z :=
 have hB:=B.1; cc A ["_law_box_here", "_law_nodes_here", "_law_deep", "_law_high_here", "_law_outs", "_law_grade", "_law_some", "_law_way"] λnd hr=>⟨_,(zr (zB (zA 1 (zd ze zk)))
 (zr (zB (gJ zk))
 (zr (d4 (Vx (zd zm (zd (zo du ze zm) zk))) zw (zr (zB (ku (sH (zd (bf dP (zd ze zk)) zk)) zw (zE (zo dE (zo zN ze ze) ze)) ze))
 (zr (zB (zA 2 (zd ze (zd zm zk))))
 (bO (rR (zE (zo dE (bf dP (zd ze zk)) zm)) (zE (zo dE ze zm))) (dY (d0 zAT)) (bO (zE (zo nN ze zm)) (dY (d0 (zo zN ze (eX sD zm)))) (dY (d0 (zo zN ze (zA 2 (zd ze (zd (bf dP (zd ze zk)) zk)))))))))))
 (bN (cw (zd (zA 1 (zd ze zk)) (zd (bf pS (zd (t9 AQ ze AR (pW (zo du (zo kM (zA 2 (zd ze (zd zm zk))) ze) (zA 2 (zd ze (zd (zo du ze zm) zk)))))) zk)) zk))))))),
 (aE (zF (zz (ae aa zj)))
 (aE (zF (gK zj))
 (aE (d5 (YS (ae zn (ae (zK dz aa zn) zj))) zv (aE (D6 (sO (ae (bI dQ Å (ae aa zj)) zj)) zv (Eu (zL dH (zJ bq aa aa) aa)) aa)
 (aE (zF (zz (ae aa (ae zn zj))))
 (zI (bP (nv (rT (zL dH (bI dQ Å (ae aa zj)) zn) (rX (zL dH aa zn)))) (zI (dZ (dD _ rfl Â À Á zS aa (ae zAI zj)))) (zI (bP (zL nO aa zn) (zI (dZ (dD _ rfl Â À Á zS aa (ae (zJ bq aa (rN rZ zn)) zj)))) (zI (dZ (dD _ rfl Â À Á zS aa (ae (zJ bq aa (zz (ae aa (ae (bI dQ Å (ae aa zj)) zj)))) zj)))))))))))
 (zI (bp (cx (ae (zz (ae aa zj)) (ae (iq p6 Ð (ae (uW Ah aa AX (p5 (zK dz (zK kF (zz (ae aa (ae zn zj))) aa) (zz (ae aa (ae (zK dz aa zn) zj)))))) zj)) zj))))))))⟩
def Ot:MS:=(zD (zU 2 kI)
  (zD (cW (cq kD (dA (zi 0))) (zy 3) (br (mB (af (bL true) (af zZ (zi 1) (mC (.int 0))) (mC (.int 0)))) (jU 2 (zi 3) (zR wY (zf (ix (zi 0) (zi 3)) (zf (zi 1) zq)))) cO))
  (jV [0,1] 2)))
def wZ:FD:=bM 4 [0,1] Ot
abbrev Gz(Z:Zs):Prop:=Z.C "_law_scaled" 3 ["_law_pol", "_law_f"] 2 wZ
theorem zi1(B:Bs Z)(A:b0 Z "_law_scaled" Og)(c0:Gu Z):Gz Z :=
 have hB:=B.1; cc A ["_law_pol", "_law_f", "_law_found", "_law_powers"] λnd hr=>⟨_,(zr (zB pY)
 (zr (d4 (pX (eF ze)) zw (bO (zE (zo wA (zo zC ze zm) zm)) (si ze (zA 2 (zd (mH ze ze) (zd ze zk)))) dF))
 sC)),
 (aE (zF p4)
 (aE (d5 (pT (eG aa)) zv (zI (bP (zL wg (zJ zO aa zn) zn) (zI (sE hr aa aa (zz (ae (mJ hr aa aa) (ae aa zj))))) dG)))
 (zI (bp aa))))⟩
def Nm:MS:=(zD (zU 3 (af iw (cp (eK "Form" "beneath") (zi 1)) (af zZ (zi 2) (mC (.int 1)))))
  (zD (zU 4 (zR p8 (zf (cp (eK "Form" "beneath") (zi 0)) (zf (zi 3) zq))))
  (zD (zU 5 (af pH (zi 3) (zi 4)))
  (zD (zU 6 (af iw (af pH (cp (eK "Form" "beneath") (zi 0)) (zi 4)) (af zZ (zi 2) (mC (.int 0)))))
  (zD (zU 7 (vp (cq mG (dA (cp (eK "Form" "numbers") (zi 0)))) 2 [5] (eZ 2 (zX (zy 0) (zX (zy 1) fL))) iU (zi 0) (af iw (zi 1) (zi 2))))
  (zD (cW (cq mG (dA (cp (eK "Form" "numbers") (zi 1)))) (eZ 2 (zX (zy 8) (zX (zy 9) fL))) (jU 7 (zi 8) (af cQ (pL (zi 7) (zi 8) (mC (.int 0))) (af iw (zi 9) (zi 6)))))
  (bB (zR u7 (zf (zi 7) (zf (af iw (cp (eK "Form" "beneath") (zi 0)) (zi 5)) (zf (aY uy (zf (cp (eK "Form" "room") (zi 0)) (zf (cp (eK "Form" "room") (zi 1)) zq))) zq)))))))))))
def Bw:FD:=bM 10 [0,1,2] Nm
abbrev Nl(Z:Zs):Prop:=Z.C "form_sum" 4 ["one", "other", "f"] 3 Bw
theorem znZ(B:Bs Z)(A:b0 Z "form_sum" Nh)(c0:BC Z)(c1:Bk Z):Nl Z :=
 by obtain⟨hB,_,_,_,_,⟨bh,aj⟩⟩:=B; exact cc A ["one", "other", "f", "beneath", "factor", "first", "second", "sums", "product", "many"] λnd hr=>⟨_,(zr (zB (zo jv (eX (hW aj.xn aj.cl (aj.na _ (by decide))) ze) (zo zC ze zm)))
 (zr (zB (zA 2 (zd (eX (hW aj.xn aj.cl (aj.na _ (by decide))) ze) (zd ze zk))))
 (zr (zB (zo uV ze ze))
 (zr (zB (zo jv (zo uV (eX (hW aj.xn aj.cl (aj.na _ (by decide))) ze) ze) (zo zC ze zm)))
 (zr (zB (CO (sM (eF (eX (hW aj.xn aj.cl (aj.na _ (by decide))) ze))) (gE (zM zw (zM zw gF))) kH ze (zo jv ze ze)))
 (zr (d4 (sM (eF (eX (hW aj.xn aj.cl (aj.na _ (by decide))) ze))) (gE (zM zw (zM zw gF))) (si ze (zo du (AL ze ze zm) (zo jv ze ze))))
 (bN (zA 3 (zd ze (zd (zo jv (eX (hW aj.xn aj.cl (aj.na _ (by decide))) ze) ze) (zd (bf Fo (zd (eX (hW aj.xn aj.cl (aj.na _ (by decide))) ze) (zd (eX (hW aj.xn aj.cl (aj.na _ (by decide))) ze) zk))) zk))))))))))),
 (aE (zF (zK jw (hU _ rfl aa rfl) (zJ zO aa zn)))
 (aE (zF (zz (ae (hU _ rfl aa rfl) (ae aa zj))))
 (aE (zF (zK u3 aa aa))
 (aE (zF (zK jw (zK u3 (hU _ rfl aa rfl) aa) (zJ zO aa zn)))
 (aE (DH hr (sF (eG (hU _ rfl aa rfl))) (gG (bV zv (bV zv gH))) kN aa (zK jw aa aa))
 (aE (d5 (sF (eG (hU _ rfl aa rfl))) (gG (bV zv (bV zv gH))) (zI (sE hr aa aa (zK dz (AM hr aa aa zn ⟨rfl,rfl,rfl,rfl⟩) (zK jw aa aa)))))
 (zI (bp (zz (ae aa (ae (zK jw (hU _ rfl aa rfl) aa) (ae (bI (F7 rfl) PyProof.Rows.boot_max (ae (hU _ rfl aa rfl) (ae (hU _ rfl aa rfl) zj))) zj))))))))))))⟩
def O0:MS:=(bB (zR u7 (zf (uQ (af l9 (bY (zf (mC (.int 0)) zq)) (zi 1)) (af zZ (zi 0) (mC (.int 0)))) (zf (af zZ (zi 0) (mC (.int 1))) (zf (mC (.int 256)) zq)))))
def vf:FD:=bM 2 [0,1] O0
abbrev GH(Z:Zs):Prop:=Z.C "number_by_powers" 4 ["f", "many_letters"] 2 vf
theorem zfS(B:Bs Z)(A:b0 Z "number_by_powers" O4)(c0:Bk Z):GH Z :=
 by obtain⟨hB,_,⟨ji,cR⟩,_⟩:=B; exact cc A ["f", "many_letters"] λnd hr=>⟨_,(bN (zA 3 (zd (AG (zo uT (cw (zd zm zk)) ze) (zo zC ze zm)) (zd (zo zC ze zm) (zd zm zk))))),
 (zI (bp (zz (ae (AI hr (zK (uU _ rfl) (cx (ae zn zj)) aa) (zJ zO aa zn)) (ae (zJ zO aa zn) (ae (uL (v:=.int 256) rfl cR ⟨_,rfl⟩) zj))))))⟩
def OG:MS:=(zD (zU 2 kI)
  (zD (cW (cq mG (dA (cp (eK "Form" "numbers") (zi 0)))) (eZ 2 (zX (zy 3) (zX (zy 4) fL))) (cW (cq mG (dA (cp (eK "Form" "numbers") (zi 1)))) (eZ 2 (zX (zy 5) (zX (zy 6) fL))) (zD (zU 7 (zR BN (zf (zi 3) (zf (zi 5) zq))))
  (jU 2 (zi 7) (af cQ (pL (zi 2) (zi 7) (mC (.int 0))) (af iw (zi 4) (zi 6)))))))
  (bB (zR u7 (zf (zi 2) (zf (af iw (cp (eK "Form" "beneath") (zi 0)) (cp (eK "Form" "beneath") (zi 1))) (zf (aY uy (zf (cp (eK "Form" "room") (zi 0)) (zf (cp (eK "Form" "room") (zi 1)) zq))) zq)))))))
def sR:FD:=bM 8 [0,1] OG
abbrev GD(Z:Zs):Prop:=Z.C "times_by_powers" 4 ["one", "other"] 2 sR
theorem zgy(B:Bs Z)(A:b0 Z "times_by_powers" OM)(c0:N7 Z)(c1:Bk Z):GD Z :=
 by obtain⟨hB,_,_,_,_,⟨bh,aj⟩⟩:=B; exact cc A ["one", "other", "sums", "powers", "many", "others", "more", "both"] λnd hr=>⟨_,(zr (zB pY)
 (zr (d4 (sM (eF (eX (hW aj.xn aj.cl (aj.na _ (by decide))) ze))) (gE (zM zw (zM zw gF))) (d4 (sM (eF (eX (hW aj.xn aj.cl (aj.na _ (by decide))) ze))) (gE (zM zw (zM zw gF))) (zr (zB (zA 2 (zd ze (zd ze zk))))
 (si ze (zo du (AL ze ze zm) (zo jv ze ze))))))
 (bN (zA 3 (zd ze (zd (zo jv (eX (hW aj.xn aj.cl (aj.na _ (by decide))) ze) (eX (hW aj.xn aj.cl (aj.na _ (by decide))) ze)) (zd (bf Fo (zd (eX (hW aj.xn aj.cl (aj.na _ (by decide))) ze) (zd (eX (hW aj.xn aj.cl (aj.na _ (by decide))) ze) zk))) zk))))))),
 (aE (zF p4)
 (aE (d5 (sF (eG (hU _ rfl aa rfl))) (gG (bV zv (bV zv gH))) (zI (d5 (sF (eG (hU _ rfl aa rfl))) (gG (bV zv (bV zv gH))) (aE (zF (zz (ae aa (ae aa zj))))
 (zI (sE hr aa aa (zK dz (AM hr aa aa zn ⟨rfl,rfl,rfl,rfl⟩) (zK jw aa aa))))))))
 (zI (bp (zz (ae aa (ae (zK jw (hU _ rfl aa rfl) (hU _ rfl aa rfl)) (ae (bI (F7 rfl) PyProof.Rows.boot_max (ae (hU _ rfl aa rfl) (ae (hU _ rfl aa rfl) zj))) zj))))))))⟩
def Nv:MS:=(zD (zU 4 (fK zq))
  (zD (cW (mw (zf (aY (f1 cT) (zf (zi 1) zq)) zq)) (zy 5) (br (vX (mB (af (bL false) (af ba (zi 2) (zi 5)) (af ba (zi 2) (zi 3)))) (mS (mB (af (bL false) (zi 5) (zi 3))) (mB (af (bL false) (zR zu (zf (zi 0) (zf (mC (.int 3)) zq))) (mC (.int 0)))))) (cN (cJ 4 (bY (zf (zR BG (zf (zi 0) zq)) (zf (zi 5) zq))))) cO))
  (bB (bY (zf (mC (.str "mix")) (zf (aY (f1 kJ) (zf (zi 4) zq)) zq))))))
def Br:FD:=bM 6 [0,1,2,3] Nv
abbrev Nu(Z:Zs):Prop:=Z.C "_law_mix" 4 ["_law_box_here", "_law_nodes_here", "_law_high_here", "_law_last"] 4 Br
theorem zmA(B:Bs Z)(A:b0 Z "_law_mix" NF)(c0:p9 Z)(c1:Ou Z):Nu Z :=
 have hB:=B.1; cc A ["_law_box_here", "_law_nodes_here", "_law_high_here", "_law_last", "_law_pairs", "_law_n"] λnd hr=>⟨_,(zr (zB (gJ zk))
 (zr (d4 (sH (zd (bf dP (zd ze zk)) zk)) zw (bO (Kq (zE (zo dE (zo zN ze ze) (zo zN ze ze))) (rR (zE (zo dE ze ze)) (zE (zo dE (zA 2 (zd ze (zd zm zk))) zm)))) (dY (d0 (cw (zd (zA 1 (zd ze zk)) (zd ze zk))))) dF))
 (bN (cw (zd cK (zd (bf pS (zd ze zk)) zk)))))),
 (aE (zF (gK zj))
 (aE (d5 (sO (ae (bI dQ Å (ae aa zj)) zj)) zv (zI (bP (nv (Kv (zL dH (zJ bq aa aa) (zJ bq aa aa)) (Lj (nv (rT (zL dH aa aa) (rX (zL dH (zz (ae aa (ae zn zj))) zn))))))) (zI (dZ (dD _ rfl Â À Á zS aa (ae (cx (ae (zz (ae aa zj)) (ae aa zj))) zj)))) dG)))
 (zI (bp (cx (ae cL (ae (iq p6 Ð (ae aa zj)) zj)))))))⟩
def OF:MS:=(zD (zU 1 (aY (f1 cT) (zf (af zZ (zi 0) (mC (.int 0))) zq)))
  (zD (zU 2 (fK zq))
  (zD (cW (cq jo (af zZ (zi 0) (mC (.int 1)))) (zy 3) (br (mB (af (bL false) (af zZ (zi 3) (mC (.int 0))) (mC (.str "letter")))) (cN (cJ 2 (dA (zR BO (zf (zi 1) (zf (af zZ (zi 3) (mC (.int 1))) zq)))))) (br (mB (af (bL false) (af zZ (zi 3) (mC (.int 0))) (mC (.str "times")))) (cN (cJ 2 (dA (zR w6 (zf (af ba (zi 2) (af zZ (zi 3) (mC (.int 1)))) (zf (af ba (zi 2) (af zZ (zi 3) (mC (.int 2)))) zq)))))) (zD (zU 4 kI)
  (zD (cW (cq jo (af zZ (zi 3) (mC (.int 1)))) (eZ 2 (zX (zy 5) (zX (zy 6) fL))) (zU 4 (zR xb (zf (zi 4) (zf (zR wZ (zf (af ba (zi 2) (zi 6)) (zf (zi 5) zq))) (zf (mC (.int 1)) zq))))))
  (cN (cJ 2 (dA (zi 4)))))))))
  (jV [0] 2))))
def BE:FD:=bM 7 [0] OF
abbrev OE(Z:Zs):Prop:=Z.C "_law_net_polys" 4 ["_law_net_here"] 1 BE
theorem zgz(B:Bs Z)(A:b0 Z "_law_net_polys" OJ)(c0:GJ Z)(c1:GF Z)(c2:OV Z)(c3:Gz Z):OE Z :=
 have hB:=B.1; cc A ["_law_net_here", "_law_many", "_law_found", "_law_node", "_law_total", "_law_f", "_law_part"] λnd hr=>⟨_,(zr (zB (bf dP (zd (zo zC ze zm) zk)))
 (zr (zB (gJ zk))
 (zr (d4 (nR (zo zC ze zm)) zw (bO (zE (zo dE (zo zC ze zm) cK)) (dY (d0 (eF (zA 2 (zd ze (zd (zo zC ze zm) zk)))))) (bO (zE (zo dE (zo zC ze zm) cK)) (dY (d0 (eF (zA 2 (zd (zo zN ze (zo zC ze zm)) (zd (zo zN ze (zo zC ze zm)) zk)))))) (zr (zB pY)
 (zr (d4 (nR (zo zC ze zm)) (gE (zM zw (zM zw gF))) (zB (zA 3 (zd ze (zd (zA 2 (zd (zo zN ze ze) (zd ze zk))) (zd zm zk))))))
 (dY (d0 (eF ze))))))))
 sC))),
 (aE (zF (bI dQ Å (ae (zJ zO aa zn) zj)))
 (aE (zF (gK zj))
 (aE (d5 (nU (zJ zO aa zn)) zv (zI (bP (zL dH (zJ zO aa zn) cL) (zI (dZ (dD _ rfl Â À Á zS aa (ae (eG (zz (ae aa (ae (zJ zO aa zn) zj)))) zj)))) (zI (bP (zL dH (zJ zO aa zn) cL) (zI (dZ (dD _ rfl Â À Á zS aa (ae (eG (zz (ae (zJ bq aa (zJ zO aa zn)) (ae (zJ bq aa (zJ zO aa zn)) zj)))) zj)))) (aE (zF p4)
 (aE (d5 (nU (zJ zO aa zn)) (gG (bV zv (bV zv gH))) (zI (zF (zz (ae aa (ae (zz (ae (zJ bq aa aa) (ae aa zj))) (ae zn zj)))))))
 (zI (dZ (dD _ rfl Â À Á zS aa (ae (eG aa) zj)))))))))))
 (zI (bp aa)))))⟩
def Oq:MS:=(zD (zU 3 (fK zq))
  (zD (cW (Ac (zf (af zZ (zi 0) (mC (.int 1))) zq)) (eZ 2 (zX (zy 4) (zX (zy 5) fL))) (zD (zU 6 kI)
  (zD (br (mB (af (bL false) (zi 4) (zi 2))) (zU 6 (zR xa (zf (aY (f1 cT) (zf (af zZ (zi 0) (mC (.int 0))) zq)) (zf (bY (zf (mC (.int 1)) (zf (mC (.int 1)) zq))) zq)))) (br (mB (af (bL false) (af zZ (zi 5) (mC (.int 0))) (mC (.str "times")))) (zU 6 (zR w6 (zf (af ba (zi 3) (af zZ (zi 5) (mC (.int 1)))) (zf (af ba (zi 1) (af zZ (zi 5) (mC (.int 2)))) zq)))) (br (mB (af (bL false) (af zZ (zi 5) (mC (.int 0))) (mC (.str "mix")))) (cW (cq jo (af zZ (zi 5) (mC (.int 1)))) (eZ 2 (zX (zy 7) (zX (zy 8) fL))) (zU 6 (zR xb (zf (zi 6) (zf (zR wZ (zf (af ba (zi 3) (zi 8)) (zf (zi 7) zq))) (zf (mC (.int 1)) zq)))))) cO)))
  (cN (cJ 3 (dA (zi 6)))))))
  (jV [0,1,2] 3)))
def BF:FD:=bM 9 [0,1,2] Oq
abbrev Oo(Z:Zs):Prop:=Z.C "_law_shares" 4 ["_law_net_here", "_law_polys", "_law_v"] 3 BF
theorem zi4(B:Bs Z)(A:b0 Z "_law_shares" Of)(c0:GJ Z)(c1:GF Z)(c2:GC Z)(c3:Gz Z):Oo Z :=
 have hB:=B.1; cc A ["_law_net_here", "_law_polys", "_law_v", "_law_found", "_law_u", "_law_node", "_law_total", "_law_f", "_law_part"] λnd hr=>⟨_,(zr (zB (gJ zk))
 (zr (d4 (Vw (zd (zo zC ze zm) zk)) (gE (zM zw (zM zw gF))) (zr (zB pY)
 (zr (pM (bO (zE (zo dE ze ze)) (zB (zA 2 (zd (bf dP (zd (zo zC ze zm) zk)) (zd (cw (zd zm (zd zm zk))) zk)))) (bO (zE (zo dE (zo zC ze zm) cK)) (zB (zA 2 (zd (zo zN ze (zo zC ze zm)) (zd (zo zN ze (zo zC ze zm)) zk)))) (bO (zE (zo dE (zo zC ze zm) cK)) (d4 (nR (zo zC ze zm)) (gE (zM zw (zM zw gF))) (zB (zA 3 (zd ze (zd (zA 2 (zd (zo zN ze ze) (zd ze zk))) (zd zm zk)))))) dF))))
 (dY (d0 (eF ze))))))
 sC)),
 (aE (zF (gK zj))
 (aE (d5 (VD (ae (zJ zO aa zn) zj)) (gG (bV zv (bV zv gH))) (aE (zF p4)
 (aE (pN (bP (zL dH aa aa) (zI (zF (zz (ae (bI dQ Å (ae (zJ zO aa zn) zj)) (ae (cx (ae zn (ae zn zj))) zj))))) (zI (bP (zL dH (zJ zO aa zn) cL) (zI (zF (zz (ae (zJ bq aa (zJ zO aa zn)) (ae (zJ bq aa (zJ zO aa zn)) zj))))) (zI (bP (zL dH (zJ zO aa zn) cL) (zI (d5 (nU (zJ zO aa zn)) (gG (bV zv (bV zv gH))) (zI (zF (zz (ae aa (ae (zz (ae (zJ bq aa aa) (ae aa zj))) (ae zn zj)))))))) dG))))))
 (zI (dZ (dD _ rfl Â À Á zS aa (ae (eG aa) zj)))))))
 (zI (bp aa))))⟩
def Nk:MS:=(zD (zU 3 (zR vf (zf (mC (.tuple [.int 0,.int 1])) (zf (zi 2) zq))))
  (zD (cW (cq jo (zi 0)) (eZ 2 (zX (zy 4) (zX (zy 5) fL))) (zU 3 (zR Bw (zf (zi 3) (zf (af ba (zi 1) (zi 5)) (zf (zi 4) zq))))))
  (bB (zi 3))))
def wW:FD:=bM 6 [0,1,2] Nk
abbrev Ge(Z:Zs):Prop:=Z.C "mix_form" 5 ["pairs", "forms", "many_letters"] 3 wW
theorem zn0(B:Bs Z)(A:b0 Z "mix_form" Ng)(c0:Nl Z)(c1:GH Z):Ge Z :=
 by obtain⟨hB,_,_,⟨bW,cC,bR⟩,_⟩:=B; exact cc A ["pairs", "forms", "many_letters", "told", "f", "node"] λnd hr=>⟨_,(zr (zB (zA 2 (zd (Ex bR) (zd ze zk))))
 (zr (d4 (nR ze) (gE (zM zw (zM zw gF))) (zB (zA 3 (zd ze (zd (zo zN ze ze) (zd ze zk))))))
 (bN ze))),
 (aE (zF (zz (ae (uL (v:=.ref bW) rfl cC rfl) (ae aa zj))))
 (aE (d5 (nU aa) (gG (bV zv (bV zv gH))) (zI (zF (zz (ae aa (ae (zJ bq aa aa) (ae aa zj)))))))
 (zI (bp aa))))⟩
def N1:MS:=(zD (zU 5 (aY (f1 wq) (zf (zi 2) zq)))
  (zD (zU 6 (zR nY (zf (zi 5) zq)))
  (zD (cW (mw (zf (zi 3) zq)) (zy 7) (zD (zU 8 (zR zu (zf (zi 0) (zf (mC (.int 6)) zq))))
  (zD (br (mS (mB (af (bL false) (aY (f1 cT) (zf (zi 5) zq)) (mC (.int 0)))) (mB (af (bL false) (zi 8) (mC (.int 0))))) (zD (cN (cJ 5 (bY (zf (mC (.str "letter")) (zf (zR zu (zf (zi 0) (zf (zi 1) zq))) zq)))))
  (zD (cN (cJ 6 (mC (.int 1))))
  (λρ=>some (.ct ρ)))) cO)
  (zD (zU 9 (af ba (fK (zf (af kj (aY (f1 cT) (zf (zi 5) zq)) (mC (.int 1))) (zf (zR zu (zf (zi 0) (zf (aY (f1 cT) (zf (zi 5) zq)) zq))) zq))) (zR zu (zf (zi 0) (zf (mC (.int 2)) zq)))))
  (zD (zU 10 (zR zu (zf (zi 0) (zf (aY (f1 cT) (zf (zi 5) zq)) zq))))
  (br (mS (mB (af lM (zi 8) (mC (.int 3)))) (mB (af yj (af cQ (af ba (zi 6) (zi 9)) (af ba (zi 6) (zi 10))) (zi 4)))) (zD (cN (cJ 5 (zR Br (zf (zi 0) (zf (zi 5) (zf (zi 6) (zf (zi 9) zq)))))))
  (cN (cJ 6 (af ba (zi 6) (zi 9))))) (zD (cN (cJ 5 (bY (zf (mC (.str "times")) (zf (af ba (fK (zf (zi 9) (zf (zi 10) zq))) (aY (f1 uz) (zf (af lM (af ba (zi 6) (zi 9)) (af ba (zi 6) (zi 10))) zq))) (zf (af ba (fK (zf (zi 10) (zf (zi 9) zq))) (aY (f1 uz) (zf (af lM (af ba (zi 6) (zi 9)) (af ba (zi 6) (zi 10))) zq))) zq))))))
  (cN (cJ 6 (af cQ (af ba (zi 6) (zi 9)) (af ba (zi 6) (zi 10))))))))))))
  (bB (aY (f1 kJ) (zf (zi 5) zq))))))
def BA:FD:=bM 11 [0,1,2,3,4] N1
abbrev N0(Z:Zs):Prop:=Z.C "_law_nodes" 5 ["_law_box_here", "_law_many", "_law_nodes_here", "_law_most", "_law_deep"] 5 BA
theorem zjs(B:Bs Z)(A:b0 Z "_law_nodes" Oa)(c0:p9 Z)(c1:Nu Z)(c2:Bz Z):N0 Z :=
 have hB:=B.1; cc A ["_law_box_here", "_law_many", "_law_nodes_here", "_law_most", "_law_deep", "_law_found", "_law_high_here", "_law_k", "_law_word", "_law_i", "_law_j"] λnd hr=>⟨_,(zr (zB (bf Ld (zd ze zk)))
 (zr (zB (zA 1 (zd ze zk)))
 (zr (d4 (sH (zd ze zk)) zw (zr (zB (zA 2 (zd ze (zd zm zk))))
 (zr (bO (rR (zE (zo dE (bf dP (zd ze zk)) zm)) (zE (zo dE ze zm))) (zr (dY (d0 (cw (zd cK (zd (zA 2 (zd ze (zd ze zk))) zk)))))
 (zr (dY (d0 zm))
 Sh)) dF)
 (zr (zB (zo zN (gJ (zd (zo nS (bf dP (zd ze zk)) zm) (zd (zA 2 (zd ze (zd (bf dP (zd ze zk)) zk))) zk))) (zA 2 (zd ze (zd zm zk)))))
 (zr (zB (zA 2 (zd ze (zd (bf dP (zd ze zk)) zk))))
 (bO (rR (zE (zo nN ze zm)) (zE (zo D4 (zo du (zo zN ze ze) (zo zN ze ze)) ze))) (zr (dY (d0 (zA 4 (zd ze (zd ze (zd ze (zd ze zk)))))))
 (dY (d0 (zo zN ze ze)))) (zr (dY (d0 (cw (zd cK (zd (zo zN (gJ (zd ze (zd ze zk))) (bf EW (zd (zo nN (zo zN ze ze) (zo zN ze ze)) zk))) (zd (zo zN (gJ (zd ze (zd ze zk))) (bf EW (zd (zo nN (zo zN ze ze) (zo zN ze ze)) zk))) zk))))))
 (dY (d0 (zo du (zo zN ze ze) (zo zN ze ze)))))))))))
 (bN (bf pS (zd ze zk)))))),
 (aE (zF (iq L3 PyProof.Rows.boot_list (ae aa zj)))
 (aE (zF (zz (ae aa zj)))
 (aE (d5 (sO (ae aa zj)) zv (aE (zF (zz (ae aa (ae zn zj))))
 (aE (bP (nv (rT (zL dH (bI dQ Å (ae aa zj)) zn) (rX (zL dH aa zn)))) (aE (dZ (dD _ rfl Â À Á zS aa (ae (cx (ae cL (ae (zz (ae aa (ae aa zj))) zj))) zj)))
 (aE (dZ (dD _ rfl Â À Á zS aa (ae zn zj)))
 (zI znb))) dG)
 (aE (zF (zJ bq (gK (ae (zK nV (bI dQ Å (ae aa zj)) zn) (ae (zz (ae aa (ae (bI dQ Å (ae aa zj)) zj))) zj))) (zz (ae aa (ae zn zj)))))
 (aE (zF (zz (ae aa (ae (bI dQ Å (ae aa zj)) zj))))
 (zI (bP (nv (rT (zL nO aa zn) (rX (zL Ed (zK dz (zJ bq aa aa) (zJ bq aa aa)) aa)))) (aE (dZ (dD _ rfl Â À Á zS aa (ae (zz (ae aa (ae aa (ae aa (ae aa zj))))) zj)))
 (zI (dZ (dD _ rfl Â À Á zS aa (ae (zJ bq aa aa) zj))))) (aE (dZ (dD _ rfl Â À Á zS aa (ae (cx (ae cL (ae (zJ bq (gK (ae aa (ae aa zj))) (iq F6 Ă (ae (wa nO (zJ bq aa aa) (zJ bq aa aa)) zj))) (ae (zJ bq (gK (ae aa (ae aa zj))) (iq F6 Ă (ae (wa nO (zJ bq aa aa) (zJ bq aa aa)) zj))) zj)))) zj)))
 (zI (dZ (dD _ rfl Â À Á zS aa (ae (zK dz (zJ bq aa aa) (zJ bq aa aa)) zj))))))))))))
 (zI (bp (iq p6 Ð (ae aa zj)))))))⟩
def NZ:MS:=(zD (ub (zi 0) (eZ 3 (zX (zy 1) (zX (zy 2) (zX (zy 3) fL)))))
  (zD (zU 4 (fK zq))
  (zD (cW (cq jo (zi 2)) (zy 5) (br (mB (af (bL false) (af zZ (zi 5) (mC (.int 0))) (mC (.str "letter")))) (cN (cJ 4 (zR BP (zf (af zZ (zi 5) (mC (.int 1))) (zf (aY (f1 cT) (zf (zi 1) zq)) zq))))) (br (mB (af (bL false) (af zZ (zi 5) (mC (.int 0))) (mC (.str "mix")))) (cN (cJ 4 (zR wW (zf (af zZ (zi 5) (mC (.int 1))) (zf (zi 4) (zf (aY (f1 cT) (zf (zi 1) zq)) zq)))))) (cN (cJ 4 (zR sR (zf (af ba (zi 4) (af zZ (zi 5) (mC (.int 1)))) (zf (af ba (zi 4) (af zZ (zi 5) (mC (.int 2)))) zq))))))))
  (jV [0] 4))))
def By:FD:=bM 6 [0] NZ
abbrev NY(Z:Zs):Prop:=Z.C "node_forms" 6 ["net"] 1 By
theorem zk6(B:Bs Z)(A:b0 Z "node_forms" NU)(c0:O1 Z)(c1:GD Z)(c2:Ge Z):NY Z :=
 have hB:=B.1; cc A ["net", "letters", "nodes", "top", "told", "node"] λnd hr=>⟨_,(zr (Js ze (gE (zM zw (zM zw (zM zw gF)))))
 (zr (zB (gJ zk))
 (zr (d4 (nR ze) zw (bO (zE (zo dE (zo zC ze zm) cK)) (dY (d0 (zA 2 (zd (zo zC ze zm) (zd (bf dP (zd ze zk)) zk))))) (bO (zE (zo dE (zo zC ze zm) cK)) (dY (d0 (zA 3 (zd (zo zC ze zm) (zd ze (zd (bf dP (zd ze zk)) zk)))))) (dY (d0 (zA 2 (zd (zo zN ze (zo zC ze zm)) (zd (zo zN ze (zo zC ze zm)) zk))))))))
 sC))),
 (aE (wu aa (gG (bV zv (bV zv (bV zv gH)))))
 (aE (zF (gK zj))
 (aE (d5 (nU aa) zv (zI (bP (zL dH (zJ zO aa zn) cL) (zI (dZ (dD _ rfl Â À Á zS aa (ae (zz (ae (zJ zO aa zn) (ae (bI dQ Å (ae aa zj)) zj))) zj)))) (zI (bP (zL dH (zJ zO aa zn) cL) (zI (dZ (dD _ rfl Â À Á zS aa (ae (zz (ae (zJ zO aa zn) (ae aa (ae (bI dQ Å (ae aa zj)) zj)))) zj)))) (zI (dZ (dD _ rfl Â À Á zS aa (ae (zz (ae (zJ bq aa (zJ zO aa zn)) (ae (zJ bq aa (zJ zO aa zn)) zj))) zj)))))))))
 (zI (bp aa)))))⟩
def Nt:MS:=(zD (zU 4 (zR BA (zf (zi 0) (zf (aY (f1 cT) (zf (zi 1) zq)) (zf (bY zq) (zf (zR zu (zf (zi 0) (zf (af cQ (zi 2) (mC (.int 1))) zq))) (zf (zi 3) zq)))))))
  (bB (bY (zf (zi 1) (zf (zi 4) (zf (zR Bt (zf (zi 0) (zf (zi 4) (zf (zi 3) zq)))) zq))))))
def Bq:FD:=bM 5 [0,1,2,3] Nt
abbrev Nr(Z:Zs):Prop:=Z.C "_law_net" 6 ["_law_box_here", "_law_letters", "_law_most", "_law_deep"] 4 Bq
theorem zmB(B:Bs Z)(A:b0 Z "_law_net" NC)(c0:p9 Z)(c1:N0 Z)(c2:Ny Z):Nr Z :=
 have hB:=B.1; cc A ["_law_box_here", "_law_letters", "_law_most", "_law_deep", "_law_nodes_here"] λnd hr=>⟨_,(zr (zB (zA 5 (zd ze (zd (bf dP (zd ze zk)) (zd (cw zk) (zd (zA 2 (zd ze (zd (zo du ze zm) zk))) (zd ze zk)))))))
 (bN (cw (zd ze (zd ze (zd (zA 3 (zd ze (zd ze (zd ze zk)))) zk)))))),
 (aE (zF (zz (ae aa (ae (bI dQ Å (ae aa zj)) (ae (cx zj) (ae (zz (ae aa (ae (zK dz aa zn) zj))) (ae aa zj)))))))
 (zI (bp (cx (ae aa (ae aa (ae (zz (ae aa (ae aa (ae aa zj)))) zj)))))))⟩
def K1:MS:=(zD (ub (zi 0) (eZ 3 (zX (zy 3) (zX (zy 4) (zX (zy 5) fL)))))
  (zD (zU 6 (zR By (zf (zi 0) zq)))
  (zD (zU 7 (zR vf (zf (mC (.tuple [.int 0,.int 1])) (zf (aY (f1 cT) (zf (zi 3) zq)) zq))))
  (zD (zU 8 (af pz (af uh (fK (zf (zi 7) zq)) (zi 2)) (fK (zf (zR vf (zf (mC (.tuple [.int 1,.int 1])) (zf (aY (f1 cT) (zf (zi 3) zq)) zq))) zq))))
  (zD (cW (cq jo (oE vW (zi 4) (kC (af cQ (zi 2) (mC (.int 1)))) (kC (af cQ (zi 1) (mC (.int 1)))))) (zy 9) (br (mB (af (bL false) (af zZ (zi 9) (mC (.int 0))) (mC (.str "letter")))) (cN (cJ 8 (zi 7))) (br (mB (af (bL false) (af zZ (zi 9) (mC (.int 0))) (mC (.str "mix")))) (cN (cJ 8 (zR wW (zf (af zZ (zi 9) (mC (.int 1))) (zf (zi 8) (zf (aY (f1 cT) (zf (zi 3) zq)) zq)))))) (cN (cJ 8 (zR sR (zf (af ba (zi 8) (af zZ (zi 9) (mC (.int 1)))) (zf (af ba (zi 6) (af zZ (zi 9) (mC (.int 2)))) zq))))))))
  (bB (aY (f1 kJ) (zf (zR BH (zf (af ba (zi 8) (zi 1)) zq)) zq))))))))
def uR:FD:=bM 10 [0,1,2] K1
abbrev K0(Z:Zs):Prop:=Z.C "share" 7 ["net", "u", "v"] 3 uR
theorem UT(B:Bs Z)(A:b0 Z "share" K2)(c0:GH Z)(c1:GD Z)(c2:Ox Z)(c3:Ge Z)(c4:NY Z):K0 Z :=
 by obtain⟨hB,_,_,⟨bW,cC,bR⟩,⟨lV,lL,iJ⟩,_⟩:=B; exact cc A ["net", "u", "v", "letters", "nodes", "top", "forms", "nought", "shares", "node"] λnd hr=>⟨_,(zr (Js ze (gE (zM zw (zM zw (zM zw gF)))))
 (zr (zB (zA 1 (zd ze zk)))
 (zr (zB (zA 2 (zd (Ex bR) (zd (bf dP (zd ze zk)) zk))))
 (zr (zB (zo Es (zo SX (gJ (zd ze zk)) ze) (gJ (zd (zA 2 (zd (Ex iJ) (zd (bf dP (zd ze zk)) zk))) zk))))
 (zr (d4 (nR (t9 Kw ze (pW (zo du ze zm)) (pW (zo du ze zm)))) zw (bO (zE (zo dE (zo zC ze zm) cK)) (dY (d0 ze)) (bO (zE (zo dE (zo zC ze zm) cK)) (dY (d0 (zA 3 (zd (zo zC ze zm) (zd ze (zd (bf dP (zd ze zk)) zk)))))) (dY (d0 (zA 2 (zd (zo zN ze (zo zC ze zm)) (zd (zo zN ze (zo zC ze zm)) zk))))))))
 (bN (bf pS (zd (zA 1 (zd (zo zN ze ze) zk)) zk)))))))),
 (aE (wu aa (gG (bV zv (bV zv (bV zv gH)))))
 (aE (zF (zz (ae aa zj)))
 (aE (zF (zz (ae (uL (v:=.ref bW) rfl cC rfl) (ae (bI dQ Å (ae aa zj)) zj))))
 (aE (zF (zK EU (zK Ts (gK (ae aa zj)) aa) (gK (ae (zz (ae (uL (v:=.ref lV) rfl lL rfl) (ae (bI dQ Å (ae aa zj)) zj))) zj))))
 (aE (d5 (nU (uW Py aa (p5 (zK dz aa zn)) (p5 (zK dz aa zn)))) zv (zI (bP (zL dH (zJ zO aa zn) cL) (zI (dZ (dD _ rfl Â À Á zS aa (ae aa zj)))) (zI (bP (zL dH (zJ zO aa zn) cL) (zI (dZ (dD _ rfl Â À Á zS aa (ae (zz (ae (zJ zO aa zn) (ae aa (ae (bI dQ Å (ae aa zj)) zj)))) zj)))) (zI (dZ (dD _ rfl Â À Á zS aa (ae (zz (ae (zJ bq aa (zJ zO aa zn)) (ae (zJ bq aa (zJ zO aa zn)) zj))) zj)))))))))
 (zI (bp (iq p6 Ð (ae (zz (ae (zJ bq aa aa) zj)) zj)))))))))⟩
def Ji:MS:=(zD (zU 1 (zR wV (zf (zi 0) (zf (mC (.int 0)) zq))))
  (zD (zU 2 (zR BL (zf (zi 1) (zf (af ba (fK (zf (mC (.int 1)) (zf (mC (.int 1)) (zf (mC (.int 2)) (zf (mC (.int 2)) (zf (mC (.int 2)) (zf (mC (.int 3)) zq))))))) (zR zu (zf (zi 1) (zf (mC (.int 6)) zq)))) zq))))
  (zD (zU 3 (zR Bq (zf (zi 1) (zf (zi 2) (zf (mC (.int 9)) (zf (mC (.int 4)) zq))))))
  (zD (br (mB (af (bL false) (aY (f1 cT) (zf (af zZ (zi 3) (mC (.int 1))) zq)) (mC (.int 0)))) (bB (mC (.bool true))) cO)
  (zD (zU 4 (zR nY (zf (af zZ (zi 3) (mC (.int 1))) zq)))
  (zD (zU 5 (zR BE (zf (zi 3) zq)))
  (zD (zU 6 (fK zq))
  (zD (cW (mw (zf (af cQ (mC (.int 4)) (aY (f1 cT) (zf (oE pq (zi 0) (kC (mC (.int 1))) (kC (mC (.int 16)))) zq))) zq)) (zy 7) (zD (zU 1 (zR wV (zf (zi 0) (zf (af cQ (mC (.int 1)) (zi 7)) zq))))
  (zD (zU 8 (zR zu (zf (zi 1) (zf (aY (f1 cT) (zf (af zZ (zi 3) (mC (.int 1))) zq)) zq))))
  (zD (zU 9 (zR BI (zf (zi 3) (zf (zi 8) zq))))
  (zD (br (mB (af (bL false) (zR zu (zf (zi 1) (zf (mC (.int 2)) zq))) (mC (.int 0)))) (zU 9 (iB (mw (zf (aY (f1 cT) (zf (af zZ (zi 3) (mC (.int 1))) zq)) zq)) 1 [8,4] (zy 0) (mB (af Cs (af ba (zi 2) (zi 0)) (af ba (zi 2) (zi 1)))) (zi 0))) cO)
  (zD (zU 10 (af ba (zi 9) (zR zu (zf (zi 1) (zf (aY (f1 cT) (zf (zi 9) zq)) zq)))))
  (zD (zU 11 (zR uR (zf (zi 3) (zf (zi 8) (zf (zi 10) zq)))))
  (zD (zU 12 (af ba (zR BF (zf (zi 3) (zf (zi 5) (zf (zi 10) zq)))) (zi 8)))
  (zD (br (mS (rG (mB (zR BK (zf (zi 11) (zf (zi 12) zq))))) (mB (af (pA true) (zR uR (zf (zi 3) (zf (zi 8) (zf (zi 8) zq)))) (zR w9 (zf (zR xa (zf (aY (f1 cT) (zf (zi 2) zq)) (zf (bY (zf (mC (.int 1)) (zf (mC (.int 1)) zq))) zq))) zq))))) (bB (mC (.bool false))) cO)
  (zD (br (rG (mB (aY (f1 t7) (zf (iB (cq kD (dA (zi 12))) 1 [10,8,4] (zy 0) iU (af (bL false) (aY (f1 Dw) (zf (zi 0) zq)) (af kj (af ba (zi 3) (zi 2)) (af ba (zi 3) (zi 1))))) zq)))) (bB (mC (.bool false))) cO)
  (cN (cJ 6 (bY (zf (zi 8) (zf (zi 10) (zf (zi 11) zq))))))))))))))))
  (bB (aY (f1 t7) (zf (iB (cq yF (dA (zi 6))) 3 [3] (eZ 3 (zX (zy 0) (zX (zy 1) (zX (zy 2) fL)))) iU (af (pA false) (zR uR (zf (zi 3) (zf (zi 0) (zf (zi 1) zq)))) (zi 2))) zq)))))))))))
def uD:FD:=bM 13 [0] Ji
theorem SR{f:Qg}(B:Bs Z)(F:jR Z.K "law" "law" Jj f fd)(c0:K0 Z)(c1:NA Z)(c2:p9 Z)(c3:N3 Z)(c4:GC Z)(c5:GG Z)(c6:Bz Z)(c7:Nr Z)(c8:OE Z)(c9:Oo Z)(c10:Ol Z)(c11:OA Z):cD Z.P Z.w Z.K Z.mg Z.base iT 8 f fd ["_law_script"] (qH Z.K 1 uD):=
 have hB:=B.1; P0 F ["_law_script", "_law_box_here", "_law_letters", "_law_net_here", "_law_high_here", "_law_polys", "_law_asked", "_law_k", "_law_u", "_law_some", "_law_v", "_law_found", "_law_due"] λnd hr=>⟨_,(zr (zB (zA 2 (zd ze (zd zm zk))))
 (zr (zB (zA 2 (zd ze (zd (zo zN (gJ (zd zm (zd zm (zd zm (zd zm (zd zm (zd zm zk))))))) (zA 2 (zd ze (zd zm zk)))) zk))))
 (zr (zB (zA 4 (zd ze (zd ze (zd zm (zd zm zk))))))
 (zr (bO (zE (zo dE (bf dP (zd (zo zC ze zm) zk)) zm)) (bN ud) dF)
 (zr (zB (zA 1 (zd (zo zC ze zm) zk)))
 (zr (zB (zA 1 (zd ze zk)))
 (zr (zB (gJ zk))
 (zr (d4 (sH (zd (zo du zm (bf dP (zd (t9 AQ ze (pW zm) (pW zm)) zk))) zk)) zw (zr (zB (zA 2 (zd ze (zd (zo du zm ze) zk))))
 (zr (zB (zA 2 (zd ze (zd (bf dP (zd (zo zC ze zm) zk)) zk))))
 (zr (zB (zA 2 (zd ze (zd ze zk))))
 (zr (pM (bO (zE (zo dE (zA 2 (zd ze (zd zm zk))) zm)) (zB (ku (sH (zd (bf dP (zd (zo zC ze zm) zk)) zk)) zw (zE (zo Ju (zo zN ze ze) (zo zN ze ze))) ze)) dF))
 (zr (zB (zo zN ze (zA 2 (zd ze (zd (bf dP (zd ze zk)) zk)))))
 (zr (zB (zA 3 (zd ze (zd ze (zd ze zk)))))
 (zr (zB (zo zN (zA 3 (zd ze (zd ze (zd ze zk)))) ze))
 (zr (bO (rR (AB (rH (zA 2 (zd ze (zd ze zk))))) (zE (zo (Et true) (zA 3 (zd ze (zd ze (zd ze zk)))) (zA 1 (zd (zA 2 (zd (bf dP (zd ze zk)) (zd (cw (zd zm (zd zm zk))) zk))) zk))))) (bN ud) dF)
 (zr (bO (AB (rH (bf ED (zd (ku (pX (eF ze)) zw kH (zo dE (bf TK (zd ze zk)) (zo nS (zo zN ze ze) (zo zN ze ze)))) zk)))) (bN ud) dF)
 (dY (d0 (cw (zd ze (zd ze (zd ze zk))))))))))))))))
 (bN (bf ED (zd (ku (Vy (eF ze)) (gE (zM zw (zM zw (zM zw gF)))) kH (zo (Et false) (zA 3 (zd ze (zd ze (zd ze zk)))) ze)) zk))))))))))),
 (aE (zF (zz (ae aa (ae zn zj))))
 (aE (zF (zz (ae aa (ae (zJ bq (gK (ae zn (ae zn (ae zn (ae zn (ae zn (ae zn zj))))))) (zz (ae aa (ae zn zj)))) zj))))
 (aE (zF (zz (ae aa (ae aa (ae zn (ae zn zj))))))
 (aE (bP (zL dH (bI dQ Å (ae (zJ zO aa zn) zj)) zn) (zI (bp uf)) dG)
 (aE (zF (zz (ae (zJ zO aa zn) zj)))
 (aE (zF (zz (ae aa zj)))
 (aE (zF (gK zj))
 (aE (d5 (sO (ae (zK dz zn (bI dQ Å (ae (uW Ah aa (p5 zn) (p5 zn)) zj))) zj)) zv (aE (zF (zz (ae aa (ae (zK dz zn aa) zj))))
 (aE (zF (zz (ae aa (ae (bI dQ Å (ae (zJ zO aa zn) zj)) zj))))
 (aE (zF (zz (ae aa (ae aa zj))))
 (aE (pN (bP (zL dH (zz (ae aa (ae zn zj))) zn) (zI (D6 (sO (ae (bI dQ Å (ae (zJ zO aa zn) zj)) zj)) zv (Eu (zL JD (zJ bq aa aa) (zJ bq aa aa))) aa)) dG))
 (aE (zF (zJ bq aa (zz (ae aa (ae (bI dQ Å (ae aa zj)) zj)))))
 (aE (zF (zz (ae aa (ae aa (ae aa zj)))))
 (aE (zF (zJ bq (zz (ae aa (ae aa (ae aa zj)))) aa))
 (aE (bP (nv (rT (Ap (Ao (zz (ae aa (ae aa zj))))) (rX (zL (Kr _ rfl hr) (zz (ae aa (ae aa (ae aa zj)))) (zz (ae (zz (ae (bI dQ Å (ae aa zj)) (ae (cx (ae zn (ae zn zj))) zj))) zj)))))) (zI (bp uf)) dG)
 (aE (bP (Ap (Ao (bI (D5 _ rfl rfl) PyProof.Rows.boot_all (ae (pb (pT (eG aa)) zv kN (wa dH (bI (zAQ _ rfl rfl) PyProof.Rows.boot_sum (ae aa zj)) (zK nV (zJ bq aa aa) (zJ bq aa aa)))) zj)))) (zI (bp uf)) dG)
 (zI (dZ (dD _ rfl Â À Á zS aa (ae (cx (ae aa (ae aa (ae aa zj)))) zj))))))))))))))
 (zI (bp (bI (D5 _ rfl rfl) PyProof.Rows.boot_all (ae (pb (VG (eG aa)) (gG (bV zv (bV zv (bV zv gH)))) kN (wa (TN _ rfl hr) (zz (ae aa (ae aa (ae aa zj)))) aa)) zj))))))))))))⟩
end
end K34
set_option exponentiation.threshold 10000
open PySem L2
open Lean in
local macro_rules|`(tactic|simp![$ls,*])=>do
 let u<-("↓Xx ↓zBQ ↓ZM ↓Ur ↓Xw ↓ZL ↓zmr ↓zjZ ↓Xv ↓Uq ↓Xu ↓Xt ↓ZK ↓Xs ↓ZJ ↓zBR ↓Um ↓Xr ↓Xq ↓Xp ↓ZI ↓zms ↓ZZ ↓Us ↓Uo ~Ut ~ZY ~ZX ~Ul ~Xo ~zmt zBK zBL zBM zBN zBO zBP ↓Uw ↓Uv eL ↓zt ↓ir LD Jb ↓T8 ↓X6 LC ↓X5 ↓X4 ↓X3 ↓X2 ↓zoV Mw ↓X0 ↓T7 ↓XZ ↓zoW ↓zoX ↓XY ↓XX ↓XW ↓zlV ↓zoY ↓Z9 ↓zlX ↓T6 ↓T5 ↓zo0 ↓zo1 ↓zo3 ↓XU ↓XS ↓T2 ↓zjU ↓zo4 ↓XR ↓XQ ↓zlY ↓zo5 ↓zlZ ↓zo6 ↓T1 ↓XM ↓zmc ↓Yi ↓zmj ↓ZQ ↓Xa ↓AF ↓W7 ↓ZP bd Vc Y2 zoC zlQ NW zjQ ziF zlR zA7 zA8 Y1 ~zoD ~zoE ~zoF Vb Va U9 U8 zoG zBa zBb U7 Vt Vs zBd zBe zBf YY YX zoH YW Vr Vq zBl zBm zBn zBo Vp Vo Yb Ya zBp Vn Vm Vl zoI Uk Uj Ui Uh Ug Ue Ud Uc ~zoJ zlS zjS Ub Ua X9 zoK zBq zBr zBs zBt zBu zBv zBw zBx zBy zBz zoM zoN X8 X7 Ej T4 T3 zo2 TZ ~zl0 ~zl1 ~Ke ~TY rQ Ys Yr Mv TX TV TU Yq ZT LB jx ZS ZR Yw Yv zmg zjX Uy Ux Mu FV Xg Mt Ms ~W9 ~W8 XB XA Xz Xy ZO zmq ZN !List.getElem?_cons_zero !List.getElem?_cons_succ !List.set_cons_zero !List.set_cons_succ !List.cons_append !List.nil_append !List.length_cons !List.length_nil !List.replicate !Option.map_some !decide_eq_true_eq !List.mem_cons !List.not_mem_nil !true_or !or_true !or_false !false_or !if_true !if_false !ite_true !ite_false !true_and !and_true !and_false !false_and !Bool.not_true !Bool.not_false !Bool.false_eq_true !not_true !not_false_iff !Nat.zero_add !Nat.reduceAdd !Nat.reduceLeDiff !Nat.reduceEqDiff !Nat.reduceSub !Nat.reduceLT !List.map_cons !List.map_nil !List.getD_cons_zero !List.getD_cons_succ !List.drop_succ_cons !List.drop_zero !decide_true !decide_false !Bool.true_and !Bool.and_true !Bool.true_or !Bool.or_true !Bool.false_or !Bool.or_false !Bool.false_and !Bool.and_false !reduceCtorEq !List.length_map !List.length_append T9 zoL !String.reduceEq ↓!reduceIte !Int.reduceEq !Int.reduceNe !Int.reduceLT !Int.reduceLE !Int.reduceAdd !Int.reduceSub !Int.reduceNeg !Int.reduceToNat !Int.cast_ofNat_Int !implies_true !forall_const !Option.map_none".splitOn " ").toArray.mapM λx=>do
  let n:=(((x.replace "↓" "").replace "~" "").replace "!" "").toName
  let y:=mkIdent (if x.contains '!' then n else `L2++n)
  if x.startsWith "↓" then `(Parser.Tactic.simpLemma|↓$y:term) else if x.startsWith "~" then `(Parser.Tactic.simpLemma|nr $y) else `(Parser.Tactic.simpLemma|$y:term)
 `(tactic|simp (disch:=first|with_unfolding_all exact Uu rfl|omega | (simp only[List.length_cons,List.length_nil,List.length_map,List.length_append,List.length_take,List.length_drop,Nat.zero_add,Nat.reduceAdd]<;>omega) | fail) only[$ls,*,$u,*])
local macro_rules | `(tactic| simp!)=>`(tactic| simp![Option.map_none])
namespace K34
open PySem L2
abbrev bx(x y:Int):U:=.l [.int x,.int y]
theorem fe{x w:Int}{Q:U×Qa U->Prop}(hw:0 < w)(HH:w<=18446744073709551616)(k:∀ r x' y',0<=r->r < w->Q (.d (.int r),[bx x' y',.d (.int w)])):Wo (zu [bx x y,.d (.int w)]) Q:=by
 simp![zu,NQ];refine ju (λhx=>?_) (λhx=>?_)
 .simp![hx]
  exact k _ _ _ (ê _ (by omega)) (ï _ hw)
 .simp![hx]
  exact k _ _ _ (ê _ (by omega)) (ï _ hw)
theorem J4{k:Int}(h0:0<=k)(h:k < (ns.length:Int)):∃ v:Int,bS (ns.map PyData.int) k=some (.int v):=by
 have hk:k.toNat < ns.length:=by omega
 refine⟨ns[k.toNat],?_⟩;unfold bS dS;rw[if_pos h0,if_pos (by rw[List.length_map]; exact h),bd,List.getElem?_map,qo hk];rfl
theorem Jh{k:Int}{Q:U×Qa U->Prop}(h0:0<=k)(q:∀ x y,Q (bx x y,[.d (.list (ns.map .int)),.d (.int k)])):Wo (wV [.d (.list (ns.map .int)),.d (.int k)]) Q:=by
 simp![wV,NB,List.length_map];refine ju (λh1=>?_) (λh1=>?_)
 .obtain⟨v,hv⟩:=J4 h0 h1
  simp![hv];exact q _ _
 .simp![List.length_map]
  refine ju (λh2=>?_) (λh2=>?_)
  .have hm:=ï k h2
   have hm0:=ê k (show(ns.length:Int)≠0 by omega);obtain⟨v,hv⟩:=J4 hm0 hm;simp![hv];exact q _ _
  .simp!
   exact q _ _
theorem GI{x:Int}(hx:0<=x)(hy:0<=y):p8 [.d (.int x),.d (.int y)]=some (.d (.int (Int.gcd x y:Nat)),[.d (.int x),.d (.int y)]):=by
 refine dX ?_;simp![p8,OS];refine Mr (λk ρ=>∃ a b:Int,ρ=[some (.d (.int a)),some (.d (.int b))]/\0<=a/\0<=b/\b.toNat=k/\Int.gcd a b=Int.gcd x y) _ ⟨x,y,rfl,hx,hy,rfl,rfl⟩ ?_;rintro k _ ⟨a,b,rfl,ha,hb,hk,hg⟩;simp!
 by_cases hz:b=0
 .subst hz
  have e:a=((Int.gcd x y:Nat):Int):=by rw[<-hg,Int.gcd_zero_right]; omega
  subst e;simp![bne_self_eq_false]
 .have jb:(b != 0)=true:=by simp[hz]
  simp![jb];refine⟨(a % b).toNat,?_,_,_,rfl,by omega,ê _ hz,rfl,?_⟩
  .have:=ï a (show 0 < b by omega)
   have:=ê a hz;omega
  .rw[L5 a b ha (by omega)]
   exact hg
theorem EJ{a b:Nat}(h:a<=b)(hb:b.log2 < 9000):a.log2 < 9000:=by
 by_cases z:a=0
 .rw[z]; decide
 .exact Ä ((Nat.le_log2 (by omega)).mpr (qB (Nat.log2_self_le z) h)) hb
theorem BJ{n d:Int}(hd:d≠0)(hb:d.natAbs.log2 < 9000):sQ [.d (.int n),.d (.int d)]=some (.d (fR (Rat.divInt n d)),[.d (.int n),.d (.int d)]):=by
 have gl:Int.gcd n d<=d.natAbs:=Int.gcd_le_natAbs_right n hd;have gp:0 < Int.gcd n d:=ā n hd;have yh:=EJ gl hb;refine dX ?_;rw[<-J8 hd];unfold l5 ko;rw[<-LO n d (show(0:Int) < (Int.gcd n d:Nat) by omega),<-LO d d (show(0:Int) < (Int.gcd n d:Nat) by omega)];simp![sQ,OO];refine Mr (λk ρ=>∃ a b:Int,ρ=[some (.d (.int n)),some (.d (.int d)),some (.d (.int a)),some (.d (.int b))]/\0<=a/\0<=b/\b.toNat=k/\Int.gcd a b=Int.gcd n d) _ ⟨_,_,rfl,by split<;>omega,by split<;>omega,rfl,Yg n d⟩ ?_;rintro k _ ⟨a,b,rfl,ha,hb0,hk,hg⟩;simp!
 by_cases hz:b=0
 .subst hz
  have e:a=((Int.gcd n d:Nat):Int):=by rw[<-hg,Int.gcd_zero_right]; omega
  subst e;have c1:rV n ((Int.gcd n d:Nat):Int):=⟨by omega,by rw[Int.natAbs_natCast]; exact yh⟩;have c2:rV n (0 - ((Int.gcd n d:Nat):Int)):=⟨by omega,by rw[Int.zero_sub,Int.natAbs_neg,Int.natAbs_natCast]; exact yh⟩;simp!;refine ju (λh=>?_) (λh=>?_)
  .simp![h,uI (a:=n) c2,uI (a:=d) c2]
  .simp![h,uI (a:=n) c1,uI (a:=d) c1]
 .simp![hz]
  refine⟨(a % b).toNat,?_,_,_,rfl,by omega,ê _ hz,rfl,?_⟩
  .have:=ï a (show 0 < b by omega)
   have:=ê a hz;omega
  .rw[L5 a b ha (by omega)]
   exact hg
theorem ze8{n d:Int}(hd:d≠0)(hb:d.natAbs.log2 < 9000):Bx [.d (.int n),.d (.int d)]=some (.d (fR (Rat.divInt n d)),[.d (.int n),.d (.int d)]):=by
 have gl:Int.gcd n d<=d.natAbs:=Int.gcd_le_natAbs_right n hd;have gp:0 < Int.gcd n d:=ā n hd;have c1:∀ z:Int,uB z ((Int.gcd n d:Nat):Int):=λz=>⟨by omega,by rw[Int.natAbs_natCast]; exact EJ gl hb⟩;refine dX ?_;rw[<-J8 hd];unfold l5 ko;simp![Bx,Nd]
 by_cases h:d < 0
 .have cf:p8 [.d (.int (if -n < 0 then - -n else -n)),.d (.int (-d))]=some (.d (.int (Int.gcd n d:Nat)),[.d (.int (if -n < 0 then - -n else -n)),.d (.int (-d))]):=by
   rw[GI (by split<;>omega) (by omega),E2,Int.neg_gcd,Int.gcd_neg]
  simp![h,cf,Em (c1 _)]
 .have cf:p8 [.d (.int (if n < 0 then -n else n)),.d (.int d)]=some (.d (.int (Int.gcd n d:Nat)),[.d (.int (if n < 0 then -n else n)),.d (.int d)]):=by
   rw[GI (by split<;>omega) (by omega),E2]
  simp![h,cf,Em (c1 _)]
structure Sz (r:Rat):Prop where
 n:r.num.natAbs < 2^4000
 d:r.den < 2^4000
theorem Sz.di{r:Rat}(h:Sz r):(r.den:Int).natAbs < 2^4000:=by rw[Int.natAbs_natCast]; exact h.d
theorem lgd(h:n < 2^4000):n.log2 < 4000:=sP (by decide) h
theorem mT(h:n < 2^4000):n.log2 < 1000000:=Ô (lgd h) (by decide)
theorem J3{a b:Nat}(h:a < 2^4000)(h':b < 2^4000):(a * b).log2 < 9000:=by
 refine Ô (sP (k:=4000+4000) (by decide) ?_) (by decide);rw[Nat.pow_add];exact Nat.mul_lt_mul'' h h'
section
variable{a b:Rat}
theorem Nq(ha:Sz a)(hb:Sz b):w5 [.d (fR a),.d (fR b)]=some (.d (fR (a+b)),[.d (fR a),.d (fR b)]):=by
 refine dX ?_;have da:=lZ a;have db:=lZ b;have ID:((a.den:Int) * (b.den:Int))≠0:=Int.mul_ne_zero (by omega) (by omega);have lf:=BJ (n:=a.num * (b.den:Int)+b.num * (a.den:Int)) ID (by rw[Int.natAbs_mul,Int.natAbs_natCast,Int.natAbs_natCast]; exact J3 ha.d hb.d);rw[Wp]at lf;simp![w5,NP,jy (mT ha.n) (mT hb.di),jy (mT hb.n) (mT ha.di),jy (mT ha.di) (mT hb.di),lf]
theorem NX(ha:Sz a)(hb:Sz b):wY [.d (fR a),.d (fR b)]=some (.d (fR (a * b)),[.d (fR a),.d (fR b)]):=by
 refine dX ?_;have da:=lZ a;have db:=lZ b;have ID:((a.den:Int) * (b.den:Int))≠0:=Int.mul_ne_zero (by omega) (by omega);have lf:=BJ (n:=a.num * b.num) ID (by rw[Int.natAbs_mul,Int.natAbs_natCast,Int.natAbs_natCast]; exact J3 ha.d hb.d);rw[Wn]at lf;simp![wY,N2,jy (mT ha.n) (mT hb.n),jy (mT ha.di) (mT hb.di),lf]
end
end K34
open PySem L2
namespace K34
open PySem L2
abbrev vM:Str := "abcdefghijklmnopqrstuvwxyz"
theorem A4:∀ c∈vM.cps.toList,c < 128:=by decide
theorem A3:vM.length=26:=by decide
theorem US{z:Str}{n:Int}(h0:0<=n)(h1:n<=1):wm (.d (.str z)) (.d (.int n))=some (.d (.str (ue z n))):=by
 unfold wm;dsimp only;rw[if_pos ⟨h0,h1⟩]
theorem UR{k:Nat}{z:Str}{n:Int}(hz:bz k z)(h0:0<=n)(h1:n<=1):bz k (ue z n):=by
 rcases(by omega:n=0\/n=1)with rfl|rfl
 .exact⟨È _,λc hc=>by cases hc⟩
 .exact hz
theorem O6{zs:Qa Str}{lo hi:Qb Int}:∃ ws:Qa Str,fV (zs.map PyData.str) lo hi=ws.map PyData.str/\ws.length<=zs.length/\∀ z∈ws,z∈zs:=by
 refine⟨(zs.drop (HT.aP zs.length 0 lo)).take (HT.aP zs.length zs.length hi - HT.aP zs.length 0 lo),?_,?_,λz hz=>List.mem_of_mem_drop (List.mem_of_mem_take hz)⟩
 .unfold fV
  rw[List.length_map,<-List.map_drop,<-List.map_take]
 .rw[List.length_take,List.length_drop]
  omega
theorem Jg{neg:Bool}{zs:Qa Str}{Q:U->Prop}(k:∀ b,Q (.d (.bool b))):Wo (m6 neg (.d (.str x)) (.l (zs.map PyData.str))) Q:=by
 unfold m6;show Wo ((rB (.str x) (zs.map PyData.str)).bind _) Q;unfold rB;rw[FO];exact⟨_,rfl,k _⟩
theorem zBW{neg:Bool}{zs:Qa Str}{Q:U->Prop}(k:∀ b,Q (.d (.bool b))):Wo (m6 neg (.d (.str x)) (.d (.tuple (zs.map PyData.str)))) Q:=by
 unfold m6;show Wo ((rB (.str x) (zs.map PyData.str)).bind _) Q;unfold rB;rw[FO];exact⟨_,rfl,k _⟩
theorem UQ{x m:Int}{Q:U×Qa U->Prop}(h1:1<=m)(h3:m<=3)(k:∀ (ns:Qa Str) x' y',ns.length=m.toNat->(∀ z∈ns,bz 10 z)->Q (.d (.tuple (ns.map .str)),[bx x' y',.d (.int m)])):Wo (BL [bx x y,.d (.int m)]) Q:=by
 simp![BL,N4];refine fe (by decide) (by decide) λr1 x1 y1 a1 b1=>?_;simp!;refine LA (λi ρ ys=>∃ (x y:Int) (zs:Qa Str),ρ=[none,some (bx x y),some (.d (.str vM))]/\ys=zs.map PyData.str/\zs.length=i/\∀ z∈zs,bz 1 z) ?_ ⟨_,_,[],rfl,rfl,rfl,λz hz=>by cases hz⟩ ?_ ?_ ?_
 .rw[zl]; omega
 .rintro i ρ ys ⟨x,y,zs,rfl,rfl,hl,_⟩
  simp[hl]
 .rintro i _ _ hi ⟨x,y,zs,rfl,rfl,hl,hz⟩
  simp![Ke];refine fe (by decide) (by decide) λr2 x2 y2 a2 b2=>?_;simp!;refine AN a2 (by rw[A3]; omega) (by decide) λc hc=>?_;simp!;exact⟨x2,y2,zs++[⟨#[c]⟩],rfl,by rw[List.map_append]; rfl,by rw[qv,hl]; rfl,λz HD=>by
   rcases Í.mp HD with h|h
   .exact hz z h
   .cases qr.mp h
    exact bz.one (A4 c hc)⟩
 rintro _ _ ⟨x2,y2,sg,rfl,rfl,hl,hs⟩;simp!;refine fe (by omega) (by omega) λr3 x3 y3 a3 b3=>?_;simp!;refine fe (by decide) (by decide) λr4 x4 y4 a4 b4=>?_;simp!;refine Al (λi ρ=>∃ (x y:Int) (v7 v8 v9:Qb U) (zs:Qa Str),ρ=[some (bx x y),some (.d (.int m)),some (.d (.str vM)),some (.l (sg.map .str)),some (.d (.int r3)),some (.d (.int r4)),some (.l (zs.map PyData.str)),v7,v8,v9,none]/\zs.length=i/\∀ z∈zs,bz 10 z) ⟨x4,y4,none,none,none,[],rfl,rfl,λz hz=>by cases hz⟩ ?_ ?_
 .rintro i _ hi ⟨x,y,v7,v8,v9,zs,rfl,xS,hz⟩
  simp!;refine AN (ê _ (by decide)) (by rw[A3]; exact ï _ (by decide)) (by decide) λc hc=>?_;simp!;obtain⟨w1,e1,l1,m1⟩:=O6 (zs:=sg) (lo:=none) (hi:=some r3);rw[e1];refine Lz (n:=1) (m:=4) (λz hz=>hs z (m1 z hz)) (by omega) (by decide) λj1=>?_;simp!;refine wz j1 (bz.one (A4 c hc)) (by decide) λj2=>?_;simp!;obtain⟨w2,e2,l2,m2⟩:=O6 (zs:=sg) (lo:=some (r3+1)) (hi:=none);rw[e2];refine Lz (n:=1) (m:=4) (λz hz=>hs z (m2 z hz)) (by omega) (by decide) λj3=>?_;simp!;refine wz j2 j3 (by decide) λj4=>?_;simp!;refine fe (by decide) (by decide) λr5 x5 y5 a5 b5=>?_;simp![US];refine wz j4 (UR (show bz 1 "q" by unfold bz; decide) a5 (by omega)) (by decide) λj5=>?_;simp!;refine Jg λb=>?_;generalize Txt.join "" w1++{cps:=#[c]}++Txt.join "" w2++ue "q" r5=nm at *;have fin:∀ (nm:Str),bz 10 nm->∃ (x y:Int) (v7 v8 v9:Qb U) (ws:Qa Str),[some (bx x5 y5),some (.d (.int m)),some (.d (.str vM)),some (.l (sg.map .str)),some (.d (.int r3)),some (.d (.int r4)),some (.l (zs.map PyData.str++[.str nm])),some (.d (.int (0+(i:Nat)))),some (.d (.str ⟨#[c]⟩)),some (.d (.str nm)),none]=[some (bx x y),some (U.d (.int m)),some (.d (.str vM)),some (.l (sg.map .str)),some (.d (.int r3)),some (.d (.int r4)),some (.l (ws.map PyData.str)),v7,v8,v9,none]/\ws.length=i+1/\∀ z∈ws,bz 10 z:=λnm hn=>
   ⟨x5,y5,_,_,_,zs++[nm],by rw[List.map_append]; rfl,by rw[qv,xS]; rfl,λz HD=>by
    rcases Í.mp HD with h|h
    .exact hz z h
    .cases qr.mp h
     exact hn⟩
  cases b with
  | true=>
   simp!;refine AN (by omega) (by rw[A3]; omega) (by decide) λd hd=>?_;simp!;refine wz (show bz 2 "zz" by unfold bz; decide) (bz.one (A4 d hd)) (by decide) λj6=>?_;simp!;exact fin _ (j6.mono (by decide))
  | false=>
   simp!;refine zBW (zs:=["part", "end", "give", "rounds", "letters"]) λb=>?_;cases b with
   | true=>
    simp!;refine AN (by omega) (by rw[A3]; omega) (by decide) λd hd=>?_;simp!;refine wz (show bz 2 "zz" by unfold bz; decide) (bz.one (A4 d hd)) (by decide) λj6=>?_;simp!;exact fin _ (j6.mono (by decide))
   | false=>
    simp!;exact fin _ j5
 .rintro _ ⟨x,y,v7,v8,v9,zs,rfl,xS,hz⟩
  simp!;refine fe (by decide) (by decide) λr5 x5 y5 a5 b5=>?_;simp!;refine ju (λh5=>?_) (λh5=>?_)
  .simp!
   refine fe (by decide) (by decide) λr6 x6 y6 a6 b6=>?_;simp!;refine Ax (f:=PyData.str) (xs:=["ends", "pa", "gives", "giv", "x", "y", "r", "rk"]) a6 b6 λz mz _=>?_;have az:bz 10 z:=by
    have:∀ z∈(["ends", "pa", "gives", "giv", "x", "y", "r", "rk"]:Qa Str),bz 10 z:=by unfold bz; decide
    exact this z mz
   simp!;refine Jg λb=>?_;cases b with
   | false=>
    simp!;exact k zs _ _ xS hz
   | true=>
    simp!;refine fe (by omega) (by omega) λr7 x7 y7 a7 b7=>?_;have e7:dS zs.length r7=some r7.toNat:=by
     unfold dS;rw[if_pos a7,if_pos (by omega)]
    simp![e7];have es:(zs.map PyData.str).set r7.toNat (.str z)=(zs.set r7.toNat z).map PyData.str:=by rw[List.map_set]
    rw[es];refine k _ _ _ (by rw[List.length_set]; exact xS) λw hw=>?_;rcases List.mem_or_eq_of_mem_set hw with h|h
    .exact hz w h
    .exact h▸az
  .simp!
   exact k zs _ _ xS hz
theorem O5{d:Int}(h:1<=d)(h2:d<=1000000):d.natAbs.log2 < 9000:=Ô (sP (k:=30) (by decide) (by omega)) (by decide)
theorem lY{n d:Int}(hn:n.natAbs<=1000000)(h1:1<=d)(h4:d<=4):Bd 12 12000000 (Rat.divInt n d):=by
 have:d∣((12:Nat):Int):=by
  rcases(by omega:d=1\/d=2\/d=3\/d=4)with rfl|rfl|rfl|rfl<;>decide
 exact(Ss (M:=12) (by omega) this (by decide)).le (by omega)
theorem L1{x:Int}{Q:U×Qa U->Prop}(k:∀ r x' y',Bd 12 12000000 r->Q (.d (fR r),[bx x' y'])):Wo (w4 [bx x y]) Q:=by
 simp![w4,Oz];refine fe (by decide) (by decide) λr x1 y1 h0 h1=>?_;simp!;refine ju (λh7=>?_) (λh7=>?_)
 .simp!
  refine Kd h0 (by show r < 7; omega) λa ha=>?_;have hq:∃ q:Rat,a=fR q/\Bd 12 12000000 q:=by
   simp only[qx,List.not_mem_nil,or_false]at ha;rcases ha with rfl|rfl|rfl|rfl|rfl|rfl|rfl
   .exact⟨Rat.divInt 0 1,rfl,lY (by decide) (by decide) (by decide)⟩
   .exact⟨Rat.divInt 1 1,rfl,lY (by decide) (by decide) (by decide)⟩
   .exact⟨Rat.divInt 1 1,rfl,lY (by decide) (by decide) (by decide)⟩
   .exact⟨Rat.divInt (-1) 1,rfl,lY (by decide) (by decide) (by decide)⟩
   .exact⟨Rat.divInt 2 1,rfl,lY (by decide) (by decide) (by decide)⟩
   .exact⟨Rat.divInt 1 2,rfl,lY (by decide) (by decide) (by decide)⟩
   .exact⟨Rat.divInt (-2) 3,rfl,lY (by decide) (by decide) (by decide)⟩
  obtain⟨q,rfl,hq⟩:=hq;simp!;exact k q _ _ hq
 .simp!
  refine ju (λyg=>?_) (λyg=>?_)
  .simp!
   refine fe (by decide) (by decide) λr2 x2 y2 h2 h3=>?_;simp!;refine fe (by decide) (by decide) λr3 x3 y3 h4 h5=>?_;simp![BJ (n:=r2 - 9) (d:=1+r3) (by omega) (O5 (by omega) (by omega))];exact k _ _ _ (lY (by omega) (by omega) (by omega))
  .simp!
   refine fe (by decide) (by decide) λr2 x2 y2 h2 h3=>?_;simp!;refine fe (by decide) (by decide) λr3 x3 y3 h4 h5=>?_;simp![BJ (n:=r2 - 999999) (d:=1+r3) (by omega) (O5 (by omega) (by omega))];exact k _ _ _ (lY (by omega) (by omega) (by omega))
structure Fg (f:Rat):Prop where
 bd:Bd 12 12000000 f
 nz:f≠0
theorem zCs:Bd 12 12000000 (Rat.divInt 3 2):=lY (n:=3) (d:=2) (by decide) (by decide) (by decide)
theorem zCt:Rat.divInt 3 2≠0:=by decide +kernel
theorem f32:PyData.tuple [.int 3,.int 2]=fR (Rat.divInt 3 2):=rfl
theorem L0{x:Int}{Q:U×Qa U->Prop}(k:∀ f x' y',Fg f->Q (.d (fR f),[bx x' y'])):Wo (BG [bx x y]) Q:=by
 simp![BG,Ov];refine L1 λf x' y' h=>?_;simp!;refine ju (λc=>?_) (λc=>?_)
 .simp![c,f32]
  exact k _ _ _ ⟨zCs,zCt⟩
 .simp![c]
  exact k f _ _ ⟨h,λz=>c (by rw[z]; rfl)⟩
end K34
open PySem L2
namespace K34
open PySem L2
theorem Fg.n0(h:Fg f):f.num≠0:=λz=>h.nz (Rat.num_eq_zero.mp z)
abbrev aL(hs:Qa Int):U:=.l (hs.map .int)
theorem jS(h:i < hs.length):bS (hs.map PyData.int) (i:Int)=some (.int (hs.getD i 0)):=by
 unfold bS dS;rw[if_pos (by omega),if_pos (by rw[List.length_map]; omega),bd,Int.toNat_natCast,List.getElem?_map,qo h,qD,qo h];rfl
end K34
open PySem L2
namespace K34
open PySem L2
abbrev P2:=Rat×Nat
abbrev jZ(p:P2):D:=.tuple [fR p.1,.int (p.2:Int)]
inductive aJ where|lt (k:Nat) | mx (ps:Qa P2) | tm (i j:Nat)
def aJ.d:aJ->D
 | .lt k=>.tuple [.str "letter",.int (k:Int)]
 | .mx ps=>.tuple [.str "mix",.tuple (ps.map jZ)]
 | .tm i j=>.tuple [.str "times",.int (i:Int),.int (j:Int)]
def pF(n dp:Nat)(hs:Qa Int)(k:Int):aJ->Prop
 | .lt m=>m < n/\k=1
 | .mx ps=>ps≠[]/\ps.length<=20/\(∀ p∈ps,Fg p.1/\p.2 < hs.length/\hs.getD p.2 0=k)/\ps.Pairwise (λp q=>p.2 < q.2)
 | .tm i j=>i < hs.length/\j < hs.length/\hs.getD j 0<=hs.getD i 0/\k=hs.getD i 0+hs.getD j 0/\k<=(dp:Int)
end K34
open PySem L2
namespace K34
open PySem L2
structure GN (n dp:Nat) (ns:Qa aJ) (hs:Qa Int):Prop where
 ln:hs.length=ns.length
 ok:∀ i nod,ns[i]?=some nod->pF n dp (hs.take i) (hs.getD i 0) nod
theorem r9{xs:Qa α}{y z:α}(h:i < xs.length):(xs++[y]).getD i z=xs.getD i z:=by
 rw[qD,qD,List.getElem?_append_left h]
theorem uP{xs:Qa α}{y z:α}:(xs++[y]).getD xs.length z=y:=by
 rw[qD,List.getElem?_append_right (qg _),Nat.sub_self];rfl
theorem GN.snoc{ns:Qa aJ}{k:Int}{nod:aJ}(h:GN n dp ns hs)(hk:pF n dp hs k nod):GN n dp (ns++[nod]) (hs++[k]):=by
 refine⟨by rw[qv,qv,h.ln]; rfl,λi x hi=>?_⟩;rcases è i ns.length with c|c
 .rw[List.getElem?_append_left c]at hi
  rw[List.take_append_of_le_length (by rw[h.ln]; omega),r9 (by rw[h.ln]; exact c)];exact h.ok i x hi
 .have cM:=(qm.mp hi).1
  rw[qv,List.length_singleton]at cM;have e:i=ns.length:=by omega
  subst e;rw[List.getElem?_append_right (qg _),Nat.sub_self]at hi;cases hi;rw[<-h.ln,List.take_left,uP];exact hk
end K34
open PySem L2
namespace K34
open PySem L2
theorem MY(h:i < hs.length):(hs.take i).map PyData.int++[.int (hs.getD i 0)]=(hs.take (i+1)).map .int:=by
 rw[List.take_succ,qD,qo h,List.map_append];rfl
abbrev Ck:MS:=br (mB (af (bL false) (af zZ (zi 2) (mC (.int 0))) (mC (.str "letter")))) (cN (cJ 1 (mC (.int 1)))) (br (mB (af (bL false) (af zZ (zi 2) (mC (.int 0))) (mC (.str "mix")))) (cN (cJ 1 (af ba (zi 1) (af zZ (af zZ (af zZ (zi 2) (mC (.int 1))) (mC (.int 0))) (mC (.int 1)))))) (cN (cJ 1 (af cQ (af ba (zi 1) (af zZ (zi 2) (mC (.int 1)))) (af ba (zi 1) (af zZ (zi 2) (mC (.int 2))))))))
theorem J2{k:Int}{nod:aJ}{o0:Qb U}{Q:Fl->Prop}(hl:hs.length<=1000)(h:pF n dp hs k nod)(q:Q (.nx [o0,some (.l (hs.map .int++[.int k])),some (.d nod.d)])):Wo (Ck [o0,some (aL hs),some (.d nod.d)]) Q:=by
 cases nod with
 | lt m=>
  obtain⟨_,rfl⟩:=h;simp![Ck,aJ.d,List.length_map];exact q
 | mx ps=>
  obtain⟨h1,h2,h3,_⟩:=h
  match ps,h1,h3 with
  | p::ps,_,h3=>
   obtain⟨_,a,b⟩:=h3 p qq;simp![Ck,aJ.d,List.map_cons,jS a,b,List.length_map];exact q
 | tm i j=>
  obtain⟨h1,h2,_,rfl,_⟩:=h;simp![Ck,aJ.d,jS h1,jS h2,List.length_map];exact q
theorem UP{ns:Qa aJ}(hl:ns.length<=1000)(h:GN n dp ns hs):nY [.l (ns.map aJ.d)]=some (aL hs,[.l (ns.map aJ.d)]):=by
 refine dX ?_;have ln:=h.ln;simp![nY,Gv];rw[Sq rfl];refine Xe (λi ρ=>∃ o2,ρ=[some (.l (ns.map aJ.d)),some (aL (hs.take i)),o2]) ⟨none,rfl⟩ (λi ρ ⟨o2,e⟩=>by rw[e]; rfl) ?_ ?_
 .rintro i d _ hd ⟨o2,rfl⟩
  rw[List.getElem?_map]at hd;obtain⟨nod,en,rfl⟩:=qu.mp hd;have hi:=(qm.mp en).1;refine⟨_,rfl,J2 (by rw[List.length_take]; omega) (h.ok i nod en) ?_⟩;rw[MY (by omega)];exact⟨_,rfl⟩
 .rintro _ ⟨o2,rfl⟩
  rw[List.length_map,<-ln,List.take_length];simp!
theorem JL{ns:Qa aJ}(hl:ns.length<=1000)(h:GN n dp ns hs):nY [.d (.tuple (ns.map aJ.d))]=some (aL hs,[.d (.tuple (ns.map aJ.d))]):=by
 refine dX ?_;have ln:=h.ln;simp![nY,Gv];rw[So rfl];refine nW (λi ρ=>∃ o2,ρ=[some (.d (.tuple (ns.map aJ.d))),some (aL (hs.take i)),o2]) ⟨none,rfl⟩ ?_ ?_
 .rintro i d _ hd ⟨o2,rfl⟩
  rw[List.getElem?_map]at hd;obtain⟨nod,en,rfl⟩:=qu.mp hd;have hi:=(qm.mp en).1;refine⟨_,rfl,J2 (by rw[List.length_take]; omega) (h.ok i nod en) ?_⟩;rw[MY (by omega)];exact⟨_,rfl⟩
 .rintro _ ⟨o2,rfl⟩
  rw[List.length_map,<-ln,List.take_length];simp!
theorem Jf{x:Int}{ns:Qa aJ}{Q:U×Qa U->Prop}(hl:ns.length<=20)(hi:i < ns.length)(h:GN n dp ns hs)
  (k:∀ ps x' y',pF n dp hs (hs.getD i 0) (.mx ps)->Q (.d (aJ.mx ps).d,[bx x' y',.l (ns.map aJ.d),aL hs,.d (.int (i:Int))])):Wo (Br [bx x y,.l (ns.map aJ.d),aL hs,.d (.int (i:Int))]) Q:=by
 have ln:=h.ln;simp![Br,Nv,List.length_map];refine Al (λm ρ=>∃ (x y:Int) (ps:Qa P2) (o5:Qb U),ρ=[some (bx x y),some (.l (ns.map aJ.d)),some (aL hs),some (.d (.int (i:Int))),some (.l (ps.map jZ)),o5]/\ps.length<=m/\(i < m->ps≠[])/\(∀ p∈ps,Fg p.1/\p.2 < hs.length/\hs.getD p.2 0=hs.getD i 0)/\(∀ p∈ps,p.2 < m)/\ps.Pairwise (λp q=>p.2 < q.2)) ⟨_,_,[],_,rfl,qg _,λz=>absurd z (Ċ _),λp hp=>(by cases hp),λp hp=>(by cases hp),.nil⟩ ?_ ?_
 .rintro m _ hm ⟨x,y,ps,o5,rfl,h1,h2,h3,h4,h5⟩
  have Qu:m < hs.length:=by omega
  have skip:∀ {x y:Int} {o5:Qb U},m≠i->∃ (x' y':Int) (jD:Qa P2) (xw:Qb U),([some (bx x y),some (.l (ns.map aJ.d)),some (aL hs),some (.d (.int (i:Int))),some (.l (ps.map jZ)),o5]:En)=[some (bx x' y'),some (.l (ns.map aJ.d)),some (aL hs),some (.d (.int (i:Int))),some (.l (jD.map jZ)),xw]/\jD.length<=m+1/\(i < m+1->jD≠[])/\(∀ p∈jD,Fg p.1/\p.2 < hs.length/\hs.getD p.2 0=hs.getD i 0)/\(∀ p∈jD,p.2 < m+1)/\jD.Pairwise (λp q=>p.2 < q.2):=λ{x y o5} tL=>⟨x,y,ps,o5,rfl,by omega,λz=>h2 (by omega),h3,λp hp=>by have:=h4 p hp; omega,h5⟩;have put:∀ {f:Rat} {x y:Int} {o5:Qb U},Fg f->hs.getD m 0=hs.getD i 0->∃ (x' y':Int) (jD:Qa P2) (xw:Qb U),([some (bx x y),some (.l (ns.map aJ.d)),some (aL hs),some (.d (.int (i:Int))),some (.l (ps.map jZ++[jZ (f,m)])),o5]:En)=[some (bx x' y'),some (.l (ns.map aJ.d)),some (aL hs),some (.d (.int (i:Int))),some (.l (jD.map jZ)),xw]/\jD.length<=m+1/\(i < m+1->jD≠[])/\(∀ p∈jD,Fg p.1/\p.2 < hs.length/\hs.getD p.2 0=hs.getD i 0)/\(∀ p∈jD,p.2 < m+1)/\jD.Pairwise (λp q=>p.2 < q.2):=λ{f x y o5} hf he=>⟨x,y,ps++[(f,m)],o5,by rw[List.map_append]; rfl,by rw[qv,List.length_singleton]; omega,λ_=>by simp,λp hp=>by
    rcases Í.mp hp with z|z
    .exact h3 p z
    .rw[qr.mp z]; exact⟨hf,Qu,he⟩,λp hp=>by
    rcases Í.mp hp with z|z
    .have:=h4 p z; omega
    .rw[qr.mp z]; exact Ü m,List.pairwise_append.mpr ⟨h5,List.pairwise_singleton _ _,λp hp q hq=>by rw[qr.mp hq]; exact h4 p hp⟩⟩
  have am:=jS Qu;have ai:=jS (hs:=hs) (i:=i) (by omega)
  by_cases c:hs.getD m 0=hs.getD i 0
  .simp![Int.zero_add,am,ai,c]
   by_cases c2:(m:Int)=(i:Int)
   .simp![c2]
    refine L0 λf x2 y2 hf=>?_;simp!;have:=put (f:=f) (x:=x2) (y:=y2) (o5:=some (.d (.int (i:Int)))) hf c;rw[show jZ (f,m)=.tuple [fR f,.int (i:Int)] by rw[<-c2]]at this;exact this
   .simp![c2]
    refine fe (by decide) (by decide) λr x2 y2 r0 r1=>?_;simp!;refine ju (λc3=>?_) (λc3=>?_)
    .simp!
     refine L0 λf x3 y3 hf=>?_;simp!;exact put hf c
    .simp!
     exact skip (λz=>c2 (by rw[z]))
  .simp![Int.zero_add,am,ai,c]
   exact skip (λz=>c (by rw[z]))
 .rintro _ ⟨x,y,ps,o5,rfl,h1,h2,h3,h4,h5⟩
  simp!;refine k ps _ _ ⟨h2 (by omega),by omega,h3,h5⟩
end K34
open PySem L2
namespace K34
open PySem L2
theorem UO{a:Int}{z:D}(h:z∈[PyData.int a,.int b]):∃ c,z=.int c/\(c=a\/c=b):=by
 rcases qx.mp h with rfl|h
 .exact⟨a,rfl,.inl rfl⟩
 .rw[qr.mp h]; exact⟨b,rfl,.inr rfl⟩
theorem r8{x:Int}{N:Nat}{Q:U×Qa U->Prop}(hN:0 < N)(hM:N<=1000)(k:∀ (r:Nat) x' y',r < N->Q (.d (.int (r:Int)),[bx x' y',.d (.int (N:Int))])):Wo (zu [bx x y,.d (.int (N:Int))]) Q :=
 fe (by omega) (by omega) λr x' y' h0 h1=>by
  obtain⟨q,rfl⟩:=ø h0;exact k q x' y' (by omega)
theorem zCu{r N:Nat}(hN:0 < N)(h1:r < N)(hc:c=(N:Int) - 1\/c=(r:Int)):∃ p:Nat,c=(p:Int)/\p < N:=⟨c.toNat,by omega,by omega⟩
theorem GN.nil:GN n dp [] []:=⟨rfl,λi x h=>by simp at h⟩
theorem GN.hi{ns:Qa aJ}(d1:1<=dp)(h:GN n dp ns hs):∀ i,i < hs.length->1<=hs.getD i 0/\hs.getD i 0<=(dp:Int):=by
 intro i
 induction i using Nat.strongRecOn with
 | _ i ih=>
  intro hi;have ln:=h.ln;have ok:=h.ok i _ (qo (show i < ns.length by omega));have tk:∀ {j:Nat},j < (hs.take i).length->(hs.take i).getD j 0=hs.getD j 0/\j < i:=λ{j} hj=>by
   rw[List.length_take]at hj;refine⟨?_,by omega⟩;rw[qD,List.getElem?_take,if_pos (by omega),<-qD]
  generalize ns[i]'(by omega)=nod at ok;cases nod with
  | lt m=>
   obtain⟨_,e⟩:=ok;omega
  | mx ps=>
   obtain⟨h1,_,h3,_⟩:=ok
   match ps,h1,h3 with
   | p::ps,_,h3=>
    obtain⟨_,a,b⟩:=h3 p qq;obtain⟨e,l⟩:=tk a;have:=ih p.2 l (by omega);omega
  | tm a b=>
   obtain⟨h1,h2,_,h4,h5⟩:=ok;obtain⟨e1,l1⟩:=tk h1;obtain⟨e2,l2⟩:=tk h2;have:=ih a l1 (by omega);have:=ih b l2 (by omega);omega
theorem UN{x:Int}{most:Int}{Q:U×Qa U->Prop}(n1:1<=n)(n3:n<=3)(m0:0<=most)(m8:most<=9)(d1:1<=dp)
  (k:∀ ns hs x' y',GN n dp ns hs->ns.length<=9->Q (.d (.tuple (ns.map aJ.d)),[bx x' y',.d (.int (n:Int)),.d (.tuple []),.d (.int most),.d (.int (dp:Int))])):
  Wo (BA [bx x y,.d (.int (n:Int)),.d (.tuple []),.d (.int most),.d (.int (dp:Int))]) Q:=by
 have Qy:=UP (n:=n) (dp:=dp) (ns:=[]) (hs:=[]) (by simp) GN.nil;simp![BA,N1,show wq (.d (.tuple []))=some (.l []) from rfl,show nY [.l []]=some (aL [],[.l []]) from Qy];refine Al (λi ρ=>∃ (x y:Int) (ns:Qa aJ) (hs:Qa Int) (o7 o8 o9 o10:Qb U),ρ=[some (bx x y),some (.d (.int (n:Int))),some (.d (.tuple [])),some (.d (.int most)),some (.d (.int (dp:Int))),some (.l (ns.map aJ.d)),some (aL hs),o7,o8,o9,o10]/\GN n dp ns hs/\ns.length<=i) ⟨_,_,[],[],_,_,_,_,rfl,GN.nil,by simp⟩ ?_ ?_
 .rintro i _ hi ⟨x,y,ns,hs,o7,o8,o9,o10,rfl,hG,ll⟩
  have ln:=hG.ln;have lN:(List.map aJ.d ns).length=ns.length:=Î _;have fin:∀ {nod:aJ} {kk x y:Int} {o7 o8 o9 o10:Qb U},pF n dp hs kk nod->∃ (x' y':Int) (qK:Qa aJ) (gy:Qa Int) (Hl o8' o9' Hm:Qb U),([some (bx x y),some (.d (.int (n:Int))),some (.d (.tuple [])),some (.d (.int most)),some (.d (.int (dp:Int))),some (.l (ns.map aJ.d++[nod.d])),some (.l (hs.map .int++[.int kk])),o7,o8,o9,o10]:En)=[some (bx x' y'),some (.d (.int (n:Int))),some (.d (.tuple [])),some (.d (.int most)),some (.d (.int (dp:Int))),some (.l (qK.map aJ.d)),some (aL gy),Hl,o8',o9',Hm]/\GN n dp qK gy/\qK.length<=i+1:=λ{nod kk x y o7 o8 o9 o10} hk=>⟨x,y,ns++[nod],hs++[kk],o7,o8,o9,o10,by rw[List.map_append,aL,List.map_append]; rfl,hG.snoc hk,by rw[qv,List.length_singleton]; omega⟩;have lD:∀ {x y:Int} {o7 o8 o9 o10:Qb U} {q:Nat},q < n->_:=λ{x y o7 o8 o9 o10 q} hq=>fin (nod:=.lt q) (kk:=1) (x:=x) (y:=y) (o7:=o7) (o8:=o8) (o9:=o9) (o10:=o10) ⟨hq,rfl⟩;simp!;refine fe (by decide) (by decide) λw x1 y1 w0 w1=>?_
  by_cases l0:ns.length=0
  .have lz:((ns.length:Nat):Int)=0:=by omega
   simp![lN,lz];refine r8 n1 (by omega) λq x2 y2 hq=>?_;simp![List.length_map];exact lD hq
  have lz:¬((ns.length:Nat):Int)=0:=by omega
  simp![lN,lz];refine ju (λc=>?_) (λc=>?_)
  .simp!
   refine r8 n1 (by omega) λq x2 y2 hq=>?_;simp![List.length_map];exact lD hq
  .simp![lN]
   refine r8 (by omega) (by omega) λr5 x5 y5 h5=>?_;simp!;refine fe (by decide) (by decide) λr6 x6 y6 a6 b6=>?_;simp!;refine Kd a6 b6 λz hz=>?_;obtain⟨c',rfl,hc⟩:=UO hz;obtain⟨p,rfl,hp⟩:=zCu (by omega) h5 hc;simp![lN];refine r8 (by omega) (by omega) λq x7 y7 hq=>?_;have ap:=jS (hs:=hs) (i:=p) (by omega);have aq:=jS (hs:=hs) (i:=q) (by omega)
   by_cases c3:w < 3
   .simp![c3]
    refine Jf (by omega) hp hG λps x8 y8 hk=>?_;simp![ap,List.length_map];exact fin hk
   .simp![c3,ap,aq]
    refine ju (λc4=>?_) (λc4=>?_)
    .simp!
     refine Jf (by omega) hp hG λps x8 y8 hk=>?_;simp![ap,List.length_map];exact fin hk
    .by_cases c5:hs.getD p 0 < hs.getD q 0
     .simp![ap,aq,c5,List.length_map]
      exact fin (nod:=.tm q p) (kk:=hs.getD p 0+hs.getD q 0) ⟨by omega,by omega,by omega,by omega,by omega⟩
     .simp![ap,aq,c5,List.length_map]
      exact fin (nod:=.tm p q) (kk:=hs.getD p 0+hs.getD q 0) ⟨by omega,by omega,by omega,rfl,by omega⟩
 .rintro _ ⟨x,y,ns,hs,o7,o8,o9,o10,rfl,hG,ll⟩
  simp!;exact k ns hs _ _ hG (by omega)
end K34
open PySem L2
namespace K34
open PySem L2
def oD:Qb Nat->D
 | none=>.none
 | some m=>.int (m:Int)
def BW(r:Rat)(os:Qa (Qb Nat)):D:=.tuple [fR r,.tuple (os.map oD)]
theorem zBY{x:Int}{ns:Qa aJ}{Q:U×Qa U->Prop}(hl:ns.length<=12)(d6:dp<=6)(h:GN n dp ns hs)
  (k:∀ r os x' y',Bd 12 12000000 r->os.length<=dp->(∀ m,some m∈os->m < ns.length)->Q (.d (BW r os),[bx x' y',.d (.tuple (ns.map aJ.d)),.d (.int (dp:Int))])):Wo (Bt [bx x y,.d (.tuple (ns.map aJ.d)),.d (.int (dp:Int))]) Q:=by
 have ln:=h.ln;have lN:(List.map aJ.d ns).length=ns.length:=Î _;simp![Bt,Nz,JL (by omega) h];refine nW (λi ρ=>∃ (x y:Int) (os:Qa (Qb Nat)) (o5 o6 o7:Qb U),ρ=[some (bx x y),some (.d (.tuple (ns.map aJ.d))),some (.d (.int (dp:Int))),some (aL hs),some (.l (os.map oD)),o5,o6,o7]/\os.length=i/\∀ m,some m∈os->m < ns.length) ⟨_,_,[],_,_,_,rfl,rfl,λm hm=>by cases hm⟩ ?_ ?_
 .rintro i d _ hd ⟨x,y,os,o5,o6,o7,rfl,ho,hO⟩
  obtain⟨hi,rfl⟩:=FY hd;have fin:∀ {o:Qb Nat} {x y:Int} {o5 o6 o7:Qb U},(∀ m,o=some m->m < ns.length)->∃ (x' y':Int) (mQ:Qa (Qb Nat)) (xw o6' Hl:Qb U),([some (bx x y),some (.d (.tuple (ns.map aJ.d))),some (.d (.int (dp:Int))),some (aL hs),some (.l (os.map oD++[oD o])),o5,o6,o7]:En)=[some (bx x' y'),some (.d (.tuple (ns.map aJ.d))),some (.d (.int (dp:Int))),some (aL hs),some (.l (mQ.map oD)),xw,o6',Hl]/\mQ.length=i+1/\∀ m,some m∈mQ->m < ns.length:=λ{o x y o5 o6 o7} h1=>⟨x,y,os++[o],o5,o6,o7,by rw[List.map_append]; rfl,by rw[qv,ho]; rfl,λm hm=>by
   rcases Í.mp hm with z|z
   .exact hO m z
   .exact h1 m (qr.mp z).symm⟩
  have no:∀ {x y:Int} {o5 o6 o7:Qb U},_:=λ{x y o5 o6 o7}=>fin (o:=none) (x:=x) (y:=y) (o5:=o5) (o6:=o6) (o7:=o7) λm hm=>by cases hm
  simp![lN];refine LA (λm ρ ys=>∃ is:Qa Nat,ρ=[none,some (aL hs),some (.d (.int (1+(i:Int))))]/\ys=is.map (λm:Nat=>PyData.int (m:Int))/\is.length<=m/\∀ m∈is,m < ns.length) (by rw[rQ]; omega) ⟨[],rfl,rfl,qg _,λm hm=>by cases hm⟩ ?_ ?_ ?_
  .rintro m _ _ ⟨is,rfl,rfl,hl,_⟩
   rw[List.length_map]; exact hl
  .rintro m _ _ hm ⟨is,rfl,rfl,hl,hI⟩
   have am:=jS (hs:=hs) (i:=m) (by omega)
   by_cases c:hs.getD m 0=1+(i:Int)
   .simp![Int.zero_add,am,c]
    exact⟨is++[m],by rw[List.map_append]; rfl,by rw[qv,List.length_singleton]; omega,λj hj=>by
     rcases Í.mp hj with z|z
     .exact hI j z
     .rw[qr.mp z]; omega⟩
   .simp![Int.zero_add,am,c]
    exact⟨is,rfl,by omega,hI⟩
  .rintro _ _ ⟨is,rfl,rfl,hl,hI⟩
   have lI:(is.map (λm:Nat=>PyData.int (m:Int))).length=is.length:=Î _;simp!;refine fe (by decide) (by decide) λw x1 y1 w0 w1=>?_
   by_cases c:((is.length:Nat):Int)=0
   .simp![lI,c]
    exact no
   .simp![lI,c]
    refine ju (λc2=>?_) (λc2=>?_)
    .simp!
     exact no
    .simp!
     refine ju (λc3=>?_) (λc3=>?_)
     .have last:∃ m∈is,bS (is.map (λm:Nat=>PyData.int (m:Int))) (-1)=some (.int (m:Int)):=by
       have hp:is.length - 1 < is.length:=by omega
       refine⟨is[is.length - 1],ą hp,?_⟩;unfold bS dS;rw[if_neg (by decide)];rw[List.length_map,if_pos (by omega),bd,show(-1+(is.length:Int)).toNat=is.length - 1 by omega,List.getElem?_map,qo hp];rfl
      obtain⟨m,hm,em⟩:=last;simp![em];exact fin (o:=some m) λj hj=>by cases hj; exact hI m hm
     .simp![lI]
      refine r8 (by omega) (by omega) λq x2 y2 hq=>?_;simp!;refine Ax (f:=λm:Nat=>PyData.int (m:Int)) (xs:=is) (by omega) (by omega) λm hm _=>?_;simp!;exact fin (o:=some m) λj hj=>by cases hj; exact hI m hm
 .rintro _ ⟨x,y,os,o5,o6,o7,rfl,ho,hO⟩
  rw[Gg]at ho;simp!;refine L1 λf x1 y1 hf=>?_;simp!;refine fe (by decide) (by decide) λr x2 y2 r0 r1=>?_;have rm:0<=r * (dp:Int):=Č r0 (by omega);simp!;refine fe (by omega) (by omega) λr2 x3 y3 r3 r4=>?_;have ct:fV (os.map oD) none (some (r * (dp:Int)+r2))=(os.map oD).take (r * (dp:Int)+r2).toNat:=SE (by omega);simp![ct];rw[<-List.map_take];exact k f (os.take (r * (dp:Int)+r2).toNat) x3 y3 hf (by rw[List.length_take]; omega) λm hm=>hO m (List.mem_of_mem_take hm)
end K34
open PySem L2
namespace K34
open PySem L2
structure Net where
 ls:Qa Str
 ns:Qa aJ
 hs:Qa Int
 r:Rat
 os:Qa (Qb Nat)
def dW(_:Nat):Nat:=4
def Net.d(N:Net):D:=.tuple [.tuple (N.ls.map .str),.tuple (N.ns.map aJ.d),BW N.r N.os]
structure NO (N:Net):Prop where
 n1:1<=N.ls.length
 n3:N.ls.length<=3
 gn:GN N.ls.length (dW N.ls.length) N.ns N.hs
 nl:N.ns.length<=9
 rb:Bd 12 12000000 N.r
 ol:N.os.length<=dW N.ls.length
 oi:∀ m,some m∈N.os->m < N.ns.length
 ac:∀ z∈N.ls,bz 10 z
theorem fX:1<=dW n/\dW n<=4:=by
 unfold dW;omega
theorem zBZ{x:Int}{ls:Qa Str}{most:Int}{Q:U×Qa U->Prop}(n1:1<=ls.length)(n3:ls.length<=3)(ha:∀ z∈ls,bz 10 z)(m0:0<=most)(m8:most<=9)
  (k:∀ (N:Net) x' y',N.ls=ls->NO N->Q (.d N.d,[bx x' y',.d (.tuple (ls.map .str)),.d (.int most),.d (.int (dW ls.length:Int))])):
  Wo (Bq [bx x y,.d (.tuple (ls.map .str)),.d (.int most),.d (.int (dW ls.length:Int))]) Q:=by
 obtain⟨d1,d6⟩:=fX (n:=ls.length);simp![Bq,Nt,List.length_map];refine fe (by omega) (by omega) λr x1 y1 r0 r1=>?_;simp!;refine UN n1 n3 r0 (by omega) d1 λns hs x2 y2 hG hl=>?_;simp!;refine zBY (by omega) (by omega) hG λf os x3 y3 hf ho hO=>?_;simp!;exact k ⟨ls,ns,hs,f,os⟩ _ _ rfl ⟨n1,n3,hG,hl,hf,ho,hO,ha⟩
end K34
open PySem L2
namespace K34
open PySem L2
theorem pE{r:Rat}(h:Bd M B r)(hM:0 < M)(h1:M < 2^4000)(h2:B < 2^4000):Sz r:=by
 obtain⟨a,b⟩:=h.size hM;exact⟨Ä b h2,Ä a h1⟩
abbrev Aa(p:Pq Rat):U:=.d (.tuple (cV fR p))
abbrev dT(p:Pq Rat):U:=.d (.dict (cu fR p))
theorem EI{u:U}{a b:Qb α}:(if u.own=true/\u.own=false then a else b)=b:=if_neg λ⟨h,h'⟩=>by rw[h]at h'; cases h'
def Ln(n:Nat)(p:Pq α):Prop:=∀ t∈p,t.1.length=n
theorem Np{p q:Pq Rat}{u1 u2:U}{s:Int}(HJ:wG u1=some (.t (aW fR p)))(vB:u2.fz=some (.dict (cu fR q)))(hs:s=1\/s=-1)(np:aR p)(nq:aR q)(hp:PB M B p)(hq:PB M B q)(hM:0 < M)(h1:M < 2^4000)(h2:B+q.length * B < 2^4000)(l1:p.length < 64)(l2:q.length < 64):
  xb [u1,u2,.d (.int s)]=some (.t (aW fR (nz (aO p (gL s q)))),[u1,dT q,.d (.int s)]):=by
 refine dX ?_;have sp:gL s q=q.map λt=>(t.1,(s:Rat) * t.2):=rfl;simp![xb,ON,HJ,vB];refine jA (λbs cs ρ=>∃ o4 o5,ρ=[some u1,some (dT q),some (.d (.int s)),some (.t (aW fR (aO p (gL s bs)))),o4,o5,none]) ⟨_,_,rfl⟩ ?_ ?_
 .rintro bs t cs _ e ⟨o4,o5,rfl⟩
  have tq:t∈q:=by rw[e]; simp
  have lb:bs.length+1<=q.length:=by rw[e,qv,qw]; omega
  have gl:=pV (gL s bs) p;rw[show(gL s bs).length=bs.length from List.length_map ..]at gl;have gb:PB M (B+q.length * B) (aO p (gL s bs)):=λv hv=>(EB (gL s bs) hp (JU hs λw hw=>hq w (by rw[e]; exact Ò _ hw)) v hv).le (by
   rw[show(gL s bs).length=bs.length from List.length_map ..];have:=Æ B (show bs.length<=q.length by omega);omega)
  have s1:=pE (AJ gb t.1) hM h1 h2;have s2:Sz ((s:Rat) * t.2):=pE (JU hs hq (t.1,(s:Rat) * t.2) (Ã.mpr ⟨t,tq,rfl⟩)) hM h1 (by omega);simp![kS nq tq,Su hs,Nq s1 s2];rw[rL (by omega)];simp!;rw[show gL s (bs++[t])=gL s bs++[(t.1,(s:Rat) * t.2)] by unfold gL; rw[List.map_append]; rfl,Ba];exact⟨_,_,rfl⟩
 .rintro _ ⟨o4,o5,rfl⟩
  have gn:aR (aO p (gL s q)):=nP _ np;have gl:=pV (gL s q) p;rw[show(gL s q).length=q.length from List.length_map ..]at gl;generalize aO p (gL s q)=r at gn gl;simp!;refine jA (λbs cs ρ=>∃ o4,ρ=[some u1,some (dT q),some (.d (.int s)),some (dT r),o4,o5,some (.t (aW fR (nz bs)))]) ⟨_,rfl⟩ ?_ ?_
  .rintro bs t cs _ e ⟨o4,rfl⟩
   have tr:t∈r:=by rw[e]; simp
   have ln:(nz bs).length<=bs.length:=Ā _ _;have lb:bs.length+1<=r.length:=by rw[e,qv,qw]; omega
   simp![kS gn tr,JV];rw[KC]
   by_cases z:t.2=0
   .simp![z,ne_eq]
    exact⟨_,rfl⟩
   .simp![z,ne_eq,kS gn tr,rL (c:=fR) (p:=nz bs) (k:=t.1) (x:=t.2) (by omega)]
    rw[JT (cs:=cs) (by rw[<-e]; exact gn)];exact⟨_,rfl⟩
  .rintro _ ⟨o4,rfl⟩
   simp![EI]
theorem Nn{N C:Nat}{p q:Pq Rat}{u1 u2:U}{Q:U×Qa U->Prop}(HJ:u1.fz=some (.dict (cu fR p)))(vB:u2.fz=some (.dict (cu fR q)))(np:aR p)(nq:aR q)(hp:PB M B p)(hq:PB N C q)(lp:Ln n p)(lq:Ln n q)(ln:n < 64)(hM:0 < M)(hN:0 < N)(h1:M * N < 2^4000)(h2:M < 2^4000)(h3:N < 2^4000)(h4:B < 2^4000)(h5:C < 2^4000)(h6:p.length * q.length * (B * C) < 2^4000)(hBC:0 < B * C)
  (l1:p.length * q.length < 64) (lp6:p.length < 64) (lq6:q.length < 64) (kq:∀ PJ,PJ.fz=some (.dict (cu fR q))->Q (.t (aW fR (nz (aO [] (bj p q)))),[dT p,PJ])):Wo (w6 [u1,u2]) Q:=by
 have fin:∀ (o1 o3 o4 o5 o6:Qb U) (r:Pq Rat),aR r->r.length < 64->∀ (Q:Fl->Prop),(∀ o5,Q (.nx [some (dT p),o1,some (dT r),o3,o4,o5,o6,some (.t (aW fR (nz r)))]))->Wo (fZ (zy 5) (br (mB (af (bL true) (af zZ (ix (zi 2) (zi 5)) (mC (.int 0))) (mC (.int 0)))) (jU 7 (zi 5) (ix (zi 2) (zi 5))) cO) (r.map λt=>bg t.1) [some (dT p),o1,some (dT r),o3,o4,o5,o6,some (.t [])]) Q:=by
  intro o1 o3 o4 o5 o6 r gn gl Q hQ;refine jA (λbs cs ρ=>∃ o5,ρ=[some (dT p),o1,some (dT r),o3,o4,o5,o6,some (.t (aW fR (nz bs)))]) ⟨_,rfl⟩ ?_ ?_
  .rintro bs t cs _ e ⟨o5,rfl⟩
   have tr:t∈r:=by rw[e]; simp
   have ln:(nz bs).length<=bs.length:=Ā _ _;have lb:bs.length+1<=r.length:=by rw[e,qv,qw]; omega
   simp![kS gn tr,JV];rw[KC]
   by_cases z:t.2=0
   .simp![z,ne_eq]
    exact⟨_,rfl⟩
   .simp![z,ne_eq,kS gn tr,rL (c:=fR) (p:=nz bs) (k:=t.1) (x:=t.2) (by omega)]
    rw[JT (cs:=cs) (by rw[<-e]; exact gn)];exact⟨_,rfl⟩
  .rintro _ ⟨o5,rfl⟩
   exact hQ o5
 simp![w6,OH,HJ];refine jA (λbs cs ρ=>∃ (x:U) (o3 o4 o5 o6:Qb U),ρ=[some (dT p),some x,some (.t (aW fR (aO [] (bj bs q)))),o3,o4,o5,o6,none]/\(x=u2\/x=dT q)) ⟨u2,_,_,_,_,rfl,.inl rfl⟩ ?_ ?_
 .rintro bs s cs _ e ⟨x,o3,o4,o5,o6,rfl,vA⟩
  have hx:x.fz=some (.dict (cu fR q)):=by
   rcases vA with rfl|rfl
   .exact vB
   .rfl
  have sp:s∈p:=by rw[e]; simp
  have lbs:bs.length+1<=p.length:=by rw[e,qv,qw]; omega
  have lpm:(bj bs q).length+q.length<=p.length * q.length:=by
   rw[A9];have:=Æ q.length lbs;rw[Nat.add_mul,Nat.one_mul]at this;exact this
  simp![hx];refine jA (λds fs ρ=>∃ (o4 o5 o6:Qb U),ρ=[some (dT p),some (dT q),some (.t (aW fR (aO [] (bj bs q++ds.map λt=>(bA s.1 t.1,s.2 * t.2))))),some (.d (bg s.1)),o4,o5,o6,none]) ⟨_,_,_,by rw[List.map_nil,List.append_nil]⟩ ?_ ?_
  .rintro ds t fs _ e2 ⟨o4,o5,o6,rfl⟩
   have tq:t∈q:=by rw[e2]; simp
   have lds:ds.length+1<=q.length:=by rw[e2,qv,qw]; omega
   have hle:s.1.length=t.1.length:=by rw[lp s sp,lq t tq]
   have s1:=pE (hp s sp) hM h2 h4;have s2:=pE (hq t tq) hN h3 h5;have hb:PB (M * N) (B * C) (bj bs q++ds.map λt=>(bA s.1 t.1,s.2 * t.2)):=λv hv=>by
    rcases Í.mp hv with z|z
    .obtain⟨a,ha,b,hb,rfl⟩:=Fd z
     exact(hp a (by rw[e]; exact Ò _ ha)).mul (hq b hb)
    .obtain⟨b,hb,rfl⟩:=Ã.mp z
     exact(hp s sp).mul (hq b (by rw[e2]; exact Ò _ hb))
   have ll:(bj bs q++ds.map λt=>(bA s.1 t.1,s.2 * t.2)).length<=p.length * q.length:=by
    rw[qv,List.length_map];omega
   have gl:=pV (bj bs q++ds.map λt=>(bA s.1 t.1,s.2 * t.2)) [];rw[List.length_nil,Nat.zero_add]at gl;have gb:PB (M * N) (p.length * q.length * (B * C)) (aO [] (bj bs q++ds.map λt=>(bA s.1 t.1,s.2 * t.2))):=λv hv=>(EB _ (C:=0) PZ hb v hv).le (by
    have:=Æ (B * C) ll;omega)
   have s3:=pE (AJ gb (bA s.1 t.1)) (û hM hN) h1 h6;have s4:Sz (s.2 * t.2):=pE ((hp s sp).mul (hq t tq)) (û hM hN) h1 (by
    have h7:1 * (B * C)<=p.length * q.length * (B * C):=Æ _ (by
     have:1 * 1<=p.length * q.length:=ó (by omega) (by omega);omega)
    omega)
   simp![FV hle];refine pK (e:=λt=>.int (t.1+t.2)) (by rw[List.length_zip,lp s sp]; omega) (λt ht ys=>?_) ?_
   .simp!
   .rw[show((s.1.zip t.1).map λt=>PyData.int (t.1+t.2))=(bA s.1 t.1).map PyData.int by unfold bA; rw[List.map_zipWith,List.zip,List.map_zipWith]]
    simp![show PyData.tuple ((bA s.1 t.1).map PyData.int)=bg (bA s.1 t.1) from rfl,kS np sp,kS nq tq,NX s1 s2,Nq s3 s4];rw[rL (by omega)];simp!;rw[List.map_append,<-List.append_assoc,List.map_cons,List.map_nil,Ba];exact⟨_,_,_,rfl⟩
  .rintro _ ⟨o4,o5,o6,rfl⟩
   simp!;rw[Zy];exact⟨dT q,_,_,_,_,rfl,.inr rfl⟩
 .rintro _ ⟨x,o3,o4,o5,o6,rfl,hx⟩
  have gl:=pV (bj p q) [];rw[List.length_nil,A9]at gl;simp!;refine fin _ _ _ _ _ _ (nP _ nd0) (by omega) _ λo5=>?_;rcases hx with rfl|rfl
  .simp![EI]
   exact kq x vB
  .simp!
   exact kq (dT q) rfl
def nH:Nat->Nat->Qa (Qa Int)
 | 0,_=>[[]]
 | n+1,w=>(List.range (w+1)).flatMap λ(j:Nat)=>(nH n (w - j)).map λl=>(j:Int)::l
structure Ks (n w:Nat) (a:Qa Int):Prop where
 ln:a.length=n
 pos:∀ k∈a,0<=k
 sm:a.sum<=(w:Int)
theorem KZ:∀ {a:Qa Int},(∀ k∈a,0<=k)->0<=a.sum
 | [],_=>by decide
 | k::a,h=>by
  rw[List.sum_cons];have:=h k qq;have:=KZ λj hj=>h j (qp k hj);omega
theorem DC:∀ {n w:Nat} {a:Qa Int},Ks n w a->a∈nH n w
 | 0,_,[],_=>qr.mpr rfl
 | 0,_,_::_,h=>by have:=h.ln; simp at this
 | n+1,_,[],h=>by have:=h.ln; simp at this
 | n+1,w,k::a,h=>by
  have h1:=h.pos k qq;have h2:=KZ λj hj=>h.pos j (qp k hj);have h3:=h.sm;rw[List.sum_cons]at h3;refine List.mem_flatMap.mpr ⟨k.toNat,Ê.mpr (by omega),Ã.mpr ⟨a,DC ⟨Nat.succ.inj h.ln,λj hj=>h.pos j (qp k hj),by omega⟩,?_⟩⟩;rw[Int.toNat_of_nonneg h1]
theorem Ks.up{w w':Nat}{a:Qa Int}(h:Ks n w a)(c:w<=w'):Ks n w' a:=⟨h.ln,h.pos,by have:=h.sm; omega⟩
theorem FT:∀ {a b:Qa Int},a.length=b.length->(bA a b).sum=a.sum+b.sum
 | [],[],_=>rfl
 | [],_::_,h=>by simp at h
 | _::_,[],h=>by simp at h
 | x::a,y::b,h=>by
  show((x+y)::bA a b).sum=_;rw[List.sum_cons,List.sum_cons,List.sum_cons,FT (Nat.succ.inj h)];omega
theorem LZ:∀ {a b:Qa Int},(∀ k∈a,0<=k)->(∀ k∈b,0<=k)->∀ k∈bA a b,0<=k
 | [],_,_,_,k,hk=>by simp[bA]at hk
 | _::_,[],_,_,k,hk=>by simp[bA]at hk
 | x::a,y::b,h,h',k,hk=>by
  rcases qx.mp (show k∈(x+y)::bA a b from hk)with rfl|hk
  .have:=h x qq
   have:=h' y qq;omega
  .exact LZ (λj hj=>h j (qp _ hj)) (λj hj=>h' j (qp _ hj)) k hk
theorem Ks.add{w w':Nat}{a b:Qa Int}(h:Ks n w a)(h':Ks n w' b):Ks n (w+w') (bA a b):=by
 refine⟨?_,LZ h.pos h'.pos,?_⟩
 .unfold bA
  rw[List.length_zipWith,h.ln,h'.ln,Nat.min_self]
 .rw[FT (h.ln.trans h'.ln.symm)]
  have:=h.sm;have:=h'.sm;omega
theorem SQ:((nH 1 4).map λa=>hT (kL a)).Nodup:=by decide +kernel
theorem SN:((nH 2 4).map λa=>hT (kL a)).Nodup:=by decide +kernel
theorem zAa:((nH 3 4).map λa=>hT (kL a)).Nodup:=by decide +kernel
theorem JK{p:Pq Rat}(h1:1<=n)(h3:n<=3)(nd:aR p)(ky:∀ t∈p,Ks n (dW n) t.1):DQ p:=by
 have inj:∀ a∈nH n (dW n),∀ b∈nH n (dW n),hT (kL a)=hT (kL b)->a=b:=by
  rcases(by omega:n=1\/n=2\/n=3)with rfl|rfl|rfl
  .exact As SQ
  .exact As SN
  .exact As zAa
 unfold DQ sf;rw[Bool.and_eq_true_iff];constructor
 .rw[List.all_eq_true]
  intro ks hk;obtain⟨a,_,rfl⟩:=Ã.mp hk;rw[CQ,List.all_eq_true];intro k hk;obtain⟨i,_,rfl⟩:=Ã.mp hk;rfl
 .rw[decide_eq_true_iff,List.map_map]
  have mem:∀ a∈p.map (·.1),a∈nH n (dW n):=λa ha=>by
   obtain⟨t,ht,rfl⟩:=Ã.mp ha;exact DC (ky t ht)
  refine List.pairwise_map.mpr (List.Pairwise.imp_of_mem (λ{a b} ha hb (tL:a≠b)=>?_) nd);exact λe=>tL (inj a (mem a ha) b (mem b hb) e)
def zs(n:Nat):Qa Int:=List.replicate n 0
def iV(n k:Nat):Qa Int:=List.replicate k 0++[1]++List.replicate (n - k - 1) 0
def vS(n:Nat)(f:Rat):Pq Rat:=if f=0 then []else [(zs n,f)]
theorem wB(k:Nat):PyData.tuple (List.replicate k [PyData.int 0]).flatten=bg (List.replicate k 0):=by
 unfold bg;congr 1
 induction k with
 | zero=>rfl
 | succ k ih=>rw[List.replicate_succ,List.flatten_cons,List.replicate_succ,List.map_cons,<-ih]; rfl
theorem WE(r:Rat):decide (r.num=0)=decide (r=0):=decide_eq_decide.mpr Rat.num_eq_zero
theorem yB{k:Int}(h:k < 1000)(h2:-1000 < k):l9 (.d (bg [0])) (.d (.int k))=some (.d (bg (List.replicate k.toNat 0))):=by
 rw[<-wB];exact Mt (xs:=[.int 0]) (by decide) h h2 (by decide)
theorem WD{k:Nat}(hk:k < n):(iV n k).length=n:=by
 unfold iV;rw[qv,qv,List.length_replicate,List.length_replicate,List.length_singleton];omega
theorem zAb(n:Nat):(zs n).length=n:=List.length_replicate
theorem WC{k:Nat}:∀ j∈iV n k,0<=j/\j<=1:=λj hj=>by
 unfold iV at hj;rcases Í.mp hj with z|z
 .rcases Í.mp z with z|z
  .rw[List.eq_of_mem_replicate z]; omega
  .rw[qr.mp z]; omega
 .rw[List.eq_of_mem_replicate z]; omega
theorem zAc:∀ j∈zs n,j=0:=λj hj=>List.eq_of_mem_replicate hj
theorem P5{t:Qa Int×Rat}:aR [t]:=by unfold aR; simp
end K34
open PySem L2
namespace K34
open PySem L2
structure Fm where
 p:Pq Int
 b:Int
 r:Int
def cF(F:Fm):D:=jd F.p F.b F.r
def gP(p:Pq Int)(b r:Int):Fm:=if(p.filter λt=>!decide (t.2=0)).isEmpty=true then⟨[],1,256⟩else⟨p.filter λt=>!decide (t.2=0),b,r⟩
theorem MW{p:Pq α}(h:aR p)(f:Qa Int×α->Bool):aR (p.filter f):=h.sublist (List.filter_sublist.map _)
theorem zB0:nJ 1=1:=by decide
theorem WB(p:Pq α):(p.map λa=>(a.1,a.2))=p:=by simp
theorem Gd{p:Pq Int}{r:Int}{u:U}(hu:u.fz=some (.dict (cu .int p)))(nd:aR p)(hl:p.length < 1000)(b1:1<=b)(hb:nJ b<=r)(hg:b.natAbs.log2 < 9000):
  u7 [u,.d (.int b),.d (.int r)]=some (.d (cF (gP p b r)),[.d (.dict (cu .int p)),.d (.int b),.d (.int r)]):=by
 refine dX ?_;simp![u7,MZ,hu];rw[uH p];refine AF (c:=PyData.int) (b:=λt=>!decide (t.2=0)) (k:=(·.1)) (v:=(·.2)) (by omega) (λt ht ys=>?_) ?_
 .simp!
  by_cases h:t.2=0
  .simp![h]
  .simp![h,Ez]
 .rw[WB,JP (MW nd _)]
  simp!
  by_cases h:(p.filter λt=>!decide (t.2=0)).isEmpty=true
  .have e:gP p b r=⟨[],1,256⟩:=if_pos h
   have e2:(p.filter λt=>!decide (t.2=0))=[]:=by simpa using h
   rw[e];simp![h];rw[e2];refine nW (λi ρ=>i=0/\ρ=[some (U.d (.dict (cu .int p))),some (.d (.int b)),some (.d (.int r)),some (.d (.dict (cu .int ([]:Pq Int)))),some (.d (.int b)),none,none]) ⟨rfl,rfl⟩ (λi d ρ hd=>by cases hd) ?_;rintro _ ⟨_,rfl⟩;simp!;refine AF (c:=PyData.int) (b:=λt=>true) (k:=(·.1)) (v:=λt:Qa Int×Int=>t.2) (as:=[]) (by decide) (λt ht=>by cases ht) ?_;have e3:IC (List.map (λa:Qa Int×Int=>(a.1,a.2)) (List.filter (λ_=>true) []))=[]:=rfl;rw[e3];have d1:b.fdiv b=1:=Int.fdiv_self (by omega);have lg:∀ i:Int,i=1\/i=2->i.natAbs.log2 < 1000000:=by rintro i (rfl|rfl)<;>exact Ä (Nat.log2_le_self _) (by decide)
   simp![uI (a:=b) (b:=b) ⟨by omega,hg⟩,d1,zB0,jy (a:=2) (b:=1) (lg _ (.inr rfl)) (lg _ (.inl rfl))];rfl
  .have e:gP p b r=⟨p.filter λt=>!decide (t.2=0),b,r⟩:=if_neg h
   have h':(p.filter λt=>!decide (t.2=0)).isEmpty=false:=by simpa using h
   rw[e];simp![h',hb];rfl
theorem DB{t:Qa Int×Int}:aR [t]:=by unfold aR; simp
theorem GB(hn:n<=3)(hb:nJ (f.den:Int)<=256)(hg:f.den.log2 < 9000):vf [.d (fR f),.d (.int (n:Int))]=some (.d (cF (gP [(zs n,f.num)] f.den 256)),[.d (fR f),.d (.int (n:Int))]):=by
 refine dX ?_;have s:=Gd (u:=.t (aW .int [(zs n,f.num)])) (p:=[(zs n,f.num)]) (b:=f.den) (r:=256) jx DB (by show(1:Nat) < 1000; decide) (lZ f) hb (by rw[Int.natAbs_natCast]; exact hg);simp![vf,O0,wB,Int.toNat_natCast];rw[show [(kL (List.replicate n 0),PyData.int f.num)]=aW PyData.int [(zs n,f.num)] from rfl];simp![s]
theorem zi8{k:Nat}(hk:k < n)(hn:n<=3):BP [.d (.int (k:Int)),.d (.int (n:Int))]=some (.d (cF ⟨[(iV n k,1)],1,256⟩),[.d (.int (k:Int)),.d (.int (n:Int))]):=by
 refine dX ?_;have e:((n:Int) - (k:Int) - 1).toNat=n - k - 1:=by omega
 simp![BP,O2,wB,Int.toNat_natCast,e,JS,vT (a:=List.replicate k 0) (b:=[1]) (by rw[List.length_replicate]; show k+1<=1000; omega),vT (a:=List.replicate k 0++[1]) (b:=List.replicate (n - k - 1) 0) (by rw[qv,List.length_replicate,List.length_replicate]; show k+1+_<=1000; omega),yB (k:=(k:Int)) (by omega) (by omega),yB (k:=(n:Int) - (k:Int) - 1) (by omega) (by omega)];rw[EA];rfl
theorem zi9{a b:Qa Int}(h:a.length=b.length)(hl:a.length < 64):BN [.d (bg a),.d (bg b)]=some (.d (bg (bA a b)),[.d (bg a),.d (bg b)]):=by
 refine dX ?_;simp![BN,N8,FV h];refine pK (e:=λt=>.int (t.1+t.2)) (by rw[List.length_zip,<-h]; omega) (λt ht ys=>?_) ?_
 .simp!
 .rw[show((a.zip b).map λt=>PyData.int (t.1+t.2))=(bA a b).map PyData.int by unfold bA; rw[List.map_zipWith,List.zip,List.map_zipWith]]
  simp!;rfl
end K34
open PySem L2
namespace K34
open PySem L2
structure FZ (F:Fm):Prop where
 nd:aR F.p
 ln:F.p.length < 64
 b1:1<=F.b
 bs:F.b.natAbs < 2^1000
 ns:∀ t∈F.p,t.2.natAbs < 2^3000
 r1:256<=F.r
def cj(p:Pq Int)(c:Int):Pq Int:=p.map λt=>(t.1,t.2 * c)
def nG(F G:Fm)(f:Rat):Fm :=
 gP (aO (cj F.p ((G.b * f.den).fdiv (Int.gcd F.b (G.b * f.den):Nat))) (cj G.p (F.b.fdiv (Int.gcd F.b (G.b * f.den):Nat) * f.num))) (F.b * (G.b * f.den).fdiv (Int.gcd F.b (G.b * f.den):Nat)) (if G.r > F.r then G.r else F.r)
theorem AD{p:Pq Int}(h:aR p)(c:Int):aR (cj p c):=by
 unfold aR cj;rw[List.map_map];exact h
theorem A2(p:Pq Int)(c:Int):(cj p c).length=p.length:=Î ..
theorem i8{x:Int}{k:Nat}(h:x.natAbs < 2^k)(hk:k < 9000)(h0:0 < k):x.natAbs.log2 < 1000000:=Ô (sP h0 h) (Ô hk (by decide))
theorem yA{x:Int}{k:Nat}(h:x.natAbs < 2^k)(hk:k < 9000)(h0:0 < k):x.natAbs.log2 < 9000:=Ô (sP h0 h) hk
theorem JJ{x:Int}{k:Nat}(hx:x.natAbs < 2^j)(hy:y.natAbs < 2^k):(x * y).natAbs < 2^(j+k):=by
 rw[Int.natAbs_mul,Nat.pow_add];exact Nat.mul_lt_mul'' hx hy
theorem KY{x g:Int}{k:Nat}(h0:0<=x)(hg:0 < g)(hx:x.natAbs < 2^k):(x.fdiv g).natAbs < 2^k:=by
 rw[Int.fdiv_eq_ediv_of_nonneg _ (by omega)];refine Ä ?_ hx;have:=Int.ediv_le_self g h0;have:=Int.ediv_nonneg h0 (by omega:0<=g);omega
theorem KW{k:Nat}(h0:0 < k)(h:b.natAbs < 2^k):nJ b<=k:=by
 unfold nJ Builtin.Int.intBits;split
 .exact Int.natCast_nonneg _
 .have:=sP h0 h
  omega
theorem zmF{F G:Fm}(hF:FZ F)(hG:FZ G)(hn:f.num.natAbs < 2^1000)(hd:f.den < 2^100)(hb:(F.b * (G.b * f.den).fdiv (Int.gcd F.b (G.b * f.den):Nat)).natAbs < 2^256):
  Bw [.d (cF F),.d (cF G),.d (fR f)]=some (.d (cF (nG F G f)),[.d (cF F),.d (cF G),.d (fR f)]):=by
 refine dX ?_;have vH:((f.den:Nat):Int).natAbs < 2^100:=by rw[Int.natAbs_natCast]; exact hd
 have d1:=lZ f;have Fb:=hF.b1;have Gb:=hG.b1;have Q4:0 < G.b * (f.den:Int):=ä (by omega) (by omega);have bes:=JJ hG.bs vH;have gp:0 < Int.gcd F.b (G.b * f.den):=Int.gcd_pos_of_ne_zero_left _ (by omega);have gl:Int.gcd F.b (G.b * f.den)<=F.b.natAbs:=Int.gcd_le_natAbs_left _ (by omega);have cg:∀ z:Int,rV z ((Int.gcd F.b (G.b * f.den):Nat):Int):=λz=>⟨by omega,by rw[Int.natAbs_natCast]; exact EJ gl (yA hF.bs (by decide) (by decide))⟩;have fs:=KY (â Q4) (by omega:(0:Int) < (Int.gcd F.b (G.b * f.den):Nat)) bes;have ss:=KY (by omega:0<=F.b) (by omega:(0:Int) < (Int.gcd F.b (G.b * f.den):Nat)) hF.bs;have ss2:=JJ ss hn;have cf:=GI (x:=F.b) (y:=G.b * f.den) (by omega) (by omega);unfold cF nG;generalize QC:(G.b * (f.den:Int)).fdiv (Int.gcd F.b (G.b * f.den):Nat)=fi at *;generalize hse:F.b.fdiv (Int.gcd F.b (G.b * f.den):Nat)=se at *;simp![Bw,Nm,jy (a:=G.b) (b:=(f.den:Int)) (i8 hG.bs (by decide) (by decide)) (i8 vH (by decide) (by decide)),cf,uI (cg _),QC,hse,jy (a:=se) (b:=f.num) (i8 ss (by decide) (by decide)) (i8 hn (by decide) (by decide))];rw[uH F.p];have ec:(F.p.filter λ_=>true).map (λa=>(a.1,a.2 * fi))=cj F.p fi:=by
  unfold cj;rw[List.filter_eq_self.mpr λ_ _=>rfl]
 refine AF (c:=PyData.int) (b:=λt=>true) (k:=(·.1)) (v:=λt:Qa Int×Int=>t.2 * fi) (by have:=hF.ln; omega) (λt ht ys=>?_) ?_
 .simp![jy (a:=t.2) (b:=fi) (i8 (hF.ns t ht) (by decide) (by decide)) (i8 fs (by decide) (by decide)),Ez]
 rw[ec,JP (AD hF.nd fi)];simp!;rw[uH G.p];have gnd:=AD hF.nd fi;refine jA (λbs cs ρ=>∃ o8 o9,ρ=[some (U.d (jd F.p F.b F.r)),some (U.d (jd G.p G.b G.r)),some (U.d (fR f)),some (U.d (PyData.int (G.b * (f.den:Int)))),some (U.d (PyData.int ((F.b.gcd (G.b * (f.den:Int)):Nat):Int))),some (U.d (PyData.int fi)),some (U.d (PyData.int (se * f.num))),some (.t (aW PyData.int (aO (cj F.p fi) (cj bs (se * f.num))))),o8,o9]) ⟨none,none,rfl⟩ ?_ ?_
 .rintro bs t cs _ e ⟨o8,o9,rfl⟩
  have ht:t∈G.p:=by rw[e]; simp
  have lb:bs.length+cs.length+1=G.p.length:=by rw[e,qv,qw]; omega
  have l1:=pV (cj bs (se * f.num)) (cj F.p fi);rw[A2,A2]at l1;have l2:=hF.ln;have l3:=hG.ln;have eg:aO (cj F.p fi) (cj (bs++[t]) (se * f.num))=bX (aO (cj F.p fi) (cj bs (se * f.num))) t.1 ((look (aO (cj F.p fi) (cj bs (se * f.num))) t.1).getD 0+t.2 * (se * f.num)):=by
   unfold cj;rw[List.map_append];exact Ba _ _ _
  rw[eg];have pu:∀ x:Int,wk (.t (aW PyData.int (aO (cj F.p fi) (cj bs (se * f.num))))) (bg t.1) (.int x)=some (.t (aW PyData.int (bX (aO (cj F.p fi) (cj bs (se * f.num))) t.1 x))):=λx=>rL (c:=PyData.int) (by omega);have mb:=jy (a:=t.2) (b:=se * f.num) (i8 (hG.ns t ht) (by decide) (by decide)) (i8 ss2 (by decide) (by decide));cases hl:look (aO (cj F.p fi) (cj bs (se * f.num))) t.1 with
  | none=>
   simp![hl,mb,pu,Option.getD_none];exact⟨_,_,rfl⟩
  | some z=>
   simp![hl,mb,pu,Option.getD_some];exact⟨_,_,rfl⟩
 .rintro _ ⟨o8,o9,rfl⟩
  have l1:=pV (cj G.p (se * f.num)) (cj F.p fi);rw[A2,A2]at l1;have l2:=hF.ln;have l3:=hG.ln;have fi0:0 < fi:=by
   rw[<-QC,Int.fdiv_eq_ediv_of_nonneg _ (by omega)];exact Int.ediv_pos_of_pos_of_dvd Q4 (by omega) (Int.gcd_dvd_right _ _)
  have IH:1<=F.b * fi:=by have:=ä (by omega:0 < F.b) fi0; omega
  have rr:256<=(if G.r > F.r then G.r else F.r):=by have:=hF.r1; have:=hG.r1; split<;>omega
  have s:=Gd (u:=.t (aW .int (aO (cj F.p fi) (cj G.p (se * f.num))))) (p:=aO (cj F.p fi) (cj G.p (se * f.num))) (b:=F.b * fi) (r:=if G.r > F.r then G.r else F.r) jx (nP _ gnd) (by omega) IH (ÿ (KW (by decide) hb) rr) (yA hb (by decide) (by decide));simp![jy (a:=F.b) (b:=fi) (i8 hF.bs (by decide) (by decide)) (i8 fs (by decide) (by decide)),s];rfl
def ki(F G:Fm):Fm:=gP (aO [] (bj F.p G.p)) (F.b * G.b) (if G.r > F.r then G.r else F.r)
theorem UM(acc ts us:Pq Int):aO acc (ts++us)=aO (aO acc ts) us:=List.foldl_append ..
theorem zju{F G:Fm}(hF:FZ F)(hG:FZ G)(h1:∀ t∈F.p,t.1.length=n)(h2:∀ t∈G.p,t.1.length=n)(hn:n < 64)(hb:(F.b * G.b).natAbs < 2^256)(hl:F.p.length * G.p.length < 1000):
  sR [.d (cF F),.d (cF G)]=some (.d (cF (ki F G)),[.d (cF F),.d (cF G)]):=by
 refine dX ?_;unfold cF ki;have Fb:=hF.b1;have Gb:=hG.b1;have l2:=hF.ln;have l3:=hG.ln;simp![sR,OG];rw[uH F.p];have pl:∀ bs:Pq Int,bs.length<=F.p.length->(bj bs G.p).length < 1000:=λbs hb=>by
  rw[A9];exact Ä (Æ _ hb) hl
 refine jA (λbs cs ρ=>∃ o3 o4 o5 o6 o7,ρ=[some (U.d (jd F.p F.b F.r)),some (U.d (jd G.p G.b G.r)),some (.t (aW PyData.int (aO [] (bj bs G.p)))),o3,o4,o5,o6,o7]) ⟨none,none,none,none,none,rfl⟩ ?_ ?_
 .rintro bs s cs _ e ⟨o3,o4,o5,o6,o7,rfl⟩
  have hs:s∈F.p:=by rw[e]; simp
  have lb:bs.length+cs.length+1=F.p.length:=by rw[e,qv,qw]; omega
  simp!;rw[uH G.p];have epm:∀ ds:Pq Int,aO [] (bj bs G.p++ds.map λt=>(bA s.1 t.1,s.2 * t.2))=aO (aO [] (bj bs G.p)) (ds.map λt=>(bA s.1 t.1,s.2 * t.2)):=λds=>UM _ _ _;refine jA (λds es ρ=>∃ o5 o6 o7,ρ=[some (U.d (jd F.p F.b F.r)),some (U.d (jd G.p G.b G.r)),some (.t (aW PyData.int (aO [] (bj bs G.p++ds.map λt=>(bA s.1 t.1,s.2 * t.2))))),some (.d (bg s.1)),some (.d (.int s.2)),o5,o6,o7]) ⟨o5,o6,o7,by rw[List.map_nil,List.append_nil]⟩ ?_ ?_
  .rintro ds t es _ e2 ⟨o5,o6,o7,rfl⟩
   have ht:t∈G.p:=by rw[e2]; simp
   have ld:ds.length+es.length+1=G.p.length:=by rw[e2,qv,qw]; omega
   have l1:=pV (bj bs G.p++ds.map λt=>(bA s.1 t.1,s.2 * t.2)) [];rw[qv,List.length_map]at l1;have l4:=pl bs (by omega);have pp:=zi9 (a:=s.1) (b:=t.1) ((h1 s hs).trans (h2 t ht).symm) (by rw[h1 s hs]; exact hn);have eg:aO [] (bj bs G.p++(ds++[t]).map λt=>(bA s.1 t.1,s.2 * t.2))=bX (aO [] (bj bs G.p++ds.map λt=>(bA s.1 t.1,s.2 * t.2))) (bA s.1 t.1) ((look (aO [] (bj bs G.p++ds.map λt=>(bA s.1 t.1,s.2 * t.2))) (bA s.1 t.1)).getD 0+s.2 * t.2):=by
    rw[List.map_append,<-List.append_assoc];exact Ba _ _ _
   rw[eg];generalize aO [] (bj bs G.p++ds.map λt=>(bA s.1 t.1,s.2 * t.2))=gg at *;have pu:∀ x:Int,wk (.t (aW PyData.int gg)) (bg (bA s.1 t.1)) (.int x)=some (.t (aW PyData.int (bX gg (bA s.1 t.1) x))):=λx=>rL (c:=PyData.int) (by simp at l1; omega);have mb:=jy (a:=s.2) (b:=t.2) (i8 (hF.ns s hs) (by decide) (by decide)) (i8 (hG.ns t ht) (by decide) (by decide));cases Qv:look gg (bA s.1 t.1)with
   | none=>
    simp![pp,Qv,mb,pu,Option.getD_none];exact⟨_,_,_,rfl⟩
   | some z=>
    simp![pp,Qv,mb,pu,Option.getD_some];exact⟨_,_,_,rfl⟩
  .rintro _ ⟨o5,o6,o7,rfl⟩
   simp!;have:bj (bs++[s]) G.p=bj bs G.p++G.p.map λt=>(bA s.1 t.1,s.2 * t.2):=by unfold bj; simp
   rw[this];exact⟨_,_,_,_,_,rfl⟩
 .rintro _ ⟨o3,o4,o5,o6,o7,rfl⟩
  have l1:=pV (bj F.p G.p) [];have l4:=pl F.p (qg _);have IH:1<=F.b * G.b:=by have:=ä (by omega:0 < F.b) (by omega:0 < G.b); omega
  have rr:256<=(if G.r > F.r then G.r else F.r):=by have:=hF.r1; have:=hG.r1; split<;>omega
  have s:=Gd (u:=.t (aW .int (aO [] (bj F.p G.p)))) (p:=aO [] (bj F.p G.p)) (b:=F.b * G.b) (r:=if G.r > F.r then G.r else F.r) jx (nP _ ß) (by simp at l1; omega) IH (ÿ (KW (by decide) hb) rr) (yA hb (by decide) (by decide));simp![jy (a:=F.b) (b:=G.b) (i8 hF.bs (by decide) (by decide)) (i8 hG.bs (by decide) (by decide)),s];rfl
theorem zla{F:Fm}(hF:FZ F):BH [.d (cF F)]=some (.l (cV fR (ee (bJ F.b F.p))),[.d (cF F)]):=by
 refine dX ?_;unfold cF;have l2:=hF.ln;have Fb:=hF.b1;simp![BH,Oy];rw[uH F.p];refine pK (e:=λt=>.tuple [bg t.1,fR (Rat.divInt t.2 F.b)]) (by omega) (λt ht ys=>?_) ?_
 .simp![ze8 (n:=t.2) (d:=F.b) (by omega) (yA hF.bs (by decide) (by decide))]
 .have e:(F.p.map λt=>PyData.tuple [bg t.1,fR (Rat.divInt t.2 F.b)])=cV fR (bJ F.b F.p):=by
   unfold bJ cV;rw[List.map_map];rfl
  have nd:aR (bJ F.b F.p):=by
   unfold aR bJ;rw[List.map_map];exact hF.nd
  have st:=JW (c:=fR) nd (by unfold bJ; rw[List.length_map]; exact l2);rw[e];simp![st]
def ind(k:Qa Int):Qa Int->Rat:=λe=>if e=k then 1 else 0
theorem EH{k:Qa Int}:∀ {p:Pq Rat},aR p->aX p (ind k)=(look p k).getD 0
 | [],_=>rfl
 | t::p,nd=>by
  have mR:aR p:=(ð.mp nd).2
  by_cases h:t.1=k
  .have n1:=(ð.mp nd).1
   have z:aX p (ind k)=0:=AK λu hu e=>n1 (Ã.mpr ⟨u,hu,e.trans h.symm⟩);rw[zP,z];have e:look (t::p) k=some t.2:=by rw[<-h]; exact kS nd qq
   rw[e];show t.2 * (if t.1=k then 1 else 0)+0=t.2;rw[if_pos h];grind
  .rw[zP,EH mR]
   have e:look (t::p) k=look p k:=by
    unfold look;rw[List.find?_cons_of_neg (by simpa using h)]
   rw[e];show t.2 * (if t.1=k then 1 else 0)+_=_;rw[if_neg h];grind
structure QP (n k M B:Nat) (p:Pq Rat):Prop where
 nd:aR p
 nz:∀ t∈p,t.2≠0
 ky:∀ t∈p,Ks n k t.1/\t.1.sum=(k:Int)
 bd:PB M B p
theorem GO(q:Pq Rat):∀ t∈L2.nz q,t.2≠0:=λt ht=>of_decide_eq_true (Ú.mp ht).2
theorem WA{p q:Pq Rat}(n1:aR p)(z1:∀ t∈p,t.2≠0)(n2:aR q)(z2:∀ t∈q,t.2≠0)(h:∀ g,aX p g=aX q g):p.Perm q:=by
 have e:ee p=ee q:=Fe ⟨u5 n1,λt ht=>z1 t ((iY p).mem_iff.mp ht)⟩ ⟨u5 n2,λt ht=>z2 t ((iY q).mem_iff.mp ht)⟩ λg=>by rw[pR (iY p),pR (iY q),h]
 exact(iY p).symm.trans (e▸iY q)
section
variable{k l N C:Nat}{p q:Pq Rat}
theorem QP.le(h:QP n k M B p)(c:B<=C):QP n k M C p:=⟨h.nd,h.nz,h.ky,λt ht=>(h.bd t ht).le c⟩
theorem QP.wide(h:QP n k M B p)(c:Nat):QP n k (M * c) (B * c) p:=⟨h.nd,h.nz,h.ky,λt ht=>(h.bd t ht).wide c⟩
theorem QP.nil:QP n k M B []:=⟨ß,λt h=>(by cases h),λt h=>(by cases h),λt h=>(by cases h)⟩
theorem QP.at(h:QP n k M B p)(e:Qa Int):Bd M B (aX p (ind e)):=by
 rw[EH h.nd];exact AJ h.bd e
theorem QP.add(hp:QP n k M B p)(hq:QP n k M C q):QP n k M (B+C) (L2.nz (aO p q)):=by
 have nd:aR (aO p q):=nP q hp.nd;refine⟨DR nd,GO _,λt ht=>LN (Pk:=λe=>Ks n k e/\e.sum=(k:Int)) q hp.ky hq.ky t (Ú.mp ht).1,λt ht=>?_⟩;have e:t.2=aX p (ind t.1)+aX q (ind t.1):=by
  rw[<-wF q _ hp.nd,EH nd,kS nd (List.mem_filter.mp ht).1];rfl
 rw[e];exact(hp.at _).add (hq.at _)
def eE(p:Pq Rat)(f:Rat):Pq Rat:=p.map λt=>(t.1,t.2 * f)
theorem UL(p:Pq Rat)(f:Rat)(g:Qa Int->Rat):aX (eE p f) g=f * aX p g:=by
 unfold eE
 induction p with
 | nil=>rw[List.map_nil,kR,Rat.mul_zero]
 | cons t p ih=>
  rw[List.map_cons,zP,zP,ih];grind
theorem QP.Ha(hp:QP n k M B p)(hf:Bd N C f)(f0:f≠0):QP n k (M * N) (B * C) (eE p f):=by
 refine⟨?_,λt ht=>?_,λt ht=>?_,λt ht=>?_⟩
 .unfold aR eE
  rw[List.map_map];exact hp.nd
 all_goals obtain⟨u,hu,rfl⟩:=Ã.mp ht
 .exact λz=>(Rat.mul_eq_zero.mp z).elim (hp.nz u hu) f0
 .exact hp.ky u hu
 .exact(hp.bd u hu).mul hf
theorem QP.mul(hp:QP n k M B p)(hq:QP n l N C q):QP n (k+l) (M * N) (p.length * q.length * (B * C)) (L2.nz (aO [] (bj p q))):=by
 refine⟨DR (nP _ ß),GO _,λt ht=>?_,λt ht=>?_⟩
 .refine LN (Pk:=λe=>Ks n (k+l) e/\e.sum=((k+l:Nat):Int)) (bj p q) (λt h=>by cases h) (λt ht=>?_) t (Ú.mp ht).1
  obtain⟨u,hu,v,hv,rfl⟩:=Fd ht;obtain⟨a,b⟩:=hp.ky u hu;obtain⟨c,d⟩:=hq.ky v hv;refine⟨a.add c,?_⟩;show(bA u.1 v.1).sum=_;rw[FT (a.ln.trans c.ln.symm),b,d];omega
 .have:=EB (bj p q) (C:=0) PZ (Wl hp.bd hq.bd) t (Ú.mp ht).1
  rw[A9,Nat.zero_add]at this;exact this
def vR(n k:Nat):Qa (Qa Int):=(nH n k).filter λa=>decide (a.sum=(k:Int))
theorem QP.len(h:QP n k M B p):p.length<=(vR n k).length:=by
 have:=List.Nodup.length_le_of_subset h.nd (l₂:=vR n k) λx hx=>by
  obtain⟨t,ht,rfl⟩:=Ã.mp hx;obtain⟨a,b⟩:=h.ky t ht;exact Ú.mpr ⟨DC a,decide_eq_true b⟩
 rw[List.length_map]at this;exact this
end
theorem Pd:∀ n∈[1,2,3],∀ k∈List.range 7,∀ l∈List.range 7,k+l<=dW n->(vR n k).length<=15/\(vR n k).length * (vR n l).length<=36:=by decide +kernel
theorem A0{k l N C:Nat}{p q:Pq Rat}(n1:1<=n)(n3:n<=3)(hp:QP n k M B p)(hq:QP n l N C q)(h:k+l<=dW n):p.length * q.length<=36:=by
 obtain⟨_,d6⟩:=fX (n:=n);have mn:n∈[1,2,3]:=by rcases(by omega:n=1\/n=2\/n=3)with rfl|rfl|rfl<;>decide
 exact qB (ó hp.len hq.len) (Pd n mn k (Ê.mpr (by omega)) l (Ê.mpr (by omega)) h).2
theorem kQ{k:Nat}{p:Pq Rat}(n1:1<=n)(n3:n<=3)(hp:QP n k M B p)(h:k<=dW n):p.length<=15:=by
 obtain⟨_,d6⟩:=fX (n:=n);have mn:n∈[1,2,3]:=by rcases(by omega:n=1\/n=2\/n=3)with rfl|rfl|rfl<;>decide
 exact qB hp.len (Pd n mn k (Ê.mpr (by omega)) 0 (by decide) (by omega)).1
def oZ(F:Fm)(h:Qa Int->Rat):Rat:=aX (bJ F.b F.p) h
theorem zAe{x:Int}(h:Bd M B (Rat.divInt x b))(b1:1<=b)(dv:b∣(M:Int))(hM:0 < M):x.natAbs<=B:=by
 obtain⟨k,e,hk⟩:=h;obtain⟨c,hc⟩:=dv;have e2:(k:Rat)=((x * c:Int):Rat):=by
  rw[<-e,show((M:Nat):Rat)=((M:Int):Rat) from rfl,hc,Rat.intCast_mul,Rat.intCast_mul,Rat.divInt_eq_div];have:(b:Rat)≠0:=λz=>by
   have:b=0:=by exact_mod_cast z
   omega
  grind
 have e3:k=x * c:=by exact_mod_cast e2
 have c0:c≠0:=λz=>by rw[z,Int.mul_zero]at hc; omega
 rw[e3,Int.natAbs_mul]at hk;have:1<=c.natAbs:=by omega
 exact qB (Nat.le_mul_of_pos_right _ this) hk
section
variable{F G:Fm}
theorem Pc{x y:Nat}(h:x < y):2^x < 2^y:=Þ (by decide) h
theorem LY{p:Pq Int}{r:Int}(hb:b≠0)(h:Qa Int->Rat):oZ (gP p b r) h=aX (bJ b p) h:=by
 unfold gP oZ;rw[<-EC (bJ b p) h,show(bJ b p).filter (λt=>decide (t.2≠0))=bJ b (p.filter λt=>!decide (t.2=0)) from Sv hb p];split
 .rename_i z
  have e2:(p.filter λt=>!decide (t.2=0))=[]:=by simpa using z
  rw[e2];rfl
 .rfl
theorem EG{p:Pq Int}(h:aR p):aR (bJ c p):=by
 unfold aR bJ;rw[List.map_map];exact h
theorem Wz(hc:c≠0)(acc ts:Pq Int):bJ c (aO acc ts)=aO (bJ c acc) (bJ c ts):=KE (λk=>Rat.divInt k c) (Rat.zero_divInt c) (λa b=>by
 rw[Rat.divInt_add_divInt _ _ hc hc,<-Int.add_mul,Rat.divInt_mul_right hc]) ts acc
theorem Bj{A X:Int}(hA:1<=A)(hX:1<=X):1<=X.fdiv (Int.gcd A X:Nat)/\X.fdiv (Int.gcd A X:Nat) * (Int.gcd A X:Nat)=X/\A.fdiv (Int.gcd A X:Nat) * (Int.gcd A X:Nat)=A/\(0:Int) < (Int.gcd A X:Nat):=by
 have g0:(0:Int) < (Int.gcd A X:Nat):=by exact_mod_cast Int.gcd_pos_of_ne_zero_left _ (by omega)
 rw[Int.fdiv_eq_ediv_of_nonneg _ (by omega),Int.fdiv_eq_ediv_of_nonneg _ (by omega)];refine⟨?_,Int.ediv_mul_cancel (Int.gcd_dvd_right _ _),Int.ediv_mul_cancel (Int.gcd_dvd_left _ _),g0⟩;exact Int.ediv_pos_of_pos_of_dvd (by omega) (by omega) (Int.gcd_dvd_right _ _)
theorem sc1{p:Pq Int}(hb:b≠0)(hc:c≠0):bJ (b * c) (cj p c)=bJ b p:=by
 unfold bJ cj;rw[List.map_map];refine Ø λt _=>?_;show(t.1,Rat.divInt (t.2 * c) (b * c))=_;rw[Rat.divInt_mul_right hc]
theorem sc2{p:Pq Int}{d s:Int}(h:∀ x:Int,Rat.divInt (x * s) (b * c)=f * Rat.divInt x d):bJ (b * c) (cj p s)=(bJ d p).map λt=>(t.1,f * t.2):=by
 unfold bJ cj;rw[List.map_map,List.map_map];refine Ø λt _=>?_;show(t.1,Rat.divInt (t.2 * s) (b * c))=(t.1,f * Rat.divInt t.2 d);rw[h]
theorem Wy(f:Rat)(p:Pq Rat)(h:Qa Int->Rat):aX (p.map λt=>(t.1,f * t.2)) h=f * aX p h:=by
 induction p with
 | nil=>rw[List.map_nil,kR,Rat.mul_zero]
 | cons t p ih=>
  rw[List.map_cons,zP,zP,ih];grind
theorem zAf{A d:Int}(hA:1<=A)(hd:1<=d)(x:Int):
  Rat.divInt (x * (A.fdiv (Int.gcd A (d * f.den):Nat) * f.num)) (A * (d * f.den).fdiv (Int.gcd A (d * f.den):Nat))=f * Rat.divInt x d:=by
 have d1:=lZ f;have X1:1<=d * (f.den:Int):=by have:=ä (by omega:0 < d) (by omega:(0:Int) < f.den); omega
 obtain⟨h1,h2,h3,h4⟩:=Bj hA X1;generalize (d * (f.den:Int)).fdiv (Int.gcd A (d * f.den):Nat)=fi at *;generalize A.fdiv (Int.gcd A (d * f.den):Nat)=se at *;generalize ((Int.gcd A (d * f.den):Nat):Int)=g at *;have hf:f * (f.den:Rat)=(f.num:Rat):=FL f;have q1:((A * fi:Int):Rat)≠0:=λz=>by
  have z:A * fi=0:=by exact_mod_cast z
  have:=ä (by omega:0 < A) (by omega:0 < fi);omega
 have q2:(d:Rat)≠0:=λz=>by
  have z:d=0:=by exact_mod_cast z
  omega
 have q3:(g:Rat)≠0:=λz=>by
  have z:g=0:=by exact_mod_cast z
  omega
 have r2:(fi:Rat) * (g:Rat)=(d:Rat) * ((f.den:Int):Rat):=by rw[<-Rat.intCast_mul,<-Rat.intCast_mul,h2]
 have r3:(se:Rat) * (g:Rat)=(A:Rat):=by rw[<-Rat.intCast_mul,h3]
 have hf':f * ((f.den:Int):Rat)=(f.num:Rat):=hf;rw[Rat.divInt_eq_div,Rat.divInt_eq_div];rw[Rat.intCast_mul,Rat.intCast_mul];rw[Rat.intCast_mul]at q1 ⊢;grind
theorem UK(nF:aR F.p)(bF:1<=F.b)(hG:1<=G.b)(h:Qa Int->Rat):oZ (nG F G f) h=oZ F h+f * oZ G h:=by
 have d1:=lZ f;have X1:1<=G.b * (f.den:Int):=by have:=ä (by omega:0 < G.b) (by omega:(0:Int) < f.den); omega
 obtain⟨h1,h2,h3,h4⟩:=Bj bF X1;have A1:=bF;have c0:F.b * (G.b * (f.den:Int)).fdiv (Int.gcd F.b (G.b * f.den):Nat)≠0:=by
  have:=ä (by omega:0 < F.b) (by omega:0 < (G.b * (f.den:Int)).fdiv (Int.gcd F.b (G.b * f.den):Nat));omega
 unfold nG;rw[LY c0,Wz c0,wF _ _ (EG (AD nF _)),sc1 (by omega) (by omega),sc2 (zAf bF hG),Wy];rfl
theorem JI{A X:Int}(hA:1<=A)(hX:1<=X)(h1:A∣(M:Int))(h2:X∣(M:Int)):A * X.fdiv (Int.gcd A X:Nat)∣(M:Int):=by
 obtain⟨f1,f2,f3,f4⟩:=Bj hA hX;have e:A * X.fdiv (Int.gcd A X:Nat)=(Int.lcm A X:Nat):=by
  have hg:=Int.gcd_mul_lcm A X;have Cm:((Int.gcd A X:Nat):Int) * ((Int.lcm A X:Nat):Int)=A * X:=by
   rw[<-Int.natCast_mul,hg];have:=ä (by omega:0 < A) (by omega:0 < X)
   first|exact Int.natAbs_of_nonneg (â this) | (rw[<-Int.natAbs_mul]; exact Int.natAbs_of_nonneg (â this))
  refine Int.eq_of_mul_eq_mul_left (a:=((Int.gcd A X:Nat):Int)) (by omega) ?_;rw[Cm,Int.mul_left_comm,Int.mul_comm _ (X.fdiv _),f2]
 rw[e];exact ù.mpr (Int.lcm_dvd h1 h2)
theorem JH{p:Pq Int}{r:Int}(b1:1<=b)(r1:256<=r)(nd:aR p):1<=(gP p b r).b/\256<=(gP p b r).r/\aR (gP p b r).p/\(∀ t∈(gP p b r).p,t.2≠0)/\(gP p b r).b∣b:=by
 unfold gP;split
 .exact⟨by decide,by decide,ß,λt h=>(by cases h),Int.one_dvd b⟩
 .exact⟨b1,r1,MW nd _,λt h=>by simpa using (Ú.mp h).2,Int.dvd_refl b⟩
theorem Wx(hb:b≠0)(hc:c≠0)(p q:Pq Int):bJ (b * c) (bj p q)=bj (bJ b p) (bJ c q):=by
 unfold bJ bj;rw[List.map_flatMap,List.flatMap_map];refine congrArg (λg=>List.flatMap g p) (funext λs=>?_);rw[List.map_map,List.map_map];refine Ø λt _=>?_;show(bA s.1 t.1,Rat.divInt (s.2 * t.2) (b * c))=(bA s.1 t.1,Rat.divInt s.2 b * Rat.divInt t.2 c);rw[Rat.divInt_mul_divInt]
theorem UJ(bF:1<=F.b)(bG:1<=G.b)(h:Qa Int->Rat):oZ (ki F G) h=aX (bj (bJ F.b F.p) (bJ G.b G.p)) h:=by
 have c0:F.b * G.b≠0:=by
  have:=ä (by omega:0 < F.b) (by omega:0 < G.b);omega
 unfold ki;rw[LY c0,Wi (by omega),wF _ _ (show aR [] from ß),kR,Rat.zero_add,Wx (by omega) (by omega)]
end
structure FP (D:Nat) (p:Pq Rat) (F:Fm):Prop where
 nd:aR F.p
 nz:∀ t∈F.p,t.2≠0
 b1:1<=F.b
 r1:256<=F.r
 dv:F.b∣(D:Int)
 pm:(bJ F.b F.p).Perm p
theorem KU{p:Pq Int}(b1:1<=b)(h:∀ t∈p,t.2≠0):∀ t∈bJ b p,t.2≠0:=λs hs=>by
 obtain⟨u,hu,rfl⟩:=Ã.mp hs;intro z;have z:Rat.divInt u.2 b=0:=z;rw[Rat.divInt_eq_div]at z;have hb:(b:Rat)≠0:=λq=>by
  have q:b=0:=by exact_mod_cast q
  omega
 have z2:(u.2:Rat)=0:=by grind
 exact h u hu (by exact_mod_cast z2)
section
variable{k l N C D E:Nat}{p q:Pq Rat}{F G:Fm}
theorem FP.of(nd:aR F.p)(nz:∀ t∈F.p,t.2≠0)(b1:1<=F.b)(r1:256<=F.r)(dv:F.b∣(D:Int))(np:aR p)(zp:∀ t∈p,t.2≠0)(h:∀ g,oZ F g=aX p g):FP D p F :=
 ⟨nd,nz,b1,r1,dv,WA (EG nd) (KU b1 nz) np zp h⟩
theorem FP.aX(h:FP D p F)(g:Qa Int->Rat):oZ F g=L2.aX p g:=pR h.pm g
theorem FP.fz(h:FP M p F)(hp:QP n k M B p)(ln:p.length<=40)(hM:M < 2^256)(M0:0 < M)(hB:B < 2^3000):FZ F:=by
 have le:=Int.le_of_dvd (by omega) h.dv;have b1:=h.b1;refine⟨h.nd,?_,h.b1,?_,λt ht=>?_,h.r1⟩
 .have:=h.pm.length_eq
  unfold bJ at this;rw[List.length_map]at this;omega
 .refine Ä (show F.b.natAbs<=M by omega) (Ô hM (Þ (by decide) (by decide)))
 .refine Ä (zAe (M:=M) (B:=B) ?_ h.b1 h.dv M0) hB
  exact hp.bd _ (h.pm.mem_iff.mp (Ã.mpr ⟨t,ht,rfl⟩))
theorem FP.sum(hF:FP D p F)(hG:FP E q G)(hd:G.b * (f.den:Int)∣(D:Int)){s:Pq Rat}(ns:aR s)(zs:∀ t∈s,t.2≠0)(hs:∀ g,L2.aX s g=L2.aX p g+f * L2.aX q g):FP D s (nG F G f):=by
 have d1:=lZ f;have G1:=hG.b1;have F1:=hF.b1;have X1:1<=G.b * (f.den:Int):=by have:=ä (by omega:0 < G.b) (by omega:(0:Int) < f.den); omega
 obtain⟨h1,h2,h3,h4⟩:=Bj hF.b1 X1;have c1:1<=F.b * (G.b * (f.den:Int)).fdiv (Int.gcd F.b (G.b * f.den):Nat):=by
  have:=ä (by omega:0 < F.b) (by omega:0 < (G.b * (f.den:Int)).fdiv (Int.gcd F.b (G.b * f.den):Nat));omega
 have dv:=JI hF.b1 X1 hF.dv hd;have rr:256<=(if G.r > F.r then G.r else F.r):=by have:=hF.r1; have:=hG.r1; split<;>omega
 have sl:=λg=>UK (F:=F) (G:=G) (f:=f) hF.nd hF.b1 hG.b1 g;obtain⟨a,b,c,d,e⟩:=JH (p:=aO (cj F.p ((G.b * f.den).fdiv (Int.gcd F.b (G.b * f.den):Nat))) (cj G.p (F.b.fdiv (Int.gcd F.b (G.b * f.den):Nat) * f.num))) c1 rr (nP _ (AD hF.nd _));refine FP.of (F:=nG F G f) c d a b (Int.dvd_trans e dv) ns zs λg=>?_;rw[sl g,hF.aX,hG.aX,hs]
theorem FP.tim(hF:FP D p F)(hG:FP E q G)(np:aR p):FP (D * E) (L2.nz (aO [] (bj p q))) (ki F G):=by
 have G1:=hG.b1;have F1:=hF.b1;have c1:1<=F.b * G.b:=by have:=ä (by omega:0 < F.b) (by omega:0 < G.b); omega
 have rr:256<=(if G.r > F.r then G.r else F.r):=by have:=hF.r1; have:=hG.r1; split<;>omega
 have tl:=λg=>UJ (F:=F) (G:=G) hF.b1 hG.b1 g;obtain⟨a,b,c,d,e⟩:=JH (p:=aO [] (bj F.p G.p)) c1 rr (nP _ ß);refine FP.of (F:=ki F G) c d a b (Int.dvd_trans e ?_) (DR (nP _ ß)) (GO _) λg=>?_
 .rw[Int.natCast_mul]
  exact Int.mul_dvd_mul hF.dv hG.dv
 .rw[tl g,show L2.aX (L2.nz (aO [] (bj p q))) g=L2.aX (aO [] (bj p q)) g from EC _ g,wF _ g (show aR [] from ß),kR,Rat.zero_add,KG,KG,pR hF.pm]
  exact Zz λt _=>pR hG.pm _
end
abbrev QS(n d k j:Nat)(p:Pq Rat):Prop:=QP n d (12^(k * j)) (2^(34 * (k * j))) p
abbrev QN(n k j:Nat)(p:Pq Rat):Prop:=QS n k k j p
abbrev FN(k j:Nat)(p:Pq Rat)(F:Fm):Prop:=FP (12^(k * j)) p F
theorem DA(d:Nat):12^d<=2^(4 * d):=by rw[Nat.pow_mul]; exact Nat.pow_le_pow_left (by decide) d
section
variable{d k l D:Nat}{p q:Pq Rat}{F G:Fm}
theorem QP.to(h:QP n d (12^i) (2^l) p)(hi:i<=k * j)(hl:l+4 * (k * j - i)<=34 * (k * j)):QS n d k j p:=by
 obtain⟨x,hd⟩:=Nat.exists_eq_add_of_le hi;have w:=h.wide (12^x);rw[<-Nat.pow_add,<-hd]at w;refine w.le (qB (ì _ (DA x)) ?_);rw[<-Nat.pow_add];exact Ý (by decide) (by omega)
theorem QS.up(h:QS n d k i p)(dU:i<=j):QS n d k j p:=by
 have e:=ì k dU;exact h.to e (by omega)
theorem FP.up{E:Nat}(h:FP D p F)(hd:D∣E):FP E p F:=⟨h.nd,h.nz,h.b1,h.r1,Int.dvd_trans h.dv (ù.mpr hd),h.pm⟩
theorem FN.up(h:FN k i p F)(dU:i<=j):FN k j p F:=FP.up h (Nat.pow_dvd_pow 12 (ì k dU))
def GL(n m:Nat):Pq Rat:=[(iV n m,1)]
def P6(n m:Nat):Fm:=⟨[(iV n m,1)],1,256⟩
theorem LX:(iV n j).sum=1:=by
 unfold iV;simp
theorem Vk(hj:j < n):Ks n 1 (iV n j):=⟨WD hj,λk hk=>(WC k hk).1,by rw[LX]; decide⟩
theorem Vj(hm:m < n):QN n 1 j (GL n m):=by
 refine QP.to (i:=0) (l:=0) ⟨P5,λt ht=>?_,λt ht=>?_,λt ht=>?_⟩ (È _) (by omega)
 all_goals cases qr.mp ht
 .exact(by decide:(1:Rat)≠0)
 .exact⟨Vk hm,LX⟩
 .exact Bd.one
theorem Q2:Rat.divInt 1 1=1:=by decide
theorem zAh:FN 1 j (GL n m) (P6 n m):=⟨DB,λt ht=>(by cases qr.mp ht; exact Int.one_ne_zero),à 1,à 256,Int.one_dvd _,by
 show(bJ 1 [(iV n m,1)]).Perm [(iV n m,1)];unfold bJ;rw[List.map_cons,List.map_nil,Q2]⟩
def oY(p q:Pq Rat):Pq Rat:=L2.nz (aO [] (bj p q))
theorem KS(n1:1<=n)(n3:n<=3)(k1:1<=k)(hp:QS n d k i p)(hq:QN n l i q)(h:d+l<=dW n):QS n (d+l) (k+l) (i+1) (oY p q):=by
 have m:=QP.mul hp hq;rw[<-Nat.pow_add,<-Nat.pow_add]at m;have ln:=A0 n1 n3 hp hq h;have m2:QP n (d+l) (12^(k * i+l * i)) (2^(6+(34 * (k * i)+34 * (l * i)))) (oY p q):=m.le (by
  rw[Nat.pow_add 2 6];exact Æ _ (qB ln (by decide)))
 have e1:(k+l) * (i+1)=k * i+l * i+(k+l):=by rw[Nat.mul_succ,Nat.add_mul]
 exact m2.to (by omega) (by omega)
theorem KQ(hp:QS n d k i p)(hF:FN k i p F)(hG:FN l i q G):FN (k+l) (i+1) (oY p q) (ki F G):=by
 have t:=FP.tim hF hG hp.nd;rw[<-Nat.pow_add]at t;exact t.up (Nat.pow_dvd_pow 12 (by rw[Nat.mul_succ,Nat.add_mul]; omega))
end
abbrev Pt:=Rat×Pq Rat×Fm
def fY(T:Pq Rat)(xs:Qa Pt):Pq Rat:=xs.foldl (λT x=>L2.nz (aO T (eE x.2.1 x.1))) T
def kf(T:Fm)(xs:Qa Pt):Fm:=xs.foldl (λT x=>nG T x.2.2 x.1) T
structure vO (n d k i:Nat) (x:Pt):Prop where
 fg:Fg x.1
 qn:QS n d k i x.2.1
 fn:FN k i x.2.1 x.2.2
abbrev mM(k i:Nat):Nat:=12^(k * i) * 12
abbrev mB(k i:Nat):Nat:=2^(34 * (k * i)) * 12000000
theorem Ww{d k c:Nat}{T:Pq Rat}{G:Fm}{x:Pt}(hx:vO n d k i x)(hT:QP n d (mM k i) (c * mB k i) T)(hG:FP (mM k i) T G):
  QP n d (mM k i) ((c+1) * mB k i) (L2.nz (aO T (eE x.2.1 x.1)))/\FP (mM k i) (L2.nz (aO T (eE x.2.1 x.1))) (nG G x.2.2 x.1):=by
 have s:=hx.qn.Ha hx.fg.bd hx.fg.nz;have a:=hT.add s;rw[show c * mB k i+2^(34 * (k * i)) * 12000000=(c+1) * mB k i by rw[Nat.add_mul,Nat.one_mul]]at a;refine⟨a,FP.sum hG hx.fn ?_ a.nd a.nz λg=>?_⟩
 .rw[Int.natCast_mul]
  exact Int.mul_dvd_mul hx.fn.dv (by exact_mod_cast hx.fg.bd.dvd)
 .rw[show aX (L2.nz (aO T (eE x.2.1 x.1))) g=aX (aO T (eE x.2.1 x.1)) g from EC _ g,wF _ g hT.nd,UL]
theorem wJ{d k:Nat}:∀ (xs:Qa Pt) {c:Nat} {T:Pq Rat} {G:Fm},(∀ x∈xs,vO n d k i x)->QP n d (mM k i) (c * mB k i) T->FP (mM k i) T G->QP n d (mM k i) ((c+xs.length) * mB k i) (fY T xs)/\FP (mM k i) (fY T xs) (kf G xs)
 | [],c,T,G,_,hT,hG=>⟨hT,hG⟩
 | x::xs,c,T,G,hx,hT,hG=>by
  obtain⟨a,b⟩:=Ww (hx x qq) hT hG;have:=wJ xs (λy hy=>hx y (qp _ hy)) a b;rw[qw,show c+(xs.length+1)=c+1+xs.length by omega];exact this
def gq:Fm:=⟨[],1,256⟩
theorem uO{D:Nat}:FP D [] gq:=⟨ß,λt h=>(by cases h),by decide,by decide,Int.one_dvd _,.nil⟩
theorem JG{d k:Nat}{xs:Qa Pt}(k1:1<=k)(hx:∀ x∈xs,vO n d k i x)(hl:xs.length<=20):QS n d k (i+1) (fY [] xs)/\FN k (i+1) (fY [] xs) (kf gq xs):=by
 obtain⟨a,b⟩:=wJ xs (c:=0) (T:=[]) (G:=gq) hx QP.nil uO;rw[Nat.zero_add]at a;have e0:mM k i=12^(k * i+1):=(Nat.pow_succ ..).symm;have e1:k * (i+1)=k * i+k:=Nat.mul_succ k i;have a2:QP n d (12^(k * i+1)) (2^(28+34 * (k * i))) (fY [] xs):=by
  rw[<-e0];refine a.le ?_;rw[Nat.pow_add];show xs.length * (2^(34 * (k * i)) * 12000000)<=_;rw[Nat.mul_comm (2^(34 * (k * i))) 12000000,<-Nat.mul_assoc];exact Æ _ (qB (Æ _ hl) (by decide))
 refine⟨a2.to (by omega) (by omega),b.up ?_⟩;rw[e0];exact Nat.pow_dvd_pow 12 (by omega)
end K34
open PySem L2
namespace K34
open PySem L2
abbrev Nx:=Pq Rat×Fm
abbrev no:Nx:=([],gq)
def cn(qs:Qa Nx)(prs:Qa P2):Qa Pt:=prs.map λx=>(x.1,qs.getD x.2 no)
def pJ(n:Nat)(qs:Qa Nx):aJ->Nx
 | .lt m=>(GL n m,P6 n m)
 | .mx prs=>(fY [] (cn qs prs),kf gq (cn qs prs))
 | .tm i j=>(oY (qs.getD i no).1 (qs.getD j no).1,ki (qs.getD i no).2 (qs.getD j no).2)
def g7(n:Nat)(ns:Qa aJ):Qa Nx:=ns.foldl (λqs nod=>qs++[pJ n qs nod]) []
structure XO (n:Nat) (hs:Qa Int) (qs:Qa Nx):Prop where
 ln:qs.length=hs.length
 ok:∀ i,i < hs.length->1<=hs.getD i 0/\hs.getD i 0<=(dW n:Int)/\QN n (hs.getD i 0).toNat i (qs.getD i no).1/\FN (hs.getD i 0).toNat i (qs.getD i no).1 (qs.getD i no).2
section
variable{qs:Qa Nx}
theorem EF{k:Int}{prs:Qa P2}(h:XO n hs qs)(hj:hs.length=j+1)(hp:∀ p∈prs,Fg p.1/\p.2 < hs.length/\hs.getD p.2 0=k):∀ x∈cn qs prs,vO n k.toNat k.toNat j x:=λx hx=>by
 obtain⟨p,oJ,rfl⟩:=Ã.mp hx;obtain⟨a,b,c⟩:=hp p oJ;obtain⟨_,_,q,f⟩:=h.ok p.2 b;rw[c]at q f;exact⟨a,q.up (by omega),f.up (by omega)⟩
theorem Wv{k:Int}{nod:aJ}(n1:1<=n)(n3:n<=3)(h:XO n hs qs)(ok:pF n (dW n) hs k nod)(k1:1<=k)(kd:k<=(dW n:Int)):QN n k.toNat hs.length (pJ n qs nod).1/\FN k.toNat hs.length (pJ n qs nod).1 (pJ n qs nod).2:=by
 cases nod with
 | lt m=>
  obtain⟨hm,rfl⟩:=ok;exact⟨Vj hm,zAh⟩
 | mx prs=>
  obtain⟨h1,h2,h3,_⟩:=ok
  match prs,h1,h2,h3 with
  | p::prs,_,h2,h3=>
   obtain⟨_,a,_⟩:=h3 p qq;obtain⟨j,hj⟩:∃ j,hs.length=j+1:=⟨hs.length - 1,by omega⟩;have:=JG (by omega) (EF h hj h3) (by unfold cn; rw[List.length_map]; exact h2);rw[hj];exact this
 | tm a b=>
  obtain⟨ha,hb,_,hk,_⟩:=ok;obtain⟨a1,a2,qa,fa⟩:=h.ok a ha;obtain⟨b1,b2,qb,fb⟩:=h.ok b hb;obtain⟨j,hj⟩:∃ j,hs.length=j+1:=⟨hs.length - 1,by omega⟩;have e:k.toNat=(hs.getD a 0).toNat+(hs.getD b 0).toNat:=by omega
  rw[hj,e];have xu:=QS.up (j:=j) qa (by omega);have Hd:=QS.up (j:=j) qb (by omega);exact⟨KS n1 n3 (by omega) xu Hd (by omega),KQ xu (FN.up (j:=j) fa (by omega)) (FN.up (j:=j) fb (by omega))⟩
theorem XO.snoc{k:Int}{nod:aJ}(n1:1<=n)(n3:n<=3)(h:XO n hs qs)(ok:pF n (dW n) hs k nod)(k1:1<=k)(kd:k<=(dW n:Int)):XO n (hs++[k]) (qs++[pJ n qs nod]):=by
 refine⟨by rw[qv,qv,h.ln]; rfl,λi hi=>?_⟩;rcases è i hs.length with z|z
 .rw[r9 z,r9 (by rw[h.ln]; exact z)]
  exact h.ok i z
 .rw[qv,List.length_singleton]at hi
  have e:i=hs.length:=by omega
  subst e;have e2:(qs++[pJ n qs nod]).getD hs.length no=pJ n qs nod:=by rw[<-h.ln]; exact uP
  rw[uP,e2];exact⟨k1,kd,Wv n1 n3 h ok k1 kd⟩
end
theorem Bp{ns:Qa aJ}{nod:aJ}(e:ns[i]?=some nod):g7 n (ns.take (i+1))=g7 n (ns.take i)++[pJ n (g7 n (ns.take i)) nod]:=by
 unfold g7;rw[List.take_succ,e,List.foldl_append];rfl
theorem uZ{N:Net}(h:NO N):∀ i,i<=N.ns.length->XO N.ls.length (N.hs.take i) (g7 N.ls.length (N.ns.take i)):=by
 intro i
 induction i with
 | zero=>exact λ_=>⟨rfl,λj hj=>by simp at hj⟩
 | succ i ih=>
  intro hi;have ln:=h.gn.ln;have ok:=h.gn.ok i _ (qo (show i < N.ns.length by omega));obtain⟨a,b⟩:=h.gn.hi fX.1 i (by omega);have:=(ih (by omega)).snoc h.n1 h.n3 ok a b;rw[Bp (qo (show i < N.ns.length by omega))];have e2:N.hs.take i++[N.hs.getD i 0]=N.hs.take (i+1):=by
   rw[List.take_succ,qD,qo (show i < N.hs.length by omega)];rfl
  rw[e2]at this;exact this
theorem B9{e:Nat}(h:e<=67):12^e < 2^256:=Ä (Ý (by decide) h) (by decide)
theorem j9{k:Nat}(hk:k<=dW n)(hj:j<=8):k * j<=35:=by
 have:=(fX (n:=n)).2;exact qB (ó (qB hk this) hj) (by decide)
theorem AE{d k:Nat}{x:Nx}(n1:1<=n)(n3:n<=3)(hd:d<=dW n)(e:k * j<=35)(q:QS n d k j x.1)(f:FN k j x.1 x.2):FZ x.2 :=
 f.fz q (qB (kQ n1 n3 q hd) (by decide)) (B9 (by omega)) (ò (by decide)) (Pc (by omega))
theorem FP.kl{k D:Nat}{p:Pq Rat}{F:Fm}(f:FP D p F)(q:QP n k M B p):∀ t∈F.p,t.1.length=n:=λt ht=>(q.ky _ (f.pm.mem_iff.mp (Ã.mpr ⟨t,ht,rfl⟩))).1.ln
end K34
open PySem L2
namespace K34
open PySem L2
abbrev fD(x:Nx):D:=cF x.2
theorem jq{qs:Qa Nx}{g:Nx->D}(h:i < qs.length):bS (qs.map g) (i:Int)=some (g (qs.getD i no)):=by
 unfold bS;rw[show dS (qs.map g).length (i:Int)=some i by unfold dS; simp[h]];show(qs.map g)[i]?=_;rw[List.getElem?_map,qD,qo h];rfl
theorem Wu{qs:Qa Nx}{bs:Qa P2}{p:P2}{T:Fm}:kf T (cn qs (bs++[p]))=nG (kf T (cn qs bs)) (qs.getD p.2 no).2 p.1:=by
 unfold cn kf;rw[List.map_append,List.foldl_append];rfl
theorem Dz{k c:Nat}(h:k * j<=35)(hc:c<=20):c * mB k j < 2^3000:=by
 have h1:c * mB k j<=2^29 * 2^(34 * (k * j)):=by
  show c * (2^(34 * (k * j)) * 12000000)<=_;rw[Nat.mul_comm (2^(34 * (k * j))) 12000000,<-Nat.mul_assoc];exact Æ _ (qB (Æ _ hc) (by decide))
 refine Ä h1 ?_;rw[<-Nat.pow_add];exact Pc (by omega)
theorem y9{k:Nat}(h:k * j<=35):mM k j < 2^256:=by
 rw[show mM k j=12^(k * j+1) from(Nat.pow_succ ..).symm];exact B9 (by omega)
theorem NN{d k:Nat}{qs:Qa Nx}{prs:Qa P2}(n1:1<=n)(n3:n<=3)(hd:d<=dW n)(m9:k * j<=35)(hl:∀ p∈prs,p.2 < qs.length)(hx:∀ x∈cn qs prs,vO n d k j x)(h2:prs.length<=20):
  wW [.d (.tuple (prs.map jZ)),.l (qs.map fD),.d (.int (n:Int))]=some (.d (cF (kf gq (cn qs prs))),[.d (.tuple (prs.map jZ)),.l (qs.map fD),.d (.int (n:Int))]):=by
 refine dX ?_;have num:=GB (n:=n) (f:=0) n3 (by decide) (by decide);rw[show gP [(zs n,(0:Rat).num)] ((0:Rat).den:Int) 256=gq from rfl]at num;have z0:PyData.tuple [.int 0,.int 1]=fR 0:=rfl;simp![wW,Nk,z0,num];refine jA (λbs cs ρ=>∃ o4 o5,ρ=[some (.d (.tuple (prs.map jZ))),some (.l (qs.map fD)),some (.d (.int (n:Int))),some (.d (cF (kf gq (cn qs bs)))),o4,o5]) ⟨none,none,rfl⟩ ?_ ?_
 .rintro bs p cs _ e ⟨o4,o5,rfl⟩
  have hp:p∈prs:=by rw[e]; simp
  have pl:=hl p hp;have px:=hx (p.1,qs.getD p.2 no) (Ã.mpr ⟨p,hp,rfl⟩);have fg:=px.fg;have gb:1<=(qs.getD p.2 no).2.b:=px.fn.b1;have lb:bs.length+1<=prs.length:=by rw[e,qv,qw]; omega
  obtain⟨qT,fT⟩:=wJ (n:=n) (d:=d) (k:=k) (i:=j) (cn qs bs) (c:=0) (T:=[]) (G:=gq) (λx hq=>hx x (by
   obtain⟨q,qQ,rfl⟩:=Ã.mp hq;exact Ã.mpr ⟨q,by rw[e]; exact Ò _ qQ,rfl⟩)) QP.nil uO
  have lp:(cn qs bs).length=bs.length:=Î _;rw[lp,Nat.zero_add]at qT;have zT:=fT.fz qT (qB (kQ n1 n3 qT hd) (by decide)) (y9 m9) (û (ò (by decide)) (by decide)) (Dz m9 (by omega));have zG:=AE (x:=qs.getD p.2 no) n1 n3 hd m9 px.qn px.fn;have sz:=fg.bd.size (by decide);have dv:=JI (M:=mM k j) fT.b1 (show 1<=(qs.getD p.2 no).2.b * (p.1.den:Int) by have:=ä (by omega:0 < (qs.getD p.2 no).2.b) (by have:=lZ p.1; omega:(0:Int) < p.1.den); omega) fT.dv (by rw[Int.natCast_mul]; exact Int.mul_dvd_mul px.fn.dv (by exact_mod_cast fg.bd.dvd));have m0:0 < mM k j:=û (ò (by decide)) (by decide);have hb:((kf gq (cn qs bs)).b * ((qs.getD p.2 no).2.b * (p.1.den:Int)).fdiv (Int.gcd (kf gq (cn qs bs)).b ((qs.getD p.2 no).2.b * p.1.den):Nat)).natAbs < 2^256:=by
   refine Ä ?_ (y9 m9);have:=Nat.le_of_dvd m0 (Int.natAbs_dvd_natAbs.mpr dv);exact this
  have fs:=zmF zT zG (Ä sz.2 (qk (by decide:12000000 < 2^30) (Ý (by decide) (by decide)))) (Ä sz.1 (by decide)) hb;simp![jq (qs:=qs) (g:=fD) (i:=p.2) (by omega),fs];rw[Wu];exact⟨_,_,rfl⟩
 .rintro _ ⟨o4,o5,rfl⟩
  simp!
theorem Gs{d k l:Nat}{x y:Nx}(n1:1<=n)(n3:n<=3)(hd:d+l<=dW n)(e:(k+l) * j<=35)(qa:QS n d k j x.1)(fa:FN k j x.1 x.2)(qb:QN n l j y.1)(fb:FN l j y.1 y.2):
  sR [.d (cF x.2),.d (cF y.2)]=some (.d (cF (ki x.2 y.2)),[.d (cF x.2),.d (cF y.2)]):=by
 rw[Nat.add_mul]at e;have za:=AE n1 n3 (by omega) (by omega) qa fa;have zb:=AE n1 n3 (by omega) (by omega) qb fb;have dv:x.2.b * y.2.b∣((12^35:Nat):Int):=by
  refine Int.dvd_trans (Int.mul_dvd_mul fa.dv fb.dv) ?_;rw[<-Int.natCast_mul,<-Nat.pow_add];exact ù.mpr (Nat.pow_dvd_pow 12 e)
 have hb:(x.2.b * y.2.b).natAbs < 2^256:=Ä (Nat.le_of_dvd (ò (by decide)) (Int.natAbs_dvd_natAbs.mpr dv)) (B9 (by decide));have lm:=A0 n1 n3 qa qb hd;have la:x.2.p.length=x.1.length:=by have:=fa.pm.length_eq; unfold bJ at this; rw[List.length_map]at this; exact this
 have lb:y.2.p.length=y.1.length:=by have:=fb.pm.length_eq; unfold bJ at this; rw[List.length_map]at this; exact this
 exact zju za zb (fa.kl qa) (fb.kl qb) (by omega) hb (by rw[la,lb]; omega)
theorem zjv{N:Net}(h:NO N):By [.d N.d]=some (.l ((g7 N.ls.length N.ns).map fD),[.d N.d]):=by
 refine dX ?_;have ln:=h.gn.ln;have nl:=h.nl;have n1:=h.n1;have n3:=h.n3;simp![By,NZ,Net.d];refine nW (λi ρ=>∃ o5,ρ=[some (.d N.d),some (.d (.tuple (N.ls.map .str))),some (.d (.tuple (N.ns.map aJ.d))),some (.d (BW N.r N.os)),some (.l ((g7 N.ls.length (N.ns.take i)).map fD)),o5]) ⟨none,rfl⟩ ?_ ?_
 .rintro i d _ hd ⟨o5,rfl⟩
  rw[List.getElem?_map]at hd;obtain⟨nod,en,rfl⟩:=qu.mp hd;have hi:=(qm.mp en).1;have ok:=h.gn.ok i nod en;have hx:=uZ h i (by omega);obtain⟨k1,kd⟩:=h.gn.hi fX.1 i (by omega);rw[Bp en];generalize g7 N.ls.length (N.ns.take i)=qs at hx ⊢;have lh:(N.hs.take i).length=i:=by rw[List.length_take]; omega
  have lq:=hx.ln;have jJ:(qs.map fD).length=qs.length:=Î _;cases nod with
  | lt m=>
   have le:=zi8 (k:=m) ok.1 n3;simp![aJ.d,List.length_map,le,jJ];rw[List.map_append];exact⟨_,rfl⟩
  | mx prs=>
   obtain⟨h1,h2,h3,_⟩:=ok;obtain⟨j,hj⟩:∃ j,(N.hs.take i).length=j+1:=by
    match prs,h1,h3 with
    | p::_,_,h3=>have:=(h3 p qq).2.1; exact⟨(N.hs.take i).length - 1,by omega⟩
   have mf:=NN n1 n3 (by omega) (j9 (n:=N.ls.length) (k:=(N.hs.getD i 0).toNat) (j:=j) (by omega) (by omega)) (λp hp=>by have:=(h3 p hp).2.1; omega) (EF hx hj h3) h2;simp![aJ.d,List.length_map,mf,jJ];rw[List.map_append];exact⟨_,rfl⟩
  | tm a b=>
   obtain⟨ha,hb,_,hk,_⟩:=ok;obtain⟨a1,a2,qa,fa⟩:=hx.ok a ha;obtain⟨b1,b2,qb,fb⟩:=hx.ok b hb;obtain⟨j,hj⟩:∃ j,(N.hs.take i).length=j+1:=⟨(N.hs.take i).length - 1,by omega⟩;have tm:=Gs (j:=j) n1 n3 (by omega) (j9 (n:=N.ls.length) (by omega) (by omega)) (QS.up qa (by omega)) (FN.up fa (by omega)) (QS.up qb (by omega)) (FN.up fb (by omega));simp![aJ.d,jq (qs:=qs) (g:=fD) (i:=a) (by omega),jq (qs:=qs) (g:=fD) (i:=b) (by omega),tm,jJ];rw[List.map_append];exact⟨_,rfl⟩
 .rintro _ ⟨o5,rfl⟩
  rw[List.length_map,List.take_length];simp!;rfl
end K34
open PySem L2
namespace K34
open PySem L2
theorem Au:PyData.tuple [.int 1,.int 1]=fR 1:=rfl
theorem zjd{k:Nat}(hk:k < n)(hn:n<=3):BO [.d (.int (n:Int)),.d (.int (k:Int))]=some (.t (aW fR [(iV n k,1)]),[.d (.int (n:Int)),.d (.int (k:Int))]):=by
 refine dX ?_;have e:((n:Int) - (k:Int) - 1).toNat=n - k - 1:=by omega
 simp![BO,OW,wB,Int.toNat_natCast,e,JS,Au,vT (a:=List.replicate k 0) (b:=[1]) (by rw[List.length_replicate]; show k+1<=1000; omega),vT (a:=List.replicate k 0++[1]) (b:=List.replicate (n - k - 1) 0) (by rw[qv,List.length_replicate,List.length_replicate]; show k+1+_<=1000; omega),yB (k:=(k:Int)) (by omega) (by omega),yB (k:=(n:Int) - (k:Int) - 1) (by omega) (by omega)];rfl
abbrev pD(x:Nx):D:=.dict (cu fR x.1)
theorem jX{e:Nat}(h:M<=2^e)(he:e < 4000):M < 2^4000:=Ä h (Þ (by decide) he)
theorem vk{e:Nat}(h:e<=67):12^e < 2^4000:=Ô (B9 h) (Þ (by decide) (by decide))
theorem zB3(h:Fg f):Sz f:=pE h.bd (by decide) (jX (e:=30) (by decide) (by decide)) (jX (e:=30) (by decide) (by decide))
theorem Wt(bs:Pq Rat)(t:Qa Int×Rat)(f:Rat):eE (bs++[t]) f=eE bs f++[(t.1,t.2 * f)]:=by
 unfold eE;rw[List.map_append];rfl
theorem MV{k:Nat}{p:Pq Rat}(hp:QP n k M B p)(hl:p.length < 64)(hf:Fg f)(hM:0 < M)(h1:M < 2^4000)(h2:B < 2^4000):wZ [dT p,.d (fR f)]=some (.t (aW fR (eE p f)),[dT p,.d (fR f)]):=by
 refine dX ?_;have n0:=hf.n0;simp![wZ,Ot];refine jA (λbs cs ρ=>∃ o3,ρ=[some (dT p),some (.d (fR f)),some (.t (aW fR (eE bs f))),o3]) ⟨none,rfl⟩ ?_ ?_
 .rintro bs t cs _ e ⟨o3,rfl⟩
  have tp:t∈p:=by rw[e]; simp
  have lb:bs.length+cs.length+1=p.length:=by rw[e,qv,qw]; omega
  have ls:(eE bs f).length=bs.length:=Î _;have ti:=NX (pE (hp.bd t tp) hM h1 h2) (zB3 hf);have nd:=hp.nd;rw[e]at nd;have fr:bX (eE bs f) t.1 (t.2 * f)=eE bs f++[(t.1,t.2 * f)]:=Mz λu hu=>by
   obtain⟨v,hv,rfl⟩:=Ã.mp hu;exact LK nd v hv
  simp![n0,kS hp.nd tp,ti,rL (c:=fR) (p:=eE bs f) (k:=t.1) (x:=t.2 * f) (by omega)];rw[fr,Wt];exact⟨_,rfl⟩
 .rintro _ ⟨o3,rfl⟩
  simp![EI]
theorem MU{qs:Qa Nx}{bs:Qa P2}{p:P2}{T:Pq Rat}:fY T (cn qs (bs++[p]))=L2.nz (aO (fY T (cn qs bs)) (eE (qs.getD p.2 no).1 p.1)):=by
 unfold cn fY;rw[List.map_append,List.foldl_append];rfl
theorem pP{e:Nat}:0 < 12^e:=ò (by decide)
theorem zhH{N:Net}{Q:U×Qa U->Prop}(h:NO N)(kq:Q (.l ((g7 N.ls.length N.ns).map pD),[.d N.d])):Wo (BE [.d N.d]) Q:=by
 have ln:=h.gn.ln;have nl:=h.nl;have n1:=h.n1;have n3:=h.n3;obtain⟨d1,d6⟩:=fX (n:=N.ls.length);simp![BE,OF,Net.d,List.length_map];refine nW (λi ρ=>∃ o3 o4 o5 o6,ρ=[some (.d N.d),some (.d (.int (N.ls.length:Int))),some (.l ((g7 N.ls.length (N.ns.take i)).map pD)),o3,o4,o5,o6]) ⟨none,none,none,none,rfl⟩ ?_ ?_
 .rintro i d _ hd ⟨o3,o4,o5,o6,rfl⟩
  rw[List.getElem?_map]at hd;obtain⟨nod,en,rfl⟩:=qu.mp hd;have hi:=(qm.mp en).1;have ok:=h.gn.ok i nod en;have hx:=uZ h i (by omega);obtain⟨k1,kd⟩:=h.gn.hi fX.1 i (by omega);rw[Bp en];generalize g7 N.ls.length (N.ns.take i)=qs at hx ⊢;have lh:(N.hs.take i).length=i:=by rw[List.length_take]; omega
  have lq:=hx.ln;have jJ:(qs.map pD).length=qs.length:=Î _;cases nod with
  | lt m=>
   have le:=zjd (k:=m) ok.1 n3;have fz:=jx (c:=fR) (p:=[(iV N.ls.length m,1)]);simp![aJ.d,le,fz,jJ];rw[List.map_append];exact⟨_,_,_,_,rfl⟩
  | tm a b=>
   obtain⟨ha,hb,_,hk,_⟩:=ok;obtain⟨a1,a2,qa,fa⟩:=hx.ok a ha;obtain⟨b1,b2,qb,fb⟩:=hx.ok b hb;have ea:=j9 (n:=N.ls.length) (k:=((N.hs.take i).getD a 0).toNat) (j:=a) (by omega) (by omega);have eb:=j9 (n:=N.ls.length) (k:=((N.hs.take i).getD b 0).toNat) (j:=b) (by omega) (by omega);have lm:=A0 n1 n3 qa qb (by omega);have la:=kQ n1 n3 qa (by omega);have lb:=kQ n1 n3 qb (by omega);simp![aJ.d,jq (qs:=qs) (g:=pD) (i:=a) (by omega),jq (qs:=qs) (g:=pD) (i:=b) (by omega)];refine Nn rfl rfl qa.nd qb.nd qa.bd qb.bd (λt ht=>(qa.ky t ht).1.ln) (λt ht=>(qb.ky t ht).1.ln) (by omega) pP pP ?_ (vk (by omega)) (vk (by omega)) (jX (qg _) (by omega)) (jX (qg _) (by omega)) ?_ (û (ò (by decide)) (ò (by decide))) (by omega) (by omega) (by omega) λu2 vB=>?_
   .rw[<-Nat.pow_add]
    exact jX (e:=4 * 132) (qB (DA _) (Ý (by decide) (by omega))) (by decide)
   .rw[<-Nat.pow_add]
    have q1:((N.hs.take i).getD a 0).toNat * a+((N.hs.take i).getD b 0).toNat * b<=66:=by
     have x1:=ì ((N.hs.take i).getD a 0).toNat (show a<=11 by omega);have x2:=ì ((N.hs.take i).getD b 0).toNat (show b<=11 by omega);omega
    have q2:=ó (qB lm (show 36<=2^6 by decide)) (Ý (n:=2) (by decide) (show 34 * (((N.hs.take i).getD a 0).toNat * a)+34 * (((N.hs.take i).getD b 0).toNat * b)<=3400 by omega));rw[<-Nat.pow_add 2 6 3400]at q2;exact jX q2 (by decide)
   .have fz:=jx (c:=fR) (p:=L2.nz (aO [] (bj (qs.getD a no).1 (qs.getD b no).1)))
    simp![fz,jJ];rw[List.map_append];exact⟨_,_,_,_,rfl⟩
  | mx prs=>
   obtain⟨h1,h2,h3,_⟩:=ok;simp![aJ.d];refine jA (λbs cs ρ=>∃ o5 o6,ρ=[some (.d N.d),some (.d (.int (N.ls.length:Int))),some (.l (qs.map pD)),some (.d (aJ.mx prs).d),some (.t (aW fR (fY [] (cn qs bs)))),o5,o6]) ⟨_,_,rfl⟩ ?_ ?_
   .rintro bs p cs _ e ⟨o5,o6,rfl⟩
    have hp:p∈prs:=by rw[e]; simp
    obtain⟨fg,pl,ph⟩:=h3 p hp;obtain⟨j,hj⟩:∃ j,(N.hs.take i).length=j+1:=⟨i - 1,by omega⟩;have lb:bs.length+1<=prs.length:=by rw[e,qv,qw]; omega
    have m9:(N.hs.getD i 0).toNat * j<=35:=j9 (n:=N.ls.length) (by omega) (by omega);obtain⟨qT,_⟩:=wJ (cn qs bs) (c:=0) (T:=[]) (G:=gq) (EF (prs:=bs) hx hj λq hq=>h3 q (by rw[e]; exact Ò _ hq)) QP.nil uO;have lp:(cn qs bs).length=bs.length:=Î _;rw[lp,Nat.zero_add]at qT;obtain⟨_,_,qG,_⟩:=hx.ok p.2 pl;rw[ph]at qG;have PY:=QS.up (j:=j) qG (by omega);have lT:=kQ n1 n3 qT (by omega);have lG:=kQ n1 n3 qG (by omega);have sc:=MV PY (by omega) fg pP (vk (by omega)) (jX (qg _) (by omega));have qS:=PY.Ha fg.bd fg.nz;have lS:(eE (qs.getD p.2 no).1 p.1).length=(qs.getD p.2 no).1.length:=Î _;have hB:mB (N.hs.getD i 0).toNat j<=20 * mB (N.hs.getD i 0).toNat j:=by omega
    have b20:=Dz (c:=20) m9 (qg _);have xO:=JK n1 n3 qT.nd λt ht=>(qT.ky t ht).1.up (by omega);have pa:=Np (M:=mM (N.hs.getD i 0).toNat j) (B:=20 * mB (N.hs.getD i 0).toNat j) (u1:=.t (aW fR (fY [] (cn qs bs)))) (u2:=.t (aW fR (eE (qs.getD p.2 no).1 p.1))) (s:=1) (Jc xO) jx (.inl rfl) qT.nd qS.nd (λt ht=>(qT.bd t ht).le (Æ _ (by omega))) (λt ht=>(qS.bd t ht).le hB) (û pP (by decide)) (Ô (y9 m9) (Þ (by decide) (by decide))) (by
     rw[lS];refine Ä (show _<=2^4 * 2^3000 from ?_) (by rw[<-Nat.pow_add]; exact Þ (by decide) (by decide));have:=Æ (20 * mB (N.hs.getD i 0).toNat j) lG;omega) (by omega) (by omega)
    rw[KD]at pa;simp![jq (qs:=qs) (g:=pD) (i:=p.2) (by omega),sc,pa];rw[MU];exact⟨_,_,rfl⟩
   .rintro _ ⟨o5,o6,rfl⟩
    have fz:=jx (c:=fR) (p:=fY [] (cn qs prs));simp![fz,jJ];rw[List.map_append];exact⟨_,_,_,_,rfl⟩
 .rintro _ ⟨o3,o4,o5,o6,rfl⟩
  rw[List.length_map,List.take_length];simp!;exact kq
end K34
open PySem L2
namespace K34
open PySem L2
def ig(n:Nat):Nx:=([(zs n,1)],⟨[(zs n,1)],1,256⟩)
def gS(n v:Nat)(qs ss:Qa Nx)(nod:aJ):Nx :=
 if ss.length < v then no else if ss.length=v then ig n else match nod with
 | .lt _=>no
 | .mx prs=>(fY [] (cn ss prs),kf gq (cn ss prs))
 | .tm a b=>(oY (ss.getD a no).1 (qs.getD b no).1,ki (ss.getD a no).2 (qs.getD b no).2)
def eM(n v:Nat)(qs:Qa Nx)(ns:Qa aJ):Qa Nx:=ns.foldl (λss nod=>ss++[gS n v qs ss nod]) []
theorem pQ{v:Nat}{qs:Qa Nx}{ns:Qa aJ}{nod:aJ}(e:ns[i]?=some nod):eM n v qs (ns.take (i+1))=eM n v qs (ns.take i)++[gS n v qs (eM n v qs (ns.take i)) nod]:=by
 unfold eM;rw[List.take_succ,e,List.foldl_append];rfl
theorem uY{v:Nat}{qs:Qa Nx}(ns:Qa aJ):∀ i,i<=ns.length->(eM n v qs (ns.take i)).length=i:=by
 intro i
 induction i with
 | zero=>exact λ_=>rfl
 | succ i ih=>
  intro hi;rw[pQ (qo (show i < ns.length by omega)),qv,ih (by omega)];rfl
structure SO (n v:Nat) (hv:Int) (hs:Qa Int) (ss:Qa Nx):Prop where
 ln:ss.length=hs.length
 ok:∀ i,i < hs.length->QS n (hs.getD i 0 - hv).toNat (hs.getD i 0).toNat i (ss.getD i no).1/\FN (hs.getD i 0).toNat i (ss.getD i no).1 (ss.getD i no).2/\(hs.getD i 0 < hv->(ss.getD i no).1=[])
theorem Fu:∀ (xs:Qa Pt),(∀ x∈xs,x.2.1=[])->fY [] xs=[]
 | [],_=>rfl
 | x::xs,h=>by
  show fY (L2.nz (aO [] (eE x.2.1 x.1))) xs=[];rw[h x qq];exact Fu xs λy hy=>h y (qp _ hy)
theorem EV{k:Nat}:QS n 0 k j (ig n).1/\FN k j (ig n).1 (ig n).2:=by
 refine⟨QP.to (i:=0) (l:=0) ⟨P5,λt ht=>?_,λt ht=>?_,λt ht=>?_⟩ (È _) (by omega),DB,λt ht=>?_,à 1,à 256,Int.one_dvd _,?_⟩
 .cases qr.mp ht; exact(by decide:(1:Rat)≠0)
 .cases qr.mp ht; exact⟨⟨zAb n,λk hk=>by rw[zAc k hk]; decide,by unfold zs; simp⟩,by unfold zs; simp⟩
 .cases qr.mp ht; exact Bd.one
 .cases qr.mp ht; exact Int.one_ne_zero
 .show(bJ 1 [(zs n,1)]).Perm [(zs n,1)]
  unfold bJ;rw[List.map_cons,List.map_nil,Q2]
theorem Ws(q:Pq Rat):oY [] q=[]:=rfl
theorem SO.cn{v:Nat}{hv k:Int}{ss:Qa Nx}{prs:Qa P2}(h:SO n v hv hs ss)(hj:hs.length=j+1)(hp:∀ p∈prs,Fg p.1/\p.2 < hs.length/\hs.getD p.2 0=k):∀ x∈cn ss prs,vO n (k - hv).toNat k.toNat j x/\(k < hv->x.2.1=[]):=λx hx=>by
 obtain⟨p,oJ,rfl⟩:=Ã.mp hx;obtain⟨a,b,c⟩:=hp p oJ;obtain⟨q,f,z⟩:=h.ok p.2 b;rw[c]at q f z;exact⟨⟨a,q.up (by omega),f.up (by omega)⟩,z⟩
theorem zAi{v:Nat}{hv k:Int}{qs ss:Qa Nx}{nod:aJ}(n1:1<=n)(n3:n<=3)(hx:XO n hs qs)(h:SO n v hv hs ss)(ok:pF n (dW n) hs k nod)(k1:1<=k)(kd:k<=(dW n:Int))(v1:1<=hv)(ve:hs.length=v->k=hv){qt:Qa Nx}(hqt:∀ i,i < hs.length->qt.getD i no=qs.getD i no):
  QS n (k - hv).toNat k.toNat hs.length (gS n v qt ss nod).1/\FN k.toNat hs.length (gS n v qt ss nod).1 (gS n v qt ss nod).2/\(k < hv->(gS n v qt ss nod).1=[]):=by
 unfold gS;rw[h.ln];split
 .exact⟨QP.nil,uO,λ_=>rfl⟩
 split
 .rename_i e
  rw[ve e,Int.sub_self];exact⟨EV.1,EV.2,λz=>absurd z (Int.lt_irrefl _)⟩
 cases nod with
 | lt m=>exact⟨QP.nil,uO,λ_=>rfl⟩
 | mx prs=>
  obtain⟨h1,h2,h3,_⟩:=ok
  match prs,h1,h2,h3 with
  | p::prs,_,h2,h3=>
   obtain⟨_,a,_⟩:=h3 p qq;obtain⟨j,hj⟩:∃ j,hs.length=j+1:=⟨hs.length - 1,by omega⟩;have pt:=h.cn hj h3;have m:=JG (by omega) (λx hx=>(pt x hx).1) (by unfold cn; rw[List.length_map]; exact h2);rw[hj];exact⟨m.1,m.2,λz=>Fu _ λx hx=>(pt x hx).2 z⟩
 | tm a b=>
  obtain⟨ha,hb,_,hk,_⟩:=ok;obtain⟨qa,fa,za⟩:=h.ok a ha;obtain⟨b1,b2,qb,fb⟩:=hx.ok b hb;obtain⟨a1,_,_,_⟩:=hx.ok a ha;obtain⟨j,hj⟩:∃ j,hs.length=j+1:=⟨hs.length - 1,by omega⟩;have e:k.toNat=(hs.getD a 0).toNat+(hs.getD b 0).toNat:=by omega
  have xu:=QS.up (j:=j) qa (by omega);have Hd:=QS.up (j:=j) qb (by omega);have tF:=KQ xu (FN.up (j:=j) fa (by omega)) (FN.up (j:=j) fb (by omega));rw[hj,e];dsimp only;rw[hqt b hb];rcases Int.lt_or_le (hs.getD a 0) hv with c|c
  .rw[za c,Ws]at tF ⊢
   exact⟨QP.nil,tF,λ_=>rfl⟩
  .have tP:=KS n1 n3 (by omega) xu Hd (by omega)
   rw[show(hs.getD a 0 - hv).toNat+(hs.getD b 0).toNat=(k - hv).toNat by omega]at tP;exact⟨tP,tF,λz=>absurd z (by omega)⟩
theorem SO.snoc{v:Nat}{hv k:Int}{ss:Qa Nx}{x:Nx}(h:SO n v hv hs ss)(hx:QS n (k - hv).toNat k.toNat hs.length x.1/\FN k.toNat hs.length x.1 x.2/\(k < hv->x.1=[])):SO n v hv (hs++[k]) (ss++[x]):=by
 refine⟨by rw[qv,qv,h.ln]; rfl,λi hi=>?_⟩;rcases è i hs.length with z|z
 .rw[r9 z,r9 (by rw[h.ln]; exact z)]
  exact h.ok i z
 .rw[qv,List.length_singleton]at hi
  have e:i=hs.length:=by omega
  subst e;have e2:(ss++[x]).getD hs.length no=x:=by rw[<-h.ln]; exact uP
  rw[uP,e2];exact hx
abbrev nx(N:Net):Qa Nx:=g7 N.ls.length N.ns
theorem NO.all{N:Net}(h:NO N):XO N.ls.length N.hs (nx N):=by
 have:=uZ h N.ns.length (qg _);rw[List.take_length,<-h.gn.ln,List.take_length]at this;exact this
theorem Ga{xs:Qa α}{z:α}(h:j < i):(xs.take i).getD j z=xs.getD j z:=by
 rw[qD,qD,List.getElem?_take,if_pos h]
theorem MR{N:Net}(h:NO N)(hi:i<=N.ns.length)(hj:j < i):(g7 N.ls.length (N.ns.take i)).getD j no=(nx N).getD j no:=by
 obtain⟨c,hc⟩:=Nat.exists_eq_add_of_le hi;have main:∀ c,i+c<=N.ns.length->(g7 N.ls.length (N.ns.take i)).getD j no=(g7 N.ls.length (N.ns.take (i+c))).getD j no:=by
  intro c
  induction c with
  | zero=>exact λ_=>rfl
  | succ c ih=>
   intro hle;rw[ih (by omega),<-Nat.add_assoc,Bp (qo (show i+c < N.ns.length by omega)),r9];have:=(uZ h (i+c) (by omega)).ln;have ln:=h.gn.ln;rw[List.length_take]at this;omega
 rw[main c (by omega),<-hc,List.take_length]
theorem Vi{N:Net}(h:NO N)(hi:i < N.ns.length):N.hs.take i++[N.hs.getD i 0]=N.hs.take (i+1):=by
 have ln:=h.gn.ln;rw[List.take_succ,qD,qo (show i < N.hs.length by omega)];rfl
theorem EE{N:Net}(h:NO N){v:Nat}(hv:v < N.ns.length):∀ i,i<=N.ns.length->SO N.ls.length v (N.hs.getD v 0) (N.hs.take i) (eM N.ls.length v (nx N) (N.ns.take i)):=by
 intro i;have ln:=h.gn.ln
 induction i with
 | zero=>exact λ_=>⟨rfl,λj hj=>by simp at hj⟩
 | succ i ih=>
  intro hi;have li:(N.hs.take i).length=i:=by rw[List.length_take]; omega
  have ok:=h.gn.ok i _ (qo (show i < N.ns.length by omega));obtain⟨a,b⟩:=h.gn.hi fX.1 i (by omega);rw[pQ (qo (show i < N.ns.length by omega)),<-Vi h (by omega)];refine(ih (by omega)).snoc (zAi h.n1 h.n3 (uZ h i (by omega)) (ih (by omega)) ok a b (h.gn.hi fX.1 v (by omega)).1 (λe=>?_) λj hj=>?_)
  .rw[li]at e; rw[e]
  .rw[li]at hj; exact(MR h (by omega) hj).symm
def B0(N:Net)(v:Nat):Qa Nx:=eM N.ls.length v (nx N) N.ns
abbrev sh(N:Net)(u v:Nat):Nx:=(B0 N v).getD u no
theorem NO.so{N:Net}(h:NO N){v:Nat}(hv:v < N.ns.length):SO N.ls.length v (N.hs.getD v 0) N.hs (B0 N v):=by
 have:=EE h hv N.ns.length (qg _);rw[List.take_length,<-h.gn.ln,List.take_length]at this;exact this
theorem LW{N:Net}{v:Nat}(hi:i<=N.ns.length)(hj:j < i):(eM N.ls.length v (nx N) (N.ns.take i)).getD j no=sh N j v:=by
 obtain⟨c,hc⟩:=Nat.exists_eq_add_of_le hi;have main:∀ c,i+c<=N.ns.length->(eM N.ls.length v (nx N) (N.ns.take i)).getD j no=(eM N.ls.length v (nx N) (N.ns.take (i+c))).getD j no:=by
  intro c
  induction c with
  | zero=>exact λ_=>rfl
  | succ c ih=>
   intro hle;rw[ih (by omega),<-Nat.add_assoc,pQ (qo (show i+c < N.ns.length by omega)),r9];rw[uY _ _ (by omega)];omega
 rw[main c (by omega),<-hc,List.take_length];rfl
end K34
open PySem L2
namespace K34
open PySem L2
theorem Je{d:D}:∀ n:Nat,(List.replicate n [d]).flatten=List.replicate n d
 | 0=>rfl
 | n+1=>by
  rw[List.replicate_succ,List.flatten_cons,Je n];rfl
theorem Vh{d:D}(h:n<=9):uh (.l [d]) (.d (.int (n:Int)))=some (.l (List.replicate n d)):=by
 have hz:sizeLine=16777216:=sizeLine_eq;have c:-1000000 < (n:Int)/\(n:Int) < 1000000/\[d].length * (n:Int).toNat<=sizeLine:=⟨by omega,by omega,by
  rw[Int.toNat_natCast,hz];show 1 * n<=_;omega⟩
 have e:uh (.l [d]) (.d (.int (n:Int)))=some (.l (List.replicate (n:Int).toNat [d]).flatten):=by
  unfold uh;dsimp only;rw[if_pos c]
 rw[e,Int.toNat_natCast,Je]
theorem Vg{xs:Qa D}{a b:Nat}(hb:b<=xs.length):fV xs (some (a:Int)) (some (b:Int))=(xs.drop a).take (b - a):=by
 unfold fV;rw[HT.gf,HT.gf,Nat.min_eq_left hb];rcases è xs.length a with c|c
 .rw[Nat.min_eq_right (by omega),List.drop_eq_nil_of_le (qg _),List.drop_eq_nil_of_le (by omega),List.take_nil,List.take_nil]
 .rw[Nat.min_eq_left c]
theorem zAj{D:Nat}{p:Pq Rat}{F:Fm}(f:FP D p F)(np:aR p)(zp:∀ t∈p,t.2≠0):ee (bJ F.b F.p)=ee p :=
 Fe ⟨u5 (EG f.nd),λt ht=>KU f.b1 f.nz t ((iY _).mem_iff.mp ht)⟩ ⟨u5 np,λt ht=>zp t ((iY _).mem_iff.mp ht)⟩ λg=>by rw[pR (iY _),pR (iY _)]; exact pR f.pm g
theorem KP{N:Net}{v:Nat}(hv:v < N.ns.length):∀ i,i<=v->eM N.ls.length v (nx N) (N.ns.take i)=List.replicate i no:=by
 intro i
 induction i with
 | zero=>exact λ_=>rfl
 | succ i ih=>
  intro hi;rw[pQ (qo (show i < N.ns.length by omega)),ih (by omega),List.replicate_succ'];unfold gS;rw[List.length_replicate,if_pos (by omega)]
theorem Zm{N:Net}{v:Nat}(hv:v < N.ns.length):(eM N.ls.length v (nx N) (N.ns.take (v+1))).map fD=List.replicate v (cF gq)++[cF (ig N.ls.length).2]:=by
 rw[pQ (qo hv),KP hv v (qg _),List.map_append,List.map_replicate];unfold gS;rw[List.length_replicate,if_neg (by omega),if_pos rfl];rfl
theorem Ft{N:Net}(h:NO N){u v:Nat}(hu:u < N.ns.length)(hv:v < N.ns.length):
  uR [.d N.d,.d (.int (u:Int)),.d (.int (v:Int))]=some (.d (.tuple (cV fR (ee (sh N u v).1))),[.d N.d,.d (.int (u:Int)),.d (.int (v:Int))]):=by
 refine dX ?_;have nl:=h.nl;have n1:=h.n1;have n3:=h.n3;have ln:=h.gn.ln;have xA:=GB (n:=N.ls.length) (f:=0) n3 (by decide) (by decide);rw[show gP [(zs N.ls.length,(0:Rat).num)] ((0:Rat).den:Int) 256=gq from rfl]at xA;have xx:=GB (n:=N.ls.length) (f:=1) n3 (by decide) (by decide);rw[show gP [(zs N.ls.length,(1:Rat).num)] ((1:Rat).den:Int) 256=(ig N.ls.length).2 from rfl]at xx;have z0:PyData.tuple [.int 0,.int 1]=fR 0:=rfl;have z1:PyData.tuple [.int 1,.int 1]=fR 1:=rfl;have nf:=zjv h;unfold Net.d at nf;have ct:fV (N.ns.map aJ.d) (some ((v:Int)+1)) (some ((u:Int)+1))=((N.ns.map aJ.d).drop (v+1)).take (u - v):=by
  have:=Vg (xs:=N.ns.map aJ.d) (a:=v+1) (b:=u+1) (by rw[List.length_map]; omega);rw[show u+1 - (v+1)=u - v by omega]at this;exact this
 have ca:pz (.l (List.replicate v (cF gq))) (.l [cF (ig N.ls.length).2])=some (.l (List.replicate v (cF gq)++[cF (ig N.ls.length).2])):=Ej (by rw[List.length_replicate]; exact qB (Nat.add_le_add_right (show v<=8 by omega) 1) (by decide));simp![uR,K1,Net.d,nf,z0,z1,xA,xx,List.length_map,Vh (n:=v) (by omega),ca,ct];rw[<-Zm hv];refine nW (λi ρ=>∃ o9,ρ=[some (.d N.d),some (.d (.int (u:Int))),some (.d (.int (v:Int))),some (.d (.tuple (N.ls.map .str))),some (.d (.tuple (N.ns.map aJ.d))),some (.d (BW N.r N.os)),some (.l ((nx N).map fD)),some (.d (cF gq)),some (.l ((eM N.ls.length v (nx N) (N.ns.take (v+1+i))).map fD)),o9]) ⟨none,rfl⟩ ?_ ?_
 .rintro i d _ hd ⟨o9,rfl⟩
  rw[List.getElem?_take]at hd;split at hd
  rotate_left
  .cases hd
  rename_i iu;rw[List.getElem?_drop,List.getElem?_map]at hd;obtain⟨nod,en,rfl⟩:=qu.mp hd;have hi:=(qm.mp en).1;have ok:=h.gn.ok _ nod en;have hx:=uZ h (v+1+i) (by omega);have so:=EE h hv (v+1+i) (by omega);obtain⟨k1,kd⟩:=h.gn.hi fX.1 (v+1+i) (by omega);obtain⟨v1,_⟩:=h.gn.hi fX.1 v (by omega);rw[<-Nat.add_assoc,pQ en];have ls:=uY (n:=N.ls.length) (v:=v) (qs:=nx N) N.ns (v+1+i) (by omega);have nt:∀ j,j < v+1+i->(nx N).getD j no=(g7 N.ls.length (N.ns.take (v+1+i))).getD j no:=λj hj=>(MR h (by omega) hj).symm;have lx:=h.all.ln;unfold gS;rw[if_neg (by omega),if_neg (by omega)];generalize eM N.ls.length v (nx N) (N.ns.take (v+1+i))=ss at so ls ⊢;have lh:(N.hs.take (v+1+i)).length=v+1+i:=by rw[List.length_take]; omega
  have Hs:(ss.map fD).length=ss.length:=Î _;cases nod with
  | lt m=>
   simp![aJ.d,Hs];rw[List.map_append];exact⟨_,rfl⟩
  | mx prs=>
   obtain⟨h1,h2,h3,_⟩:=ok;have pt:=so.cn (j:=v+i) (by omega) h3;have mf:=NN n1 n3 (by omega) (j9 (n:=N.ls.length) (k:=(N.hs.getD (v+1+i) 0).toNat) (j:=v+i) (by omega) (by omega)) (λp hp=>by have:=(h3 p hp).2.1; omega) (λx hx=>(pt x hx).1) h2;simp![aJ.d,List.length_map,mf,Hs];rw[List.map_append];exact⟨_,rfl⟩
  | tm a b=>
   obtain⟨ha,hb,_,hk,_⟩:=ok;obtain⟨qa,fa,za⟩:=so.ok a ha;obtain⟨b1,b2,qb,fb⟩:=hx.ok b hb;obtain⟨a1,_⟩:=hx.ok a ha;rw[<-nt b (by omega)]at qb fb;have Q0:=j9 (n:=N.ls.length) (k:=((N.hs.take (v+1+i)).getD a 0).toNat+((N.hs.take (v+1+i)).getD b 0).toNat) (j:=v+i) (by omega) (by omega);have tm:sR [.d (cF (ss.getD a no).2),.d (cF ((nx N).getD b no).2)]=some (.d (cF (ki (ss.getD a no).2 ((nx N).getD b no).2)),[.d (cF (ss.getD a no).2),.d (cF ((nx N).getD b no).2)]):=by
    rcases Int.lt_or_le ((N.hs.take (v+1+i)).getD a 0) (N.hs.getD v 0)with c|c
    .have qa0:QS N.ls.length 0 ((N.hs.take (v+1+i)).getD a 0).toNat (v+i) (ss.getD a no).1:=by rw[za c]; exact QP.nil
     exact Gs n1 n3 (by omega) Q0 qa0 (FN.up fa (by omega)) (QS.up qb (by omega)) (FN.up fb (by omega))
    .exact Gs n1 n3 (by omega) Q0 (QS.up qa (by omega)) (FN.up fa (by omega)) (QS.up qb (by omega)) (FN.up fb (by omega))
   simp![aJ.d,jq (qs:=ss) (g:=fD) (i:=a) (by omega),jq (qs:=nx N) (g:=fD) (i:=b) (by omega),tm,Hs];rw[List.map_append];exact⟨_,rfl⟩
 .rintro _ ⟨o9,rfl⟩
  rw[List.length_take,List.length_drop,List.length_map];have e:v+1+min (u - v) (N.ns.length - (v+1))=v+1+(u - v):=by omega
  rw[e];have yp:=jq (qs:=eM N.ls.length v (nx N) (N.ns.take (v+1+(u - v)))) (g:=fD) (i:=u) (by rw[uY _ _ (by omega)]; omega);rw[LW (by omega) (by omega)]at yp;obtain⟨q,f,_⟩:=(h.so hv).ok u (by omega);obtain⟨k1,kd⟩:=h.gn.hi fX.1 u (by omega);obtain⟨v1,_⟩:=h.gn.hi fX.1 v (by omega);have fo:=zla (AE h.n1 h.n3 (by omega) (j9 (n:=N.ls.length) (by omega) (by omega)) q f);rw[zAj f q.nd q.nz]at fo;have tu:kJ (.l (cV fR (ee (sh N u v).1)))=some (.d (.tuple (cV fR (ee (sh N u v).1)))):=rfl;simp![yp,fo,tu];rfl
end K34
open PySem L2
namespace K34
open PySem L2
theorem KO{p:Pq Rat}{u:U}(hu:u.fz=some (.dict (cu fR p)))(nd:aR p)(hl:p.length < 64):w9 [u]=some (Aa (ee p),[dT p]):=by
 refine dX ?_;simp![w9,OI,hu];refine pK (e:=λt=>.tuple [bg t.1,fR t.2]) (by omega) (λt ht ys=>?_) ?_
 .simp![kS nd ht]
 .rw[show(p.map λt=>PyData.tuple [bg t.1,fR t.2])=cV fR p from rfl]
  simp![JW (c:=fR) nd hl]
theorem Om(hn:n<=3):xa [.d (.int (n:Int)),.d (fR f)]=some (.t (aW fR (vS n f)),[.d (.int (n:Int)),.d (fR f)]):=by
 refine dX ?_;simp![xa,OX,WE];unfold vS
 by_cases z:f=0
 .simp![z]
  rfl
 .simp![z,wB,Int.toNat_natCast]
  rfl
theorem JF:∀ p:Pq Rat,PyData.canLayAll0 (cV fR p)=true/\PyData.depthAll (cV fR p)<=2
 | []=>⟨by simp[cV,PyData.canLayAll0],by simp[cV,PyData.depthAll]⟩
 | t::p=>by
  obtain⟨h1,h2⟩:=JF p;have e:cV fR (t::p)=.tuple [bg t.1,fR t.2]::cV fR p:=rfl;have a1:=PyProof.Rows.canLayAll_ints t.1;have a2:=PyProof.Rows.depthAll_ints t.1;rw[e];constructor
  .simp[PyData.canLayAll0,PyData.canLay0,bg,fR,h1,a1]
  .simp[PyData.depthAll,PyData.depth,bg,fR,a2]
   omega
theorem F9(p:Pq Rat):SeqAt.shaped (.tuple (cV fR p))=true:=by
 obtain⟨h1,h2⟩:=JF p;unfold SeqAt.shaped;simp[PyData.canLay0,PyData.depth,h1];omega
theorem KN{a b:U}{x:D}(ha:a.py=some x)(hb:b.py=some x)(hs:SeqAt.shaped x=true):pA true a b=some (.d (.bool false)):=by
 unfold pA;rw[ha,bd,hb,bd,if_pos ⟨hs,hs⟩,if_pos rfl,SeqAt.eqv_refl x (SeqAt.canLay_of_shaped hs)];rfl
theorem LV{f:α->Bool}:∀ (zs:Qa α),(zs.map λz=>PyData.bool (f z)).mapM IG=some (zs.map f)
 | []=>rfl
 | z::zs=>by
  rw[List.map_cons,List.mapM_cons,LV zs];rfl
theorem JO{f:α->Bool}{zs:Qa α}:t7 (.l (zs.map λz=>PyData.bool (f z)))=some (.d (.bool (zs.all f))):=by
 show(some _).bind _=_;rw[bd,LV,bd,List.all_map];rfl
theorem WX{k:Int}:BM [.d (.int k)]=some (.d (.bool true),[.d (.int k)]):=by
 refine dX ?_;simp![BM,N6]
theorem zn7{p:Pq Rat}{u:U}(hu:u.fz=some (.dict (cu fR p)))(nd:aR p)(hl:p.length < 64)(kl:∀ t∈p,t.1.length=n)(hn:n<=3):BK [.d (.tuple (cV fR (ee p))),u]=some (.d (.bool true),[.d (.tuple (cV fR (ee p))),dT p]):=by
 refine dX ?_;have G2:=KO hu nd hl;have eq:=KN (a:=Aa (ee p)) (b:=Aa (ee p)) rfl rfl (F9 _);simp![BK,OR,G2,eq];refine jA (g:=λt:Qa Int×Rat=>PyData.tuple [bg t.1,fR t.2]) (as:=ee p) (λbs cs ρ=>∃ o2 o3,ρ=[some (.d (.tuple (cV fR (ee p)))),some (dT p),o2,o3]) ⟨none,none,rfl⟩ ?_ ?_
 .rintro bs t cs _ e ⟨o2,o3,rfl⟩
  have tm:t∈ee p:=by rw[e]; simp
  have k1:=kl t ((iY p).mem_iff.mp tm);have cat:=vT (a:=t.1) (b:=[t.2.num,(t.2.den:Int)]) (by rw[k1]; show n+2<=1000; omega);rw[show bg [t.2.num,(t.2.den:Int)]=fR t.2 from rfl]at cat;have dt:jo (.d (bg (t.1++[t.2.num,(t.2.den:Int)])))=some ((t.1++[t.2.num,(t.2.den:Int)]).map .int):=rfl;simp![cat,dt];refine pK (g:=PyData.int) (e:=λ_=>.bool true) (by rw[qv,k1]; show n+2<=16777216; omega) (λk hk ys=>?_) ?_
  .simp![WX]
  .have al:=JO (f:=λ_:Int=>true) (zs:=t.1++[t.2.num,(t.2.den:Int)])
   rw[List.all_eq_true.mpr λ_ _=>rfl]at al;simp![al];exact⟨_,_,rfl⟩
 .rintro _ ⟨o2,o3,rfl⟩
  simp!
theorem Vf{a b:U}{x:D}(ha:a.py=some x)(hb:b.py=some x)(hs:SeqAt.shaped x=true):pA false a b=some (.d (.bool true)):=by
 unfold pA;rw[ha,bd,hb,bd,if_pos ⟨hs,hs⟩,if_neg (by decide),SeqAt.eqv_refl x (SeqAt.canLay_of_shaped hs)]
theorem LU(zs:Qa α):t7 (.l (zs.map λ_=>PyData.bool true))=some (.d (.bool true)):=by
 have al:=JO (f:=λ_:α=>true) (zs:=zs);rw[List.all_eq_true.mpr λ_ _=>rfl]at al;exact al
end K34
open PySem L2
namespace K34
open PySem L2
theorem LS:(List.replicate i no).getD j no=no:=by
 rw[qD,List.getElem?_replicate];split<;>rfl
def PR(qs ss:Qa Nx):aJ->Pq Rat
 | .lt _=>[]
 | .mx prs=>fY [] (cn ss prs)
 | .tm a b=>oY (ss.getD a no).1 (qs.getD b no).1
theorem zB4{N:Net}{v:Nat}{nod:aJ}(hv:v < N.ns.length)(hi:i<=N.ns.length)(ne:i≠v):(gS N.ls.length v (nx N) (eM N.ls.length v (nx N) (N.ns.take i)) nod).1=PR (nx N) (eM N.ls.length v (nx N) (N.ns.take i)) nod:=by
 unfold gS;rw[uY _ _ hi];rcases è i v with c|c
 .rw[if_pos c,KP hv i (by omega)]
  cases nod with
  | lt m=>rfl
  | mx prs=>exact(Fu _ λx hx=>by obtain⟨p,_,rfl⟩:=Ã.mp hx; show((List.replicate i no).getD p.2 no).1=_; rw[LS]).symm
  | tm a b=>
   show _=oY _ _;rw[LS];rfl
 .rw[if_neg (by omega),if_neg ne]
  cases nod<;>rfl
theorem zlc{N:Net}{v:Nat}{Q:U×Qa U->Prop}(h:NO N)(hv:v < N.ns.length)(kq:Q (.l ((B0 N v).map pD),[.d N.d,.l ((nx N).map pD),.d (.int (v:Int))])):Wo (BF [.d N.d,.l ((nx N).map pD),.d (.int (v:Int))]) Q:=by
 have ln:=h.gn.ln;have nl:=h.nl;have n1:=h.n1;have n3:=h.n3;have lx:=h.all.ln;obtain⟨d1,d6⟩:=fX (n:=N.ls.length);have i0:zZ (.d N.d) (.d (.int 0))=some (.d (.tuple (N.ls.map .str))):=rfl;simp![BF,Oq,Net.d,List.length_map];refine nW (λi ρ=>∃ o4 o5 o6 o7 o8,ρ=[some (.d N.d),some (.l ((nx N).map pD)),some (.d (.int (v:Int))),some (.l ((eM N.ls.length v (nx N) (N.ns.take i)).map pD)),o4,o5,o6,o7,o8]) ⟨none,none,none,none,none,rfl⟩ ?_ ?_
 .rintro i d _ hd ⟨o4,o5,o6,o7,o8,rfl⟩
  obtain⟨d',he,rfl⟩:=Gp hd;rw[List.getElem?_map]at he;obtain⟨nod,en,rfl⟩:=qu.mp he;have hi:=(qm.mp en).1;have ok:=h.gn.ok i nod en;have so:=EE h hv i (by omega);obtain⟨k1,kd⟩:=h.gn.hi fX.1 i (by omega);obtain⟨v1,_⟩:=h.gn.hi fX.1 v (by omega);have lq:=uY (n:=N.ls.length) (v:=v) (qs:=nx N) N.ns i (by omega);have lh:(N.hs.take i).length=i:=by rw[List.length_take]; omega
  rw[pQ en,Nat.zero_add,List.map_append]
  by_cases e:(i:Int)=(v:Int)
  .have pn:=Om (n:=N.ls.length) (f:=1) n3
   have fz:=jx (c:=fR) (p:=vS N.ls.length 1);have e2:(gS N.ls.length v (nx N) (eM N.ls.length v (nx N) (N.ns.take i)) nod)=ig N.ls.length:=by
    unfold gS;rw[lq,if_neg (by omega),if_pos (by omega)]
   have e3:vS N.ls.length 1=(ig N.ls.length).1:=if_neg (by decide);rw[e2];rw[e3]at pn fz;generalize eM N.ls.length v (nx N) (N.ns.take i)=ss at so lq ⊢;have jJ:(ss.map pD).length=ss.length:=Î _;simp![e,i0,List.length_map,Au,pn,fz,jJ];exact⟨_,_,_,_,_,rfl⟩
  .have sg:=zB4 (nod:=nod) hv (show i<=N.ns.length by omega) (by omega)
   rw[show(List.map pD [gS N.ls.length v (nx N) (eM N.ls.length v (nx N) (N.ns.take i)) nod])=[PyData.dict (cu fR (PR (nx N) (eM N.ls.length v (nx N) (N.ns.take i)) nod))] by rw[<-sg]; rfl];generalize eM N.ls.length v (nx N) (N.ns.take i)=ss at so lq ⊢;have jJ:(ss.map pD).length=ss.length:=Î _;cases nod with
   | lt m=>
    simp![aJ.d,e,jJ];exact⟨_,_,_,_,_,rfl⟩
   | tm a b=>
    obtain⟨ha,hb,_,hk,_⟩:=ok;obtain⟨qa,fa,za⟩:=so.ok a ha;obtain⟨b1,b2,qb,fb⟩:=h.all.ok b (by omega);obtain⟨a1,_⟩:=h.all.ok a (by omega);rw[Ga (by omega),Ga (by omega)]at hk;rw[Ga (by omega)]at qa;have ea:=j9 (n:=N.ls.length) (k:=(N.hs.getD a 0).toNat) (j:=a) (by omega) (by omega);have eb:=j9 (n:=N.ls.length) (k:=(N.hs.getD b 0).toNat) (j:=b) (by omega) (by omega);have lm:=A0 n1 n3 qa qb (by omega);have la:=kQ n1 n3 qa (by omega);have lb:=kQ n1 n3 qb (by omega);simp![aJ.d,e,jq (qs:=ss) (g:=pD) (i:=a) (by omega),jq (qs:=nx N) (g:=pD) (i:=b) (by omega)];refine Nn rfl rfl qa.nd qb.nd qa.bd qb.bd (λt ht=>(qa.ky t ht).1.ln) (λt ht=>(qb.ky t ht).1.ln) (by omega) pP pP ?_ (vk (by omega)) (vk (by omega)) (jX (qg _) (by omega)) (jX (qg _) (by omega)) ?_ (û (ò (by decide)) (ò (by decide))) (by omega) (by omega) (by omega) λu2 vB=>?_
    .rw[<-Nat.pow_add]
     exact jX (e:=4 * 132) (qB (DA _) (Ý (by decide) (by omega))) (by decide)
    .rw[<-Nat.pow_add]
     have q2:=ó (qB lm (show 36<=2^6 by decide)) (Ý (n:=2) (by decide) (show 34 * ((N.hs.getD a 0).toNat * a)+34 * ((N.hs.getD b 0).toNat * b)<=3400 by omega));rw[<-Nat.pow_add 2 6 3400]at q2;exact jX q2 (by decide)
    .have fz:=jx (c:=fR) (p:=L2.nz (aO [] (bj (ss.getD a no).1 ((nx N).getD b no).1)))
     simp![fz,jJ];exact⟨_,_,_,_,_,rfl⟩
   | mx prs=>
    obtain⟨h1,h2,h3,_⟩:=ok;simp![aJ.d,e];refine jA (λbs cs ρ=>∃ o7 o8,ρ=[some (.d N.d),some (.l ((nx N).map pD)),some (.d (.int (v:Int))),some (.l (ss.map pD)),some (.d (.int (i:Int))),some (.d (aJ.mx prs).d),some (.t (aW fR (fY [] (cn ss bs)))),o7,o8]) ⟨_,_,rfl⟩ ?_ ?_
    .rintro bs p cs _ e ⟨o7,o8,rfl⟩
     have hp:p∈prs:=by rw[e]; simp
     obtain⟨fg,pl,ph⟩:=h3 p hp;obtain⟨j,hj⟩:∃ j,(N.hs.take i).length=j+1:=⟨i - 1,by omega⟩;have lb:bs.length+1<=prs.length:=by rw[e,qv,qw]; omega
     have m9:(N.hs.getD i 0).toNat * j<=35:=j9 (n:=N.ls.length) (by omega) (by omega);have pt:=so.cn hj h3;obtain⟨qT,_⟩:=wJ (cn ss bs) (c:=0) (T:=[]) (G:=gq) (λx hx=>(pt x (by
      obtain⟨q,hq,rfl⟩:=Ã.mp hx;exact Ã.mpr ⟨q,by rw[e]; exact Ò _ hq,rfl⟩)).1) QP.nil uO
     have lp:(cn ss bs).length=bs.length:=Î _;rw[lp,Nat.zero_add]at qT;have qG:=(pt (p.1,ss.getD p.2 no) (Ã.mpr ⟨p,hp,rfl⟩)).1.qn;have lT:=kQ n1 n3 qT (by omega);have lG:=kQ n1 n3 qG (by omega);have sc:=MV qG (by omega) fg pP (vk (by omega)) (jX (qg _) (by omega));have qS:=qG.Ha fg.bd fg.nz;have lS:(eE (ss.getD p.2 no).1 p.1).length=(ss.getD p.2 no).1.length:=Î _;have hB:mB (N.hs.getD i 0).toNat j<=20 * mB (N.hs.getD i 0).toNat j:=by omega
     have b20:=Dz (c:=20) m9 (qg _);have xO:=JK n1 n3 qT.nd λt ht=>(qT.ky t ht).1.up (by omega);have pa:=Np (M:=mM (N.hs.getD i 0).toNat j) (B:=20 * mB (N.hs.getD i 0).toNat j) (u1:=.t (aW fR (fY [] (cn ss bs)))) (u2:=.t (aW fR (eE (ss.getD p.2 no).1 p.1))) (s:=1) (Jc xO) jx (.inl rfl) qT.nd qS.nd (λt ht=>(qT.bd t ht).le (Æ _ (by omega))) (λt ht=>(qS.bd t ht).le hB) (û pP (by decide)) (Ô (y9 m9) (Þ (by decide) (by decide))) (by
      rw[lS];refine Ä (show _<=2^4 * 2^3000 from ?_) (by rw[<-Nat.pow_add]; exact Þ (by decide) (by decide));have:=Æ (20 * mB (N.hs.getD i 0).toNat j) lG;dsimp only at this;omega) (by omega) (by dsimp only at lG; omega)
     rw[KD]at pa;simp![jq (qs:=ss) (g:=pD) (i:=p.2) (by omega),sc,pa];rw[MU];exact⟨_,_,rfl⟩
    .rintro _ ⟨o7,o8,rfl⟩
     have fz:=jx (c:=fR) (p:=fY [] (cn ss prs));simp![fz,jJ];exact⟨_,_,_,_,_,rfl⟩
 .rintro _ ⟨o4,o5,o6,o7,o8,rfl⟩
  rw[Gw,List.length_map,List.take_length];simp!;exact kq
end K34
open PySem L2
namespace K34
open PySem L2
theorem Ve{x:Int}(ns:Qa Int):x∈dst ns↔x∈ns:=by
 have main:∀ (ns acc:Qa Int),x∈ns.foldl (λks k=>if k∈ks then ks else ks++[k]) acc↔x∈acc\/x∈ns:=by
  intro ns
  induction ns with
  | nil=>intro acc; simp
  | cons n ns ih=>
   intro acc;rw[List.foldl_cons,ih,qx];split
   .rename_i c
    exact⟨λz=>z.elim .inl λz=>.inr (.inr z),λz=>z.elim .inl λz=>z.elim (λz=>.inl (z▸c)) .inr⟩
   .rw[List.mem_append,qr,or_assoc]
 have:=main ns [];rw[List.mem_nil_iff,false_or]at this;exact this
theorem LR:∀ ks:Qa Int,(ks.map PyData.int).mapM vI=some (ks.map V.int)
 | []=>rfl
 | k::ks=>by
  rw[List.map_cons,List.mapM_cons,LR ks];rfl
theorem zCv:∃ b,m6 false (.d (.int c)) (.l (ks.map .int))=some (.d (.bool b)):=by
 refine⟨Cd (.int c) (ks.map V.int),?_⟩;show((rB (.int c) (ks.map PyData.int)).bind _)=_;unfold rB;rw[LR];rfl
theorem GK{xs:Qa α}{g:α->D}{x:α}(h:xs[i]?=some x):bS (xs.map g) (i:Int)=some (g x):=by
 have hi:=(qm.mp h).1;unfold bS;rw[show dS (xs.map g).length (i:Int)=some i by unfold dS; simp[hi]];show(xs.map g)[i]?=_;rw[List.getElem?_map,h];rfl
def n6:Nat->Nat
 | 0=>0
 | n+1=>n6 n+(n+1)
theorem JN(h:n<=9):n6 n<=45:=by
 have:∀ m,m<=9->n6 m<=45:=by decide
 exact this n h
theorem WW{N:Net}{u:Nat}{Q:U×Qa U->Prop}(h:NO N)(hu:u < N.ns.length)(kq:∀ ms:Qa Int,ms≠[]->ms.length < 64->(∀ m∈ms,0<=m/\m < (N.ns.length:Int))->Q (.l (ms.map .int),[.d N.d,.d (.int (u:Int))])):Wo (BI [.d N.d,.d (.int (u:Int))]) Q:=by
 have ln:=h.gn.ln;have nl:=h.nl;have i1:zZ (.d N.d) (.d (.int 1))=some (.d (.tuple (N.ns.map aJ.d))):=rfl;have dn:=Ms (i:=(u:Int)) (j:=-1) (by omega) (by omega) (by decide) (by decide);simp![BI,OB,dn];refine nW (λi ρ=>∃ (ms:Qa Int) (o3 o4:Qb U),ρ=[some (.d N.d),some (.d (.int (u:Int))),some (.l (ms.map .int)),o3,o4]/\ms≠[]/\ms.length+n6 (u+1 - i)<=1+n6 (u+1)/\∀ m∈ms,0<=m/\m < (N.ns.length:Int)) ⟨[(u:Int)],none,none,rfl,by simp,by simp,λm hm=>by rw[qr.mp hm]; omega⟩ ?_ ?_
 .rintro i d _ hd ⟨ms,o3,o4,rfl,m0,ml,mr⟩
  obtain⟨hi,rfl⟩:=NH hd;obtain⟨k,hk⟩:∃ k:Nat,u=i+k:=⟨u - i,by omega⟩;have e1:(u:Int) - (i:Nat)=(k:Int):=by omega
  have e2:u+1 - i=k+1:=by omega
  have e3:u+1 - (i+1)=k:=by omega
  rw[e1,e3];rw[e2]at ml;replace ml:ms.length+(n6 k+(k+1))<=1+n6 (u+1):=ml;have en:=qo (show k < N.ns.length by omega);generalize N.ns[k]=nod at en;have ok:=h.gn.ok k nod en;have lh:(N.hs.take k).length=k:=by rw[List.length_take]; omega
  have t8:n6 (u+1)<=45:=JN (by omega);obtain⟨b,hb⟩:=zCv (c:=(k:Int)) (ks:=ms);cases b with
  | false=>
   simp![hb];exact⟨ms,_,_,rfl,m0,by omega,mr⟩
  | true=>
   cases nod with
   | lt m=>
    simp![hb,i1,GK (g:=aJ.d) en,aJ.d];exact⟨ms,_,_,rfl,m0,by omega,mr⟩
   | tm a c=>
    obtain⟨ha,hc,_⟩:=ok;have fl:wq (.d (.tuple (fV [.str "times",.int (a:Int),.int (c:Int)] (some 1) none)))=some (.l [.int (a:Int),.int (c:Int)]):=rfl;simp![hb,i1,GK (g:=aJ.d) en,aJ.d,List.length_map,fl];rw[show ms.map PyData.int++[.int (a:Int),.int (c:Int)]=(ms++[(a:Int),(c:Int)]).map .int by rw[List.map_append]; rfl];refine⟨ms++[(a:Int),(c:Int)],_,_,rfl,by simp,?_,λm hm=>?_⟩
    .rw[qv]
     show _+2+_<=_;omega
    .rcases Í.mp hm with z|z
     .exact mr m z
     .rcases qx.mp z with z|z
      .omega
      .rw[qr.mp z]; omega
   | mx prs=>
    obtain⟨_,_,h3,pw⟩:=ok;have lp:prs.length<=k:=by
     have nd:(prs.map (·.2)).Nodup:=List.pairwise_map.mpr (pw.imp λz=>ql z);have:=List.Nodup.length_le_of_subset nd (l₂:=List.range k) λx hx=>by
      obtain⟨p,hp,rfl⟩:=Ã.mp hx;have:=(h3 p hp).2.1;exact Ê.mpr (by omega)
     rw[List.length_map,List.length_range]at this;exact this
    have ca:=Ej (xs:=ms.map .int) (ys:=prs.map λp:P2=>.int (p.2:Int)) (by rw[List.length_map,List.length_map]; omega);have cm:ms.map PyData.int++prs.map (λp:P2=>.int (p.2:Int))=(ms++prs.map λp:P2=>(p.2:Int)).map .int:=by rw[List.map_append,List.map_map]; rfl
    rw[cm]at ca;simp![hb,i1,GK (g:=aJ.d) en,aJ.d];refine pK (g:=jZ) (e:=λp:P2=>.int (p.2:Int)) (by omega) (λp hp ys=>?_) ?_
    .simp!
    simp![ca];refine⟨ms++prs.map λp:P2=>(p.2:Int),_,_,rfl,by simp[m0],?_,λm hm=>?_⟩
    .rw[qv,List.length_map]
     omega
    .rcases Í.mp hm with z|z
     .exact mr m z
     .obtain⟨p,hp,rfl⟩:=Ã.mp z
      have:=(h3 p hp).2.1;omega
 .rintro _ ⟨ms,o3,o4,rfl,m0,ml,mr⟩
  have t8:n6 (u+1)<=45:=JN (by omega);have ss:A7 (.l (ms.map .int))=some (.l ((pG (dst ms)).map .int)):=by
   show(kE (ms.map PyData.int)).bind _=_;rw[Bm,bd,if_pos (by omega)]
  simp![ss];have mm:∀ m,m∈pG (dst ms)↔m∈ms:=λm=>(Bu _).mem_iff.trans (Ve ms);refine kq _ (λz=>?_) ?_ λm hm=>mr m ((mm m).mp hm)
  .obtain⟨x,hx⟩:=List.exists_mem_of_ne_nil ms m0
   have:=(mm x).mpr hx;rw[z]at this;cases this
  .rw[(Bu _).length_eq]
   have:=Fs ms;omega
end K34
open PySem L2
namespace K34
open PySem L2
theorem Vd{N:Net}{u:Nat}(hu:u < N.ns.length):sh N u u=ig N.ls.length:=by
 rw[<-LW (i:=u+1) (by omega) (by omega),pQ (qo hu)];have l:=uY (n:=N.ls.length) (v:=u) (qs:=nx N) N.ns u (by omega);generalize eM N.ls.length u (nx N) (N.ns.take u)=ss at l;have:=uP (xs:=ss) (y:=gS N.ls.length u (nx N) ss N.ns[u]) (z:=no);rw[l]at this;rw[this];unfold gS;rw[if_neg (by omega),if_pos l]
theorem zAl{a:Qa Int}:Dw (.d (bg a))=some (.d (.int a.sum)):=by
 show(kE (a.map PyData.int)).map _=_;rw[Bm];rfl
abbrev iN(t:Nat):D:=.int (t:Int)
theorem WV(n:Nat):f9 0 n=(List.range n).map iN:=by
 refine List.ext_getElem (by rw[Aw,List.length_map,List.length_range]) λi h1 h2=>?_;obtain⟨hi,e⟩:=DP (qo h1);rw[e,List.getElem_map,List.getElem_range,Int.zero_add]
abbrev Tr:=Nat×Nat
abbrev Iu(N:Net)(x:Tr):D:=.tuple (cV fR (ee (sh N x.1 x.2).1))
abbrev G0(N:Net)(x:Tr):D:=.tuple [.int (x.1:Int),.int (x.2:Int),Iu N x]
theorem zB5(ns:Qa Int)(hl:ns.length<=63):Wo (uD [.d (.list (ns.map .int))]) λo=>o=(.d (.bool true),[.d (.list (ns.map .int))]):=by
 simp![uD,Ji];refine Jh (by omega) λx y=>?_;simp!;refine fe (by decide) (by decide) λr x1 y1 r0 r1=>?_;simp!;refine Ax (f:=PyData.int) (xs:=[1,1,2,2,2,3]) r0 (by show r < 6; omega) λk hk _=>?_;have Qk:1<=k/\k<=3:=by
  have:∀ z∈([1,1,2,2,2,3]:Qa Int),1<=z/\z<=3:=by decide
  exact this k hk
 simp!;refine UQ Qk.1 Qk.2 λls x2 y2 hls hac=>?_;have l1:1<=ls.length:=by omega
 have l3:ls.length<=3:=by omega
 simp![List.length_map];refine zBZ l1 l3 hac (by decide) (by decide) λN x3 y3 hN h=>?_;subst hN;have nl:=h.nl;have ln:=h.gn.ln;have lx:=h.all.ln;have i1:zZ (.d N.d) (.d (.int 1))=some (.d (.tuple (N.ns.map aJ.d))):=rfl
 by_cases c0:N.ns.length=0
 .simp![i1,List.length_map,c0]
 have c1:¬(N.ns.length:Int)=0:=by omega
 simp![i1,List.length_map,c1,JL (by omega) h.gn];refine zhH h ?_;have cl:(fV (ns.map PyData.int) (some 1) (some 16)).length<=63:=by
  unfold fV;rw[List.length_take,List.length_drop,List.length_map];omega
 simp!;generalize (fV (ns.map PyData.int) (some 1) (some 16)).length=c at cl ⊢;simp![show(4:Int)+(c:Int)=((4+c:Nat):Int) by omega,Int.toNat_natCast];refine Al (λi ρ=>∃ (as:Qa Tr) (x y:Int) (o7 o8 o9 o10 B5 B4:Qb U),ρ=[some (.d (.list (ns.map .int))),some (bx x y),some (.d (.tuple (N.ls.map .str))),some (.d N.d),some (aL N.hs),some (.l ((nx N).map pD)),some (.l (as.map (G0 N))),o7,o8,o9,o10,B5,B4]/\as.length=i/\∀ x∈as,x.1 < N.ns.length/\x.2 < N.ns.length) ⟨[],_,_,_,_,_,_,_,_,rfl,rfl,λx hx=>by cases hx⟩ ?_ ?_
 .rintro i _ hi ⟨as,x4,y4,o7,o8,o9,o10,B5,B4,rfl,la,ha⟩
  simp![Int.zero_add];refine Jh (by omega) λx5 y5=>?_;simp![i1,List.length_map];refine r8 (by omega) (by omega) λu x6 y6 hu=>?_;simp!;refine WW h hu λms m0 ml mr=>?_;simp!;refine fe (by decide) (by decide) λr2 x7 y7 q0 q1=>?_;simp!;refine Wo.mono (Q:=λfl=>∃ qs:Qa Int,fl=.nx [some (.d (.list (ns.map .int))),some (bx x7 y7),some (.d (.tuple (N.ls.map .str))),some (.d N.d),some (aL N.hs),some (.l ((nx N).map pD)),some (.l (as.map (G0 N))),some (.d (.int (0+(i:Int)))),some (.d (.int (u:Int))),some (.l (qs.map .int)),o10,B5,B4]/\qs≠[]/\qs.length < 64/\∀ m∈qs,0<=m/\m < (N.ns.length:Int)) ?_ ?_
  .split
   .simp![i1,List.length_map,Int.toNat_natCast,WV]
    refine J9 (b:=λt:Nat=>decide (N.hs.getD t 0<=N.hs.getD u 0)) (e:=iN) (by rw[List.length_range,rQ]; omega) (λt ht ys=>?_) ?_
    .have ht:=Ê.mp ht
     have a1:=jS (hs:=N.hs) (i:=t) (by omega);have a2:=jS (hs:=N.hs) (i:=u) (by omega)
     by_cases c2:N.hs.getD t 0<=N.hs.getD u 0
     .simp![a1,a2,c2]
     .simp![a1,a2,c2]
    .simp!
     refine⟨((List.range N.ns.length).filter λt:Nat=>decide (N.hs.getD t 0<=N.hs.getD u 0)).map λt:Nat=>(t:Int),?_,λz=>?_,?_,λm hm=>?_⟩
     .rw[List.map_map]
      rfl
     .have:=List.map_eq_nil_iff.mp z
      have m:u∈(List.range N.ns.length).filter λt:Nat=>decide (N.hs.getD t 0<=N.hs.getD u 0):=Ú.mpr ⟨Ê.mpr hu,decide_eq_true (à _)⟩;rw[this]at m;cases m
     .rw[List.length_map]
      have:=Ā (λt:Nat=>decide (N.hs.getD t 0<=N.hs.getD u 0)) (List.range N.ns.length);rw[List.length_range]at this;omega
     .obtain⟨t,ht,rfl⟩:=Ã.mp hm
      have:=Ê.mp (Ú.mp ht).1;omega
   .simp!
    exact⟨ms,rfl,m0,ml,mr⟩
  .rintro _ ⟨qs,rfl,m0,ml,mr⟩
   have lq:=List.length_pos_iff.mpr m0;simp![List.length_map];refine r8 lq (by omega) λr3 x8 y8 hr3=>?_;simp!;refine Ax (f:=PyData.int) (xs:=qs) (by omega) (by omega) λv' HI _=>?_;obtain⟨v0,v1⟩:=mr v' HI;obtain⟨v,rfl⟩:=ø v0;have hv:v < N.ns.length:=by omega
   obtain⟨q,f,qz⟩:=(h.so hv).ok u (by omega);obtain⟨_,kd⟩:=h.gn.hi fX.1 u (by omega);obtain⟨hv1,_⟩:=h.gn.hi fX.1 v (by omega);have d6:=(fX (n:=N.ls.length)).2;have P8:=kQ h.n1 h.n3 q (by omega);simp![Ft h hu hv];refine zlc h hv ?_;have ls:=(h.so hv).ln;have au:=jq (qs:=B0 N v) (g:=pD) (i:=u) (by omega);have ip:=zn7 (u:=.d (pD (sh N u v))) rfl q.nd (Ä P8 (by decide)) (λt ht=>(q.ky t ht).1.ln) h.n3;have su:=Ft h hu hu;rw[Vd hu]at su;have pn:=Om (n:=N.ls.length) (f:=1) h.n3;rw[show vS N.ls.length 1=(ig N.ls.length).1 from if_neg (by decide)]at pn;have to:=KO (u:=.t (aW fR (ig N.ls.length).1)) jx (EV (n:=N.ls.length) (k:=0) (j:=0)).1.nd (by show 1 < 64; decide);have eq:=KN (a:=.d (.tuple (cV fR (ee (ig N.ls.length).1)))) (b:=Aa (ee (ig N.ls.length).1)) rfl rfl (F9 _);simp![au,ip,su,pn,Au,to,eq,List.length_map];have al:=LU (sh N u v).1;refine pK (g:=λt:Qa Int×Rat=>bg t.1) (e:=λ_=>.bool true) (qB P8 (by decide)) (λt ht ys=>?_) ?_
   .have sm:=(q.ky t ht).2
    have ge:N.hs.getD v 0<=N.hs.getD u 0:=Int.not_lt.mp λz=>by
     have e:=qz z;rw[show(sh N u v).1=[] from e]at ht;cases ht
    rw[Int.toNat_of_nonneg (by omega)]at sm;simp![zAl,sm,jS (hs:=N.hs) (i:=u) (by omega),jS (hs:=N.hs) (i:=v) (by omega)]
   simp![al,List.length_map];refine⟨as++[(u,v)],_,_,_,_,_,_,_,_,by rw[List.map_append]; rfl,by rw[qv,la]; rfl,λx hx=>?_⟩;rcases Í.mp hx with z|z
   .exact ha x z
   .rw[qr.mp z]
    exact⟨hu,hv⟩
 .rintro _ ⟨as,x4,y4,o7,o8,o9,o10,B5,B4,rfl,la,ha⟩
  simp!;refine pK (g:=G0 N) (e:=λ_=>.bool true) (by omega) (λx hx ys=>?_) ?_
  .obtain⟨a1,a2⟩:=ha x hx
   have eq:=Vf (a:=.d (Iu N x)) (b:=.d (Iu N x)) rfl rfl (F9 _);simp![Ft h a1 a2,eq]
  .have al:=LU as
   simp![al]
theorem zAm(ns:Qa Int)(hl:ns.length<=63):∃ outs,uD [.d (.list (ns.map .int))]=some (.d (.bool true),outs):=⟨_,dX (zB5 ns hl)⟩
abbrev JM(K:qe):Sp:=qH K 1 uD
theorem all_mk{fa:Qg}(X:K.In h)(G:h.Ns mainGlobals mg)(hfa:mg "law"=some (.ref fa)){ji:Tok}{bW lV bh gA:Qg}{jE sZ oz oV:Qb Qg}{cG gx:Array Qc}{gT qL:Nat}{jB sU oh:Array (Qb Qc)}{oA oG oR om je oS:Qc}
  (a0:bU K "common_factor" OU)
  (a1:bU K "fraction" Ni)
  (a2:bU K "powers_plus" Od)
  (a3:bU K "settled" M1)
  (a4:bU K "form_sum" Nh)
  (a5:bU K "number_by_powers" O4)
  (a6:bU K "letter_by_powers" O3)
  (a7:bU K "times_by_powers" OM)
  (a8:bU K "fractions_of" zev)
  (a9:bU K "mix_form" Ng)
  (RA:bU K "node_forms" NU)
  (Rz:bU K "share" K2)
  (Ry:bU K "_law_box" NG)
  (Rx:bU K "_law_take" NT)
  (Rw:bU K "_law_names" Oc)
  (Rv:bU K "_law_fraction" OQ)
  (Ru:bU K "_law_plus" NS)
  (Rt:bU K "_law_times" Ob)
  (Rr:bU K "_law_poly_add" OP)
  (Rq:bU K "_law_poly_mult" OL)
  (Ro:bU K "_law_poly_number" OZ)
  (Rn:bU K "_law_poly_letter" OY)
  (Rm:bU K "_law_poly_told" OK)
  (Rl:bU K "_law_number" Oi)
  (Rk:bU K "_law_factor" Oh)
  (Rj:bU K "_law_mix" NF)
  (Rh:bU K "_law_nodes" Oa)
  (Rg:bU K "_law_high" NR)
  (Rf:bU K "_law_top" ND)
  (Rc:bU K "_law_net" NC)
  (Rb:bU K "_law_scaled" Og)
  (Ra:bU K "_law_net_polys" OJ)
  (Q9:bU K "_law_shares" Of)
  (Q8:bU K "_law_whole" N9)
  (Q7:bU K "_law_is_poly" OT)
  (Q6:bU K "_law_within" OC)
  (Q5:bU K "law" Jj)
  (z0:PySem.W.nsIn K mainGlobals "abs"=some none)
  (z1:PySem.W.nsIn K mainGlobals "tuple"=some none)
  (z2:PySem.W.nsIn K mainGlobals "zip"=some none)
  (z3:PySem.W.nsIn K mainGlobals "max"=some none)
  (z4:PySem.W.nsIn K mainGlobals "sorted"=some none)
  (z5:PySem.W.nsIn K mainGlobals "len"=some none)
  (z6:PySem.W.nsIn K mainGlobals "int"=some none)
  (z7:PySem.W.nsIn K mainGlobals "range"=some none)
  (z8:PySem.W.nsIn K mainGlobals "dict"=some none)
  (z9:PySem.W.nsIn K mainGlobals "list"=some none)
  (GV:PySem.W.nsIn K mainGlobals "enumerate"=some none)
  (GU:PySem.W.nsIn K mainGlobals "isinstance"=some none)
  (GS:PySem.W.nsIn K mainGlobals "bool"=some none)
  (GR:PySem.W.nsIn K mainGlobals "all"=some none)
  (GQ:PySem.W.nsIn K mainGlobals "set"=some none)
  (GP:PySem.W.nsIn K mainGlobals "sum"=some none)
  (GX:CT K O7 PD=true)
  (iO:PySem.W.nsIn K mainGlobals "ROOM"=some (some (.int 256 ji)))
  (fC:PySem.W.nsIn K mainGlobals "NOUGHT"=some (some (.ref bW)))
  (fu:K.lookup bW=some ⟨.type "tuple",jE,.seq cG gT,jB⟩)
  (fj:zV [.int (0),.int (1)] cG.toList)
  (ff:cG.size<=sizeLine)
  (lR:PySem.W.nsIn K mainGlobals "ONE"=some (some (.ref lV)))
  (lE:K.lookup lV=some ⟨.type "tuple",sZ,.seq gx qL,sU⟩)
  (kX:zV [.int (1),.int (1)] gx.toList)
  (kW:gx.size<=sizeLine)
  (gB:PySem.W.nsIn K mainGlobals "Form"=some (some (.ref bh)))
  (iE:PySem.W.keepIn K (.ref bh)=true)
  (iA:PySem.W.makesIn K bh=true)
  (eP:PySem.W.plainGet K bh Str.empty=true)
  (eR:PySem.W.hasDictIn K bh=true)
  (eO:PySem.W.plainOver K bh=true)
  (eN:PySem.W.findIn K (.ref bh) "__setattr__"=some (some (.builtin "object.__setattr__")))
  (aU:PySem.W.findIn K (.ref bh) "numbers"=some none)
  (aV:PySem.W.findIn K (.ref bh) "beneath"=some none)
  (bC:PySem.W.findIn K (.ref bh) "room"=some none)
  (iF:PySem.W.findIn K (.ref bh) "__init__"=some (some (.ref gA)))
  (iD:K.lookup gA=some ⟨oA,oz,.func (PySem.W.fnOf "__init__" "Form.__init__" (sJ wD) (kU wD) (fM wD) .none oG oR om oV je oS),oh⟩)
  (iM:PySem.W.codeIn K je "Form.__init__"=true)
  (gu:PySem.W.keepIn K (.ref gA)=true)
  (gz:PySem.W.isFn K (.ref gA)=true)
  : ∃ fd:FuncData,(∀ (s:Qd) (v:Qc),BindsTo s fd ⟨[v],[]⟩ [("_law_script",v)])/\∀ base:Heap,K.In base->base.Ns mainGlobals mg->cD l.prog w K mg base iT 8 fa fd ["_law_script"] (qH K 1 uD):=by
 obtain⟨_,fd,F,g⟩:=Q5;cases hfa.symm.trans (ĉ X G g);refine⟨fd,λs v=>by obtain⟨_,_,_,_,_,_,_,_,_,rfl,_⟩:=F.ex; exact .of_eq rfl,λbase _ _=>?_⟩;have hB:Bl mg ["abs", "tuple", "zip", "max", "sorted", "len", "int", "range", "dict", "list", "enumerate", "isinstance", "bool", "all", "set", "sum"]:=Bl.cons (Ç X G z0) (Bl.cons (Ç X G z1) (Bl.cons (Ç X G z2) (Bl.cons (Ç X G z3) (Bl.cons (Ç X G z4) (Bl.cons (Ç X G z5) (Bl.cons (Ç X G z6) (Bl.cons (Ç X G z7) (Bl.cons (Ç X G z8) (Bl.cons (Ç X G z9) (Bl.cons (Ç X G GV) (Bl.cons (Ç X G GU) (Bl.cons (Ç X G GS) (Bl.cons (Ç X G GR) (Bl.cons (Ç X G GQ) (Bl.cons (Ç X G GP) (Bl.nil))))))))))))))));have hT:=zBD GX;have cR:=ĉ X G iO;have cC:=ĉ X G fC;have bR:yw K bW [0,1]:=⟨_,cG,gT,fu,rfl,rfl,ff,fj⟩;have lL:=ĉ X G lR;have iJ:yw K lV [1,1]:=⟨_,gx,qL,lE,rfl,rfl,kW,kX⟩;have tU:=ĉ X G gB;have lW:=Kg (st:=wD) iD iM gu;have aj:t4 l.prog w K mg base "Form" bh ["numbers", "beneath", "room"]:=⟨gB,⟨eP,eR,eO,eN⟩,na3 aU aV bC,tU,_,_,["self", "numbers", "beneath", "room"],⟨iA,iF,gz,iE⟩,lW.binds (λ_ _ _ _ _ _ us hl=>by obtain⟨_,_,_,_,rfl⟩:=O8 hl; rfl),lW.ok (k:=0) XD (λvs H Q E h=>U5 h) λbE A outer s H vs Q E hr mU=>⟨_,FH (EL (pv 0) (pv 1) rfl) (FH (EL (pv 0) (pv 2) rfl) (LG (EL (pv 0) (pv 3) rfl))),Xc ⟨eP,eR,eO,eN⟩ aU aV bC (by decide) (by decide) (by decide) mU⟩⟩
 let Z:Zs:=⟨l.prog,w,K,mg,base⟩
 have B:Bs Z:=⟨hB,hT,⟨_,cR⟩,⟨_,cC,bR⟩,⟨_,lL,iJ⟩,⟨_,aj⟩⟩;have C0:=zhE B (a0.z X G);have C1:=znY B (a1.z X G) C0;have C2:=zjo B (a2.z X G);have C3:=Zn B (a3.z X G) C0;have C4:=znZ B (a4.z X G) C0 C3;have C5:=zfS B (a5.z X G) C3;have C6:=zfR B (a6.z X G);have C7:=zgy B (a7.z X G) C2 C3;have C8:=ziZ B (a8.z X G) C1;have C9:=zn0 B (a9.z X G) C4 C5;have C10:=zk6 B (RA.z X G) C6 C7 C9;have C11:=UT B (Rz.z X G) C5 C7 C8 C9 C10;have C12:=zmy B (Ry.z X G);have t6:=zk3 B (Rx.z X G);have C14:=zjq B (Rw.z X G) t6;have IZ:=zg3 B (Rv.z X G);have RS:=zk5 B (Ru.z X G) IZ;have RQ:=zjr B (Rt.z X G) IZ;have RP:=zg4 B (Rr.z X G) RS;have RO:=zgx B (Rq.z X G) RS RQ;have RN:=ze6 B (Ro.z X G);have C21:=ze7 B (Rn.z X G);have RM:=zgv B (Rm.z X G);have RL:=ziY B (Rl.z X G) t6 IZ;have C24:=zi0 B (Rk.z X G) RL;have C25:=zmA B (Rj.z X G) t6 C24;have IY:=zk4 B (Rg.z X G);have C26:=zjs B (Rh.z X G) t6 C25 IY;have C28:=zmz B (Rf.z X G) t6 RL IY;have C29:=zmB B (Rc.z X G) t6 C26 C28;have RK:=zi1 B (Rb.z X G) RQ;have C31:=zgz B (Ra.z X G) RP RO C21 RK;have C32:=zi4 B (Q9.z X G) RP RO RN RK;have C33:=zjp B (Q8.z X G);have C34:=zhF B (Q7.z X G) RM C33;have C35:=ziV B (Q6.z X G);exact SR (Z:=Z) B F C11 C12 t6 C14 RN RM IY C29 C31 C32 C34 C35
theorem walk{q:Qe}{loose:Qa Str}{XP:(Str->Qb Qc)->Heap->Prop}{YP:Qh->Heap->Prop}{d:DefRec}{K:Params->qe}(hn:l.most=some 63)(x9:d.params.defaults=[])
  (hY:∀ (w:Qh) (h:Heap),YP w h->(K w.params).In h)
  (F:∀ (w:Qh) (mg:Str->Qb Qc) (fa:Qg) (h:Heap),(K w.params).In h->h.Ns mainGlobals mg->mg d.name=some (.ref fa)->
   ∃ fd:FuncData,(∀ (s:Qd) (u:Qc),BindsTo s fd ⟨[u],[]⟩ [("_law_script",u)])/\∀ base:Heap,(K w.params).In base->base.Ns mainGlobals mg->cD l.prog w (K w.params) mg base iT 8 fa fd ["_law_script"] (JM (K w.params))):
  PySem.W.WalkO q loose XP YP l.row.toRowW d [] (λf vs=>PySem.call f vs):=
 L2.n5 (n:=63) (k:=8) (x := "_law_script") (CX:=λ_=>iT) (sp:=λw=>JM (K w.params)) hn (by decide) x9 ⟨rfl,by decide,by decide,rfl⟩ hY F (λw H a ns hl hO hS=>Sg hO hS (zAm ns hl)) λ_ _ _ _ _ z=>z
end K34
namespace PySem.W.Fast
def tw2008549328876774016:=()
def tw5166138082802259403:=()
def tw14595932295196537909:=()
def tw6451784194377868410:=()
def tw4778840117629284353:=()
def tw11941794361688091991:=()
def tw10022352232227252227:=()
def tw1716816333720284064:=()
def tw6280100226307339336:=()
def tw17265668784215479276:=()
def tw13306407410421234434:=()
def tw15578401215878831616:=()
def tw1807335843610419986:=()
def tw18017809294640162302:=()
def tw15909996365555122003:=()
def tw12546339347093375228:=()
def tw12206167387059518369:=()
def tw14842649194747057933:=()
def tw16843358260138442692:=()
def tw1519488846601418449:=()
def tw2146863998836023986:=()
def tw5164318728705243559:=()
def tw12214456525346371420:=()
def tw7625639835216176764:=()
def tw2645861402917222703:=()
def tw5579915734454780873:=()
def tw15156359016953409995:=()
def tw10971969844421789326:=()
def tw10459026700094082741:=()
def tw12393785519824909668:=()
def tw11845179574691558660:=()
def tw891634137429656033:=()
def tw13980199798849047626:=()
def tw10907421546147745132:=()
def tw3062313618361532113:=()
def tw3067764727250253278:=()
def tw7942826716124160352:=()
def tw4844905441381794690:=()
def tw1713019111684518112:=()
def tw15067359300475353517:=()
def tw6710259567558410401:=()
def tw15875724938705287186:=()
def tw7420545156783822194:=()
def tw17269610048084172112:=()
def tw16762892085647320148:=()
def tw10999290760782122417:=()
def tw7871744861128480635:=()
def tw12365528905890947554:=()
def tw2012607615524710286:=()
def tw10508363149433150120:=()
def tw7936336094487857197:=()
def tw15777112145669735170:=()
def tw869197048691991184:=()
def tw10905475826648137295:=()
def tw6914893290952691635:=()
def tw11613490847991057079:=()
def tw1664921713394933929:=()
def tw3282752380169007533:=()
def tw13500638651034306560:=()
def tw2056495506493234869:=()
def tw13783709706017101598:=()
def tw7029628021176236144:=()
def tw932661905540928289:=()
def tw631575789390557688:=()
def tw11776039433264792219:=()
def tw6539077523281269769:=()
def tw15172397620863330209:=()
def tw7011146531596908569:=()
def tw3559379286938599491:=()
def tw5990450997221546267:=()
def tw4688938079802388634:=()
def tw7230424917225529990:=()
def tw9570819323619088595:=()
def tw11816905914116056193:=()
def tw16778691140467478261:=()
def tw2876500268750919810:=()
def tw18261212622621177548:=()
def tw13042142142473965473:=()
def tw855673174992054242:=()
def tw7359477345754725728:=()
def tw12515240435423345169:=()
def tw8038463790680187131:=()
def tw8251509819345646638:=()
def tw2690030121732009218:=()
def tw16444030036598660445:=()
def tw11563234805444046643:=()
def tw3641737641662007292:=()
def tw10808014452713584003:=()
def tw16948962640006412935:=()
def tw15206505117067691190:=()
def tw36102143183098168:=()
def tw11890465145968226377:=()
def tw13583559966880114618:=()
def tw3738684894834461322:=()
def tw8024922055430946776:=()
def tw11147099508383679142:=()
def tw3619013828296884996:=()
def tw17044039035027280121:=()
def tw16938268184579377985:=()
def tw14693709969032188033:=()
def tw11198189910945046306:=()
def tw3551867768999292293:=()
def tw8323355558946610412:=()
def tw10146426040967982349:=()
def tw4575864867493655901:=()
def tw16155943157316969593:=()
def tw1638975052366369145:=()
def tw11741009851624355345:=()
def tw2604876704217652927:=()
def tw7902821477152182311:=()
def tw627344372172838610:=()
def tw13011831944694624342:=()
def tw13930809964523089660:=()
def tw1402073238329684591:=()
def tw14222109419924306052:=()
def tw402726110655098465:=()
def tw4725556338078894772:=()
def tw10282305483779750640:=()
def tw16234803909075540044:=()
def tw14614398747576547506:=()
def tw12262856526685599745:=()
def tw14890774332721797865:=()
def tw10388265711185920863:=()
def tw9607204373109816880:=()
def tw8185236581295486595:=()
def tw3588503828149687553:=()
def tw6546758353189376726:=()
def tw2395740880140837343:=()
def tw15031255211076637391:=()
def tw17384764830550441642:=()
def tw16750623242456790660:=()
def tw5605197606421228870:=()
def tw1233894282831337255:=()
def tw10758589655042459120:=()
def tw4096054993392738817:=()
def tw9464105180865080386:=()
def tw14606793370386101432:=()
def tw15735113058391446202:=()
def tw5252436008515735514:=()
def tw7657992576884543572:=()
def tw18165077663468063093:=()
def tw31936689389584183:=()
def tw11941253073369467176:=()
def tw10998594079066443022:=()
def tw1873472063734848519:=()
def tw9877346685551741889:=()
def tw1818505801509486720:=()
def tw7188826551603796359:=()
def tw16938043223402328355:=()
def tw16776356344855963241:=()
def tw4960453464250900567:=()
def tw14806484276139310363:=()
def tw5251348364122272005:=()
def tw13049934358710867134:=()
def tw12011382302359284538:=()
def tw17324030886395555060:=()
def tw4313155011359489876:=()
def tw16287729417642203522:=()
def tw9030602228072913271:=()
def tw14654233529700296292:=()
def tw17351493344242174976:=()
def tw15257059933686780487:=()
def tw10504228208535305413:=()
def tw15343634436145834860:=()
def tw17973193149087172404:=()
def tw1722424371598848102:=()
def tw14584158436627378942:=()
def tw12030630429599103763:=()
def tw1399123274421229535:=()
def tw13508010409433695693:=()
end PySem.W.Fast
open PySem PySem.W PyProof.Rows
set_option maxRecDepth 100000 in
set_option maxHeartbeats 0 in
theorem PySem.Challenge.cw_undivide_k34_shares_holds : PySem.Challenge.rw_undivide_k34_shares.Holds := by
 w_on; o_law; k_head; (case hw=>w_witness2)
 k_fill
 refine K34.walk (l:=PySem.Challenge.rw_undivide_k34_shares) rfl rfl (λw h Y=>PySem.W.kIn_of Y) ?F
 case F=>
  intro w mg fa h KX G xR;refine' K34.all_mk KX G xR ?a0 ?a1 ?a2 ?a3 ?a4 ?a5 ?a6 ?a7 ?a8 ?a9 ?RA ?Rz ?Ry ?Rx ?Rw ?Rv ?Ru ?Rt ?Rr ?Rq ?Ro ?Rn ?Rm ?Rl ?Rk ?Rj ?Rh ?Rg ?Rf ?Rc ?Rb ?Ra ?Q9 ?Q8 ?Q7 ?Q6 ?Q5 ?z0 ?z1 ?z2 ?z3 ?z4 ?z5 ?z6 ?z7 ?z8 ?z9 ?GV ?GU ?GS ?GR ?GQ ?GP ?GX ?iO ?fC ?fu ?fj ?ff ?lR ?lE ?kX ?kW ?gB ?iE ?iA ?eP ?eR ?eO ?eN ?aU ?aV ?bC ?iF ?iD ?iM ?gu ?gz
  any_goals (refine' L2.fnK ?_ ?_ ?_ ?_<;>try k_is)
  (case z0=>k_is)
  (case z1=>k_is)
  (case z2=>k_is)
  (case z3=>k_is)
  (case z4=>k_is)
  (case z5=>k_is)
  (case z6=>k_is)
  (case z7=>k_is)
  (case z8=>k_is)
  (case z9=>k_is)
  (case GV=>k_is)
  (case GU=>k_is)
  (case GS=>k_is)
  (case GR=>k_is)
  (case GQ=>k_is)
  (case GP=>k_is)
  (case GX=>kernel_rfl)
  (case iO=>k_is)
  (case fC=>k_is)
  (case fu=>k_is)
  (case fj=>(repeat (first|exact .nil|refine .cons ⟨_,rfl⟩ ?_)))
  (case ff=>exact by decide)
  (case lR=>k_is)
  (case lE=>k_is)
  (case kX=>(repeat (first|exact .nil|refine .cons ⟨_,rfl⟩ ?_)))
  (case kW=>exact by decide)
  (case gB=>k_is)
  (case iE=>k_is)
  (case iA=>k_is)
  (case eP=>k_is)
  (case eR=>k_is)
  (case eO=>k_is)
  (case eN=>k_is)
  (case aU=>k_is)
  (case aV=>k_is)
  (case bC=>k_is)
  (case iF=>k_is)
  (case iD=>k_is)
  (case iM=>k_is)
  (case gu=>k_is)
  (case gz=>k_is)
